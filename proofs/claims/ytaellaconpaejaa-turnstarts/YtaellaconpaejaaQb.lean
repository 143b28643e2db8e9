/- Walks: the reader of images: its smaller methods. -/
import Derived.Test.YtaellaconpaejaaQa
set_option linter.unusedVariables false
namespace Go.Proofs.Ytaellaconpaejaa
open Go.RowKit

def isUnit (_ : Unit) (v : Value) (_ : World) : Prop := v = .tuple #[]
def isSlot (x : Int × Int) (v : Value) (_ : World) : Prop := v = .agg #[.int .i64 x.1, .int .i64 x.2]
def isChan (x : Int × Int × Int) (v : Value) (_ : World) : Prop := v = .agg #[.int .i64 x.1, .int .i64 x.2.1, .int .i64 x.2.2]
def isTask (x : Int × Int × Int × Int) (v : Value) (_ : World) : Prop := v = .agg #[.int .i64 x.1, .int .i64 x.2.1, .int .i64 x.2.2.1, .int .i64 x.2.2.2]

set_option maxRecDepth 100000 in
set_option maxHeartbeats 1000000 in
theorem begin_any (rb : Nat) (s : ByteArray) (w : World) (hR : Rd w rb s 0) (hs : s.size ≤ 200) :
    Calls Try.prog 154 #[.pointer (some ⟨rb, 0, none⟩)] w (RdPost w rb s (pBegin (nums s) 0) isUnit) := by
  go_enter Try.func154, Try.ntmps154
  go_wp2_with fail
  refine (one_any rb s 0 w hR (Nat.zero_le _) hs).mono ?_
  rintro e w1 ⟨hg, ⟨x, k1, v, hp, hk1, rfl, ⟨rfl, hx0, hx1⟩, hR1⟩ | ⟨n, hp, rfl⟩⟩
  · have HG := hid hg
    have hk2 : k1 = 1 := by
      unfold p1 at hp
      split at hp
      · simp at hp; omega
      · simp at hp
    subst hk2
    have HP := hid hp
    have hc1 : w1.cell? ⟨rb, 1, none⟩ = some (.int .i64 1) := RowAt.cell hR1 1 _ rfl
    clear hg hp
    by_cases hx : x = 67
    · subst hx
      go_wp2
      go_end0
      exact ⟨HG.out, .inl ⟨(), 1, _, by rw [pBegin, bnd_ok HP.out]; rfl, hk1, rfl, rfl, hR1⟩⟩
    · have HX := hid hx
      have hxb : (x != 67) = true := by simp [hx]
      clear hx
      go_wp2
      exact ⟨rfl, HG.out, .inr ⟨0, by rw [pBegin, bnd_ok HP.out, if_neg HX.out], rfl⟩⟩
  · exact ⟨rfl, hg, .inr ⟨n, by rw [pBegin, bnd_err hp], rfl⟩⟩

theorem p1_next {B : List Int} {k k1 : Nat} {x : Int} (h : p1 B k = .ok (x, k1)) : k1 = k + 1 := by
  unfold p1 at h
  split at h
  · simp at h; omega
  · simp at h

set_option maxRecDepth 100000 in
set_option maxHeartbeats 1000000 in
theorem count_any (m : Int) (rb : Nat) (s : ByteArray) (k : Nat) (w : World) (hR : Rd w rb s k) (hk : k ≤ s.size) (hs : s.size ≤ 200) :
    Calls Try.prog 169 #[.pointer (some ⟨rb, 0, none⟩), .int .i64 m] w (RdPost w rb s (pCount m (nums s) k) fun x v _ => v = .int .i64 x ∧ 0 ≤ x ∧ x ≤ m) := by
  go_enter Try.func169, Try.ntmps169
  go_wp2_with fail
  refine (one_any rb s k w hR hk hs).mono ?_
  rintro e w1 ⟨hg, ⟨x, k1, v, hp, hk1, rfl, ⟨rfl, hx0, hx1⟩, hR1⟩ | ⟨n, hp, rfl⟩⟩
  · have HG := hid hg
    have hk2 := p1_next hp
    subst hk2
    have HP := hid hp
    have hc1 : w1.cell? ⟨rb, 1, none⟩ = some (.int .i64 ((k : Int) + 1)) := RowAt.cell hR1 1 _ rfl
    clear hg hp
    by_cases hx : x > m
    · go_wp2
      exact ⟨rfl, HG.out, .inr ⟨k, by rw [pCount, bnd_ok HP.out, if_neg (by omega)], rfl⟩⟩
    · go_wp2
      refine bodyPost_ret (results_tmp rfl _ _ _) rfl ⟨HG.out, .inl ⟨x, k + 1, _, by rw [pCount, bnd_ok HP.out, if_pos (by omega)], hk1, rfl, ⟨rfl, hx0, by omega⟩, hR1⟩⟩
  · exact ⟨rfl, hg, .inr ⟨n, by rw [pCount, bnd_err hp], rfl⟩⟩

set_option maxRecDepth 100000 in
set_option maxHeartbeats 1000000 in
theorem end_any (rb : Nat) (s : ByteArray) (k : Nat) (w : World) (hR : Rd w rb s k) (hk : k ≤ s.size) (hs : s.size ≤ 200) :
    Calls Try.prog 163 #[.pointer (some ⟨rb, 0, none⟩)] w (RdPost w rb s (pEnd (nums s) k) isUnit) := by
  have HR := hid hR
  have hc0 : w.cell? ⟨rb, 0, none⟩ = some (.string s) := RowAt.cell hR 0 _ rfl
  have hc1 : w.cell? ⟨rb, 1, none⟩ = some (.int .i64 k) := RowAt.cell hR 1 _ rfl
  have hlt := RowAt.lt hR
  clear hR
  by_cases hke : k < s.size
  · go_enter Try.func163, Try.ntmps163
    go_wp2_with fail
    go_quiet (fail)
    go_wp2
    exact ⟨rfl, grow_drewN _ _ _, .inr ⟨_, by rw [pEnd, nums_len, if_pos hke], rfl⟩⟩
  · go_enter Try.func163, Try.ntmps163
    go_wp2_with fail
    go_quiet (fail)
    go_wp2
    go_end0
    exact ⟨grow_drewN _ _ _, .inl ⟨(), k, _, by rw [pEnd, nums_len, if_neg hke], hk, rfl, rfl, RowAt.drewN HR.out _⟩⟩

theorem Rd.grownN {w w' : World} {rb : Nat} {s : ByteArray} {k : Nat} (h : Rd w rb s k) (hb : Below w.heap.size w w') : Rd w' rb s k := RowAt.below h hb (Nat.le_refl _)
theorem grow_new {w w' : World} (row : Option Nat) (h : Below w.heap.size w w') : w.grownBy w' row := ⟨h.os, h.tape, h.output, h.size, fun k hk _ => h.block k hk⟩

/-- A store into a block that is new. -/
theorem grow_set {w w' : World} {row : Option Nat} (h : w.grownBy w' row) (b i : Nat) (v : Value) (hb : w.heap.size ≤ b) : w.grownBy (w'.setCell ⟨b, i, none⟩ v) row :=
  ⟨h.os, h.tape, h.output, by simpa [World.setCell] using h.size, fun k h1 h2 => by rw [Below.heap_setCell _ _ _ _ (by show k ≠ b; omega)]; exact h.block k h1 h2⟩
theorem Rd.set {w : World} {rb : Nat} {s : ByteArray} {k : Nat} (h : Rd w rb s k) (b i : Nat) (v : Value) (hb : rb ≠ b) : Rd (w.setCell ⟨b, i, none⟩ v) rb s k := RowAt.setOther h _ _ hb

set_option maxRecDepth 100000 in
set_option maxHeartbeats 1000000 in
theorem slot_any (rb : Nat) (s : ByteArray) (k : Nat) (w : World) (hR : Rd w rb s k) (hk : k ≤ s.size) (hs : s.size ≤ 200) :
    Calls Try.prog 157 #[.pointer (some ⟨rb, 0, none⟩)] w (RdPost w rb s (pSlot (nums s) k) isSlot) := by
  have q1 := below_new w (.cells #[.int .i64 0, .int .i64 0] 114)
  have HG0 := hid (grow_new (some rb) q1)
  have HR0 := hid (hR.grownN q1)
  have hlt : rb < w.heap.size := RowAt.lt hR
  have HB0 : Hid (RowAt (w.alloc (.cells #[.int .i64 0, .int .i64 0] 114)) w.heap.size 114 [.int .i64 0, .int .i64 0]) := rowAt_new2 _ _ _ _ rfl
  clear q1 hR
  go_enter Try.func157, Try.ntmps157
  go_wp2_with fail
  refine (one_any rb s k _ HR0.out hk hs).mono ?_
  rintro e w1 ⟨hg, ⟨x, k1, v, hp, hk1, rfl, ⟨rfl, hx0, hx1⟩, hR1⟩ | ⟨n, hp, rfl⟩⟩
  · have HP1 := hid hp
    have HG1 := hid (grow_trans HG0.out hg)
    have HB1 := hid (HB0.out.grown' hg (by simp; omega))
    have HR1 := hid hR1
    clear hg hp HG0 HB0 HR0 hR1
    go_wp2_with fail
    refine (two_any rb s k1 w1 HR1.out hk1 hs).mono ?_
    rintro e w2 ⟨hg, ⟨y, k2, v, hp, hk2, rfl, ⟨rfl, hy0, hy1⟩, hR2⟩ | ⟨n, hp, rfl⟩⟩
    · have HP2 := hid hp
      have HG2 := hid (grow_trans HG1.out hg)
      have HB2 := hid (HB1.out.grown' hg (by simp; omega))
      have HR2 := hid hR2
      clear hg hp HG1 HB1 HR1 hR2
      have c0 := HB2.out.cell 0 _ rfl
      have f0 := HB2.out.frozen 0
      have c1 := HB2.out.cell 1 _ rfl
      have f1 := HB2.out.frozen 1
      have HB3 := hid ((HB2.out.setCell 0 (.int .i64 x)).setCell 1 (.int .i64 y))
      go_wp2
      have d0 := HB3.out.cell 0 _ rfl
      have d1 := HB3.out.cell 1 _ rfl
      refine bodyPost_ret (v := .agg #[.int .i64 x, .int .i64 y]) (by simp [results, Try.results157, go_sem, d0, d1]) rfl ⟨(grow_set (grow_set HG2.out _ _ _ (Nat.le_refl _)) _ _ _ (Nat.le_refl _)), .inl ⟨(x, y), k2, _, by rw [pSlot, bnd_ok HP1.out, bnd_ok HP2.out], hk2, rfl, rfl, ((HR2.out.set _ _ _ (by omega)).set _ _ _ (by omega))⟩⟩
    · exact ⟨rfl, grow_trans HG1.out hg, .inr ⟨n, by rw [pSlot, bnd_ok HP1.out, bnd_err hp], rfl⟩⟩
  · exact ⟨rfl, grow_trans HG0.out hg, .inr ⟨n, by rw [pSlot, bnd_err hp], rfl⟩⟩

set_option maxRecDepth 100000 in
set_option maxHeartbeats 1000000 in
theorem channel_any (rb : Nat) (s : ByteArray) (k : Nat) (w : World) (hR : Rd w rb s k) (hk : k ≤ s.size) (hs : s.size ≤ 200) :
    Calls Try.prog 160 #[.pointer (some ⟨rb, 0, none⟩)] w (RdPost w rb s (pChan (nums s) k) isChan) := by
  have q1 := below_new w (.cells #[.int .i64 0, .int .i64 0, .int .i64 0] 125)
  have HG0 := hid (grow_new (some rb) q1)
  have HR0 := hid (hR.grownN q1)
  have hlt : rb < w.heap.size := RowAt.lt hR
  have HB0 : Hid (RowAt (w.alloc (.cells #[.int .i64 0, .int .i64 0, .int .i64 0] 125)) w.heap.size 125 [.int .i64 0, .int .i64 0, .int .i64 0]) := rowAt_new2 _ _ _ _ rfl
  clear q1 hR
  go_enter Try.func160, Try.ntmps160
  go_wp2_with fail
  refine (one_any rb s k _ HR0.out hk hs).mono ?_
  rintro e w1 ⟨hg, ⟨x, k1, v, hp, hk1, rfl, ⟨rfl, hx0, hx1⟩, hR1⟩ | ⟨n, hp, rfl⟩⟩
  · have HP1 := hid hp
    have HG1 := hid (grow_trans HG0.out hg)
    have HB1 := hid (HB0.out.grown' hg (by simp; omega))
    have HR1 := hid hR1
    clear hg hp HG0 HB0 HR0 hR1
    go_wp2_with fail
    refine (one_any rb s k1 w1 HR1.out hk1 hs).mono ?_
    rintro e w2 ⟨hg, ⟨y, k2, v, hp, hk2, rfl, ⟨rfl, hy0, hy1⟩, hR2⟩ | ⟨n, hp, rfl⟩⟩
    · have HP2 := hid hp
      have HG2 := hid (grow_trans HG1.out hg)
      have HB2 := hid (HB1.out.grown' hg (by simp; omega))
      have HR2 := hid hR2
      clear hg hp HG1 HB1 HR1 hR2
      go_wp2_with fail
      refine (one_any rb s k2 w2 HR2.out hk2 hs).mono ?_
      rintro e w3 ⟨hg, ⟨z, k3, v, hp, hk3, rfl, ⟨rfl, hz0, hz1⟩, hR3⟩ | ⟨n, hp, rfl⟩⟩
      · have HP3 := hid hp
        have HG3 := hid (grow_trans HG2.out hg)
        have HB3 := hid (HB2.out.grown' hg (by simp; omega))
        have HR3 := hid hR3
        clear hg hp HG2 HB2 HR2 hR3
        have c0 := HB3.out.cell 0 _ rfl
        have f0 := HB3.out.frozen 0
        have c1 := HB3.out.cell 1 _ rfl
        have f1 := HB3.out.frozen 1
        have c2 := HB3.out.cell 2 _ rfl
        have f2 := HB3.out.frozen 2
        have HB4 := hid (((HB3.out.setCell 0 (.int .i64 x)).setCell 1 (.int .i64 y)).setCell 2 (.int .i64 z))
        go_wp2
        have d0 := HB4.out.cell 0 _ rfl
        have d1 := HB4.out.cell 1 _ rfl
        have d2 := HB4.out.cell 2 _ rfl
        refine bodyPost_ret (v := .agg #[.int .i64 x, .int .i64 y, .int .i64 z]) (by simp [results, Try.results160, go_sem, d0, d1, d2]) rfl ⟨(grow_set (grow_set (grow_set HG3.out _ _ _ (Nat.le_refl _)) _ _ _ (Nat.le_refl _)) _ _ _ (Nat.le_refl _)), .inl ⟨(x, y, z), k3, _, by rw [pChan, bnd_ok HP1.out, bnd_ok HP2.out, bnd_ok HP3.out], hk3, rfl, rfl, (((HR3.out.set _ _ _ (by omega)).set _ _ _ (by omega)).set _ _ _ (by omega))⟩⟩
      · exact ⟨rfl, grow_trans HG2.out hg, .inr ⟨n, by rw [pChan, bnd_ok HP1.out, bnd_ok HP2.out, bnd_err hp], rfl⟩⟩
    · exact ⟨rfl, grow_trans HG1.out hg, .inr ⟨n, by rw [pChan, bnd_ok HP1.out, bnd_err hp], rfl⟩⟩
  · exact ⟨rfl, grow_trans HG0.out hg, .inr ⟨n, by rw [pChan, bnd_err hp], rfl⟩⟩

set_option maxRecDepth 100000 in
set_option maxHeartbeats 1000000 in
theorem task_any (rb : Nat) (s : ByteArray) (k : Nat) (w : World) (hR : Rd w rb s k) (hk : k ≤ s.size) (hs : s.size ≤ 200) :
    Calls Try.prog 162 #[.pointer (some ⟨rb, 0, none⟩)] w (RdPost w rb s (pTask (nums s) k) isTask) := by
  have q1 := below_new w (.cells #[.int .i64 0, .int .i64 0, .int .i64 0, .int .i64 0] 108)
  have HG0 := hid (grow_new (some rb) q1)
  have HR0 := hid (hR.grownN q1)
  have hlt : rb < w.heap.size := RowAt.lt hR
  have HB0 : Hid (RowAt (w.alloc (.cells #[.int .i64 0, .int .i64 0, .int .i64 0, .int .i64 0] 108)) w.heap.size 108 [.int .i64 0, .int .i64 0, .int .i64 0, .int .i64 0]) := rowAt_new2 _ _ _ _ rfl
  clear q1 hR
  go_enter Try.func162, Try.ntmps162
  go_wp2_with fail
  refine (one_any rb s k _ HR0.out hk hs).mono ?_
  rintro e w1 ⟨hg, ⟨x, k1, v, hp, hk1, rfl, ⟨rfl, hx0, hx1⟩, hR1⟩ | ⟨n, hp, rfl⟩⟩
  · have HP1 := hid hp
    have HG1 := hid (grow_trans HG0.out hg)
    have HB1 := hid (HB0.out.grown' hg (by simp; omega))
    have HR1 := hid hR1
    clear hg hp HG0 HB0 HR0 hR1
    go_wp2_with fail
    refine (two_any rb s k1 w1 HR1.out hk1 hs).mono ?_
    rintro e w2 ⟨hg, ⟨y, k2, v, hp, hk2, rfl, ⟨rfl, hy0, hy1⟩, hR2⟩ | ⟨n, hp, rfl⟩⟩
    · have HP2 := hid hp
      have HG2 := hid (grow_trans HG1.out hg)
      have HB2 := hid (HB1.out.grown' hg (by simp; omega))
      have HR2 := hid hR2
      clear hg hp HG1 HB1 HR1 hR2
      go_wp2_with fail
      refine (two_any rb s k2 w2 HR2.out hk2 hs).mono ?_
      rintro e w3 ⟨hg, ⟨z, k3, v, hp, hk3, rfl, ⟨rfl, hz0, hz1⟩, hR3⟩ | ⟨n, hp, rfl⟩⟩
      · have HP3 := hid hp
        have HG3 := hid (grow_trans HG2.out hg)
        have HB3 := hid (HB2.out.grown' hg (by simp; omega))
        have HR3 := hid hR3
        clear hg hp HG2 HB2 HR2 hR3
        go_wp2_with fail
        refine (two_any rb s k3 w3 HR3.out hk3 hs).mono ?_
        rintro e w4 ⟨hg, ⟨u, k4, v, hp, hk4, rfl, ⟨rfl, hu0, hu1⟩, hR4⟩ | ⟨n, hp, rfl⟩⟩
        · have HP4 := hid hp
          have HG4 := hid (grow_trans HG3.out hg)
          have HB4 := hid (HB3.out.grown' hg (by simp; omega))
          have HR4 := hid hR4
          clear hg hp HG3 HB3 HR3 hR4
          have c0 := HB4.out.cell 0 _ rfl
          have f0 := HB4.out.frozen 0
          have c1 := HB4.out.cell 1 _ rfl
          have f1 := HB4.out.frozen 1
          have c2 := HB4.out.cell 2 _ rfl
          have f2 := HB4.out.frozen 2
          have c3 := HB4.out.cell 3 _ rfl
          have f3 := HB4.out.frozen 3
          have HB5 := hid ((((HB4.out.setCell 0 (.int .i64 x)).setCell 1 (.int .i64 y)).setCell 2 (.int .i64 z)).setCell 3 (.int .i64 u))
          go_wp2
          have d0 := HB5.out.cell 0 _ rfl
          have d1 := HB5.out.cell 1 _ rfl
          have d2 := HB5.out.cell 2 _ rfl
          have d3 := HB5.out.cell 3 _ rfl
          refine bodyPost_ret (v := .agg #[.int .i64 x, .int .i64 y, .int .i64 z, .int .i64 u]) (by simp [results, Try.results162, go_sem, d0, d1, d2, d3]) rfl ⟨(grow_set (grow_set (grow_set (grow_set HG4.out _ _ _ (Nat.le_refl _)) _ _ _ (Nat.le_refl _)) _ _ _ (Nat.le_refl _)) _ _ _ (Nat.le_refl _)), .inl ⟨(x, y, z, u), k4, _, by rw [pTask, bnd_ok HP1.out, bnd_ok HP2.out, bnd_ok HP3.out, bnd_ok HP4.out], hk4, rfl, rfl, ((((HR4.out.set _ _ _ (by omega)).set _ _ _ (by omega)).set _ _ _ (by omega)).set _ _ _ (by omega))⟩⟩
        · exact ⟨rfl, grow_trans HG3.out hg, .inr ⟨n, by rw [pTask, bnd_ok HP1.out, bnd_ok HP2.out, bnd_ok HP3.out, bnd_err hp], rfl⟩⟩
      · exact ⟨rfl, grow_trans HG2.out hg, .inr ⟨n, by rw [pTask, bnd_ok HP1.out, bnd_ok HP2.out, bnd_err hp], rfl⟩⟩
    · exact ⟨rfl, grow_trans HG1.out hg, .inr ⟨n, by rw [pTask, bnd_ok HP1.out, bnd_err hp], rfl⟩⟩
  · exact ⟨rfl, grow_trans HG0.out hg, .inr ⟨n, by rw [pTask, bnd_err hp], rfl⟩⟩

end Go.Proofs.Ytaellaconpaejaa
