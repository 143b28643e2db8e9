/- Walks: what a flush comes to. -/
import Derived.Test.YtaellaconpaejaaCm
set_option linter.unusedVariables false
namespace Go.Proofs.Ytaellaconpaejaa
open Go.RowKit

theorem keep_other {w : World} {p q : Addr} {v u : Value} (h : w.cell? q = some u) (hne : p.block ≠ q.block) : (w.setCell p v).cell? q = some u := by
  rw [World.cell?_setCell_other _ _ _ _ (fun e => hne (by rw [e]))]; exact h

def wsum (ls : List (Int × Bool)) : Int := (ls.map fun x => wb x.2).sum
def csum (C : List (List (Int × Bool))) : Int := (C.map wsum).sum

theorem wsum_take (ls : List (Int × Bool)) (k : Nat) (h : k < ls.length) : wsum (ls.take (k + 1)) = wsum (ls.take k) + wb ls[k].2 := by
  rw [wsum, List.take_succ_eq_append_getElem h]
  simp only [wsum, List.map_append, List.sum_append, List.map_cons, List.map_nil, List.sum_cons, List.sum_nil]; omega

theorem csum_take (C : List (List (Int × Bool))) (k : Nat) (h : k < C.length) : csum (C.take (k + 1)) = csum (C.take k) + wsum C[k] := by
  rw [csum, List.take_succ_eq_append_getElem h]
  simp only [csum, List.map_append, List.sum_append, List.map_cons, List.map_nil, List.sum_cons, List.sum_nil]; omega

theorem wsum_le (ls : List (Int × Bool)) : 0 ≤ wsum ls ∧ wsum ls ≤ 5 * ls.length := by
  induction ls with
  | nil => simp [wsum]
  | cons x r ih =>
    have := wb_le x.2
    simp only [wsum, List.map_cons, List.sum_cons, List.length_cons] at ih ⊢
    omega

theorem csum_le (C : List (List (Int × Bool))) (m : Nat) (h : ∀ ls ∈ C, ls.length ≤ m) : 0 ≤ csum C ∧ csum C ≤ (5 * m * C.length : Nat) := by
  induction C with
  | nil => simp [csum]
  | cons x r ih =>
    have h1 := wsum_le x
    have h2 := ih (fun ls hls => h ls (by simp [hls]))
    have h3 := h x (by simp)
    simp only [csum, List.map_cons, List.sum_cons, List.length_cons] at h2 ⊢
    have e : 5 * m * (r.length + 1) = 5 * m * r.length + 5 * m := by rw [Nat.mul_add, Nat.mul_one]
    rw [e]
    omega

set_option maxRecDepth 100000 in
set_option maxHeartbeats 1000000 in
theorem flush_bad (a : Option Addr) (C : List (List (Int × Bool))) (cap : Nat) (w : World) (hw : CacheIn w a C) (hl : C.length ≤ 9223372036854775807) (h : ck C ≠ 0) :
    Calls Try.prog 16 #[.agg #[.slice a C.length cap]] w fun e w' => e = .returned (.tuple #[.agg #[.slice none 0 0], .int .i64 0, .int .i64 (ck C)]) ∧ Below w.heap.size w w' := by
  have h1 : Below w.heap.size w (w.alloc (.cells #[.slice a C.length cap] 24)) := (Below.refl _ _).alloc (Nat.le_refl _) _
  have h2 : Below w.heap.size w ((w.alloc (.cells #[.slice a C.length cap] 24)).alloc (.cells #[.slice none 0 0] 24)) := h1.alloc (by simp) _
  have hr : RowAt ((w.alloc (.cells #[.slice a C.length cap] 24)).alloc (.cells #[.slice none 0 0] 24)) (w.heap.size + 1) 24 [.slice none 0 0] := rowAt_new _ _ [.slice none 0 0] 24 (by simp)
  have h' : (ck C != 0) = true := by simp [h]
  go_enter Try.func16, Try.ntmps16
  go_wp2_with fail
  refine (check_any a C cap _ (hw.keep h2) hl).mono ?_
  rintro e w1 ⟨rfl, hb1⟩
  have hr1 := hr.below hb1 (Nat.le_refl _)
  have hc1 := hr1.cell 0 _ rfl
  have hf1 := hr1.frozen 0
  clear h hr hw
  generalize hq : ck C = q at *
  have HQ := hid hq
  clear hq
  go_wp2
  exact bodyPost_ret (v := .tuple #[.agg #[.slice none 0 0], .int .i64 0, .int .i64 q]) (by simp [results, Try.results16, go_sem, World.cell?_setCell_same w1 _ _ hc1]) rfl ⟨by rw [HQ.out], (btrans h2 hb1).setCell (by show w.heap.size ≤ w.heap.size + 1; omega) _⟩

theorem csum_take_le (C : List (List (Int × Bool))) (k : Nat) (hC4 : C.length ≤ 4) (h : ∀ ls ∈ C, 0 < ls.length ∧ ls.length ≤ 3) : 0 ≤ csum (C.take k) ∧ csum (C.take k) ≤ 60 := by
  have := csum_le (C.take k) 3 (fun ls hls => (h ls (List.mem_of_mem_take hls)).2)
  have e : (C.take k).length ≤ 4 := by simp; omega
  omega

theorem wsum_take_le (ls : List (Int × Bool)) (k : Nat) (h : ls.length ≤ 3) : 0 ≤ wsum (ls.take k) ∧ wsum (ls.take k) ≤ 15 := by
  have := wsum_le (ls.take k)
  have e : (ls.take k).length ≤ 3 := by simp; omega
  omega

set_option maxRecDepth 100000 in
set_option maxHeartbeats 1000000 in
theorem flush_ok (a : Option Addr) (C : List (List (Int × Bool))) (cap : Nat) (w : World) (hw : CacheIn w a C) (hl : C.length ≤ 9223372036854775807) (h : ck C = 0) (n : Nat) (hn : (C.headD []).length = n) :
    Calls Try.prog 16 #[.agg #[.slice a C.length cap]] w fun e w' => ∃ g0, e = .returned (.tuple #[.agg #[.slice (some ⟨g0, 0, none⟩) C.length C.length], .int .i64 (2 + csum C), .int .i64 0]) ∧ OwnC w' g0 (emptyC C.length n) C.length ∧ w.heap.size ≤ g0 ∧ Below w.heap.size w w' := by
  have h1 : Below w.heap.size w (w.alloc (.cells #[.slice a C.length cap] 24)) := (Below.refl _ _).alloc (Nat.le_refl _) _
  have h2 : Below w.heap.size w ((w.alloc (.cells #[.slice a C.length cap] 24)).alloc (.cells #[.slice none 0 0] 24)) := h1.alloc (by simp) _
  have hr : RowAt ((w.alloc (.cells #[.slice a C.length cap] 24)).alloc (.cells #[.slice none 0 0] 24)) (w.heap.size + 1) 24 [.slice none 0 0] := rowAt_new _ _ [.slice none 0 0] 24 (by simp)
  have ha : RowAt ((w.alloc (.cells #[.slice a C.length cap] 24)).alloc (.cells #[.slice none 0 0] 24)) w.heap.size 24 [.slice a C.length cap] := (rowAt_new w _ [.slice a C.length cap] 24 rfl).alloc _
  obtain ⟨_, hC1, hC4, hCn⟩ := ck_ok h
  have HCn := hid hCn
  have Hblk : Hid (∀ b o, a = some ⟨b, o, none⟩ → b < w.heap.size) := by
    intro b o e
    obtain ⟨b1, o1, _, _, e1, q1, _⟩ := hw 0 hC1
    rw [e] at e1
    simp only [Option.some.injEq, Addr.mk.injEq, and_true] at e1
    have := World.block_lt_of_cell? _ _ q1
    simp only at this
    omega
  have hC1' : (1 : Int) ≤ C.length := by omega
  have hC4' : (C.length : Int) ≤ 4 := by omega
  clear hCn
  go_enter Try.func16, Try.ntmps16
  go_wp2_with fail
  refine (check_any a C cap _ (hw.keep h2) hl).mono ?_
  rintro e w1 ⟨rfl, hb1⟩
  have hr1 := hr.below hb1 (Nat.le_refl _)
  have ha1 := ha.below hb1 (Nat.le_refl _)
  have hw1 := (hw.keep h2).keep hb1
  have hc1 := ha1.cell 0 _ rfl
  have h3 := btrans h2 hb1
  rw [h]
  clear h hr hw ha h1 h2 hb1
  go_wp2
  go_loopw [6, 20] (fun c i wr => ∃ k : Nat, k ≤ C.length ∧ i = .int .i64 k ∧ c = .int .i64 (2 + csum (C.take k)) ∧ Below w1.heap.size w1 wr) (fun _ i _ => C.length - (intOf i).toNat)
  case atStart => exact ⟨0, Nat.zero_le _, rfl, rfl, Below.refl _ _⟩
  case round =>
    obtain ⟨k, hk, rfl, rfl, hbl⟩ := hrel
    have hcs := csum_take_le C k hC4 HCn.out
    obtain ⟨hcs1, hcs2⟩ := hcs
    by_cases hlt : k < C.length
    · obtain ⟨b', o', a2, cap2, rfl, hd1, hws, hcap, hlen⟩ := hw1 k hlt
      have hd1' := bkeep hbl hd1 (Nat.le_refl _)
      have hws' := hws.keep hbl
      have h3k := (HCn.out C[k] (List.getElem_mem hlt)).2
      have Hct := hid (csum_take C k hlt)
      generalize hcv : csum (C.take k) = cv at *
      clear hcv
      go_wp2
      go_loopw [6, 26] (fun c i wi => ∃ m : Nat, m ≤ C[k].length ∧ i = .int .i64 m ∧ c = .int .i64 (2 + cv + wsum (C[k].take m)) ∧ Below wr.heap.size wr wi) (fun _ i _ => C[k].length - (intOf i).toNat)
      case atStart => exact ⟨0, Nat.zero_le _, rfl, by simp [wsum], Below.refl _ _⟩
      case round =>
        obtain ⟨m, hm, rfl, rfl, hbi⟩ := hrel
        obtain ⟨hwq1, hwq2⟩ := wsum_take_le C[k] m h3k
        by_cases hlm : m < C[k].length
        · obtain ⟨b2, o2, rfl, he1, he2⟩ := (hws'.keep hbi) m hlm
          have Hwt := hid (wsum_take C[k] m hlm)
          have hwb := wb_le C[k][m].2
          obtain ⟨hwb1, hwb2⟩ := hwb
          generalize hwv : wsum (C[k].take m) = wv at *
          clear hwv
          go_wp2_with fail
          refine (writeBack_any _ _ _).mono ?_
          rintro e w7 ⟨rfl, hb7⟩
          generalize hq : wb C[k][m].2 = q at *
          clear hq
          have hb8 := btrans (hbi.alloc (by have := hbi.size; omega) _) hb7
          go_wp2
          go_roundw
          case rel => exact ⟨m + 1, by omega, by go_num, by rw [Hwt.out]; go_num, hb8⟩
          case measure => simp [intOf]; omega
        · obtain rfl : m = C[k].length := by omega
          have Hfull : Hid (2 + cv + wsum (C[k].take C[k].length) = 2 + csum (C.take (k + 1))) := by
            show _ = _
            rw [Hct.out, List.take_length]; omega
          go_wp2
          go_roundw
          case rel => exact ⟨k + 1, by omega, by go_num, by rw [Hfull.out], btrans hbl hbi⟩
          case measure => simp [intOf]; omega
    · obtain rfl : k = C.length := by omega
      obtain ⟨b', o', a2, cap2, rfl, hd1, hws, hcap, hlen⟩ := (hw1.keep hbl) 0 (by omega)
      have hn0 : C[0].length = n := by
        rw [← hn]
        cases C with
        | nil => simp at hC1
        | cons x r => rfl
      rw [hn0] at hd1
      rw [Nat.add_zero] at hd1
      have hn13 := HCn.out C[0] (List.getElem_mem (by omega))
      rw [hn0] at hn13
      obtain ⟨hn1, hn3⟩ := hn13
      have hc2 := bkeep hbl hc1 (Nat.le_refl _)
      have hr2 := hr1.below hbl (Nat.le_refl _)
      have hct : csum (C.take C.length) = csum C := by rw [List.take_length]
      rw [hct]
      rw [hct] at hcs1 hcs2
      clear hct hws hcap hlen hn hn0
      have hpos : (0 : Int) < C.length := by omega
      have hz1 : ¬ C.length = 0 := by omega
      have hz2 : ¬ C = [] := by intro e; rw [e] at hz1; exact hz1 rfl
      have hz3 : 0 < C.length := by omega
      have hblk := Hblk.out b' o' rfl
      go_wp2_with fail
      go_region_held3 (fun w' => w'.cell? ⟨w.heap.size, 0, none⟩ = some (.slice (some ⟨b', o', none⟩) C.length cap) ∧ w'.cell? ⟨b', o', none⟩ = some (.slice a2 n cap2)) (go_keep)
        (first | (go_at_call 69; refine (empty_any C.length n _ hC4' hC1' hn1 hn3).mono ?_; rintro e w9 ⟨g0, rfl, hg0, hO9, hb9⟩; have hr9 := hr2.drew.below hb9 (Nat.le_refl _); have hc9 := hr9.cell 0 _ rfl; have hf9 := hr9.frozen 0; have hc9a := bkeep hb9 (show wr.drew.cell? _ = _ from hc2) (Nat.le_refl _); have hc9b := bkeep hb9 (show wr.drew.cell? _ = _ from hd1) (Nat.le_refl _); have hne9 : ¬ w.heap.size + 1 = b' := by omega))
      have HO9 := hid hO9
      have h10 := btrans h3 (btrans hbl.drew hb9)
      have hlt2 := hr2.lt
      clear hO9 hr9 hr2 hr1 hw1 hc1 hc2 hd1
      go_wp2
      refine bodyPost_ret (v := .tuple #[.agg #[.slice (some ⟨g0, 0, none⟩) C.length C.length], .int .i64 (2 + csum C), .int .i64 0]) (by simp [results, Try.results16, go_sem, World.cell?_setCell_same w9 _ _ hc9]) rfl ⟨g0, rfl, HO9.out.setOther _ _ (by show w.heap.size + 1 < g0; simp at hg0; omega), by simp at hg0; omega, h10.setCell (by show w.heap.size ≤ w.heap.size + 1; omega) _⟩

end Go.Proofs.Ytaellaconpaejaa
