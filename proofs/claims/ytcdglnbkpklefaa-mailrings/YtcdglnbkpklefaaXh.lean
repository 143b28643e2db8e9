/- Walks of the document's answer: values committed. -/
import Derived.Test.YtcdglnbkpklefaaXg
import Derived.Deep.DeepCutAuto
set_option linter.unusedVariables false
namespace Go.Proofs.Ytcdglnbkpklefaa
open Go.RowKit

theorem own_ne {w : World} {base n B : Nat} {v : Value} {xs L : List Value} (h : w.ownsRow base 3 1 v n xs) (r : RowAt w B 63 L) : some B ≠ v.ownBlock := by
  obtain ⟨_, hv⟩ := h
  rcases hv with ⟨rfl, _⟩ | ⟨g, cap, cur, rfl, _, hg, _⟩
  · simp [Value.ownBlock]
  · intro e
    simp [Value.ownBlock] at e
    subst e
    have hr : w.heap[B]? = _ := r
    rw [hr] at hg
    simp at hg

theorem owns_set63 {w : World} {base n B : Nat} {v : Value} {xs L : List Value} (h : w.ownsRow base 3 1 v n xs) (r : RowAt w B 63 L) (i : Nat) (u : Value) : (w.setCell ⟨B, i, none⟩ u).ownsRow base 3 1 v n xs := by
  refine h.kept (grow_setCell _ _ _ _) ?_
  have q := own_ne h r
  cases hv : v.ownBlock with
  | none => exact .inl rfl
  | some g => right; rw [hv] at q; exact fun e => q e.symm

/-- Memory while values are committed, one by one. -/
structure Cw (w wx : World) (B : Nat) (v : Value) (X : List Int) (l : Int) : Prop where
  below : Below w.heap.size w wx
  r6 : RowAt wx (w.heap.size + 1) 63 [.slice none 0 0, .int .i64 0]
  r7 : RowAt wx B 63 [v, .int .i64 l]
  own : wx.ownsRow (w.heap.size + 1 + 1) 3 1 v X.length (ivs X)
  lb : w.heap.size + 1 + 1 ≤ B

theorem Cw.set1 {w wx : World} {B : Nat} {v : Value} {X : List Int} {l : Int} (h : Cw w wx B v X l) (l' : Int) : Cw w (wx.setCell ⟨B, 1, none⟩ (.int .i64 l')) B v X l' := by
  have hl := h.lb
  exact ⟨h.below.setCell (by show w.heap.size ≤ B; omega) _, h.r6.setOther _ _ (by show w.heap.size + 1 ≠ B; omega), h.r7.setCell 1 _, owns_set63 h.own h.r7 1 _, hl⟩

theorem Cw.more {w wx wm w1 : World} {B : Nat} {v v' : Value} {X Y : List Int} {l : Int} (h : Cw w wx B v X l) (hb : Below wx.heap.size wx wm) (hg : wm.grownBy w1 v.ownBlock) (ho : w1.ownsRow (w.heap.size + 1 + 1) 3 1 v' Y.length (ivs Y)) : Cw w (w1.setCell ⟨B, 0, none⟩ v') B v' Y l := by
  have hl := h.lb
  have hvb := h.own.lt
  have hs := hb.size
  have hlt := h.r7.lt
  have r6 := (h.r6.below hb (Nat.le_refl _)).grown' hg (fun e => by have := (hvb _ e.symm).1; omega)
  have r7 := (h.r7.below hb (Nat.le_refl _)).grown' hg (own_ne h.own h.r7)
  exact ⟨((btrans h.below hb).grown hg (by have := h.below.size; omega) (fun k hk => by have := (hvb k hk).1; omega)).setCell (by show w.heap.size ≤ B; omega) _, r6.setOther _ _ (by show w.heap.size + 1 ≠ B; omega), r7.setCell 0 _, owns_set63 ho r7 0 _, hl⟩

set_option maxRecDepth 100000 in
set_option maxHeartbeats 4000000 in
theorem commitOf_any (a : Option Addr) (V : List Int) (cap : Nat) (lost size : Int) (p : Option Addr) (L : List Int) (c : Nat) (w : World) (hw : IntsIn w a V) (hL : IntsIn w p L) (hm : L.length ≤ 9223372036854775807) (hlo : 0 ≤ lost) (hlo2 : lost ≤ 100000) (R : Nat) (hR : size = ((V.length + R : Nat) : Int)) (hR4 : V.length + R ≤ 4) :
    Calls Try.prog 37 #[.agg #[.slice a V.length cap, .int .i64 lost], .int .i64 size, .slice p L.length c] w fun e w' => ∃ v, e = .returned (.agg #[v, .int .i64 (comL lost R L.length)]) ∧ w'.ownsRow w.heap.size 3 1 v (comV V L R L.length).length (ivs (comV V L R L.length)) ∧ Below w.heap.size w w' := by
  have HR0 := hid hR
  clear hR
  have q1 := below_new w (.cells #[.slice a V.length cap, .int .i64 lost] 63)
  have q2 := below_new (w.alloc (.cells #[.slice a V.length cap, .int .i64 lost] 63)) (.cells #[.slice none 0 0, .int .i64 0] 63)
  have B5 := hid (btrans q1 q2)
  have W5 := hid (hw.keep (btrans q1 q2))
  have L5 := hid (hL.keep (btrans q1 q2))
  have R3 : Hid (RowAt ((w.alloc (.cells #[.slice a V.length cap, .int .i64 lost] 63)).alloc (.cells #[.slice none 0 0, .int .i64 0] 63)) w.heap.size 63 [.slice a V.length cap, .int .i64 lost]) := hid ((rowAt_new2 w _ [.slice a V.length cap, .int .i64 lost] 63 rfl).alloc _)
  have R5 : Hid (RowAt ((w.alloc (.cells #[.slice a V.length cap, .int .i64 lost] 63)).alloc (.cells #[.slice none 0 0, .int .i64 0] 63)) (w.heap.size + 1) 63 [.slice none 0 0, .int .i64 0]) := hid (rowAt_new2 _ _ [.slice none 0 0, .int .i64 0] 63 (by simp))
  have HLL : Hid (∀ w', Below w.heap.size w w' → IntsIn w' p L) := hid fun w' hb => hL.keep hb
  clear q1 q2 hw hL
  generalize hw2 : ((w.alloc (.cells #[.slice a V.length cap, .int .i64 lost] 63)).alloc (.cells #[.slice none 0 0, .int .i64 0] 63)) = w2 at *
  have HW2 := hid hw2
  clear hw2
  have z0 := R3.out.cell 0 _ rfl
  have z1 := R3.out.cell 1 _ rfl
  have hne : ¬ w.heap.size + 1 = w.heap.size := by omega
  have hsz2 : w.heap.size + 1 < w2.heap.size := R5.out.lt
  have hbA : Below w2.heap.size w2 (w2.alloc (.cells #[] 3)).drew := (below_new _ _).drew
  have hbB : Below w2.heap.size w2 ((w2.alloc (.cells #[] 3)).alloc (.cells #[.slice none 0 0, .int .i64 0] 63)).drew := (btrans (below_new _ _) (below_new _ _)).drew
  have hbC : Below w2.heap.size w2 ((w2.alloc (.cells #[.slice none 0 0, .int .i64 0] 63)).alloc (.cells #[] 3)).drew := (btrans (below_new _ _) (below_new _ _)).drew
  have HS : Hid (∀ w', Below w2.heap.size w2 w' → w'.cell? ⟨w.heap.size, 0, none⟩ = some (.slice a V.length cap) ∧ w'.cell? ⟨w.heap.size, 1, none⟩ = some (.int .i64 lost)) := hid fun w' hb => ⟨bkeep hb z0 (Nat.le_refl _), bkeep hb z1 (Nat.le_refl _)⟩
  have hoA : Hid ((w2.alloc (.cells #[] 3)).drew.ownsRow w2.heap.size 3 1 (.slice (some ⟨w2.heap.size, 0, none⟩) 0 0) 0 []) := hid (World.ownsRow_made w2 #[] 0 (Nat.le_refl _) (by simp [maxLen]) rfl)
  have hoB : Hid (((w2.alloc (.cells #[] 3)).alloc (.cells #[.slice none 0 0, .int .i64 0] 63)).drew.ownsRow w2.heap.size 3 1 (.slice (some ⟨w2.heap.size, 0, none⟩) 0 0) 0 []) := hid ((World.ownsRow_made w2 #[] 0 (Nat.le_refl _) (by simp [maxLen]) rfl).alloc _)
  have hoC : Hid (((w2.alloc (.cells #[.slice none 0 0, .int .i64 0] 63)).alloc (.cells #[] 3)).drew.ownsRow w2.heap.size 3 1 (.slice (some ⟨w2.heap.size + 1, 0, none⟩) 0 0) 0 []) := by
    have := World.ownsRow_made (w2.alloc (.cells #[.slice none 0 0, .int .i64 0] 63)) (base := w2.heap.size) (e := 3) (size := 1) #[] 0 (by simp) (by simp [maxLen]) rfl
    have q : ((w2.alloc (.cells #[.slice none 0 0, .int .i64 0] 63)).alloc (.cells #[] 3)).ownsRow w2.heap.size 3 1 (.slice (some ⟨w2.heap.size + 1, 0, none⟩) 0 0) 0 [] := by simpa using this
    exact hid q
  have RB : Hid (RowAt ((w2.alloc (.cells #[] 3)).alloc (.cells #[.slice none 0 0, .int .i64 0] 63)).drew (w2.heap.size + 1) 63 [.slice none 0 0, .int .i64 0]) := hid (rowAt_new2 (w2.alloc (.cells #[] 3)) _ [.slice none 0 0, .int .i64 0] 63 (by simp))
  have RC : Hid (RowAt ((w2.alloc (.cells #[.slice none 0 0, .int .i64 0] 63)).alloc (.cells #[] 3)).drew w2.heap.size 63 [.slice none 0 0, .int .i64 0]) := hid ((rowAt_new2 w2 _ [.slice none 0 0, .int .i64 0] 63 rfl).alloc _)
  have hq0 : ∀ o, (w2.alloc o).cell? ⟨w.heap.size, 0, none⟩ = some (.slice a V.length cap) := fun o => (HS.out _ (below_new _ _)).1
  have hq1 : ∀ o, (w2.alloc o).cell? ⟨w.heap.size, 1, none⟩ = some (.int .i64 lost) := fun o => (HS.out _ (below_new _ _)).2
  have hq2 : ∀ o o', ((w2.alloc o).alloc o').cell? ⟨w.heap.size, 0, none⟩ = some (.slice a V.length cap) := fun o o' => (HS.out _ (btrans (below_new _ _) (below_new _ _))).1
  have hq3 : ∀ o o', ((w2.alloc o).alloc o').cell? ⟨w.heap.size, 1, none⟩ = some (.int .i64 lost) := fun o o' => (HS.out _ (btrans (below_new _ _) (below_new _ _))).2
  go_enter Try.func37, Try.ntmps37
  go_upto_region 1 with fail
  rw [HW2.out]
  go_cut [7] (fun t wx => ∃ (B : Nat) (v : Value), t = .pointer (some ⟨B, 0, none⟩) ∧ Cw w wx B v V lost)
  case first =>
    go_region_law (first
      | (refine step_appI (by rfl) _ _ (by rfl) w2.heap.size (.slice (some ⟨w2.heap.size, 0, none⟩) 0 0) 0 [] (by rfl) hoA.out V V.length rfl a _ (by rfl) (W5.out.keep hbA) (by simp [maxLen]; omega) (by omega) (by simp) ?_; intro a3 k3 w3 hown3 hgrow3; have hB3 : Below w2.heap.size w2 w3 := hbA.grown hgrow3 (by simp) (fun k hk => by simp [Value.ownBlock] at hk; omega); have HO3 : Hid (w3.ownsRow w2.heap.size 3 1 (.slice a3 V.length k3) V.length (ivs V)) := hid (by simpa using hown3); have c0 := (HS.out _ hB3).1; have c1 := (HS.out _ hB3).2; have c2 : ∀ o, (w3.alloc o).cell? ⟨w.heap.size, 0, none⟩ = some (.slice a V.length cap) := fun o => cell_old o c0; have c3 : ∀ o, (w3.alloc o).cell? ⟨w.heap.size, 1, none⟩ = some (.int .i64 lost) := fun o => cell_old o c1; have hsz3 := hB3.size)
      | (refine step_appI (by rfl) _ _ (by rfl) w2.heap.size (.slice (some ⟨w2.heap.size, 0, none⟩) 0 0) 0 [] (by rfl) hoB.out V V.length rfl a _ (by rfl) (W5.out.keep hbB) (by simp [maxLen]; omega) (by omega) (by simp; omega) ?_; intro a3 k3 w3 hown3 hgrow3; have hB3 : Below w2.heap.size w2 w3 := hbB.grown hgrow3 (by simp; omega) (fun k hk => by simp [Value.ownBlock] at hk; omega); have HO3 : Hid (w3.ownsRow w2.heap.size 3 1 (.slice a3 V.length k3) V.length (ivs V)) := hid (by simpa using hown3); have c0 := (HS.out _ hB3).1; have c1 := (HS.out _ hB3).2; have c2 : ∀ o, (w3.alloc o).cell? ⟨w.heap.size, 0, none⟩ = some (.slice a V.length cap) := fun o => cell_old o c0; have c3 : ∀ o, (w3.alloc o).cell? ⟨w.heap.size, 1, none⟩ = some (.int .i64 lost) := fun o => cell_old o c1; have HZ3 := hid (RB.out.grown' hgrow3 (by simp [Value.ownBlock])); have e0 := HZ3.out.cell 0 _ rfl; have e1 := HZ3.out.cell 1 _ rfl; have f0 := HZ3.out.frozen 0; have f1 := HZ3.out.frozen 1)
      | (refine step_appI (by rfl) _ _ (by rfl) w2.heap.size (.slice (some ⟨w2.heap.size + 1, 0, none⟩) 0 0) 0 [] (by rfl) hoC.out V V.length rfl a _ (by rfl) (W5.out.keep hbC) (by simp [maxLen]; omega) (by omega) (by simp; omega) ?_; intro a3 k3 w3 hown3 hgrow3; have hB3 : Below w2.heap.size w2 w3 := hbC.grown hgrow3 (by simp; omega) (fun k hk => by simp [Value.ownBlock] at hk; omega); have HO3 : Hid (w3.ownsRow w2.heap.size 3 1 (.slice a3 V.length k3) V.length (ivs V)) := hid (by simpa using hown3); have c0 := (HS.out _ hB3).1; have c1 := (HS.out _ hB3).2; have c2 : ∀ o, (w3.alloc o).cell? ⟨w.heap.size, 0, none⟩ = some (.slice a V.length cap) := fun o => cell_old o c0; have c3 : ∀ o, (w3.alloc o).cell? ⟨w.heap.size, 1, none⟩ = some (.int .i64 lost) := fun o => cell_old o c1; have HZ3 := hid (RC.out.grown' hgrow3 (by simp [Value.ownBlock])); have e0 := HZ3.out.cell 0 _ rfl; have e1 := HZ3.out.cell 1 _ rfl; have f0 := HZ3.out.frozen 0; have f1 := HZ3.out.frozen 1))
    all_goals
      go_wp2
      go_meet
      case rel =>
        first
          | exact ⟨w3.heap.size, _, rfl, ⟨btrans B5.out (btrans hB3 (below_new _ _)), (R5.out.below hB3 (Nat.le_refl _)).alloc _, rowAt_new2 w3 _ [.slice a3 V.length k3, .int .i64 lost] 63 rfl, ownsx_mono (HO3.out.alloc _) (by omega), by omega⟩⟩
          | exact ⟨w2.heap.size + 1, _, rfl, ⟨((btrans B5.out hB3).setCell (p := ⟨w2.heap.size + 1, 0, none⟩) (by show w.heap.size ≤ w2.heap.size + 1; omega) _).setCell (p := ⟨w2.heap.size + 1, 1, none⟩) (by show w.heap.size ≤ w2.heap.size + 1; omega) _, ((R5.out.below hB3 (Nat.le_refl _)).setOther _ _ (by show w.heap.size + 1 ≠ w2.heap.size + 1; omega)).setOther _ _ (by show w.heap.size + 1 ≠ w2.heap.size + 1; omega), (HZ3.out.setCell 0 _).setCell 1 _, ownsx_mono (owns_set63 (owns_set63 HO3.out HZ3.out 0 _) (HZ3.out.setCell 0 _) 1 _) (by omega), by omega⟩⟩
          | exact ⟨w2.heap.size, _, rfl, ⟨((btrans B5.out hB3).setCell (p := ⟨w2.heap.size, 0, none⟩) (by show w.heap.size ≤ w2.heap.size; omega) _).setCell (p := ⟨w2.heap.size, 1, none⟩) (by show w.heap.size ≤ w2.heap.size; omega) _, ((R5.out.below hB3 (Nat.le_refl _)).setOther _ _ (by show w.heap.size + 1 ≠ w2.heap.size; omega)).setOther _ _ (by show w.heap.size + 1 ≠ w2.heap.size; omega), (HZ3.out.setCell 0 _).setCell 1 _, ownsx_mono (owns_set63 (owns_set63 HO3.out HZ3.out 0 _) (HZ3.out.setCell 0 _) 1 _) (by omega), by omega⟩⟩
  case rest =>
    obtain ⟨B, v0, rfl, hC0⟩ := hcut
    have HC0 := hid hC0
    have HL0 := hid (fun w' (hb : Below w.heap.size w w') => (HLL.out w' hb))
    clear hC0 hq0 hq1 hq2 hq3 hoA hoB hoC RB RC HS hbA hbB hbC z0 z1 R3 R5 W5 L5 HW2 hsz2 B5
    go_wp2
    go_loopw [8] (fun i wr => ∃ (k : Nat) (v : Value), k ≤ L.length ∧ i = .int .i64 k ∧ Cw w wr B v (comV V L R k) (comL lost R k)) (fun i _ => L.length - (intOf i).toNat)
    case atStart => exact ⟨0, v0, Nat.zero_le _, rfl, by simpa [comV, comL, show min lost 100000 = lost by omega] using HC0.out⟩
    case round =>
      clear HC0
      obtain ⟨k, v, hk, rfl, hC⟩ := hrel
      have HC := hid hC
      have hlen := comV_len V L R k hk
      obtain ⟨a3, k3, rfl, -, -, -, -, -⟩ := ints_own hC.own
      have d0 := hC.r7.cell 0 _ rfl
      have d1 := hC.r7.cell 1 _ rfl
      have g0 := hC.r7.frozen 0
      have g1 := hC.r7.frozen 1
      have hltB := hC.r7.lt
      have hlB := hC.lb
      clear hC
      by_cases hlt : k < L.length
      · have hk1 : (k : Int) < (L.length : Int) := by omega
        have hk0 : (0 : Int) ≤ (k : Int) := by omega
        obtain ⟨b', o', rfl, hcl⟩ := HL0.out wr HC.out.below k hlt
        by_cases hr : k < R
        · have hcm : ((comV V L R k).length : Int) < size := by have := HR0.out; omega
          have HXV := hid (comV_more V L R k hlt hr)
          have HXL := hid (comL_more lost R k hr)
          have hcln := hid hlen
          have d0' : ∀ o, (wr.alloc o).cell? ⟨B, 0, none⟩ = some (.slice a3 (comV V L R k).length k3) := fun o => cell_old o d0
          have hcl' : ∀ o, (wr.alloc o).cell? ⟨b', o' + k, none⟩ = some (.int .i64 L[k]) := fun o => cell_old o hcl
          have hX4 : (comV V L R k).length + 1 ≤ 4 := by omega
          clear hlen
          generalize hX : comV V L R k = X at *
          generalize hY : L[k] = y at *
          have HX := hid hX
          have HY := hid hY
          clear hX hY
          have hbA : Below wr.heap.size wr (wr.alloc (.cells #[.int .i64 y] 3)).drew := (below_new _ _).drew
          have HO := hid (owns_below' HC.out.own hbA)
          have HI : Hid (IntsIn (wr.alloc (.cells #[.int .i64 y] 3)).drew (some ⟨wr.heap.size, 0, none⟩) [y]) := hid (by
            intro i hi
            obtain rfl : i = 0 := by simp at hi; omega
            exact ⟨wr.heap.size, 0, rfl, by simp⟩)
          have hnb := own_ne HC.out.own HC.out.r7
          have hszw : w.heap.size + 1 + 1 ≤ wr.heap.size := by omega
          go_wp2
          go_region_law (first
            | (refine step_appI (by rfl) _ _ (by rfl) (w.heap.size + 1 + 1) (.slice a3 X.length k3) X.length (ivs X) (by rfl) HO.out [y] 1 rfl (some ⟨wr.heap.size, 0, none⟩) _ (by rfl) HI.out (by simp [maxLen]; omega) (by omega) (by simp; omega) ?_; intro a4 k4 w4 hown4 hgrow4; have hr7 := (HC.out.r7.below hbA (Nat.le_refl _)).grown' hgrow4 hnb; have e0 := hr7.cell 0 _ rfl; have f0 := hr7.frozen 0; have HO4 := hid hown4; have HG4 := hid hgrow4; clear hown4 hgrow4 hr7))
          all_goals
            have HE : Hid (Cw w (w4.setCell ⟨B, 0, none⟩ (.slice a4 (X.length + 1) k4)) B (.slice a4 (X.length + 1) k4) (comV V L R (k + 1)) (comL lost R (k + 1))) := by
              rw [HXV.out, HXL.out]
              refine hid (HC.out.more hbA HG4.out ?_)
              rw [ivs_app, List.length_append]
              exact HO4.out
            clear HC HO HI HO4 HG4 d0' hcl' e0 f0
            go_wp2
            go_roundw
            case rel => exact ⟨k + 1, _, by omega, by go_num, HE.out⟩
            case measure => simp [intOf]; omega
        · have hcm : ¬ ((comV V L R k).length : Int) < size := by have := HR0.out; omega
          have HXV := hid (comV_full V L R k (by omega))
          have HXL := hid (comL_full lost R k (by omega))
          have hl0 : 0 ≤ comL lost R k := by unfold comL; omega
          have hl1 : comL lost R k ≤ 100000 := by unfold comL; omega
          clear hlen
          generalize hX : comV V L R k = X at *
          generalize hq : comL lost R k = q at *
          have HX := hid hX
          have Hq := hid hq
          clear hX hq
          by_cases hq : q < 100000
          · have HE : Hid (Cw w (wr.setCell ⟨B, 1, none⟩ (.int .i64 (q + 1))) B (.slice a3 X.length k3) (comV V L R (k + 1)) (comL lost R (k + 1))) := by
              rw [HXV.out, HXL.out, if_pos hq]
              exact hid (HC.out.set1 _)
            clear HC
            go_wp2
            go_roundw
            case rel => exact ⟨k + 1, _, by omega, by go_num, HE.out⟩
            case measure => simp [intOf]; omega
          · have HE : Hid (Cw w wr B (.slice a3 X.length k3) (comV V L R (k + 1)) (comL lost R (k + 1))) := by
              rw [HXV.out, HXL.out, if_neg hq]
              exact HC
            clear HC
            go_wp2
            go_roundw
            case rel => exact ⟨k + 1, _, by omega, by go_num, HE.out⟩
            case measure => simp [intOf]; omega
      · obtain rfl : k = L.length := by omega
        generalize hX : comV V L R L.length = X at *
        generalize hq : comL lost R L.length = q at *
        have HX := hid hX
        have Hq := hid hq
        clear hX hq hlen
        have x0 := HC.out.r6.cell 0 _ rfl
        have y0 := HC.out.r6.frozen 0
        have x1 := HC.out.r6.cell 1 _ rfl
        have y1 := HC.out.r6.frozen 1
        have R6 := hid ((HC.out.r6.setCell 0 (.slice a3 X.length k3)).setCell 1 (.int .i64 q))
        have B6 := hid ((HC.out.below.setCell (p := ⟨w.heap.size + 1, 0, none⟩) (by show w.heap.size ≤ w.heap.size + 1; omega) (.slice a3 X.length k3)).setCell (p := ⟨w.heap.size + 1, 1, none⟩) (by show w.heap.size ≤ w.heap.size + 1; omega) (.int .i64 q))
        have O6 := hid (ownsx_mono (ownsx_set (ownsx_set HC.out.own 0 (.slice a3 X.length k3) (b := w.heap.size + 1) (by omega)) 1 (.int .i64 q) (b := w.heap.size + 1) (by omega)) (base' := w.heap.size) (by omega))
        clear HC
        go_wp2
        have d0 := R6.out.cell 0 _ rfl
        have d1 := R6.out.cell 1 _ rfl
        exact bodyPost_ret (v := .agg #[.slice a3 X.length k3, .int .i64 q]) (by simp [results, Try.results37, go_sem, d0, d1]) rfl ⟨_, by rw [Hq.out], by rw [HX.out]; exact O6.out, B6.out⟩

end Go.Proofs.Ytcdglnbkpklefaa
