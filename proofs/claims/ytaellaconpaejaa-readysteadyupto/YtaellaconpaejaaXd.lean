/- Walks: slices.Grow of nothing, slices.Concat of two lists of numbers. -/
import Derived.Test.YtaellaconpaejaaXc
set_option linter.unusedVariables false
namespace Go.Proofs.Ytaellaconpaejaa
open Go.RowKit

set_option maxRecDepth 100000 in
set_option maxHeartbeats 1000000 in
theorem grow119_any (n : Nat) (w : World) (hn : n ≤ 4) :
    Calls Try.prog 129 #[.slice none 0 0, .int .i64 n] w fun e w' => ∃ v, e = .returned v ∧ w'.ownsRow w.heap.size 3 1 v 0 [] ∧ Below w.heap.size w w' := by
  obtain ⟨i3, hi, hz, hsz, hby⟩ := infoOf Try.info3x
  have h1 : ¬ ((n : Int) < 0) := by omega
  rcases Nat.eq_zero_or_pos n with rfl | hp
  · go_enter Try.func129, Try.ntmps129
    go_wp2
    go_ret
    exact ⟨_, rfl, World.ownsRow_nil _ _ _ _, Below.refl _ _⟩
  · have h4 : (n : Int) > 0 := by omega
    have hrz : ∀ ty, (Builtin.append_ #[42, 3] ty #[.slice none 0 0, .int .i64 (n : Int)]).run Try.prog w =
        .ok (.slice (some ⟨w.heap.size, 0, none⟩) n (grownCap w n 0 3)) (w.drew.alloc (.cells (Builtin.zeroCells #[.int .i64 0] n ++ Builtin.zeroCells #[.int .i64 0] (grownCap w n 0 3 - n)) 3)) := fun ty => by
      have := Lib.run_append_nil_zeros (P := Try.prog) w 42 3 ty 3 i3 _ .i64 .i64 Try.underlying42 Try.underlying3 hi hz n hp (by omega) (by omega) (by rw [hby]; omega)
      exact this
    have hge := grownCap_ge w n 0 3
    have hle := grownCap_le_maxLen w n 0 3 (by unfold maxLen; omega)
    have hG63 : ((grownCap w n 0 3 : Nat) : Int) ≤ 9223372036854775807 := by unfold maxLen at hle; omega
    have HB : Hid (Below w.heap.size w (w.drew.alloc (.cells (Builtin.zeroCells #[.int .i64 0] n ++ Builtin.zeroCells #[.int .i64 0] (grownCap w n 0 3 - n)) 3))) := hid ((Below.refl _ _).drew.alloc (Nat.le_refl _) _)
    have HO : Hid ((w.drew.alloc (.cells (Builtin.zeroCells #[.int .i64 0] n ++ Builtin.zeroCells #[.int .i64 0] (grownCap w n 0 3 - n)) 3)).ownsRow w.heap.size 3 1 (.slice (some ⟨w.heap.size, 0, none⟩) 0 (grownCap w n 0 3)) 0 []) := by
      refine hid ⟨rfl, .inr ⟨w.heap.size, _, _, rfl, Nat.le_refl _, heap_alloc_new _ _, Nat.zero_le _, hle, ?_, by simp⟩⟩
      simp [Builtin.zeroCells]
      omega
    generalize hG : grownCap w n 0 3 = G at *
    generalize w.drew.alloc _ = w1 at *
    clear hG hle
    go_enter Try.func129, Try.ntmps129
    go_wp2_with (at_builtin; refine Lib.wpList_append_run _ rfl _ _ _ _ rfl _ _ rfl rfl _ _ (hrz _) ?_)
    all_goals (go_ret; exact ⟨_, rfl, HO.out, HB.out⟩)

set_option maxRecDepth 100000 in
set_option maxHeartbeats 2000000 in
theorem concat86_any (g : Nat) (a1 a2 : Option Addr) (L1 L2 : List Int) (c1 c2 : Nat) (w : World) (h1 : IntsIn w a1 L1) (h2 : IntsIn w a2 L2) (hl : L1.length + L2.length ≤ 4)
    (hc0 : w.cell? ⟨g, 0, none⟩ = some (.slice a1 L1.length c1)) (hc1 : w.cell? ⟨g, 1, none⟩ = some (.slice a2 L2.length c2)) :
    Calls Try.prog 92 #[.slice (some ⟨g, 0, none⟩) 2 2] w fun e w' => ∃ v, e = .returned v ∧ w'.ownsRow w.heap.size 3 1 v (L1 ++ L2).length (ivs (L1 ++ L2)) ∧ Below w.heap.size w w' := by
  have H1 := hid h1
  have H2 := hid h2
  have HC0 := hid hc0
  have HC1 := hid hc1
  clear h1 h2
  go_enter Try.func92, Try.ntmps92
  go_wp2
  go_loopw [3, 11] (fun z i wr => w = wr ∧ ((i = .int .i64 0 ∧ z = .int .i64 0) ∨ (i = .int .i64 1 ∧ z = .int .i64 (L1.length : Int)) ∨ (i = .int .i64 2 ∧ z = .int .i64 ((L1.length + L2.length : Nat) : Int)))) (fun z i _ => 2 - (intOf i).toNat)
  case atStart => exact ⟨rfl, .inl ⟨rfl, rfl⟩⟩
  case round =>
    obtain ⟨rfl, ⟨rfl, rfl⟩ | ⟨rfl, rfl⟩ | ⟨rfl, rfl⟩⟩ := hrel
    · have hn : ¬ ((L1.length : Int) < 0) := by omega
      go_wp2
      go_roundw
      case rel => exact ⟨by trivial, .inr (.inl ⟨rfl, by go_num⟩)⟩
      case measure => simp [intOf]
    · have hn : ¬ ((L1.length : Int) + (L2.length : Int) < 0) := by omega
      have hw : wrap64 ((L1.length : Int) + (L2.length : Int)) = (L1.length : Int) + (L2.length : Int) := by unfold wrap64; omega
      go_wp2
      go_roundw
      case rel => exact ⟨by trivial, .inr (.inr ⟨rfl, by simp⟩)⟩
      case measure => simp [intOf]
    · go_wp2_with fail
      refine (grow119_any (L1.length + L2.length) _ hl).mono ?_
      rintro e w1 ⟨v, rfl, hown, hb⟩
      have HO := hid hown
      have HB := hid hb
      have K0 := hid (bkeep hb HC0.out (Nat.le_refl _))
      have K1 := hid (bkeep hb HC1.out (Nat.le_refl _))
      have P1 := hid (H1.out.keep hb)
      have P2 := hid (H2.out.keep hb)
      have hgl : g < w.heap.size := World.block_lt_of_cell? _ _ HC0.out
      clear hown hb hc0 hc1
      go_wp2
      go_loopw [6, 27] (fun z i wr => ∃ L : List Int, wr.ownsRow w.heap.size 3 1 z L.length (ivs L) ∧ Below w.heap.size w wr ∧ ((i = .int .i64 0 ∧ L = []) ∨ (i = .int .i64 1 ∧ L = L1) ∨ (i = .int .i64 2 ∧ L = L1 ++ L2))) (fun z i _ => 2 - (intOf i).toNat)
      case atStart => exact ⟨[], HO.out, HB.out, .inl ⟨rfl, rfl⟩⟩
      case round =>
        obtain ⟨L, hown, hb, hL⟩ := hrel
        have HO2 := hid hown
        have HB2 := hid hb
        have M0 := bkeep hb HC0.out (Nat.le_refl _)
        have M1 := bkeep hb HC1.out (Nat.le_refl _)
        have Q1 := hid (H1.out.keep hb)
        have Q2 := hid (H2.out.keep hb)
        have hvb := hown.lt
        have hsz := hb.size
        clear hown hb
        rcases hL with ⟨rfl, rfl⟩ | ⟨rfl, rfl⟩ | ⟨rfl, rfl⟩
        · go_wp2_with (at_builtin; refine wpList_appI rfl _ _ rfl w.heap.size _ _ _ rfl HO2.out L1 _ _ rfl Q1.out (by simp [maxLen]; omega) (by simp; omega) hsz ?_)
          intro v' w3 hown3 hgrow
          have HE := hid (show w3.ownsRow w.heap.size 3 1 v' L1.length (ivs L1) ∧ Below w.heap.size w w3 from ⟨by simpa [ivs] using hown3, HB2.out.grown hgrow hsz (fun k hk => (hvb k hk).1)⟩)
          clear hown3 hgrow
          go_wp2
          go_roundw
          case rel => exact ⟨L1, HE.out.1, HE.out.2, .inr (.inl ⟨rfl, rfl⟩)⟩
          case measure => simp [intOf]
        · go_wp2_with (at_builtin; refine wpList_appI rfl _ _ rfl w.heap.size _ _ _ rfl HO2.out L2 _ _ rfl Q2.out (by simp [maxLen]; omega) (by omega) hsz ?_)
          intro v' w3 hown3 hgrow
          have HE := hid (show w3.ownsRow w.heap.size 3 1 v' (L ++ L2).length (ivs (L ++ L2)) ∧ Below w.heap.size w w3 from ⟨by rw [ivs_app, List.length_append]; exact hown3, HB2.out.grown hgrow hsz (fun k hk => (hvb k hk).1)⟩)
          clear hown3 hgrow
          go_wp2
          go_roundw
          case rel => exact ⟨L ++ L2, HE.out.1, HE.out.2, .inr (.inr ⟨rfl, rfl⟩)⟩
          case measure => simp [intOf]
        · go_wp2
          go_ret
          exact ⟨_, rfl, HO2.out, HB2.out⟩

end Go.Proofs.Ytaellaconpaejaa
