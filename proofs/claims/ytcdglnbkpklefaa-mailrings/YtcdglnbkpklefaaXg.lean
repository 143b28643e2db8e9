/- Walks of the document's answer: a value received. -/
import Derived.Test.YtcdglnbkpklefaaXf
set_option linter.unusedVariables false
namespace Go.Proofs.Ytcdglnbkpklefaa
open Go.RowKit

/-- An append of a slice of numbers, empty or not, at a step of a region that draws its order. -/
theorem step_appI {ops : Array Oper} {o : Oper} {a : Act} {w : World} {K : Act → World → Prop} {Q : Exit → Act → World → Prop} {E : Prop} (hgd : o.guard = none) (s x : Operand)
    (ho : o.op = .call { callee := .builtin .append, args := #[s, x], argTypes := #[42, 42] })
    (base : Nat) (v : Value) (n : Nat) (xs : List Value) (hs : a.eval s = v) (hown : w.ownsRow base 3 1 v n xs)
    (L : List Int) (m : Nat) (hLm : L.length = m) (a6 : Option Addr) (c6 : Nat) (hx : a.eval x = .slice a6 m c6) (hL : IntsIn w a6 L) (h63 : n + m ≤ maxLen) (hbytes : (n + m) * 8 ≤ 140737488355328) (hbase : base ≤ w.heap.size)
    (h : ∀ a' c' w', w'.ownsRow base 3 1 (.slice a' (n + m) c') (n + m) (xs ++ ivs L) → w.grownBy w' v.ownBlock → K (a.put o.dst (.slice a' (n + m) c')) w') :
    if Region.wanted o (yielded ops a.tmps) = true then Oper.wp Try.prog o a w K Q else E := by
  obtain ⟨i3, hi, hz, hsz, hby⟩ := infoOf Try.info3x
  subst hLm
  by_cases hL0 : L = []
  · subst hL0
    have hroom : ∃ p cap, v = .slice p n cap ∧ n ≤ cap := by
      rcases hown.2 with ⟨e, e2⟩ | ⟨g, cap, _, e, _, _, h, _⟩
      · exact ⟨none, 0, by rw [e, e2], by omega⟩
      · exact ⟨_, cap, e, h⟩
    obtain ⟨p, cap, rfl, hr⟩ := hroom
    have hw : Region.wanted o (yielded ops a.tmps) = true := by simp [Region.wanted, hgd]
    rw [if_pos hw]
    have hrun := append_none (P := Try.prog) w 42 o.type 3 i3 Try.underlying42 hi p n cap a6 c6 hr
    unfold Oper.wp
    simp [execOp, ho, resolve, invoke, builtin, hs, hx, hrun, Result.andThen]
    exact h p cap w (by simpa [ivs] using hown) ⟨rfl, rfl, rfl, Nat.le_refl _, fun _ _ _ => rfl⟩
  · obtain ⟨b, off, rfl, _⟩ := hL 0 (List.length_pos_iff.2 hL0)
    refine step_append_lies w hgd s x 42 ho base 3 i3 _ 1 8 Try.underlying42 hi hz hsz hby rfl (by decide) v n xs hs hown ⟨b, off, none⟩ L.length c6 (ivs L) hx (by simp [ivs]) ?_ (i64x_one L) (List.length_pos_iff.2 hL0) h63 hbytes hbase w.heap.size rfl (fun g cap w' h1 h2 _ _ => h _ cap w' h1 h2)
    intro j u hu
    have hj : j < L.length := by
      have := (List.getElem?_eq_some_iff.1 hu).1
      rwa [ivs_len] at this
    obtain ⟨b2, o2, e, hc⟩ := hL j hj
    simp only [Option.some.injEq, Addr.mk.injEq, and_true] at e
    obtain ⟨rfl, rfl⟩ := e
    have hadd : (⟨b, off, none⟩ : Addr).add j = ⟨b, off + j, none⟩ := by unfold Addr.add; split <;> simp_all
    rw [hadd, hc]
    simp only [ivs, List.getElem?_map, List.getElem?_eq_getElem hj, Option.map_some] at hu
    rw [← hu]

set_option maxRecDepth 100000 in
set_option maxHeartbeats 1000000 in
theorem receiveOf_none (a : Option Addr) (cap : Nat) (lost : Int) (w : World) :
    Calls Try.prog 38 #[.agg #[.slice a 0 cap, .int .i64 lost]] w fun e w' => e = .returned (.tuple #[.agg #[.slice a 0 cap, .int .i64 lost], .int .i64 (-1)]) ∧ Below w.heap.size w w' := by
  go_enter Try.func38, Try.ntmps38
  go_wp2
  exact bodyPost_ret (v := .tuple #[.agg #[.slice a 0 cap, .int .i64 lost], .int .i64 (-1)]) (by simp [results, Try.results38, go_sem]) rfl ⟨rfl, btrans (below_new _ _) (below_new _ _)⟩

set_option maxRecDepth 100000 in
set_option maxHeartbeats 2000000 in
theorem receiveOf_one (b o : Nat) (x : Int) (V : List Int) (cap : Nat) (lost : Int) (w : World) (hw : IntsIn w (some ⟨b, o, none⟩) (x :: V)) (hl : (x :: V).length ≤ cap) (h4 : V.length + 1 ≤ 4) :
    Calls Try.prog 38 #[.agg #[.slice (some ⟨b, o, none⟩) (x :: V).length cap, .int .i64 lost]] w fun e w' => ∃ v, e = .returned (.tuple #[.agg #[v, .int .i64 lost], .int .i64 x]) ∧ w'.ownsRow w.heap.size 3 1 v V.length (ivs V) ∧ Below w.heap.size w w' := by
  have q1 := below_new w (.cells #[.slice (some ⟨b, o, none⟩) (x :: V).length cap, .int .i64 lost] 63)
  have q2 := below_new (w.alloc (.cells #[.slice (some ⟨b, o, none⟩) (x :: V).length cap, .int .i64 lost] 63)) (.cells #[.slice none 0 0, .int .i64 0] 63)
  have B5 := hid (btrans q1 q2)
  have W5 := hid (hw.keep (btrans q1 q2))
  have R3 : Hid (RowAt ((w.alloc (.cells #[.slice (some ⟨b, o, none⟩) (x :: V).length cap, .int .i64 lost] 63)).alloc (.cells #[.slice none 0 0, .int .i64 0] 63)) w.heap.size 63 [.slice (some ⟨b, o, none⟩) (x :: V).length cap, .int .i64 lost]) := hid ((rowAt_new2 w _ [.slice (some ⟨b, o, none⟩) (x :: V).length cap, .int .i64 lost] 63 rfl).alloc _)
  have R5 : Hid (RowAt ((w.alloc (.cells #[.slice (some ⟨b, o, none⟩) (x :: V).length cap, .int .i64 lost] 63)).alloc (.cells #[.slice none 0 0, .int .i64 0] 63)) (w.heap.size + 1) 63 [.slice none 0 0, .int .i64 0]) := hid (rowAt_new2 _ _ [.slice none 0 0, .int .i64 0] 63 (by simp))
  have hbl : b < w.heap.size := by
    obtain ⟨b', o', e, hc⟩ := hw 0 (by simp)
    simp only [Option.some.injEq, Addr.mk.injEq, and_true] at e
    obtain ⟨rfl, rfl⟩ := e
    exact World.block_lt_of_cell? _ _ hc
  simp only [List.length_cons] at *
  clear q1 q2 hw
  generalize hw2 : ((w.alloc (.cells #[.slice (some ⟨b, o, none⟩) (V.length + 1) cap, .int .i64 lost] 63)).alloc (.cells #[.slice none 0 0, .int .i64 0] 63)) = w2 at *
  have HW2 := hid hw2
  clear hw2
  have z0 := R3.out.cell 0 _ rfl
  have z1 := R3.out.cell 1 _ rfl
  have x0 := R5.out.cell 0 _ rfl
  have y0 := R5.out.frozen 0
  have x1 := R5.out.cell 1 _ rfl
  have y1 := R5.out.frozen 1
  have hc0 : w2.cell? ⟨b, o, none⟩ = some (.int .i64 x) := by
    obtain ⟨b', o', e, hc⟩ := W5.out 0 (by simp)
    simp only [Option.some.injEq, Addr.mk.injEq, and_true] at e
    obtain ⟨rfl, rfl⟩ := e
    simpa using hc
  have W6 : Hid (IntsIn w2 (some ⟨b, o + 1, none⟩) V) := hid (by
    intro i hi
    obtain ⟨b', o', e, hc⟩ := W5.out (i + 1) (by simp; omega)
    simp only [Option.some.injEq, Addr.mk.injEq, and_true] at e
    obtain ⟨rfl, rfl⟩ := e
    exact ⟨b, o + 1, rfl, by simpa [Nat.add_assoc, Nat.add_comm 1] using hc⟩)
  have hi1 : (1 : Int) ≤ ((V.length + 1 : Nat) : Int) := by omega
  have hi2 : ((V.length + 1 : Nat) : Int) ≤ (cap : Int) := by omega
  have hi3 : (0 : Int) < ((V.length + 1 : Nat) : Int) := by omega
  have hi4 : (1 : Int) ≤ (V.length : Int) + 1 := by omega
  have hi5 : (0 : Int) < (V.length : Int) + 1 := by omega
  have hi6 : ((V.length : Int) + 1 == 0) = false := by simp; omega
  have hne : ¬ w.heap.size + 1 = w.heap.size := by omega
  have hneb : ¬ w.heap.size + 1 = b := by omega
  have hsz2 : w.heap.size + 1 < w2.heap.size := R5.out.lt
  have hbz : Below w2.heap.size w2 (w2.alloc (.cells #[] 3)).drew := (below_new _ _).drew
  have HS : Hid (∀ w', Below w2.heap.size w2 w' → w'.cell? ⟨w.heap.size, 0, none⟩ = some (.slice (some ⟨b, o, none⟩) (V.length + 1) cap) ∧ w'.cell? ⟨w.heap.size, 1, none⟩ = some (.int .i64 lost) ∧ w'.cell? ⟨b, o, none⟩ = some (.int .i64 x)) := hid fun w' hb => ⟨bkeep hb z0 (Nat.le_refl _), bkeep hb z1 (Nat.le_refl _), bkeep hb hc0 (Nat.le_refl _)⟩
  have HR : Hid (∀ w', Below w2.heap.size w2 w' → RowAt w' (w.heap.size + 1) 63 [.slice none 0 0, .int .i64 0]) := hid fun w' hb => R5.out.below hb (Nat.le_refl _)
  have hown : Hid ((w2.alloc (.cells #[] 3)).drew.ownsRow w2.heap.size 3 1 (.slice (some ⟨w2.heap.size, 0, none⟩) 0 0) 0 []) := hid (World.ownsRow_made w2 #[] 0 (Nat.le_refl _) (by simp [maxLen]) rfl)
  by_cases hcap : cap = 1
  · subst hcap
    obtain rfl : V = [] := List.eq_nil_of_length_eq_zero (by omega)
    have W7 : Hid (IntsIn w2 (some ⟨b, o, none⟩) []) := hid fun i hi => absurd hi (by simp)
    simp only [List.length_nil, Nat.zero_add] at *
    go_enter Try.func38, Try.ntmps38
    go_wp2_with fail
    rw [HW2.out]
    go_region_held3 (fun w' => w'.cell? ⟨w.heap.size, 0, none⟩ = some (.slice (some ⟨b, o, none⟩) 1 1) ∧ w'.cell? ⟨w.heap.size, 1, none⟩ = some (.int .i64 lost) ∧ w'.cell? ⟨b, o, none⟩ = some (.int .i64 x))
      (first | exact HS.out _ hB3 | exact HS.out _ hbz | go_keep)
      (first
        | (refine step_appI (by rfl) _ _ (by rfl) w2.heap.size (.slice (some ⟨w2.heap.size, 0, none⟩) 0 0) 0 [] (by rfl) hown.out [] 0 rfl (some ⟨b, o, none⟩) _ (by rfl) (W7.out.keep hbz) (by simp [maxLen]) (by omega) (by simp) ?_; intro a3 k3 w3 hown3 hgrow3; have hB3 : Below w2.heap.size w2 w3 := hbz.grown hgrow3 (by simp) (fun k hk => by simp [Value.ownBlock] at hk; omega); have u0 := (HR.out _ hB3).cell 0 _ rfl; have u1 := (HR.out _ hB3).cell 1 _ rfl; have f0 := (HR.out _ hB3).frozen 0; have f1 := (HR.out _ hB3).frozen 1; have HO3 : Hid (w3.ownsRow w2.heap.size 3 1 (.slice a3 0 k3) 0 (ivs [])) := hid (by simpa using hown3); clear hown3))
    have R6 := hid (((HR.out _ hB3).setCell 0 (.slice a3 0 k3)).setCell 1 (.int .i64 lost))
    have B6 := hid (((btrans B5.out hB3).setCell (p := ⟨w.heap.size + 1, 0, none⟩) (by show w.heap.size ≤ w.heap.size + 1; omega) (.slice a3 0 k3)).setCell (p := ⟨w.heap.size + 1, 1, none⟩) (by show w.heap.size ≤ w.heap.size + 1; omega) (.int .i64 lost))
    have O6 := hid (ownsx_mono (ownsx_set (ownsx_set HO3.out 0 (.slice a3 0 k3) (b := w.heap.size + 1) hsz2) 1 (.int .i64 lost) (b := w.heap.size + 1) hsz2) (base' := w.heap.size) (by omega))
    clear HO3 HR HS u0 u1 f0 f1
    go_wp2
    have d0 := R6.out.cell 0 _ rfl
    have d1 := R6.out.cell 1 _ rfl
    exact bodyPost_ret (v := .tuple #[.agg #[.slice a3 0 k3, .int .i64 lost], .int .i64 x]) (by simp [results, Try.results38, go_sem, d0, d1]) rfl ⟨_, rfl, O6.out, B6.out⟩
  · go_enter Try.func38, Try.ntmps38
    go_wp2_with fail
    rw [HW2.out]
    go_region_held3 (fun w' => w'.cell? ⟨w.heap.size, 0, none⟩ = some (.slice (some ⟨b, o, none⟩) (V.length + 1) cap) ∧ w'.cell? ⟨w.heap.size, 1, none⟩ = some (.int .i64 lost) ∧ w'.cell? ⟨b, o, none⟩ = some (.int .i64 x))
      (first | exact HS.out _ hB3 | exact HS.out _ hbz | go_keep)
      (first
        | (refine step_appI (by rfl) _ _ (by rfl) w2.heap.size (.slice (some ⟨w2.heap.size, 0, none⟩) 0 0) 0 [] (by rfl) hown.out V V.length rfl (some ⟨b, o + 1, none⟩) _ (by rfl) (W6.out.keep hbz) (by simp [maxLen]; omega) (by omega) (by simp) ?_; intro a3 k3 w3 hown3 hgrow3; have hB3 : Below w2.heap.size w2 w3 := hbz.grown hgrow3 (by simp) (fun k hk => by simp [Value.ownBlock] at hk; omega); have u0 := (HR.out _ hB3).cell 0 _ rfl; have u1 := (HR.out _ hB3).cell 1 _ rfl; have f0 := (HR.out _ hB3).frozen 0; have f1 := (HR.out _ hB3).frozen 1; have HO3 : Hid (w3.ownsRow w2.heap.size 3 1 (.slice a3 V.length k3) V.length (ivs V)) := hid (by simpa using hown3); clear hown3))
    have R6 := hid (((HR.out _ hB3).setCell 0 (.slice a3 V.length k3)).setCell 1 (.int .i64 lost))
    have B6 := hid (((btrans B5.out hB3).setCell (p := ⟨w.heap.size + 1, 0, none⟩) (by show w.heap.size ≤ w.heap.size + 1; omega) (.slice a3 V.length k3)).setCell (p := ⟨w.heap.size + 1, 1, none⟩) (by show w.heap.size ≤ w.heap.size + 1; omega) (.int .i64 lost))
    have O6 := hid (ownsx_mono (ownsx_set (ownsx_set HO3.out 0 (.slice a3 V.length k3) (b := w.heap.size + 1) hsz2) 1 (.int .i64 lost) (b := w.heap.size + 1) hsz2) (base' := w.heap.size) (by omega))
    clear HO3 HR HS u0 u1 f0 f1
    go_wp2
    have d0 := R6.out.cell 0 _ rfl
    have d1 := R6.out.cell 1 _ rfl
    exact bodyPost_ret (v := .tuple #[.agg #[.slice a3 V.length k3, .int .i64 lost], .int .i64 x]) (by simp [results, Try.results38, go_sem, d0, d1]) rfl ⟨_, rfl, O6.out, B6.out⟩

/-- What the document's Receive comes to. -/
theorem receiveOf_any (a : Option Addr) (V : List Int) (cap : Nat) (lost size : Int) (w : World) (hw : IntsIn w a V) (hc : V.length ≤ cap) (h0 : ckR V lost size = 0) :
    Calls Try.prog 38 #[.agg #[.slice a V.length cap, .int .i64 lost]] w fun e w' => ∃ a' c', e = .returned (.tuple #[.agg #[.slice a' (recvV V lost size).length c', .int .i64 (recvL V lost size)], .int .i64 (recvX V lost size)]) ∧ IntsIn w' a' (recvV V lost size) ∧ (∀ b o, a' = some ⟨b, o, none⟩ → recvV V lost size ≠ [] → w.heap.size ≤ b) ∧ Below w.heap.size w w' := by
  cases V with
  | nil =>
    refine (receiveOf_none a cap lost w).mono ?_
    rintro e w' ⟨rfl, hb⟩
    refine ⟨a, cap, by simp [recvL, recvX, recvV, h0], fun i hi => ?_, fun b o e hn => ?_, hb⟩
    · simp [recvV, h0] at hi
    · simp [recvV, h0] at hn
  | cons x V =>
    obtain ⟨b, o, rfl, _⟩ := hw 0 (by simp)
    have hk := ckR_ok h0
    refine (receiveOf_one b o x V cap lost w hw hc (by have := hk.1.2; have := hk.2.1; simp at this; omega)).mono ?_
    rintro e w' ⟨v, rfl, ho, hb⟩
    obtain ⟨a', c', rfl, -, hi, -, -, hq⟩ := ints_own ho
    exact ⟨a', c', by simp [recvL, recvX, recvV, h0], by simpa [recvV, h0] using hi, fun b o e _ => (hq b o e).1, hb⟩

end Go.Proofs.Ytcdglnbkpklefaa
