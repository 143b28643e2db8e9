/- For every config, round and slot, whatever they hold, the law TurnStarts returns true and its arguments read as before: Length and Start answer just what the document says, errors too, and slots begin one behind the other, without a gap. Conditions: none. -/
import Derived.Test.YtaellaconpaejaaEg
import Derived.Test.YtaellaconpaejaaXk
set_option linter.unusedVariables false
namespace Go.Proofs.Ytaellaconpaejaa
open Go.ChangeShapes Go.WideShapes Go.ChangeAt Go.RowKit

theorem starts_all (C : Conf) (B : Mem) (r s : Int) (w : World) (hC : ConfIn w B C) (hc5 : C.sl.length ≤ B.c5) :
    Calls Try.prog 13 #[cv C B, .int .i64 r, .int .i64 s] w fun e w' => e = .returned (.bool true) ∧ Below w.heap.size w w' := by
  by_cases h0 : ckC C = 0
  · cases h1 : inR r 0 8 with
    | false => exact starts_b C B r s w hC hc5 h0 h1
    | true =>
      cases h2 : inR s 0 ((C.sl.length : Int) - 1) with
      | false => exact starts_c C B r s w hC hc5 h0 h1 h2
      | true => exact starts_d C B r s w hC hc5 h0 h1 h2
  · exact starts_a C B r s w hC hc5 h0

set_option maxRecDepth 100000 in
theorem open_conf5 {H : Type} {enc : TypeId × Value → H} {w : World} {b0 : Nat} {v : Value} {d : DataW H} {p : List MemPlace} (hv : Value.okWide Try.prog w .any b0 46 v) (h : DataW.Trod enc Try.prog w 0 (fun _ => true) true 46 v d p) :
    ∃ (C : Conf) (A : Mem), v = cv C A ∧ ConfIn w A C ∧ C.sl.length ≤ A.c5 := by
  obtain ⟨cs, rfl, hsz⟩ := okWide_struct Try.underlying46 hv
  obtain ⟨v0, v1, v2, v3, v4, v5, v6, v7, v8, rfl⟩ := array9 (hsz.trans Try.cells46)
  obtain ⟨fuel, hf⟩ := h
  obtain ⟨xs, n, _, _, _, hlen, hff⟩ := DataW.trod_struct Try.underlying46 hf
  match xs, hlen with
  | [y0, y1, y2, y3, y4, y5, y6, y7, y8], _ =>
    have g0 := hff 0 _ rfl
    have g1 := hff 1 _ rfl
    have g2 := hff 2 _ rfl
    have g3 := hff 3 _ rfl
    have g4 := hff 4 _ rfl
    have g5 := hff 5 _ rfl
    have g6 := hff 6 _ rfl
    have g7 := hff 7 _ rfl
    have g8 := hff 8 _ rfl
    simp [Value.cells, Try.cells3, Try.cells41, Try.cells42, Try.cells43, Try.cells44] at g0 g1 g2 g3 g4 g5 g6 g7 g8
    obtain ⟨n0, e0, _, _⟩ := DataW.trod_int Try.underlying3 g0
    obtain ⟨n1, e1, _, _⟩ := DataW.trod_int Try.underlying3 g1
    obtain ⟨n2, e2, _, _⟩ := DataW.trod_int Try.underlying3 g2
    obtain ⟨n3, e3, _, _⟩ := DataW.trod_int Try.underlying3 g3
    obtain ⟨n4, e4, _, _⟩ := DataW.trod_int Try.underlying3 g4
    simp only [List.cons.injEq, and_true] at e0 e1 e2 e3 e4
    subst e0 e1 e2 e3 e4
    obtain ⟨a5, sl, c5, rfl, i5, k5, l5⟩ := slotsIn_of_trod g5
    obtain ⟨a6, ow, c6, rfl, i6, k6, l6⟩ := intsIn_of_trod g6
    obtain ⟨a7, ch, c7, rfl, i7, k7, l7⟩ := chansIn_of_trod g7
    obtain ⟨a8, ta, c8, rfl, i8, k8, l8⟩ := tasksIn_of_trod g8
    exact ⟨⟨n0, n1, n2, n3, n4, sl, ow, ch, ta⟩, ⟨a5, a6, a7, a8, c5, c6, c7, c8⟩, rfl, ⟨i5, i6, i7, i8, l5, l6, l7, l8, k7⟩, k5⟩

set_option maxRecDepth 100000 in
theorem starts_lifted (os : Os) (started : os.Started) (H : Type) (enc : TypeId × Value → H) :
    ReturnsInHanded {} Try.checked os 13 .any (Rows.turnStartsSpec.pre6 enc Try.prog Try.f13 Rows.turnStartsRow.domain false) (Rows.turnStartsSpec.post enc Try.prog Try.f13 false true false false) := by
  refine returnsInHanded_of_change_sized (C := Try.checked) Try.own started (by kernel_rfl) Try.func13
    (ChangeSpec.witness6 (enc := enc) (C := Try.checked) false ⟨#[], #[.agg #[.int .i64 0, .int .i64 0, .int .i64 0, .int .i64 0, .int .i64 0, .slice none 0 0, .slice none 0 0, .slice none 0 0, .slice none 0 0], .int .i64 0, .int .i64 0], []⟩ 13 (by kernel_rfl) (by kernel_rfl) (by kernel_rfl) (by kernel_rfl)) ?_
  intro W base args ds gs before hval0 hW hcnd hsz0 _
  have hval : ∀ (j : Nat) t v, Try.f13.params[j]? = some t → args[j]? = some v → Value.okWide Try.prog W .any base t v := hval0
  have hW' := hW
  obtain ⟨p, q, hA0, hV, rfl, hfz, hnd⟩ := hW
  have hA : DataW.TrodAll enc Try.prog W 0 (fun _ => true) true Try.f13.params.toList args.toList ds p := hA0
  rw [Try.params13] at hA hval
  obtain ⟨v0, vs0, d0, ds0, p0, q0, hargs, rfl, rfl, h0, r0⟩ := trodAll_cons hA
  obtain ⟨v1, vs1, d1, ds1, p1, q1, rfl, rfl, rfl, h1, r1⟩ := trodAll_cons r0
  obtain ⟨v2, vs2, d2, ds2, p2, q2, rfl, rfl, rfl, h2, r2⟩ := trodAll_cons r1
  obtain ⟨rfl, rfl, rfl⟩ := trodAll_nil r2
  obtain rfl : args = #[v0, v1, v2] := by cases args; simp_all
  obtain ⟨rfl, rfl⟩ := trodVars_none hV
  have k0 := h0
  have lt0 : ∀ x ∈ p0, x.block < W.heap.size := by obtain ⟨m, hm⟩ := k0; exact DataW.trod_lt m _ _ _ hm
  obtain ⟨C, A, rfl, hin, hk5⟩ := open_conf5 (hval 0 46 v0 rfl rfl) h0
  obtain ⟨r, rfl, rfl, rfl, wr⟩ := open_int Try.underlying3 (hval 1 3 v1 rfl rfl) h1
  obtain ⟨s, rfl, rfl, rfl, ws⟩ := open_int Try.underlying3 (hval 2 3 v2 rfl rfl) h2
  clear hA0 hval0 hsz0
  refine (starts_all C A r s W hin hk5).mono fun e W' ⟨he, bel⟩ => ?_
  subst he
  exact ⟨_, rfl, _, _, _, [], _, [], hW', trodAll_mk1 (shut_bool Try.underlying4 _), (trodAll_cons_mk (Below.trod Try.laidOut (by kernel_rfl) (of_decide_eq_true (by kernel_rfl)) k0 bel lt0) (trodAll_cons_mk (shut_int Try.underlying3 wr) (trodAll_cons_mk (shut_int Try.underlying3 ws) trodAll_mk0))), rfl, bel.frame _, fun h => by cases h⟩

/-- The statement. -/
theorem turnStarts_holds : Rows.TurnStartsSaid :=
  OpenClaim.holds_of_wide 13 Try.f13 rfl rfl rfl rfl rfl rfl rfl ⟨rfl, rfl, rfl, rfl, rfl⟩ rfl rfl rfl rfl rfl (by kernel_rfl) Try.func13 (by kernel_rfl)
    (of_decide_eq_true (by kernel_rfl)) (by unfold Func.isWrapper; first | (rw [if_pos (by decide +kernel)]; kernel_rfl) | (rw [if_neg (by decide +kernel)]; exact ⟨rfl, rfl⟩))
    (fun os started H enc _ => starts_lifted os started H enc)

end Go.Proofs.Ytaellaconpaejaa
