/- For every config, domain's number, domain and time, whatever they hold, the law ReadySteady returns true and its arguments read as before: no time that is released twice changes anything, and whoever is picked has no other ahead of it. Condition: the arguments hold together at most 1048576 values. Joined out of the texts Ym, Fh, Fi, Fj, Fk and Steady. -/
import Derived.Test.YtaellaconpaejaaYi
import Derived.Test.YtaellaconpaejaaYl
import Derived.Test.YtaellaconpaejaaFf
import Derived.Test.YtaellaconpaejaaFc
import Derived.Test.YtaellaconpaejaaFg
import Derived.Test.YtaellaconpaejaaGb
import Derived.Test.YtaellaconpaejaaYb
import Derived.Test.YtaellaconpaejaaXk
set_option linter.unusedVariables false
namespace Go.Proofs.Ytaellaconpaejaa
open Go.RowKit

set_option maxRecDepth 100000 in
set_option maxHeartbeats 1000000 in
theorem pick_ok (D : Dom) (A : DMem) (C : Conf) (B : Mem) (dn : Int) (w : World) (hC : ConfIn w B C) (hD : DomIn w A D) (hz : ckD C dn D = 0) (hJ : TasksOk C D.jobs) :
    Calls Try.prog 51 #[cv C B, .int .i64 dn, dv D A] w fun e w' => e = .returned (.tuple #[.int .i64 (pickI C D.jobs), .int .i64 0]) ∧ Below w.heap.size w w' := by
  have q1 := below_new w (.cells (cl C B) 46)
  have q2 := below_new (w.alloc (.cells (cl C B) 46)) (.cells (dl D A) 90)
  have HC := hid (hC.keep (btrans q1 q2))
  have HD := hid (hD.keep (btrans q1 q2))
  have HX := hid ((boxC_new w C B).keep q2)
  have HR := hid (rowAt_new2 (w.alloc (.cells (cl C B) 46)) (w.heap.size + 1) (dl D A).toList 90 (by simp))
  have HB := hid (btrans q1 q2)
  have HZ := hid hz
  have HJ := hid hJ
  clear q1 q2 hC hD hz hJ
  obtain ⟨aJ, aR, aI, aT, aO, aE, cJ, cR, cI, cT, cO, cE⟩ := A
  obtain ⟨a5, a6, a7, a8, c5, c6, c7, c8⟩ := B
  dsimp only [cv, cl, dv, dl] at *
  go_enter Try.func51, Try.ntmps51
  obtain ⟨g0, g1, g2, g3, g4, g5, g6, g7, g8⟩ := HX.out
  have d0 := HR.out.cell 0 _ rfl
  have d1 := HR.out.cell 1 _ rfl
  have d2 := HR.out.cell 2 _ rfl
  have d3 := HR.out.cell 3 _ rfl
  have d4 := HR.out.cell 4 _ rfl
  have d5 := HR.out.cell 5 _ rfl
  have d6 := HR.out.cell 6 _ rfl
  go_wp2_with fail
  refine (checkD_any D ⟨aJ, aR, aI, aT, aO, aE, cJ, cR, cI, cT, cO, cE⟩ C ⟨a5, a6, a7, a8, c5, c6, c7, c8⟩ dn _ HC.out HD.out).mono ?_
  rintro e w1 ⟨rfl, hb1⟩
  rw [HZ.out]
  generalize World.alloc (World.alloc w _) _ = W at *
  clear g0 g1 g2 g3 g4 g5 g6 g7 g8 d0 d1 d2 d3 d4 d5 d6
  obtain ⟨g0, g1, g2, g3, g4, g5, g6, g7, g8⟩ := HX.out.keep hb1
  have r := HR.out.below hb1 (Nat.le_refl _)
  have d0 := r.cell 0 _ rfl
  have d1 := r.cell 1 _ rfl
  have d2 := r.cell 2 _ rfl
  have d3 := r.cell 3 _ rfl
  have d4 := r.cell 4 _ rfl
  have d5 := r.cell 5 _ rfl
  have d6 := r.cell 6 _ rfl
  have v1 := below_new w1 (.cells (kl D ⟨aJ, aR, aI, aT, aO, aE, cJ, cR, cI, cT, cO, cE⟩ C ⟨a5, a6, a7, a8, c5, c6, c7, c8⟩ dn).toArray 140)
  have HK : Hid (KeepIn (w1.alloc (.cells (kl D ⟨aJ, aR, aI, aT, aO, aE, cJ, cR, cI, cT, cO, cE⟩ C ⟨a5, a6, a7, a8, c5, c6, c7, c8⟩ dn).toArray 140)) w1.heap.size D ⟨aJ, aR, aI, aT, aO, aE, cJ, cR, cI, cT, cO, cE⟩ C ⟨a5, a6, a7, a8, c5, c6, c7, c8⟩ dn) := hid ⟨rowAt_new2 w1 w1.heap.size (kl D ⟨aJ, aR, aI, aT, aO, aE, cJ, cR, cI, cT, cO, cE⟩ C ⟨a5, a6, a7, a8, c5, c6, c7, c8⟩ dn) 140 rfl, (HD.out.keep hb1).keep v1, (HC.out.keep hb1).keep v1⟩
  have HB2 := hid (btrans HB.out (btrans hb1 v1))
  clear r v1 hb1 HC HD HX HR HB
  go_wp2_with fail
  refine (first_any w1.heap.size D ⟨aJ, aR, aI, aT, aO, aE, cJ, cR, cI, cT, cO, cE⟩ C ⟨a5, a6, a7, a8, c5, c6, c7, c8⟩ dn _ HK.out HJ.out).mono ?_
  rintro e w2 ⟨rfl, hb2⟩
  generalize hq : pickI C D.jobs = q at *
  have HQ := hid hq
  clear hq g0 g1 g2 g3 g4 g5 g6 g7 g8 d0 d1 d2 d3 d4 d5 d6
  go_wp2
  go_ret2
  exact ⟨by rw [HQ.out]; rfl, btrans HB2.out hb2⟩

end Go.Proofs.Ytaellaconpaejaa

namespace Go.Proofs.Ytaellaconpaejaa
open Go.RowKit Go.Shelf
attribute [local go_sem] Oper.semAt_some

/-- The sooner of both, where below 0 is none. -/
def soon (s c : Int) : Int := if s < 0 then c else if c < s then c else s
/-- When the next job of these tasks comes. -/
def dueL (C : Conf) (D : Dom) (l : List NT) : Int := l.foldl (fun s x => soon s (comesAt C D x.1)) (-1)
theorem dueL_snoc (C : Conf) (D : Dom) (l : List NT) (x : NT) : dueL C D (l ++ [x]) = soon (dueL C D l) (comesAt C D x.1) := by simp [dueL]

set_option maxRecDepth 100000 in
set_option maxHeartbeats 4000000 in
theorem due_ok (D : Dom) (A : DMem) (C : Conf) (B : Mem) (dn : Int) (w : World) (hC : ConfIn w B C) (hD : DomIn w A D) (hz : ckD C dn D = 0) :
    Calls Try.prog 52 #[cv C B, .int .i64 dn, dv D A] w fun e w' => e = .returned (.tuple #[.int .i64 (dueL C D (ownT C dn C.ta.length)), .int .i64 0]) ∧ Below w.heap.size w w' := by
  have q1 := below_new w (.cells (cl C B) 46)
  have q2 := below_new (w.alloc (.cells (cl C B) 46)) (.cells (dl D A) 90)
  have HC := hid (hC.keep (btrans q1 q2))
  have HD := hid (hD.keep (btrans q1 q2))
  have HX := hid ((boxC_new w C B).keep q2)
  have HR := hid (rowAt_new2 (w.alloc (.cells (cl C B) 46)) (w.heap.size + 1) (dl D A).toList 90 (by simp))
  have HB := hid (btrans q1 q2)
  have HCW := hid hC
  have HDW := hid hD
  have HZ := hid hz
  clear q1 q2 hC hD hz
  obtain ⟨aJ, aR, aI, aT, aO, aE, cJ, cR, cI, cT, cO, cE⟩ := A
  obtain ⟨a5, a6, a7, a8, c5, c6, c7, c8⟩ := B
  dsimp only [cv, cl, dv, dl] at *
  refine (callsIn_wide (n := 6)).1 (callsIn_of_wp_marks Try.func52 rfl trivial ?_ rfl)
  refine wpIn_wide.2 ?_
  simp only [Try.ntmps52, List.size_toArray, List.length_cons, List.length_nil, Nat.reduceAdd, Nat.reduceSub, Array.replicate_succ, Array.replicate_zero, List.push_toArray, List.append_toArray, List.nil_append, List.cons_append]
  obtain ⟨g0, g1, g2, g3, g4, g5, g6, g7, g8⟩ := HX.out
  have d0 := HR.out.cell 0 _ rfl
  have d1 := HR.out.cell 1 _ rfl
  have d2 := HR.out.cell 2 _ rfl
  have d3 := HR.out.cell 3 _ rfl
  have d4 := HR.out.cell 4 _ rfl
  have d5 := HR.out.cell 5 _ rfl
  have d6 := HR.out.cell 6 _ rfl
  go_wp2_with fail
  refine (checkD_any D ⟨aJ, aR, aI, aT, aO, aE, cJ, cR, cI, cT, cO, cE⟩ C ⟨a5, a6, a7, a8, c5, c6, c7, c8⟩ dn _ HC.out HD.out).mono ?_
  rintro e w1 ⟨rfl, hb1⟩
  rw [HZ.out]
  generalize World.alloc (World.alloc w _) _ = W at *
  clear g0 g1 g2 g3 g4 g5 g6 g7 g8 d0 d1 d2 d3 d4 d5 d6
  have HB1 := hid (btrans HB.out hb1)
  obtain ⟨g0, g1, g2, g3, g4, g5, g6, g7, g8⟩ := HX.out.keep hb1
  have r := HR.out.below hb1 (Nat.le_refl _)
  have d0 := r.cell 0 _ rfl
  have d1 := r.cell 1 _ rfl
  have d2 := r.cell 2 _ rfl
  have d3 := r.cell 3 _ rfl
  have d4 := r.cell 4 _ rfl
  have d5 := r.cell 5 _ rfl
  have d6 := r.cell 6 _ rfl
  clear r hb1 HC HD HX HR HB
  go_wp2_with fail
  refine ((callsIn_wide (n := 5)).1 (tasks_in 5 _ _)).mono ?_
  rintro e w' ⟨rfl, tt, rfl⟩
  have q3 := below_new w1 (.cells #[.slice aJ D.jobs.length cJ, .slice aR D.rel.length cR, .int .i64 D.nxt, .slice aI D.ins.length cI, .slice aT D.tak.length cT, .slice aO D.out.length cO, .slice aE D.evs.length cE, .int .i64 C.s, .int .i64 C.w, .int .i64 C.d, .int .i64 C.p, .int .i64 C.q, .slice a5 C.sl.length c5, .slice a6 C.ow.length c6, .slice a7 C.ch.length c7, .slice a8 C.ta.length c8, .int .i64 dn] 140)
  have q4 := below_new (w1.alloc (.cells #[.slice aJ D.jobs.length cJ, .slice aR D.rel.length cR, .int .i64 D.nxt, .slice aI D.ins.length cI, .slice aT D.tak.length cT, .slice aO D.out.length cO, .slice aE D.evs.length cE, .int .i64 C.s, .int .i64 C.w, .int .i64 C.d, .int .i64 C.p, .int .i64 C.q, .slice a5 C.sl.length c5, .slice a6 C.ow.length c6, .slice a7 C.ch.length c7, .slice a8 C.ta.length c8, .int .i64 dn] 140)) (.cells #[.int .i64 (-1)] 3)
  have q5 := below_new ((w1.alloc (.cells #[.slice aJ D.jobs.length cJ, .slice aR D.rel.length cR, .int .i64 D.nxt, .slice aI D.ins.length cI, .slice aT D.tak.length cT, .slice aO D.out.length cO, .slice aE D.evs.length cE, .int .i64 C.s, .int .i64 C.w, .int .i64 C.d, .int .i64 C.p, .int .i64 C.q, .slice a5 C.sl.length c5, .slice a6 C.ow.length c6, .slice a7 C.ch.length c7, .slice a8 C.ta.length c8, .int .i64 dn] 140)).alloc (.cells #[.int .i64 (-1)] 3)) (.cells #[.pointer (some ⟨w1.heap.size, 0, none⟩)] tt)
  have RK := hid ((rowAt_new2 w1 w1.heap.size [.slice aJ D.jobs.length cJ, .slice aR D.rel.length cR, .int .i64 D.nxt, .slice aI D.ins.length cI, .slice aT D.tak.length cT, .slice aO D.out.length cO, .slice aE D.evs.length cE, .int .i64 C.s, .int .i64 C.w, .int .i64 C.d, .int .i64 C.p, .int .i64 C.q, .slice a5 C.sl.length c5, .slice a6 C.ow.length c6, .slice a7 C.ch.length c7, .slice a8 C.ta.length c8, .int .i64 dn] 140 rfl).below (btrans q4 q5) (Nat.le_refl _))
  have RS := hid ((rowAt_new2 (w1.alloc (.cells #[.slice aJ D.jobs.length cJ, .slice aR D.rel.length cR, .int .i64 D.nxt, .slice aI D.ins.length cI, .slice aT D.tak.length cT, .slice aO D.out.length cO, .slice aE D.evs.length cE, .int .i64 C.s, .int .i64 C.w, .int .i64 C.d, .int .i64 C.p, .int .i64 C.q, .slice a5 C.sl.length c5, .slice a6 C.ow.length c6, .slice a7 C.ch.length c7, .slice a8 C.ta.length c8, .int .i64 dn] 140)) (w1.heap.size + 1) [.int .i64 (-1)] 3 (by simp)).below q5 (Nat.le_refl _))
  have hBk : (((w1.alloc (.cells #[.slice aJ D.jobs.length cJ, .slice aR D.rel.length cR, .int .i64 D.nxt, .slice aI D.ins.length cI, .slice aT D.tak.length cT, .slice aO D.out.length cO, .slice aE D.evs.length cE, .int .i64 C.s, .int .i64 C.w, .int .i64 C.d, .int .i64 C.p, .int .i64 C.q, .slice a5 C.sl.length c5, .slice a6 C.ow.length c6, .slice a7 C.ch.length c7, .slice a8 C.ta.length c8, .int .i64 dn] 140)).alloc (.cells #[.int .i64 (-1)] 3)).alloc (.cells #[.pointer (some ⟨w1.heap.size, 0, none⟩)] tt)).cell? ⟨w1.heap.size + 1 + 1, 0, none⟩ = some (.pointer (some ⟨w1.heap.size, 0, none⟩)) := by
    have := (Boxed.new ((w1.alloc (.cells #[.slice aJ D.jobs.length cJ, .slice aR D.rel.length cR, .int .i64 D.nxt, .slice aI D.ins.length cI, .slice aT D.tak.length cT, .slice aO D.out.length cO, .slice aE D.evs.length cE, .int .i64 C.s, .int .i64 C.w, .int .i64 C.d, .int .i64 C.p, .int .i64 C.q, .slice a5 C.sl.length c5, .slice a6 C.ow.length c6, .slice a7 C.ch.length c7, .slice a8 C.ta.length c8, .int .i64 dn] 140)).alloc (.cells #[.int .i64 (-1)] 3)) tt (.pointer (some ⟨w1.heap.size, 0, none⟩))).cell
    simp only [World.size_alloc] at this
    exact this
  have HB0 := hid (btrans HB1.out (btrans q3 (btrans q4 q5)))
  have HS0 : Hid ((((w1.alloc (.cells #[.slice aJ D.jobs.length cJ, .slice aR D.rel.length cR, .int .i64 D.nxt, .slice aI D.ins.length cI, .slice aT D.tak.length cT, .slice aO D.out.length cO, .slice aE D.evs.length cE, .int .i64 C.s, .int .i64 C.w, .int .i64 C.d, .int .i64 C.p, .int .i64 C.q, .slice a5 C.sl.length c5, .slice a6 C.ow.length c6, .slice a7 C.ch.length c7, .slice a8 C.ta.length c8, .int .i64 dn] 140)).alloc (.cells #[.int .i64 (-1)] 3)).alloc (.cells #[.pointer (some ⟨w1.heap.size, 0, none⟩)] tt)).heap.size = w1.heap.size + 3) := hid (by simp)
  generalize (((w1.alloc (.cells #[.slice aJ D.jobs.length cJ, .slice aR D.rel.length cR, .int .i64 D.nxt, .slice aI D.ins.length cI, .slice aT D.tak.length cT, .slice aO D.out.length cO, .slice aE D.evs.length cE, .int .i64 C.s, .int .i64 C.w, .int .i64 C.d, .int .i64 C.p, .int .i64 C.q, .slice a5 C.sl.length c5, .slice a6 C.ow.length c6, .slice a7 C.ch.length c7, .slice a8 C.ta.length c8, .int .i64 dn] 140)).alloc (.cells #[.int .i64 (-1)] 3)).alloc (.cells #[.pointer (some ⟨w1.heap.size, 0, none⟩)] tt)) = W0 at *
  clear q3 q4 q5 g0 g1 g2 g3 g4 g5 g6 g7 g8 d0 d1 d2 d3 d4 d5 d6
  have hs0 := HS0.out
  have hwsz := HB1.out.size
  have HKI : Hid (∀ wx, Keeps (fun x => x = w1.heap.size + 1) W0 wx → KeepIn wx w1.heap.size D ⟨aJ, aR, aI, aT, aO, aE, cJ, cR, cI, cT, cO, cE⟩ C ⟨a5, a6, a7, a8, c5, c6, c7, c8⟩ dn) := hid fun wx h => by
    have hb : Below (w1.heap.size + 1) W0 wx := h.to_below (by omega) (fun x hx => by omega)
    have hw : Below w.heap.size w wx := HB0.out.trans (hb.mono (by omega))
    exact ⟨(hb.block _ (by omega)).trans RK.out, HDW.out.keep hw, HCW.out.keep hw⟩
  have hK0 := HKI.out W0 (Keeps.refl _ _)
  have k15 := hK0.row.cell 15 _ rfl
  have k16 := hK0.row.cell 16 _ rfl
  have hTA := hK0.con.ta
  have ha8 : ∀ b o, a8 = some ⟨b, o, none⟩ → 0 < C.ta.length → b < w.heap.size := tasksIn_lt HCW.out.ta
  have hlt : C.ta.length ≤ 9223372036854775807 := HCW.out.l8
  have HTK : Hid (∀ W W', Keeps (fun x => x = w1.heap.size + 1) W0 W → Keeps (fun x => x = w1.heap.size + 1) W0 W' → W.heap.size ≤ W'.heap.size → TK (w1.heap.size + 1 + 1) w1.heap.size a8 C.ta.length W W') := hid fun W W' h h' hs =>
    TK.of_heap hs ((h'.same _ (by omega) (by omega)).trans (h.same _ (by omega) (by omega)).symm) ((h'.same _ (by omega) (by omega)).trans (h.same _ (by omega) (by omega)).symm) (fun b o e hn => by
      have hb := ha8 b o e hn
      exact (h'.same _ (by omega) (by omega)).trans (h.same _ (by omega) (by omega)).symm)
  clear hK0
  go_wp2
  refine (wpIn_wide (n := 6)).1 ?_
  refine wpIn_rangeFunc_ownH rfl (by omega) (gf := 135) (lb := #[.pointer (some ⟨w1.heap.size + 1 + 1, 0, none⟩)]) rfl trivial (enters_of Try.func135 (by kernel_rfl) rfl)
    (tasks_stops2 (6 - 1) (by omega) (w1.heap.size + 1 + 1) w1.heap.size (w1.heap.size + 3) C a8 c8 dn (by omega) (by omega) hlt W0 hBk k15 k16 hTA (fun b o e h => by have := ha8 b o e h; omega) (by omega))
    TK.trans (TK.book (by omega) (by omega) (fun b o e h => by have := ha8 b o e h; omega)) (Below.refl _ _) (fun _ => rfl)
    (fun (pre : List (OT C dn)) W => Keeps (fun x => x = w1.heap.size + 1) W0 W ∧ RowAt W (w1.heap.size + 1) 3 [.int .i64 (dueL C D (pre.map (·.1)))])
    (fun c pre W => False)
    (fun pre W W' row hs hg hr => ⟨hs.1.grown hg (fun x e => .inr (hr x e).1), by
      have h1 := hg.block (w1.heap.size + 1) hs.2.lt (fun e => by have := (hr _ e.symm).1; omega)
      have h2 : W.heap[w1.heap.size + 1]? = _ := hs.2
      exact h1.trans h2⟩)
    (fun c => ownFrom_pure _ _)
    ⟨Keeps.refl _ _, RS.out⟩
    (fun y a' W => a' = { tmps := #[.agg #[.int .i64 C.s, .int .i64 C.w, .int .i64 C.d, .int .i64 C.p, .int .i64 C.q, .slice a5 C.sl.length c5, .slice a6 C.ow.length c6, .slice a7 C.ch.length c7, .slice a8 C.ta.length c8], .int .i64 dn, .agg #[.slice aJ D.jobs.length cJ, .slice aR D.rel.length cR, .int .i64 D.nxt, .slice aI D.ins.length cI, .slice aT D.tak.length cT, .slice aO D.out.length cO, .slice aE D.evs.length cE], .pointer (some ⟨w.heap.size, 0, none⟩), undef, .pointer (some ⟨w.heap.size + 1, 0, none⟩), .int .i64 0, .int .i64 0, .int .i64 0, .pointer (some ⟨w1.heap.size, 0, none⟩), .pointer (some ⟨w1.heap.size + 1, 0, none⟩), .int .i64 (y.1.1 : Int), undef, .agg #[.int .i64 C.s, .int .i64 C.w, .int .i64 C.d, .int .i64 C.p, .int .i64 C.q, .slice a5 C.sl.length c5, .slice a6 C.ow.length c6, .slice a7 C.ch.length c7, .slice a8 C.ta.length c8], .int .i64 dn, .agg #[.slice aJ D.jobs.length cJ, .slice aR D.rel.length cR, .int .i64 D.nxt, .slice aI D.ins.length cI, .slice aT D.tak.length cT, .slice aO D.out.length cO, .slice aE D.evs.length cE], .int .i64 0, .int .i64 0, .bool false, undef, .agg #[.slice aJ D.jobs.length cJ, .slice aR D.rel.length cR, .int .i64 D.nxt, .slice aI D.ins.length cI, .slice aT D.tak.length cT, .slice aO D.out.length cO, .slice aE D.evs.length cE], .agg #[.int .i64 C.s, .int .i64 C.w, .int .i64 C.d, .int .i64 C.p, .int .i64 C.q, .slice a5 C.sl.length c5, .slice a6 C.ow.length c6, .slice a7 C.ch.length c7, .slice a8 C.ta.length c8], .int .i64 dn, .agg #[.slice aJ D.jobs.length cJ, .slice aR D.rel.length cR, .int .i64 D.nxt, .slice aI D.ins.length cI, .slice aT D.tak.length cT, .slice aO D.out.length cO, .slice aE D.evs.length cE, .int .i64 C.s, .int .i64 C.w, .int .i64 C.d, .int .i64 C.p, .int .i64 C.q, .slice a5 C.sl.length c5, .slice a6 C.ow.length c6, .slice a7 C.ch.length c7, .slice a8 C.ta.length c8, .int .i64 dn], .func (.func 135) #[] #[.pointer (some ⟨w1.heap.size + 1 + 1, 0, none⟩)], .int .i64 (y.1.1 : Int), .agg #[.int .i64 y.1.2.1, .int .i64 y.1.2.2.1, .int .i64 y.1.2.2.2.1, .int .i64 y.1.2.2.2.2], undef, undef, undef, undef, undef, undef, undef, undef, undef, undef, undef], defers := [] })
    (fun y a' => ownFrom_pure _ _)
    ?assign ?body ?done ?stop
  case assign =>
    rintro l pre y W K hI hK
    dsimp only [encT]
    gi_wp2
    exact hK _ _ (KeepsFrom.refl _ _) (TK.refl _ _ _ _ _) hI rfl
  case stop =>
    rintro Dd c pre W hD hS hF
    exact hF.elim
  case body =>
    rintro l pre ⟨⟨k, tk0⟩, hy⟩ a' W hl ⟨r, hr⟩ ⟨hKp, hRow⟩ rfl hlen
    have hown := own_mem _ hy
    dsimp only at hown
    have HEnd : Hid (dueL C D ((pre ++ [(⟨(k, tk0), hy⟩ : OT C dn)]).map (·.1)) = soon (dueL C D (pre.map (·.1))) (comesAt C D k)) := hid (by rw [List.map_append]; exact dueL_snoc C D _ _)
    generalize dueL C D (pre.map (·.1)) = s at *
    have hsh := ckShp_iff.1 (ckD_iff.1 HZ.out).2.1
    have C99 := hid (comes_any w1.heap.size D ⟨aJ, aR, aI, aT, aO, aE, cJ, cR, cI, cT, cO, cE⟩ C ⟨a5, a6, a7, a8, c5, c6, c7, c8⟩ dn k W (HKI.out W hKp) hown.1 (by omega))
    generalize comesAt C D k = c at *
    have HKp := hid hKp
    have HRow := hid hRow
    clear hKp hRow hTA k15 k16 hBk
    gi_wp2
    refine ⟨trivial, (CallsIn.inRound l (callsIn_wide.2 C99.out)).mono ?_⟩
    rintro e w5 ⟨rfl, hb5⟩
    have HKp5 := hid (HKp.out.below hb5)
    have HR5 := hid (HRow.out.below hb5 (Nat.le_refl _))
    have HO5 := hid (keepsOthers_below hb5)
    have s0 := HR5.out.cell 0 _ rfl
    have f0 := HR5.out.frozen 0
    clear hb5 C99
    by_cases h1 : s < 0
    · have HE2 : Hid (soon s c = c) := hid (by simp [soon, h1])
      gi_wp2
      exact ⟨(HO5.out.trans (KeepsOthers.setCell _ _ _)).from _, HTK.out _ _ HKp.out (HKp5.out.set (.inl rfl) 0 _) (by have := HO5.out.size; simpa using this), HKp5.out.set (.inl rfl) 0 _, by rw [HEnd.out, HE2.out]; exact rowAt_set1 HR5.out 0 _⟩
    · by_cases h2 : c < s
      · have HE2 : Hid (soon s c = c) := hid (by simp [soon, h1, h2])
        gi_wp2
        exact ⟨(HO5.out.trans (KeepsOthers.setCell _ _ _)).from _, HTK.out _ _ HKp.out (HKp5.out.set (.inl rfl) 0 _) (by have := HO5.out.size; simpa using this), HKp5.out.set (.inl rfl) 0 _, by rw [HEnd.out, HE2.out]; exact rowAt_set1 HR5.out 0 _⟩
      · have HE2 : Hid (soon s c = s) := hid (by simp [soon, h1, h2])
        gi_wp2
        exact ⟨HO5.out.from _, HTK.out _ _ HKp.out HKp5.out HO5.out.size, HKp5.out, by rw [HEnd.out, HE2.out]; exact HR5.out⟩
  case done =>
    rintro Dd ys W hD hS ⟨hKp, hRow⟩ hdf
    have hys : ys.map (·.1) = ownT C dn C.ta.length := hS
    rw [hys] at hRow
    have s0 := hRow.cell 0 _ rfl
    have HBF : Hid (Below w.heap.size w W) := hid (HB0.out.trans (hKp.to_below (by omega) (fun x hx => by omega)))
    have HDF := hid hdf
    have HD9 := hid hD
    generalize hdl : dueL C D (ownT C dn C.ta.length) = du at *
    have HDL := hid hdl
    clear hdf hdl hTA k15 k16 hBk
    go_wp2
    refine ⟨by simp, .inl ⟨_, _, rfl, run_takeDeferred HDF.out, ?_⟩⟩
    refine ⟨.tuple #[.int .i64 du, .int .i64 0], ?_, by rw [HDL.out], HBF.out.trans (belowK_b (w := w) (Nat.le_refl _) W Dd _ _ (by have := HD9.out; omega) HDF.out rfl rfl)⟩
    simp [results, Try.results52, go_sem]

end Go.Proofs.Ytaellaconpaejaa

namespace Go.Proofs.Ytaellaconpaejaa
open Go.RowKit

/-- The domain of the one config at 40. -/
def oneD : Dom := ⟨[((0 : Int), 0, 0, 0, false, true)], [1], 0, [], [], [], [((0 : Int), 2, 0, 0), (30, 6, 0, 0)]⟩
theorem one_own : ownT oneC 0 oneC.ta.length = [(0, 0, 50, 40, 30)] := by decide
theorem one_step : relStep oneC 0 (newD oneC) = ⟨[((0 : Int), 0, 0, 0, false, false)], [1], 0, [], [], [], [((0 : Int), 2, 0, 0)]⟩ := by kernel_rfl
theorem one_miss : missN oneC 40 1 ⟨[((0 : Int), 0, 0, 0, false, false)], [1], 0, [], [], [], [((0 : Int), 2, 0, 0)]⟩ = oneD := by kernel_rfl
theorem one_rel : relD oneC 0 40 (newD oneC) = oneD := by
  have e1 : relAll oneC 0 40 (newD oneC) = ⟨[((0 : Int), 0, 0, 0, false, false)], [1], 0, [], [], [], [((0 : Int), 2, 0, 0)]⟩ := by
    unfold relAll
    rw [one_own]
    show relT oneC 40 0 (newD oneC) = _
    have h1 : relT oneC 40 0 (newD oneC) = relN oneC 40 0 100000 (newD oneC) := rfl
    have g1 : goOn oneC 40 0 (newD oneC) = true := by kernel_rfl
    have g2 : goOn oneC 40 0 (relStep oneC 0 (newD oneC)) = false := by kernel_rfl
    rw [h1, relN_go 99999 g1, relN_stop _ g2]
    exact one_step
  unfold relD
  rw [e1]
  exact one_miss
theorem one_pick : pickI oneC oneD.jobs = 0 := by kernel_rfl
theorem one_due : dueL oneC oneD (ownT oneC 0 oneC.ta.length) = 50 := by
  rw [one_own]
  kernel_rfl
theorem one_ckD : ckD oneC 0 oneD = 0 := by kernel_rfl

theorem rel_one (A8 : Mem) (jJ jR jI jT jO jE : Option Addr) (kJ kR kI kT kO kE : Nat) (w : World) (hC : ConfIn w A8 oneC) (hD : DomIn w ⟨jJ, jR, jI, jT, jO, jE, kJ, kR, kI, kT, kO, kE⟩ (newD oneC)) :
    Calls Try.prog 50 #[cv oneC A8, .int .i64 0, .agg #[.slice jJ 0 kJ, .slice jR 1 kR, .int .i64 0, .slice jI 0 kI, .slice jT 0 kT, .slice jO 0 kO, .slice jE 0 kE], .int .i64 40] w fun e w' => ∃ xJ xR xI xT xO xE mJ mR mI mT mO mE, e = .returned (.tuple #[.agg #[.slice xJ 1 mJ, .slice xR 1 mR, .int .i64 0, .slice xI 0 mI, .slice xT 0 mT, .slice xO 0 mO, .slice xE 2 mE], .int .i64 0]) ∧ (∀ wx : World, (∀ x, w.heap.size ≤ x → wx.heap[x]? = w'.heap[x]?) → DomIn wx ⟨xJ, xR, xI, xT, xO, xE, mJ, mR, mI, mT, mO, mE⟩ oneD) ∧ Below w.heap.size w w' := by
  refine (rel50_ok (newD oneC) ⟨jJ, jR, jI, jT, jO, jE, kJ, kR, kI, kT, kO, kE⟩ oneC A8 0 40 w hC hD one_new (by decide) (by decide)).mono ?_
  rintro e w' ⟨A', rfl, h1, h2⟩
  rw [one_rel] at h1 ⊢
  obtain ⟨xJ, xR, xI, xT, xO, xE, mJ, mR, mI, mT, mO, mE⟩ := A'
  exact ⟨xJ, xR, xI, xT, xO, xE, mJ, mR, mI, mT, mO, mE, rfl, h1, h2⟩
theorem pick_one (A8 : Mem) (xJ xR xI xT xO xE : Option Addr) (mJ mR mI mT mO mE : Nat) (w : World) (hC : ConfIn w A8 oneC) (hD : DomIn w ⟨xJ, xR, xI, xT, xO, xE, mJ, mR, mI, mT, mO, mE⟩ oneD) :
    Calls Try.prog 51 #[cv oneC A8, .int .i64 0, .agg #[.slice xJ 1 mJ, .slice xR 1 mR, .int .i64 0, .slice xI 0 mI, .slice xT 0 mT, .slice xO 0 mO, .slice xE 2 mE]] w fun e w' => e = .returned (.tuple #[.int .i64 0, .int .i64 0]) ∧ Below w.heap.size w w' := by
  refine (pick_ok oneD ⟨xJ, xR, xI, xT, xO, xE, mJ, mR, mI, mT, mO, mE⟩ oneC A8 0 w hC hD one_ckD (tasksOk_of one_ckD)).mono ?_
  rintro e w' ⟨rfl, h2⟩
  rw [one_pick]
  exact ⟨rfl, h2⟩
theorem due_one (A8 : Mem) (xJ xR xI xT xO xE : Option Addr) (mJ mR mI mT mO mE : Nat) (w : World) (hC : ConfIn w A8 oneC) (hD : DomIn w ⟨xJ, xR, xI, xT, xO, xE, mJ, mR, mI, mT, mO, mE⟩ oneD) :
    Calls Try.prog 52 #[cv oneC A8, .int .i64 0, .agg #[.slice xJ 1 mJ, .slice xR 1 mR, .int .i64 0, .slice xI 0 mI, .slice xT 0 mT, .slice xO 0 mO, .slice xE 2 mE]] w fun e w' => e = .returned (.tuple #[.int .i64 50, .int .i64 0]) ∧ Below w.heap.size w w' := by
  refine (due_ok oneD ⟨xJ, xR, xI, xT, xO, xE, mJ, mR, mI, mT, mO, mE⟩ oneC A8 0 w hC hD one_ckD).mono ?_
  rintro e w' ⟨rfl, h2⟩
  rw [one_due]
  exact ⟨rfl, h2⟩
theorem check_one (A8 : Mem) (xJ xR xI xT xO xE : Option Addr) (mJ mR mI mT mO mE : Nat) (w : World) (hC : ConfIn w A8 oneC) (hD : DomIn w ⟨xJ, xR, xI, xT, xO, xE, mJ, mR, mI, mT, mO, mE⟩ oneD) :
    Calls Try.prog 61 #[cv oneC A8, .int .i64 0, .agg #[.slice xJ 1 mJ, .slice xR 1 mR, .int .i64 0, .slice xI 0 mI, .slice xT 0 mT, .slice xO 0 mO, .slice xE 2 mE]] w fun e w' => e = .returned (.int .i64 0) ∧ Below w.heap.size w w' := by
  refine (checkD_any oneD ⟨xJ, xR, xI, xT, xO, xE, mJ, mR, mI, mT, mO, mE⟩ oneC A8 0 w hC hD).mono ?_
  rintro e w' ⟨rfl, h2⟩
  rw [one_ckD]
  exact ⟨rfl, h2⟩

set_option maxRecDepth 100000 in
set_option maxHeartbeats 2000000 in
theorem readyBegun_any (w : World) : Calls Try.prog 59 #[] w fun e w' => e = .returned (.bool true) ∧ Below w.heap.size w w' := by
  go_enter Try.func59, Try.ntmps59
  go_wp2_with fail
  refine (oneV5_any _).mono ?_
  rintro e w1 ⟨A1, rfl, hC1, hk1, hb1⟩
  have HC1 := hid hC1
  clear hC1 hk1
  go_wp2_with fail
  refine (newD_any oneC A1 0 _ HC1.out one_ck (by decide)).mono ?_
  rintro e w2 ⟨A2, rfl, hD2, hb2⟩
  have HB2 := hid (btrans hb1 hb2)
  have HD2 := hid hD2
  clear hb1 hb2 HC1 hD2
  obtain ⟨jJ, jR, jI, jT, jO, jE, kJ, kR, kI, kT, kO, kE⟩ := A2
  have q3 := below_new w2 (.cells #[.slice jJ 0 kJ, .slice jR 1 kR, .int .i64 0, .slice jI 0 kI, .slice jT 0 kT, .slice jO 0 kO, .slice jE 0 kE] 90)
  have HD3 := hid (HD2.out.keep q3)
  have HR3 := hid (rowAt_new2 w2 w2.heap.size [.slice jJ 0 kJ, .slice jR 1 kR, .int .i64 0, .slice jI 0 kI, .slice jT 0 kT, .slice jO 0 kO, .slice jE 0 kE] 90 rfl)
  have HB3 := hid (btrans HB2.out q3)
  clear q3 HD2
  simp only [dv, dl, newD, oneC, List.length_nil, List.length_replicate, List.length_cons, Nat.zero_add]
  go_upto_region 2 with fail
  generalize World.alloc w2 _ = w3 at *
  have d0 := HR3.out.cell 0 _ rfl
  have d1 := HR3.out.cell 1 _ rfl
  have d2 := HR3.out.cell 2 _ rfl
  have d3 := HR3.out.cell 3 _ rfl
  have d4 := HR3.out.cell 4 _ rfl
  have d5 := HR3.out.cell 5 _ rfl
  have d6 := HR3.out.cell 6 _ rfl
  go_cut [3] (fun o wx => ∃ xJ xR xI xT xO xE mJ mR mI mT mO mE, o = .int .i64 0 ∧ RowAt wx w2.heap.size 90 [.slice xJ 1 mJ, .slice xR 1 mR, .int .i64 0, .slice xI 0 mI, .slice xT 0 mT, .slice xO 0 mO, .slice xE 2 mE] ∧ DomIn wx ⟨xJ, xR, xI, xT, xO, xE, mJ, mR, mI, mT, mO, mE⟩ oneD ∧ Below w.heap.size w wx)
  case first =>
    go_region_with (first
      | (go_at_call 79; refine (oneV5_any _).mono ?_; rintro e w8 ⟨A8, rfl, hC8, hk8, hb8⟩; have HC8 := hid hC8; have r8 := HR3.out.below (btrans (Below.refl _ _).drew hb8) (Nat.le_refl _); have f0 := r8.cell 0 _ rfl; have f1 := r8.cell 1 _ rfl; have f2 := r8.cell 2 _ rfl; have f3 := r8.cell 3 _ rfl; have f4 := r8.cell 4 _ rfl; have f5 := r8.cell 5 _ rfl; have f6 := r8.cell 6 _ rfl; clear hC8 r8)
      | (go_at_call 50; refine (rel_one A8 jJ jR jI jT jO jE kJ kR kI kT kO kE _ HC8.out (HD3.out.keep (btrans (Below.refl _ _).drew hb8))).mono ?_; rintro e w9 ⟨xJ, xR, xI, xT, xO, xE, mJ, mR, mI, mT, mO, mE, rfl, hD9, hb9⟩; have HD9 := hid hD9; have r9 := HR3.out.below (btrans (Below.refl _ _).drew (btrans hb8 hb9)) (Nat.le_refl _); have HR9 := hid r9; have y0 := r9.cell 0 _ rfl; have y1 := r9.cell 1 _ rfl; have y2 := r9.cell 2 _ rfl; have y3 := r9.cell 3 _ rfl; have y4 := r9.cell 4 _ rfl; have y5 := r9.cell 5 _ rfl; have y6 := r9.cell 6 _ rfl; have z0 := r9.frozen 0; have z1 := r9.frozen 1; have z2 := r9.frozen 2; have z3 := r9.frozen 3; have z4 := r9.frozen 4; have z5 := r9.frozen 5; have z6 := r9.frozen 6; clear hD9 r9))
    all_goals
      have HRF : RowAt (w9.setCells w2.heap.size 0 [.slice xJ 1 mJ, .slice xR 1 mR, .int .i64 0, .slice xI 0 mI, .slice xT 0 mT, .slice xO 0 mO, .slice xE 2 mE]) w2.heap.size 90 [.slice xJ 1 mJ, .slice xR 1 mR, .int .i64 0, .slice xI 0 mI, .slice xT 0 mT, .slice xO 0 mO, .slice xE 2 mE] := row_setCells _ [] _ w9 HR9.out rfl
      have HDF : DomIn (w9.setCells w2.heap.size 0 [.slice xJ 1 mJ, .slice xR 1 mR, .int .i64 0, .slice xI 0 mI, .slice xT 0 mT, .slice xO 0 mO, .slice xE 2 mE]) ⟨xJ, xR, xI, xT, xO, xE, mJ, mR, mI, mT, mO, mE⟩ oneD := HD9.out _ (fun x hx => heap_setCells_ne _ _ _ _ x (by have h1 := (World.block_lt_of_cell? _ _ d0); have h2 := hb8.size; simp at h1 h2 hx; omega))
      have HBF : Below w.heap.size w (w9.setCells w2.heap.size 0 [.slice xJ 1 mJ, .slice xR 1 mR, .int .i64 0, .slice xI 0 mI, .slice xT 0 mT, .slice xO 0 mO, .slice xE 2 mE]) := below_setCellsx (btrans HB3.out (btrans (Below.refl _ _).drew (btrans hb8 hb9))) _ HB2.out.size _ _
      go_wp2
      go_meet
      case rel => exact ⟨xJ, xR, xI, xT, xO, xE, mJ, mR, mI, mT, mO, mE, rfl, HRF, HDF, HBF⟩
  case rest =>
    obtain ⟨xJ, xR, xI, xT, xO, xE, mJ, mR, mI, mT, mO, mE, rfl, hr5, hd5, hb5⟩ := hcut
    obtain ⟨w5, rfl⟩ : ∃ x, x = wc := ⟨_, rfl⟩
    have HR5 := hid hr5
    have HD5 := hid hd5
    have HB5 := hid hb5
    clear hr5 hd5 hb5 d0 d1 d2 d3 d4 d5 d6 HR3 HD3 HB3
    have HS : Hid (∀ w', Below w5.heap.size w5 w' → w'.cell? ⟨w2.heap.size, 0, none⟩ = some (.slice xJ 1 mJ) ∧ w'.cell? ⟨w2.heap.size, 1, none⟩ = some (.slice xR 1 mR) ∧ w'.cell? ⟨w2.heap.size, 2, none⟩ = some (.int .i64 0) ∧ w'.cell? ⟨w2.heap.size, 3, none⟩ = some (.slice xI 0 mI) ∧ w'.cell? ⟨w2.heap.size, 4, none⟩ = some (.slice xT 0 mT) ∧ w'.cell? ⟨w2.heap.size, 5, none⟩ = some (.slice xO 0 mO) ∧ w'.cell? ⟨w2.heap.size, 6, none⟩ = some (.slice xE 2 mE)) := hid fun w' hb => ⟨(HR5.out.below hb (Nat.le_refl _)).cell 0 _ rfl, (HR5.out.below hb (Nat.le_refl _)).cell 1 _ rfl, (HR5.out.below hb (Nat.le_refl _)).cell 2 _ rfl, (HR5.out.below hb (Nat.le_refl _)).cell 3 _ rfl, (HR5.out.below hb (Nat.le_refl _)).cell 4 _ rfl, (HR5.out.below hb (Nat.le_refl _)).cell 5 _ rfl, (HR5.out.below hb (Nat.le_refl _)).cell 6 _ rfl⟩
    go_upto_region 3 with fail
    have hB : Below w5.heap.size w5 w5.drew := (Below.refl _ _).drew
    go_cut [4, 5] (fun t u wx => t = .int .i64 0 ∧ u = .int .i64 0 ∧ Below w5.heap.size w5 wx)
    case first =>
      go_region_held3 (fun w' => w'.cell? ⟨w2.heap.size, 0, none⟩ = some (.slice xJ 1 mJ) ∧ w'.cell? ⟨w2.heap.size, 1, none⟩ = some (.slice xR 1 mR) ∧ w'.cell? ⟨w2.heap.size, 2, none⟩ = some (.int .i64 0) ∧ w'.cell? ⟨w2.heap.size, 3, none⟩ = some (.slice xI 0 mI) ∧ w'.cell? ⟨w2.heap.size, 4, none⟩ = some (.slice xT 0 mT) ∧ w'.cell? ⟨w2.heap.size, 5, none⟩ = some (.slice xO 0 mO) ∧ w'.cell? ⟨w2.heap.size, 6, none⟩ = some (.slice xE 2 mE))
        (first | with_reducible exact HS.out _ hB | go_keep)
        (first
          | (go_at_call 79; refine (oneV5_any _).mono ?_; rintro e w8 ⟨A8, rfl, hC8, hk8, hb8⟩; have hB := btrans hB hb8; have HC8 := hid hC8; clear hC8)
          | (go_at_call 51; refine (pick_one A8 xJ xR xI xT xO xE mJ mR mI mT mO mE _ HC8.out (HD5.out.keep hB)).mono ?_; rintro e w10 ⟨rfl, hb10⟩; have hB := btrans hB hb10))
      all_goals
        go_wp2
        go_meet
        case rel => exact ⟨rfl, rfl, hB⟩
    case rest =>
      obtain ⟨rfl, rfl, hB6⟩ := hcut
      obtain ⟨w6, rfl⟩ : ∃ x, x = wc := ⟨_, rfl⟩
      have HB6 := hid hB6
      clear hB6 hB
      go_upto_region 4 with fail
      have hB : Below w5.heap.size w5 w6.drew := HB6.out.drew
      go_cut [6, 7] (fun t u wx => t = .int .i64 50 ∧ u = .int .i64 0 ∧ Below w5.heap.size w5 wx)
      case first =>
        go_region_held3 (fun w' => w'.cell? ⟨w2.heap.size, 0, none⟩ = some (.slice xJ 1 mJ) ∧ w'.cell? ⟨w2.heap.size, 1, none⟩ = some (.slice xR 1 mR) ∧ w'.cell? ⟨w2.heap.size, 2, none⟩ = some (.int .i64 0) ∧ w'.cell? ⟨w2.heap.size, 3, none⟩ = some (.slice xI 0 mI) ∧ w'.cell? ⟨w2.heap.size, 4, none⟩ = some (.slice xT 0 mT) ∧ w'.cell? ⟨w2.heap.size, 5, none⟩ = some (.slice xO 0 mO) ∧ w'.cell? ⟨w2.heap.size, 6, none⟩ = some (.slice xE 2 mE))
          (first | with_reducible exact HS.out _ hB | go_keep)
          (first
            | (go_at_call 79; refine (oneV5_any _).mono ?_; rintro e w8 ⟨A8, rfl, hC8, hk8, hb8⟩; have hB := btrans hB hb8; have HC8 := hid hC8; clear hC8)
            | (go_at_call 52; refine (due_one A8 xJ xR xI xT xO xE mJ mR mI mT mO mE _ HC8.out (HD5.out.keep hB)).mono ?_; rintro e w10 ⟨rfl, hb10⟩; have hB := btrans hB hb10))
        all_goals
          go_wp2
          go_meet
          case rel => exact ⟨rfl, rfl, hB⟩
      case rest =>
        obtain ⟨rfl, rfl, hB7⟩ := hcut
        obtain ⟨w7, rfl⟩ : ∃ x, x = wc := ⟨_, rfl⟩
        have HB7 := hid hB7
        clear hB7 hB HB6
        obtain ⟨b', o', ee, -, -, -, -, -, p5⟩ := HD5.out.jobs 0 (by decide)
        dsimp only at ee
        subst ee
        have HP5 : Hid (w5.cell? ⟨b', o' + 5, none⟩ = some (.bool true)) := hid (by simpa [oneD] using p5)
        clear p5
        go_upto_region 5 with fail
        have hB : Below w5.heap.size w5 w7.drew := HB7.out.drew
        go_cut [0] (fun t wx => t = .bool true ∧ Below w5.heap.size w5 wx)
        case first =>
          go_region_held3 (fun w' => w'.cell? ⟨w2.heap.size, 0, none⟩ = some (.slice (some ⟨b', o', none⟩) 1 mJ) ∧ w'.cell? ⟨w2.heap.size, 1, none⟩ = some (.slice xR 1 mR) ∧ w'.cell? ⟨w2.heap.size, 2, none⟩ = some (.int .i64 0) ∧ w'.cell? ⟨w2.heap.size, 3, none⟩ = some (.slice xI 0 mI) ∧ w'.cell? ⟨w2.heap.size, 4, none⟩ = some (.slice xT 0 mT) ∧ w'.cell? ⟨w2.heap.size, 5, none⟩ = some (.slice xO 0 mO) ∧ w'.cell? ⟨w2.heap.size, 6, none⟩ = some (.slice xE 2 mE) ∧ w'.cell? ⟨b', o' + 5, none⟩ = some (.bool true))
            (first | with_reducible exact ⟨(HS.out _ hB).1, (HS.out _ hB).2.1, (HS.out _ hB).2.2.1, (HS.out _ hB).2.2.2.1, (HS.out _ hB).2.2.2.2.1, (HS.out _ hB).2.2.2.2.2.1, (HS.out _ hB).2.2.2.2.2.2, bkeep hB HP5.out (Nat.le_refl _)⟩ | go_keep)
            (first
              | (go_at_call 79; refine (oneV5_any _).mono ?_; rintro e w8 ⟨A8, rfl, hC8, hk8, hb8⟩; have hB := btrans hB hb8; have HC8 := hid hC8; clear hC8)
              | (go_at_call 61; refine (check_one A8 (some ⟨b', o', none⟩) xR xI xT xO xE mJ mR mI mT mO mE _ HC8.out (HD5.out.keep hB)).mono ?_; rintro e w10 ⟨rfl, hb10⟩; have hB := btrans hB hb10))
          all_goals
            go_wp2
            go_meet
            case rel => exact ⟨rfl, hB⟩
        case rest =>
          obtain ⟨rfl, hB8⟩ := hcut
          have HF := hid (btrans HB5.out hB8)
          clear hB8 hB HB7
          go_wp2
          go_ret
          exact ⟨rfl, HF.out⟩

end Go.Proofs.Ytaellaconpaejaa

namespace Go.Proofs.Ytaellaconpaejaa
open Go.ChangeShapes Go.WideShapes Go.ChangeAt Go.RowKit Go.Deep Go.Joins

set_option maxRecDepth 100000 in
set_option maxHeartbeats 4000000 in
theorem rel50_err (D : Dom) (A : DMem) (C : Conf) (B : Mem) (dn now : Int) (w : World) (hC : ConfIn w B C) (hD : DomIn w A D) (hz : ckD C dn D ≠ 0 ∨ inR now 0 100000 = false) :
    Calls Try.prog 50 #[cv C B, .int .i64 dn, dv D A, .int .i64 now] w fun e w' => (∃ q : Int, e = .returned (.tuple #[.agg #[.slice none 0 0, .slice none 0 0, .int .i64 0, .slice none 0 0, .slice none 0 0, .slice none 0 0, .slice none 0 0], .int .i64 q]) ∧ q ≠ 0) ∧ Below w.heap.size w w' := by
  have q1 := below_new w (.cells (cl C B) 46)
  have q2 := below_new (w.alloc (.cells (cl C B) 46)) (.cells (dl D A) 90)
  have q3 := below_new ((w.alloc (.cells (cl C B) 46)).alloc (.cells (dl D A) 90)) (.cells #[.int .i64 now] 3)
  have q4 := below_new (((w.alloc (.cells (cl C B) 46)).alloc (.cells (dl D A) 90)).alloc (.cells #[.int .i64 now] 3)) (.cells #[.slice none 0 0, .slice none 0 0, .int .i64 0, .slice none 0 0, .slice none 0 0, .slice none 0 0, .slice none 0 0] 90)
  have HC := hid (hC.keep (btrans q1 (btrans q2 (btrans q3 q4))))
  have HD := hid (hD.keep (btrans q1 (btrans q2 (btrans q3 q4))))
  have HX := hid ((boxC_new w C B).keep (btrans q2 (btrans q3 q4)))
  have HRD := hid ((rowAt_new2 (w.alloc (.cells (cl C B) 46)) (w.heap.size + 1) (dl D A).toList 90 (by simp)).below (btrans q3 q4) (Nat.le_refl _))
  have HRN := hid ((rowAt_new2 ((w.alloc (.cells (cl C B) 46)).alloc (.cells (dl D A) 90)) (w.heap.size + 1 + 1) [.int .i64 now] 3 (by simp)).below q4 (Nat.le_refl _))
  have HRB := hid (rowAt_new2 (((w.alloc (.cells (cl C B) 46)).alloc (.cells (dl D A) 90)).alloc (.cells #[.int .i64 now] 3)) (w.heap.size + 1 + 1 + 1) [.slice none 0 0, .slice none 0 0, .int .i64 0, .slice none 0 0, .slice none 0 0, .slice none 0 0, .slice none 0 0] 90 (by simp))
  have HB := hid (btrans q1 (btrans q2 (btrans q3 q4)))
  have HZ := hid hz
  clear q1 q2 q3 q4 hC hD hz
  obtain ⟨aJ, aR, aI, aT, aO, aE, cJ, cR, cI, cT, cO, cE⟩ := A
  obtain ⟨a5, a6, a7, a8, c5, c6, c7, c8⟩ := B
  dsimp only [cv, cl, dv, dl] at *
  go_enter Try.func50, Try.ntmps50
  obtain ⟨g0, g1, g2, g3, g4, g5, g6, g7, g8⟩ := HX.out
  have d0 := HRD.out.cell 0 _ rfl
  have d1 := HRD.out.cell 1 _ rfl
  have d2 := HRD.out.cell 2 _ rfl
  have d3 := HRD.out.cell 3 _ rfl
  have d4 := HRD.out.cell 4 _ rfl
  have d5 := HRD.out.cell 5 _ rfl
  have d6 := HRD.out.cell 6 _ rfl
  go_wp2_with fail
  refine (checkD_any D ⟨aJ, aR, aI, aT, aO, aE, cJ, cR, cI, cT, cO, cE⟩ C ⟨a5, a6, a7, a8, c5, c6, c7, c8⟩ dn _ HC.out HD.out).mono ?_
  rintro e w1 ⟨rfl, hb1⟩
  generalize World.alloc (World.alloc (World.alloc (World.alloc w _) _) _) _ = W at *
  clear g0 g1 g2 g3 g4 g5 g6 g7 g8 d0 d1 d2 d3 d4 d5 d6
  have HB1 := hid (btrans HB.out hb1)
  have RN := hid (HRN.out.below hb1 (Nat.le_refl _))
  have RB := hid (HRB.out.below hb1 (Nat.le_refl _))
  have nn := RN.out.cell 0 _ rfl
  clear hb1 HC HD HX HRD HRN HRB HB
  by_cases h0 : ckD C dn D = 0
  · rw [h0]
    have HF : Hid (inR now 0 100000 = false) := hid (HZ.out.resolve_left (fun h => h h0))
    clear h0
    go_wp2_with fail
    refine (within_any _ _ _ _).mono ?_
    rintro e w' ⟨rfl, rfl⟩
    rw [HF.out]
    have y0 := RB.out.cell 0 _ rfl
    have y1 := RB.out.cell 1 _ rfl
    have y2 := RB.out.cell 2 _ rfl
    have y3 := RB.out.cell 3 _ rfl
    have y4 := RB.out.cell 4 _ rfl
    have y5 := RB.out.cell 5 _ rfl
    have y6 := RB.out.cell 6 _ rfl
    have z0 := RB.out.frozen 0
    have z1 := RB.out.frozen 1
    have z2 := RB.out.frozen 2
    have z3 := RB.out.frozen 3
    have z4 := RB.out.frozen 4
    have z5 := RB.out.frozen 5
    have z6 := RB.out.frozen 6
    have HRF : Hid (RowAt (w1.setCells (w.heap.size + 1 + 1 + 1) 0 [.slice none 0 0, .slice none 0 0, .int .i64 0, .slice none 0 0, .slice none 0 0, .slice none 0 0, .slice none 0 0]) (w.heap.size + 1 + 1 + 1) 90 [.slice none 0 0, .slice none 0 0, .int .i64 0, .slice none 0 0, .slice none 0 0, .slice none 0 0, .slice none 0 0]) := hid (row_setCells _ [] _ w1 RB.out rfl)
    have HBF : Hid (Below w.heap.size w (w1.setCells (w.heap.size + 1 + 1 + 1) 0 [.slice none 0 0, .slice none 0 0, .int .i64 0, .slice none 0 0, .slice none 0 0, .slice none 0 0, .slice none 0 0])) := hid (below_setCellsx HB1.out _ (by omega) _ _)
    go_wp2
    change bodyPost _ _ _ _ _ (w1.setCells (w.heap.size + 1 + 1 + 1) 0 [.slice none 0 0, .slice none 0 0, .int .i64 0, .slice none 0 0, .slice none 0 0, .slice none 0 0, .slice none 0 0])
    clear y0 y1 y2 y3 y4 y5 y6 z0 z1 z2 z3 z4 z5 z6
    generalize w1.setCells (w.heap.size + 1 + 1 + 1) 0 [.slice none 0 0, .slice none 0 0, .int .i64 0, .slice none 0 0, .slice none 0 0, .slice none 0 0, .slice none 0 0] = wf at *
    have d0 := HRF.out.cell 0 _ rfl
    have d1 := HRF.out.cell 1 _ rfl
    have d2 := HRF.out.cell 2 _ rfl
    have d3 := HRF.out.cell 3 _ rfl
    have d4 := HRF.out.cell 4 _ rfl
    have d5 := HRF.out.cell 5 _ rfl
    have d6 := HRF.out.cell 6 _ rfl
    exact bodyPost_ret (v := .tuple #[.agg #[.slice none 0 0, .slice none 0 0, .int .i64 0, .slice none 0 0, .slice none 0 0, .slice none 0 0, .slice none 0 0], .int .i64 3]) (by simp [results, Try.results50, go_sem, d0, d1, d2, d3, d4, d5, d6]) rfl ⟨⟨3, rfl, by decide⟩, HBF.out⟩

  · have hq : ckD C dn D ≠ 0 := h0
    have HQ := hid hq
    have hqb : (ckD C dn D != 0) = true := by simp [h0]
    generalize ckD C dn D = q at *
    clear h0 HZ
    have y0 := RB.out.cell 0 _ rfl
    have y1 := RB.out.cell 1 _ rfl
    have y2 := RB.out.cell 2 _ rfl
    have y3 := RB.out.cell 3 _ rfl
    have y4 := RB.out.cell 4 _ rfl
    have y5 := RB.out.cell 5 _ rfl
    have y6 := RB.out.cell 6 _ rfl
    have z0 := RB.out.frozen 0
    have z1 := RB.out.frozen 1
    have z2 := RB.out.frozen 2
    have z3 := RB.out.frozen 3
    have z4 := RB.out.frozen 4
    have z5 := RB.out.frozen 5
    have z6 := RB.out.frozen 6
    have HRF : Hid (RowAt (w1.setCells (w.heap.size + 1 + 1 + 1) 0 [.slice none 0 0, .slice none 0 0, .int .i64 0, .slice none 0 0, .slice none 0 0, .slice none 0 0, .slice none 0 0]) (w.heap.size + 1 + 1 + 1) 90 [.slice none 0 0, .slice none 0 0, .int .i64 0, .slice none 0 0, .slice none 0 0, .slice none 0 0, .slice none 0 0]) := hid (row_setCells _ [] _ w1 RB.out rfl)
    have HBF : Hid (Below w.heap.size w (w1.setCells (w.heap.size + 1 + 1 + 1) 0 [.slice none 0 0, .slice none 0 0, .int .i64 0, .slice none 0 0, .slice none 0 0, .slice none 0 0, .slice none 0 0])) := hid (below_setCellsx HB1.out _ (by omega) _ _)
    go_wp2
    change bodyPost _ _ _ _ _ (w1.setCells (w.heap.size + 1 + 1 + 1) 0 [.slice none 0 0, .slice none 0 0, .int .i64 0, .slice none 0 0, .slice none 0 0, .slice none 0 0, .slice none 0 0])
    clear y0 y1 y2 y3 y4 y5 y6 z0 z1 z2 z3 z4 z5 z6
    generalize w1.setCells (w.heap.size + 1 + 1 + 1) 0 [.slice none 0 0, .slice none 0 0, .int .i64 0, .slice none 0 0, .slice none 0 0, .slice none 0 0, .slice none 0 0] = wf at *
    have d0 := HRF.out.cell 0 _ rfl
    have d1 := HRF.out.cell 1 _ rfl
    have d2 := HRF.out.cell 2 _ rfl
    have d3 := HRF.out.cell 3 _ rfl
    have d4 := HRF.out.cell 4 _ rfl
    have d5 := HRF.out.cell 5 _ rfl
    have d6 := HRF.out.cell 6 _ rfl
    exact bodyPost_ret (v := .tuple #[.agg #[.slice none 0 0, .slice none 0 0, .int .i64 0, .slice none 0 0, .slice none 0 0, .slice none 0 0, .slice none 0 0], .int .i64 q]) (by simp [results, Try.results50, go_sem, d0, d1, d2, d3, d4, d5, d6]) rfl ⟨⟨q, rfl, HQ.out⟩, HBF.out⟩


/-- How many events a domain has, of those that are read. -/
theorem evs_small {H : Type} {enc : TypeId × Value → H} {w : World} {D : Dom} {A : DMem} {d : DataW H} {p : List MemPlace} (h : DataW.Trod enc Try.prog w 0 (fun _ => true) true 90 (dv D A) d p) : D.evs.length ≤ Rows.uptoBulk d := by
  obtain ⟨fuel, hf⟩ := h
  obtain ⟨xs, n, _, hx, _, hlen, hff⟩ := DataW.trod_struct Try.underlying90 hf
  match xs, hlen with
  | [y0, y1, y2, y3, y4, y5, y6], _ =>
    have g6 := hff 6 _ rfl
    simp [Value.cells, Try.cells88] at g6
    simp only [Prod.mk.injEq, List.map_cons, List.map_nil] at hx
    obtain ⟨rfl, _⟩ := hx
    rcases open_slice Try.underlying88 g6 with ⟨hcs, _⟩ | ⟨a, len, cap, m, n, DD, Pl, hcs, _, hl, hm, hmm, hx6, _⟩
    · simp only [List.cons.injEq, and_true, Value.slice.injEq] at hcs
      omega
    · simp only [List.cons.injEq, and_true, Value.slice.injEq] at hcs
      have hb : ∀ l : List (DataW H), l.length ≤ Rows.uptoBulkAll l := fun l => by
        induction l with
        | nil => simp [Rows.uptoBulkAll]
        | cons x r ih =>
          have : 1 ≤ Rows.uptoBulk x := by
            cases x with
            | lit l => cases l <;> simp [Rows.uptoBulk]
            | nil => simp [Rows.uptoBulk]
            | ptr d => simp [Rows.uptoBulk]
            | slice elems spare => simp [Rows.uptoBulk]
            | agg parts => simp [Rows.uptoBulk]
            | iface t d => simp [Rows.uptoBulk]
            | map entries => simp [Rows.uptoBulk]
            | held h => simp [Rows.uptoBulk]
          simp only [Rows.uptoBulkAll, List.length_cons]
          omega
      have e6 : y6.1 = .slice ((List.range len).map DD) ((List.range (m - len)).map fun j => DD (len + j)) := by rw [hx6]
      have h6 := hb ((List.range len).map DD)
      rw [List.length_map, List.length_range] at h6
      simp only [Rows.uptoBulk, Rows.uptoBulkAll, e6]
      omega

end Go.Proofs.Ytaellaconpaejaa

namespace Go.Proofs.Ytaellaconpaejaa
open Go.RowKit

set_option maxRecDepth 100000 in
set_option maxHeartbeats 4000000 in
theorem steady_err (D : Dom) (A : DMem) (C : Conf) (B : Mem) (dn now : Int) (w : World) (hC : ConfIn w B C) (hD : DomIn w A D) (hz : ckD C dn D ≠ 0 ∨ inR now 0 100000 = false) :
    Calls Try.prog 12 #[cv C B, .int .i64 dn, dv D A, .int .i64 now] w fun e w' => e = .returned (.bool true) ∧ Below w.heap.size w w' := by
  have q1 := below_new w (.cells (cl C B) 46)
  have q2 := below_new (w.alloc (.cells (cl C B) 46)) (.cells (dl D A) 90)
  have HC := hid (hC.keep (btrans q1 q2))
  have HD := hid (hD.keep (btrans q1 q2))
  have HX := hid ((boxC_new w C B).keep q2)
  have HR := hid (rowAt_new2 (w.alloc (.cells (cl C B) 46)) (w.heap.size + 1) (dl D A).toList 90 (by simp))
  have HB := hid (btrans q1 q2)
  have HZ := hid hz
  clear q1 q2 hC hD hz
  obtain ⟨aJ, aR, aI, aT, aO, aE, cJ, cR, cI, cT, cO, cE⟩ := A
  obtain ⟨a5, a6, a7, a8, c5, c6, c7, c8⟩ := B
  dsimp only [cv, cl, dv, dl] at *
  go_enter Try.func12, Try.ntmps12
  go_wp2_with fail
  refine (readyBegun_any _).mono ?_
  rintro e w1 ⟨rfl, hb1⟩
  have HC1 := hid (HC.out.keep hb1)
  have HD1 := hid (HD.out.keep hb1)
  have HX1 := hid (HX.out.keep hb1)
  have HB1 := hid (btrans HB.out hb1)
  obtain ⟨g0, g1, g2, g3, g4, g5, g6, g7, g8⟩ := HX1.out
  have r := HR.out.below hb1 (Nat.le_refl _)
  have d0 := r.cell 0 _ rfl
  have d1 := r.cell 1 _ rfl
  have d2 := r.cell 2 _ rfl
  have d3 := r.cell 3 _ rfl
  have d4 := r.cell 4 _ rfl
  have d5 := r.cell 5 _ rfl
  have d6 := r.cell 6 _ rfl
  clear r hb1 HC HD HX HR HB
  generalize World.alloc (World.alloc w _) _ = W at *
  go_wp2_with fail
  refine (rel50_err D ⟨aJ, aR, aI, aT, aO, aE, cJ, cR, cI, cT, cO, cE⟩ C ⟨a5, a6, a7, a8, c5, c6, c7, c8⟩ dn now _ HC1.out HD1.out HZ.out).mono ?_
  rintro e w2 ⟨⟨q, rfl, hq⟩, hb2⟩
  have hqb : (q != 0) = true := by simp [hq]
  have HF := hid (btrans HB1.out (btrans hb2 (below_new w2 (.cells #[.slice none 0 0, .slice none 0 0, .int .i64 0, .slice none 0 0, .slice none 0 0, .slice none 0 0, .slice none 0 0] 90))))
  clear g0 g1 g2 g3 g4 g5 g6 g7 g8 d0 d1 d2 d3 d4 d5 d6 hb2 hq
  go_wp2
  go_ret
  exact ⟨rfl, HF.out⟩

set_option maxRecDepth 100000 in
set_option maxHeartbeats 4000000 in
theorem steady_ok (D : Dom) (A : DMem) (C : Conf) (B : Mem) (dn now : Int) (w : World) (hC : ConfIn w B C) (hD : DomIn w A D) (hz : ckD C dn D = 0) (hn : inR now 0 100000 = true) (hev : D.evs.length ≤ 10000000) :
    Calls Try.prog 12 #[cv C B, .int .i64 dn, dv D A, .int .i64 now] w fun e w' => e = .returned (.bool true) ∧ Below w.heap.size w w' := by
  have HN := hid hn
  have HEV : Hid ((relD C dn now D).evs.length ≤ 100000000) := hid (by have := relD_evs hz hn; omega)
  have HEV0 := hid (show D.evs.length ≤ 100000000 by omega)
  have HZR := hid (relD_ok hz hn)
  have HTW := hid (relD_twice hz hn)
  clear hn hev
  have q1 := below_new w (.cells (cl C B) 46)
  have q2 := below_new (w.alloc (.cells (cl C B) 46)) (.cells (dl D A) 90)
  have HC := hid (hC.keep (btrans q1 q2))
  have HD := hid (hD.keep (btrans q1 q2))
  have HX := hid ((boxC_new w C B).keep q2)
  have HR := hid (rowAt_new2 (w.alloc (.cells (cl C B) 46)) (w.heap.size + 1) (dl D A).toList 90 (by simp))
  have HB := hid (btrans q1 q2)
  have HZ := hid hz
  clear q1 q2 hC hD hz
  obtain ⟨aJ, aR, aI, aT, aO, aE, cJ, cR, cI, cT, cO, cE⟩ := A
  obtain ⟨a5, a6, a7, a8, c5, c6, c7, c8⟩ := B
  dsimp only [cv, cl, dv, dl] at *
  go_enter Try.func12, Try.ntmps12
  go_wp2_with fail
  refine (readyBegun_any _).mono ?_
  rintro e w1 ⟨rfl, hb1⟩
  have HC1 := hid (HC.out.keep hb1)
  have HD1 := hid (HD.out.keep hb1)
  have HX1 := hid (HX.out.keep hb1)
  have HB1 := hid (btrans HB.out hb1)
  obtain ⟨g0, g1, g2, g3, g4, g5, g6, g7, g8⟩ := HX1.out
  have r := HR.out.below hb1 (Nat.le_refl _)
  have d0 := r.cell 0 _ rfl
  have d1 := r.cell 1 _ rfl
  have d2 := r.cell 2 _ rfl
  have d3 := r.cell 3 _ rfl
  have d4 := r.cell 4 _ rfl
  have d5 := r.cell 5 _ rfl
  have d6 := r.cell 6 _ rfl
  clear r hb1 HC HD HX HR HB
  generalize World.alloc (World.alloc w _) _ = W at *
  go_wp2_with fail
  refine (rel50_ok D ⟨aJ, aR, aI, aT, aO, aE, cJ, cR, cI, cT, cO, cE⟩ C ⟨a5, a6, a7, a8, c5, c6, c7, c8⟩ dn now _ HC1.out HD1.out HZ.out HN.out HEV0.out).mono ?_
  rintro e w2 ⟨A1, rfl, hD2, hb2⟩
  generalize relD C dn now D = R at *
  obtain ⟨xJ, xR, xI, xT, xO, xE, mJ, mR, mI, mT, mO, mE⟩ := A1
  have q3 := below_new w2 (.cells #[.slice xJ R.jobs.length mJ, .slice xR R.rel.length mR, .int .i64 R.nxt, .slice xI R.ins.length mI, .slice xT R.tak.length mT, .slice xO R.out.length mO, .slice xE R.evs.length mE] 90)
  have HC3 := hid ((HC1.out.keep hb2).keep q3)
  have HD3 := hid ((hD2 w2 (fun _ _ => rfl)).keep q3)
  have HX3 := hid ((HX1.out.keep hb2).keep q3)
  have HR3 := hid (rowAt_new2 w2 w2.heap.size [.slice xJ R.jobs.length mJ, .slice xR R.rel.length mR, .int .i64 R.nxt, .slice xI R.ins.length mI, .slice xT R.tak.length mT, .slice xO R.out.length mO, .slice xE R.evs.length mE] 90 rfl)
  have HB3 := hid (btrans HB1.out (btrans hb2 q3))
  clear g0 g1 g2 g3 g4 g5 g6 g7 g8 d0 d1 d2 d3 d4 d5 d6 hb2 q3 hD2 HC1 HD1 HX1 HB1
  dsimp only [dv, dl]
  go_upto_region 6 with fail
  generalize World.alloc w2 _ = w3 at *
  obtain ⟨g0, g1, g2, g3, g4, g5, g6, g7, g8⟩ := HX3.out
  have d0 := HR3.out.cell 0 _ rfl
  have d1 := HR3.out.cell 1 _ rfl
  have d2 := HR3.out.cell 2 _ rfl
  have d3 := HR3.out.cell 3 _ rfl
  have d4 := HR3.out.cell 4 _ rfl
  have d5 := HR3.out.cell 5 _ rfl
  have d6 := HR3.out.cell 6 _ rfl
  go_wp2_with fail
  refine (rel50_ok R ⟨xJ, xR, xI, xT, xO, xE, mJ, mR, mI, mT, mO, mE⟩ C ⟨a5, a6, a7, a8, c5, c6, c7, c8⟩ dn now _ HC3.out HD3.out HZR.out HN.out HEV.out).mono ?_
  rintro e w4 ⟨A2, rfl, hD4, hb4⟩
  rw [HTW.out] at hD4 ⊢
  obtain ⟨yJ, yR, yI, yT, yO, yE, nJ, nR, nI, nT, nO, nE⟩ := A2
  have q5 := below_new w4 (.cells #[.slice yJ R.jobs.length nJ, .slice yR R.rel.length nR, .int .i64 R.nxt, .slice yI R.ins.length nI, .slice yT R.tak.length nT, .slice yO R.out.length nO, .slice yE R.evs.length nE] 90)
  have HC5 := hid ((HC3.out.keep hb4).keep q5)
  have HD5 := hid ((HD3.out.keep hb4).keep q5)
  have HE5 := hid ((hD4 w4 (fun _ _ => rfl)).keep q5)
  have HX5 := hid ((HX3.out.keep hb4).keep q5)
  have HR5 := hid ((HR3.out.below hb4 (Nat.le_refl _)).below q5 (Nat.le_refl _))
  have HY5 := hid (rowAt_new2 w4 w4.heap.size [.slice yJ R.jobs.length nJ, .slice yR R.rel.length nR, .int .i64 R.nxt, .slice yI R.ins.length nI, .slice yT R.tak.length nT, .slice yO R.out.length nO, .slice yE R.evs.length nE] 90 rfl)
  have HB5 := hid (btrans HB3.out (btrans hb4 q5))
  clear g0 g1 g2 g3 g4 g5 g6 g7 g8 d0 d1 d2 d3 d4 d5 d6 hb4 q5 hD4 HC3 HD3 HX3 HB3 HR3
  dsimp only [dv, dl]
  go_upto_region 7 with fail
  generalize World.alloc w4 _ = w5 at *
  obtain ⟨g0, g1, g2, g3, g4, g5, g6, g7, g8⟩ := HX5.out
  have d0 := HR5.out.cell 0 _ rfl
  have d1 := HR5.out.cell 1 _ rfl
  have d2 := HR5.out.cell 2 _ rfl
  have d3 := HR5.out.cell 3 _ rfl
  have d4 := HR5.out.cell 4 _ rfl
  have d5 := HR5.out.cell 5 _ rfl
  have d6 := HR5.out.cell 6 _ rfl
  go_wp2_with fail
  refine (pick_ok R ⟨xJ, xR, xI, xT, xO, xE, mJ, mR, mI, mT, mO, mE⟩ C ⟨a5, a6, a7, a8, c5, c6, c7, c8⟩ dn _ HC5.out HD5.out HZR.out (tasksOk_of HZR.out)).mono ?_
  rintro e w6 ⟨rfl, hb6⟩
  have HC6 := hid (HC5.out.keep hb6)
  have HD6 := hid (HD5.out.keep hb6)
  have HE6 := hid (HE5.out.keep hb6)
  have HX6 := hid (HX5.out.keep hb6)
  have HR6 := hid (HR5.out.below hb6 (Nat.le_refl _))
  have HY6 := hid (HY5.out.below hb6 (Nat.le_refl _))
  have HB6 := hid (btrans HB5.out hb6)
  clear g0 g1 g2 g3 g4 g5 g6 g7 g8 d0 d1 d2 d3 d4 d5 d6 hb6 HC5 HD5 HE5 HX5 HR5 HY5 HB5
  have d0 := HR6.out.cell 0 _ rfl
  have d1 := HR6.out.cell 1 _ rfl
  have d2 := HR6.out.cell 2 _ rfl
  have d3 := HR6.out.cell 3 _ rfl
  have d4 := HR6.out.cell 4 _ rfl
  have d5 := HR6.out.cell 5 _ rfl
  have d6 := HR6.out.cell 6 _ rfl
  have y0 := HY6.out.cell 0 _ rfl
  have y1 := HY6.out.cell 1 _ rfl
  have y2 := HY6.out.cell 2 _ rfl
  have y3 := HY6.out.cell 3 _ rfl
  have y4 := HY6.out.cell 4 _ rfl
  have y5 := HY6.out.cell 5 _ rfl
  have y6 := HY6.out.cell 6 _ rfl
  have HPS := hid (pickI_spec C R.jobs)
  generalize pickI C R.jobs = n at *
  go_wp2_with fail
  refine (sameDomain_true R ⟨xJ, xR, xI, xT, xO, xE, mJ, mR, mI, mT, mO, mE⟩ ⟨yJ, yR, yI, yT, yO, yE, nJ, nR, nI, nT, nO, nE⟩ _ HD6.out HE6.out).mono ?_
  rintro e w7 ⟨rfl, hb7⟩
  have HC7 := hid (HC6.out.keep hb7)
  have HD7 := hid (HD6.out.keep hb7)
  have HX7 := hid (HX6.out.keep hb7)
  have HR7 := hid (HR6.out.below hb7 (Nat.le_refl _))
  have HB7 := hid (btrans HB6.out hb7)
  have HTO := hid (tasksOk_of HZR.out)
  clear d0 d1 d2 d3 d4 d5 d6 y0 y1 y2 y3 y4 y5 y6 hb7 HC6 HD6 HE6 HX6 HR6 HY6 HB6
  have d0 := HR7.out.cell 0 _ rfl
  obtain ⟨-, -, -, -, -, -, -, -, g8⟩ := HX7.out
  have lJ := HD7.out.lJ
  rcases HPS.out with ⟨hJ0, rfl⟩ | ⟨k, hk, rfl, hmin⟩
  · have hl0 : R.jobs.length = 0 := by rw [hJ0]; rfl
    rw [hl0] at d0
    clear hJ0 hl0
    go_wp2
    go_loopw [14] (fun i wr => i = .int .i64 0 ∧ wr = w7) (fun _ _ => 0)
    case atStart => exact ⟨rfl, rfl⟩
    case round =>
      obtain ⟨rfl, rfl⟩ := hrel
      go_wp2
      go_ret
      exact ⟨rfl, HB7.out⟩
  · have HM := hid hmin
    have hkl : (k : Int) < (R.jobs.length : Int) := by omega
    have hne : ¬ (R.jobs.length : Int) = 0 := by omega
    have hk0 : (0 : Int) ≤ (k : Int) := by omega
    clear hmin
    have hge : ¬ (R.jobs.length : Int) ≤ (k : Int) := by omega
    have hge2 : ¬ R.jobs.length ≤ k := by omega
    have hdc : decide ((k : Int) < 0) = ((R.jobs.length : Int) == 0) := by
      have h1 : decide ((k : Int) < 0) = false := decide_eq_false (by omega)
      have h2 : ((R.jobs.length : Int) == 0) = false := by simpa using hne
      rw [h1, h2]
    go_wp2
    clear hge hge2 hdc
    go_loopw [14] (fun i wr => ∃ j : Nat, j ≤ R.jobs.length ∧ i = .int .i64 j ∧ ∃ nd, wr = w7.drewN nd) (fun i _ => R.jobs.length - (intOf i).toNat)
    case atStart => exact ⟨0, Nat.zero_le _, rfl, 0, rfl⟩
    case round =>
      obtain ⟨j, hj, rfl, nd, rfl⟩ := hrel
      by_cases hlt : j < R.jobs.length
      · have hj1 : (j : Int) < (R.jobs.length : Int) := by omega
        have hj0 : (0 : Int) ≤ (j : Int) := by omega
        have tj := HTO.out j hlt
        have tk' := HTO.out k hk
        have HMJ := hid (HM.out j hlt)
        obtain ⟨b', o', ee, pj0, pj1, pj2, -, -, -⟩ := HD7.out.jobs j hlt
        obtain ⟨b'', o'', ee', pk0, pk1, pk2, -, -, -⟩ := HD7.out.jobs k hk
        dsimp only at ee ee'
        rw [ee] at ee'
        simp only [Option.some.injEq, Addr.mk.injEq, and_true] at ee'
        obtain ⟨rfl, rfl⟩ := ee'
        rw [ee] at d0
        generalize R.jobs[j] = jj at *
        generalize R.jobs[k] = kk at *
        obtain ⟨j0, j1, j2, j3, j4, j5⟩ := jj
        obtain ⟨k0, k1, k2, k3, k4, k5⟩ := kk
        dsimp only at tj tk' pj0 pj1 pj2 pk0 pk1 pk2
        obtain ⟨tn, rfl⟩ : ∃ t : Nat, j0 = t := ⟨j0.toNat, by omega⟩
        obtain ⟨un, rfl⟩ : ∃ t : Nat, k0 = t := ⟨k0.toNat, by omega⟩
        have ht : tn < C.ta.length := by omega
        have hu : un < C.ta.length := by omega
        obtain ⟨bt, ot, et, -, -, -, s3⟩ := HC7.out.ta tn ht
        obtain ⟨bu, ou, eu, -, -, -, v3⟩ := HC7.out.ta un hu
        dsimp only at et eu
        rw [et] at eu
        simp only [Option.some.injEq, Addr.mk.injEq, and_true] at eu
        obtain ⟨rfl, rfl⟩ := eu
        have hno : ¬ IntKind.i64.wrap (j2 + C.ta[tn].2.2.2) < IntKind.i64.wrap (k2 + C.ta[un].2.2.2) := by
          have := HMJ.out
          simp only [dueAt, tk, Int.toNat_natCast, getD_of C.ta tn ht, getD_of C.ta un hu] at this
          have e1 : ∀ n, IntKind.i64.wrap n = wrap64 n := fun n => by rw [IntKind.wrap_i64]; unfold wrap64; rfl
          rw [e1, e1]
          omega
        have hno2 : ¬ wrap64 (j2 + C.ta[tn].2.2.2) < wrap64 (k2 + C.ta[un].2.2.2) := by
          have e1 : ∀ n, IntKind.i64.wrap n = wrap64 n := fun n => by rw [IntKind.wrap_i64]; unfold wrap64; rfl
          rw [e1, e1] at hno
          exact hno
        have ht1 : (tn : Int) < (C.ta.length : Int) := by omega
        have ht0 : (0 : Int) ≤ (tn : Int) := by omega
        have hu1 : (un : Int) < (C.ta.length : Int) := by omega
        have hu0 : (0 : Int) ≤ (un : Int) := by omega
        rw [et] at g8
        generalize C.ta[tn].2.2.2 = dj at *
        generalize C.ta[un].2.2.2 = dk at *
        clear HMJ tj tk' pj1 pk1 HM HC7 HD7 HX7 HR7 et ee
        go_wp2
        go_quiet (fail)
        go_wp2
        go_roundw
        case rel => exact ⟨j + 1, by omega, by go_num, _, rfl⟩
        case measure => simp [intOf]; omega
      · go_wp2
        go_ret
        exact ⟨rfl, below_drewN HB7.out _⟩

end Go.Proofs.Ytaellaconpaejaa

namespace Go.Proofs.Ytaellaconpaejaa
open Go.ChangeShapes Go.WideShapes Go.ChangeAt Go.RowKit

theorem steady_all (D : Dom) (A : DMem) (C : Conf) (B : Mem) (dn now : Int) (w : World) (hC : ConfIn w B C) (hD : DomIn w A D) (hev : D.evs.length ≤ 10000000) :
    Calls Try.prog 12 #[cv C B, .int .i64 dn, dv D A, .int .i64 now] w fun e w' => e = .returned (.bool true) ∧ Below w.heap.size w w' := by
  by_cases hz : ckD C dn D = 0
  · cases hn : inR now 0 100000 with
    | true => exact steady_ok D A C B dn now w hC hD hz hn hev
    | false => exact steady_err D A C B dn now w hC hD (.inr hn)
  · exact steady_err D A C B dn now w hC hD (.inl hz)

set_option maxRecDepth 100000 in
theorem open_confx {H : Type} {enc : TypeId × Value → H} {w : World} {b0 : Nat} {v : Value} {d : DataW H} {p : List MemPlace} (hv : Value.okWide Try.prog w .any b0 46 v) (h : DataW.Trod enc Try.prog w 0 (fun _ => true) true 46 v d p) :
    ∃ (C : Conf) (A : Mem), v = cv C A ∧ ConfIn w A C := by
  obtain ⟨cs, rfl, hsz⟩ := okWide_struct Try.underlying46 hv
  obtain ⟨v0, v1, v2, v3, v4, v5, v6, v7, v8, rfl⟩ := array9 (hsz.trans Try.cells46)
  obtain ⟨fuel, hf⟩ := h
  obtain ⟨xs, n, _, _, _, hlen, hff⟩ := DataW.trod_struct Try.underlying46 hf
  match xs, hlen with
  | [y0, y1, y2, y3, y4, y5, y6, y7, y8], _ =>
    have g0 := hff 0 _ rfl
    have g1 := hff 1 _ rfl
    have g2 := hff 2 _ rfl
    have g3 := hff 3 _ rfl
    have g4 := hff 4 _ rfl
    have g5 := hff 5 _ rfl
    have g6 := hff 6 _ rfl
    have g7 := hff 7 _ rfl
    have g8 := hff 8 _ rfl
    simp [Value.cells, Try.cells3, Try.cells41, Try.cells42, Try.cells43, Try.cells44] at g0 g1 g2 g3 g4 g5 g6 g7 g8
    obtain ⟨n0, e0, _, _⟩ := DataW.trod_int Try.underlying3 g0
    obtain ⟨n1, e1, _, _⟩ := DataW.trod_int Try.underlying3 g1
    obtain ⟨n2, e2, _, _⟩ := DataW.trod_int Try.underlying3 g2
    obtain ⟨n3, e3, _, _⟩ := DataW.trod_int Try.underlying3 g3
    obtain ⟨n4, e4, _, _⟩ := DataW.trod_int Try.underlying3 g4
    simp only [List.cons.injEq, and_true] at e0 e1 e2 e3 e4
    subst e0 e1 e2 e3 e4
    obtain ⟨a5, sl, c5, rfl, i5, k5, l5⟩ := slotsIn_of_trod g5
    obtain ⟨a6, ow, c6, rfl, i6, k6, l6⟩ := intsIn_of_trod g6
    obtain ⟨a7, ch, c7, rfl, i7, k7, l7⟩ := chansIn_of_trod g7
    obtain ⟨a8, ta, c8, rfl, i8, k8, l8⟩ := tasksIn_of_trod g8
    exact ⟨⟨n0, n1, n2, n3, n4, sl, ow, ch, ta⟩, ⟨a5, a6, a7, a8, c5, c6, c7, c8⟩, rfl, ⟨i5, i6, i7, i8, l5, l6, l7, l8, k7⟩⟩

set_option maxRecDepth 100000 in
theorem steady_lifted (os : Os) (started : os.Started) (H : Type) (enc : TypeId × Value → H) (F : Stop.Interp) :
    ReturnsInHanded {} Try.checked os 12 .any ((Rows.OpenSpec.upto Rows.readySteadySpec).pre6 enc Try.prog Try.f12 Rows.readySteadyUptoRow.domain false) (((Rows.OpenSpec.upto Rows.readySteadySpec).at F).post enc Try.prog Try.f12 false true false false) := by
  refine returnsInHanded_of_cond (C := Try.checked) (s := Rows.OpenSpec.upto Rows.readySteadySpec) (k := Rows.uptoSmall) rfl Try.own started (by kernel_rfl) Try.func12
    (OpenSpec.witness (enc := enc) (C := Try.checked) (s := Rows.OpenSpec.upto Rows.readySteadySpec) (k := Rows.uptoSmall) rfl false ⟨#[], #[.agg #[.int .i64 0, .int .i64 0, .int .i64 0, .int .i64 0, .int .i64 0, .slice none 0 0, .slice none 0 0, .slice none 0 0, .slice none 0 0], .int .i64 0, .agg #[.slice none 0 0, .slice none 0 0, .int .i64 0, .slice none 0 0, .slice none 0 0, .slice none 0 0, .slice none 0 0], .int .i64 0], []⟩ 13 (by kernel_rfl) (by kernel_rfl) (by kernel_rfl)
      (x := ([.agg [.lit (.int .i64 0), .lit (.int .i64 0), .lit (.int .i64 0), .lit (.int .i64 0), .lit (.int .i64 0), .nil, .nil, .nil, .nil], .lit (.int .i64 0), .agg [.nil, .nil, .lit (.int .i64 0), .nil, .nil, .nil, .nil], .lit (.int .i64 0)], [], [])) (by kernel_rfl) rfl (by kernel_rfl)) ?_
  intro W base args ds gs before hval0 hW _ hk _
  have hval : ∀ (j : Nat) t v, Try.f12.params[j]? = some t → args[j]? = some v → Value.okWide Try.prog W .any base t v := hval0
  have hW' := hW
  obtain ⟨p, q, hA0, hV, rfl, hfz, hnd⟩ := hW
  have hA : DataW.TrodAll enc Try.prog W 0 (fun _ => true) true Try.f12.params.toList args.toList ds p := hA0
  rw [Try.params12] at hA hval
  obtain ⟨v0, vs0, d0, ds0, p0, q0, hargs, rfl, rfl, h0, r0⟩ := trodAll_cons hA
  obtain ⟨v1, vs1, d1, ds1, p1, q1, rfl, rfl, rfl, h1, r1⟩ := trodAll_cons r0
  obtain ⟨v2, vs2, d2, ds2, p2, q2, rfl, rfl, rfl, h2, r2⟩ := trodAll_cons r1
  obtain ⟨v3, vs3, d3, ds3, p3, q3, rfl, rfl, rfl, h3, r3⟩ := trodAll_cons r2
  obtain ⟨rfl, rfl, rfl⟩ := trodAll_nil r3
  obtain rfl : args = #[v0, v1, v2, v3] := by cases args; simp_all
  obtain ⟨rfl, rfl⟩ := trodVars_none hV
  have k0 := h0
  have k2 := h2
  have lt0 : ∀ x ∈ p0, x.block < W.heap.size := by obtain ⟨m, hm⟩ := k0; exact DataW.trod_lt m _ _ _ hm
  have lt2 : ∀ x ∈ p2, x.block < W.heap.size := by obtain ⟨m, hm⟩ := k2; exact DataW.trod_lt m _ _ _ hm
  obtain ⟨C, B, rfl, hin⟩ := open_confx (hval 0 46 v0 rfl rfl) h0
  obtain ⟨r, rfl, rfl, rfl, wr⟩ := open_int Try.underlying3 (hval 1 3 v1 rfl rfl) h1
  obtain ⟨D, A, rfl, hdin⟩ := open_dom (hval 2 90 v2 rfl rfl) h2
  obtain ⟨s, rfl, rfl, rfl, ws⟩ := open_int Try.underlying3 (hval 3 3 v3 rfl rfl) h3
  have hev : D.evs.length ≤ 10000000 := by
    have e1 := evs_small k2
    have e2 : Rows.uptoBulkAll _ ≤ 1048576 := of_decide_eq_true hk
    simp only [List.append_nil, Rows.uptoBulkAll] at e2
    omega
  clear hA0 hval0
  refine (steady_all D A C B r s W hin hdin hev).mono fun e W' ⟨he, bel⟩ => ?_
  subst he
  exact ⟨_, rfl, _, _, _, [], _, [], hW', trodAll_mk1 (shut_bool Try.underlying4 _), (trodAll_cons_mk (Below.trod Try.laidOut (by kernel_rfl) (of_decide_eq_true (by kernel_rfl)) k0 bel lt0) (trodAll_cons_mk (shut_int Try.underlying3 wr) (trodAll_cons_mk (Below.trod Try.laidOut (by kernel_rfl) (of_decide_eq_true (by kernel_rfl)) k2 bel lt2) (trodAll_cons_mk (shut_int Try.underlying3 ws) trodAll_mk0)))), rfl, bel.frame _, fun h => by cases h⟩

/-- The statement. -/
theorem readySteady_holds : Rows.ReadySteadyUptoSaid :=
  OpenClaim.holds_of_cond 12 Try.f12 rfl rfl rfl rfl rfl rfl rfl ⟨rfl, rfl, rfl, rfl, rfl⟩ rfl rfl rfl rfl rfl (by kernel_rfl) Try.func12 (by kernel_rfl)
    (of_decide_eq_true (by kernel_rfl)) (by unfold Func.isWrapper; first | (rw [if_pos (by decide +kernel)]; kernel_rfl) | (rw [if_neg (by decide +kernel)]; exact ⟨rfl, rfl⟩))
    (fun os started H enc _ F => steady_lifted os started H enc F)

end Go.Proofs.Ytaellaconpaejaa
