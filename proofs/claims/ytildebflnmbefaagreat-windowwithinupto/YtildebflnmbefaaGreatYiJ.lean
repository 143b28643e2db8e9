/- Walks: the check of a domain. Made by genyi.py. -/
import Derived.Test.YtildebflnmbefaaGreatKi
set_option linter.unusedVariables false
namespace Go.Proofs.YtildebflnmbefaaGreat
open Go.RowKit

/-- The checks of a domain itself, in order. -/
def ck5 (C : Conf) (dn : Int) (D : Dom) : Nat → Int
  | 0 => ckShp C D
  | 1 => ckNums D
  | 2 => ckJobs C dn D
  | 3 => ckIns C D
  | _ => ckOuts D
/-- What is wrong with a domain. -/
def ckD (C : Conf) (dn : Int) (D : Dom) : Int := if ckPlace C dn ≠ 0 then ckPlace C dn else fe 5 (ck5 C dn D)

theorem shp_ins {C : Conf} {D : Dom} (h : ckShp C D = 0) : D.rel.length = C.ta.length ∧ D.ins.length = C.ch.length ∧ D.out.length = C.ch.length ∧ D.tak.length = C.ow.length := by
  unfold ckShp at h
  split at h
  · assumption
  · omega

theorem step5_any (k : Nat) (hk : k < 5) (kb : Nat) (D : Dom) (A : DMem) (C : Conf) (B : Mem) (dn : Int) (w : World) (hK : KeepIn w kb D A C B dn) (hno : ∀ j, j < k → ck5 C dn D j = 0) :
    Calls Tryz.prog (35 + k) #[.pointer (some ⟨kb, 0, none⟩)] w fun e w' => e = .returned (.int .i64 (ck5 C dn D k)) ∧ Below w.heap.size w w' := by
  match k, hk with
  | 0, _ => exact checkShape2_any kb D A C B dn w hK
  | 1, _ => exact checkNums_any kb D A C B dn w hK
  | 2, _ => exact checkJobs_any kb D A C B dn w hK
  | 3, _ => exact checkIns_any kb D A C B dn w hK (shp_ins (hno 0 (by omega))).2.1
  | 4, _ => exact checkOuts_any kb D A C B dn w hK

abbrev tb5 (KB : Nat) : List Value := [.func (.func 35) #[.pointer (some ⟨KB, 0, none⟩)] #[], .func (.func 36) #[.pointer (some ⟨KB, 0, none⟩)] #[], .func (.func 37) #[.pointer (some ⟨KB, 0, none⟩)] #[], .func (.func 38) #[.pointer (some ⟨KB, 0, none⟩)] #[], .func (.func 39) #[.pointer (some ⟨KB, 0, none⟩)] #[]]
theorem tab5 (KB : Nat) (k : Nat) (hk : k < 5) : (tb5 KB)[k]? = some (.func (.func (35 + k)) #[.pointer (some ⟨KB, 0, none⟩)] #[]) := by
  match k, hk with
  | 0, _ => rfl
  | 1, _ => rfl
  | 2, _ => rfl
  | 3, _ => rfl
  | 4, _ => rfl

set_option maxRecDepth 100000 in
set_option maxHeartbeats 4000000 in
theorem checkD_any (D : Dom) (A : DMem) (C : Conf) (B : Mem) (dn : Int) (w : World) (hC : ConfIn w B C) (hD : DomIn w A D) :
    Calls Tryz.prog 22 #[cv C B, .int .i64 dn, dv D A] w fun e w' => e = .returned (.int .i64 (ckD C dn D)) ∧ Below w.heap.size w w' := by
  have q1 := below_new w (.cells (cl C B) 27)
  have q2 := below_new (w.alloc (.cells (cl C B) 27)) (.cells (dl D A) 33)
  have HC := hid (hC.keep (btrans q1 q2))
  have HD := hid (hD.keep (btrans q1 q2))
  have HX := hid ((boxC_new w C B).keep q2)
  have HR := hid (rowAt_new2 (w.alloc (.cells (cl C B) 27)) (w.heap.size + 1) (dl D A).toList 33 (by simp))
  have HB := hid (btrans q1 q2)
  have hmf : ∀ (fn : Fn) (first cap : Array Value) (w : World), (Instr.makeFunc fn first cap).run Tryz.prog w = .ok (.func fn first cap) w := fun _ _ _ _ => rfl
  clear q1 q2 hC hD
  obtain ⟨aJ, aR, aI, aT, aO, aE, cJ, cR, cI, cT, cO, cE⟩ := A
  obtain ⟨a5, a6, a7, a8, c5, c6, c7, c8⟩ := B
  dsimp only [cv, cl, dv, dl] at *
  go_enter Tryz.func22, Tryz.ntmps22
  go_wp2_with fail
  refine (checkPlace_any C ⟨a5, a6, a7, a8, c5, c6, c7, c8⟩ dn _ HC.out).mono ?_
  rintro e w1 ⟨rfl, hb1⟩
  have HB1 := hid (btrans HB.out hb1)
  by_cases h0 : ckPlace C dn = 0
  · have HE : Hid (ckD C dn D = fe 5 (ck5 C dn D)) := hid (by simp [ckD, h0])
    rw [h0]
    have HC1 := hid (HC.out.keep hb1)
    have HD1 := hid (HD.out.keep hb1)
    obtain ⟨g0, g1, g2, g3, g4, g5, g6, g7, g8⟩ := HX.out.keep hb1
    have r := HR.out.below hb1 (Nat.le_refl _)
    have d0 := r.cell 0 _ rfl
    have d1 := r.cell 1 _ rfl
    have d2 := r.cell 2 _ rfl
    have d3 := r.cell 3 _ rfl
    have d4 := r.cell 4 _ rfl
    have d5 := r.cell 5 _ rfl
    have d6 := r.cell 6 _ rfl
    have v1 := below_new w1 (.cells #[.slice aJ D.jobs.length cJ, .slice aR D.rel.length cR, .int .i64 D.nxt, .slice aI D.ins.length cI, .slice aT D.tak.length cT, .slice aO D.out.length cO, .slice aE D.evs.length cE, .int .i64 C.s, .int .i64 C.w, .int .i64 C.d, .int .i64 C.p, .int .i64 C.q, .slice a5 C.sl.length c5, .slice a6 C.ow.length c6, .slice a7 C.ch.length c7, .slice a8 C.ta.length c8, .int .i64 dn] 96)
    have v2 := below_new (w1.alloc (.cells #[.slice aJ D.jobs.length cJ, .slice aR D.rel.length cR, .int .i64 D.nxt, .slice aI D.ins.length cI, .slice aT D.tak.length cT, .slice aO D.out.length cO, .slice aE D.evs.length cE, .int .i64 C.s, .int .i64 C.w, .int .i64 C.d, .int .i64 C.p, .int .i64 C.q, .slice a5 C.sl.length c5, .slice a6 C.ow.length c6, .slice a7 C.ch.length c7, .slice a8 C.ta.length c8, .int .i64 dn] 96)) (.cells #[.func (.func 35) #[.pointer (some ⟨w1.heap.size, 0, none⟩)] #[], .func (.func 36) #[.pointer (some ⟨w1.heap.size, 0, none⟩)] #[], .func (.func 37) #[.pointer (some ⟨w1.heap.size, 0, none⟩)] #[], .func (.func 38) #[.pointer (some ⟨w1.heap.size, 0, none⟩)] #[], .func (.func 39) #[.pointer (some ⟨w1.heap.size, 0, none⟩)] #[]] 97)
    have HK : Hid (KeepIn ((w1.alloc (.cells #[.slice aJ D.jobs.length cJ, .slice aR D.rel.length cR, .int .i64 D.nxt, .slice aI D.ins.length cI, .slice aT D.tak.length cT, .slice aO D.out.length cO, .slice aE D.evs.length cE, .int .i64 C.s, .int .i64 C.w, .int .i64 C.d, .int .i64 C.p, .int .i64 C.q, .slice a5 C.sl.length c5, .slice a6 C.ow.length c6, .slice a7 C.ch.length c7, .slice a8 C.ta.length c8, .int .i64 dn] 96)).alloc (.cells #[.func (.func 35) #[.pointer (some ⟨w1.heap.size, 0, none⟩)] #[], .func (.func 36) #[.pointer (some ⟨w1.heap.size, 0, none⟩)] #[], .func (.func 37) #[.pointer (some ⟨w1.heap.size, 0, none⟩)] #[], .func (.func 38) #[.pointer (some ⟨w1.heap.size, 0, none⟩)] #[], .func (.func 39) #[.pointer (some ⟨w1.heap.size, 0, none⟩)] #[]] 97)) w1.heap.size D ⟨aJ, aR, aI, aT, aO, aE, cJ, cR, cI, cT, cO, cE⟩ C ⟨a5, a6, a7, a8, c5, c6, c7, c8⟩ dn) := hid ⟨(rowAt_new2 w1 w1.heap.size (kl D ⟨aJ, aR, aI, aT, aO, aE, cJ, cR, cI, cT, cO, cE⟩ C ⟨a5, a6, a7, a8, c5, c6, c7, c8⟩ dn) 96 rfl).below v2 (Nat.le_refl _), (HD1.out.keep v1).keep v2, (HC1.out.keep v1).keep v2⟩
    have HT : Hid (RowAt ((w1.alloc (.cells #[.slice aJ D.jobs.length cJ, .slice aR D.rel.length cR, .int .i64 D.nxt, .slice aI D.ins.length cI, .slice aT D.tak.length cT, .slice aO D.out.length cO, .slice aE D.evs.length cE, .int .i64 C.s, .int .i64 C.w, .int .i64 C.d, .int .i64 C.p, .int .i64 C.q, .slice a5 C.sl.length c5, .slice a6 C.ow.length c6, .slice a7 C.ch.length c7, .slice a8 C.ta.length c8, .int .i64 dn] 96)).alloc (.cells #[.func (.func 35) #[.pointer (some ⟨w1.heap.size, 0, none⟩)] #[], .func (.func 36) #[.pointer (some ⟨w1.heap.size, 0, none⟩)] #[], .func (.func 37) #[.pointer (some ⟨w1.heap.size, 0, none⟩)] #[], .func (.func 38) #[.pointer (some ⟨w1.heap.size, 0, none⟩)] #[], .func (.func 39) #[.pointer (some ⟨w1.heap.size, 0, none⟩)] #[]] 97)) (w1.heap.size + 1) 97 (tb5 w1.heap.size)) := hid (rowAt_new2 _ (w1.heap.size + 1) (tb5 w1.heap.size) 97 (by simp))
    have HB2 : Hid (Below w.heap.size w ((w1.alloc (.cells #[.slice aJ D.jobs.length cJ, .slice aR D.rel.length cR, .int .i64 D.nxt, .slice aI D.ins.length cI, .slice aT D.tak.length cT, .slice aO D.out.length cO, .slice aE D.evs.length cE, .int .i64 C.s, .int .i64 C.w, .int .i64 C.d, .int .i64 C.p, .int .i64 C.q, .slice a5 C.sl.length c5, .slice a6 C.ow.length c6, .slice a7 C.ch.length c7, .slice a8 C.ta.length c8, .int .i64 dn] 96)).alloc (.cells #[.func (.func 35) #[.pointer (some ⟨w1.heap.size, 0, none⟩)] #[], .func (.func 36) #[.pointer (some ⟨w1.heap.size, 0, none⟩)] #[], .func (.func 37) #[.pointer (some ⟨w1.heap.size, 0, none⟩)] #[], .func (.func 38) #[.pointer (some ⟨w1.heap.size, 0, none⟩)] #[], .func (.func 39) #[.pointer (some ⟨w1.heap.size, 0, none⟩)] #[]] 97))) := hid (btrans HB1.out (btrans v1 v2))
    clear r h0 HB HC HD HX HR hb1 v1 v2 HC1 HD1 HB1
    go_wp2
    clear g0 g1 g2 g3 g4 g5 g6 g7 g8 d0 d1 d2 d3 d4 d5 d6
    generalize ((w1.alloc (.cells #[.slice aJ D.jobs.length cJ, .slice aR D.rel.length cR, .int .i64 D.nxt, .slice aI D.ins.length cI, .slice aT D.tak.length cT, .slice aO D.out.length cO, .slice aE D.evs.length cE, .int .i64 C.s, .int .i64 C.w, .int .i64 C.d, .int .i64 C.p, .int .i64 C.q, .slice a5 C.sl.length c5, .slice a6 C.ow.length c6, .slice a7 C.ch.length c7, .slice a8 C.ta.length c8, .int .i64 dn] 96)).alloc (.cells #[.func (.func 35) #[.pointer (some ⟨w1.heap.size, 0, none⟩)] #[], .func (.func 36) #[.pointer (some ⟨w1.heap.size, 0, none⟩)] #[], .func (.func 37) #[.pointer (some ⟨w1.heap.size, 0, none⟩)] #[], .func (.func 38) #[.pointer (some ⟨w1.heap.size, 0, none⟩)] #[], .func (.func 39) #[.pointer (some ⟨w1.heap.size, 0, none⟩)] #[]] 97)) = W2 at *
    go_loopw [31] (fun i wr => ∃ k : Nat, k ≤ 5 ∧ i = .int .i64 k ∧ Below W2.heap.size W2 wr ∧ ∀ j, j < k → ck5 C dn D j = 0) (fun i _ => 5 - (intOf i).toNat)
    case atStart => exact ⟨0, Nat.zero_le _, rfl, Below.refl _ _, by omega⟩
    case round =>
      obtain ⟨k, hk, rfl, hbl, hno⟩ := hrel
      have Hno := hid hno
      clear hno
      by_cases hlt : k < 5
      · have hc := (HT.out.below hbl (Nat.le_refl _)).cell k _ (tab5 w1.heap.size k hlt)
        have hlt' : (k : Int) < 5 := by omega
        have hcs : k = 0 ∨ k = 1 ∨ k = 2 ∨ k = 3 ∨ k = 4 := by omega
        rcases hcs with rfl | rfl | rfl | rfl | rfl
        · simp only [Nat.reduceAdd] at hc
          go_wp2_with fail
          refine (step5_any 0 hlt w1.heap.size D _ C _ dn _ (HK.out.keep hbl) Hno.out).mono ?_
          rintro e w3 ⟨rfl, hb3⟩
          by_cases hx : ck5 C dn D 0 = 0
          · have HX := hid hx
            rw [hx]
            clear hx
            go_wp2
            go_roundw
            case rel =>
              refine ⟨0 + 1, by omega, by go_num, btrans hbl hb3, fun j hj => ?_⟩
              by_cases e : j = 0
              · subst e; exact HX.out
              · exact Hno.out j (by omega)
            case measure => simp [intOf]
          · have HF := hid (fe_at 5 0 (ck5 C dn D) hlt hx Hno.out)
            have hx' : (ck5 C dn D 0 != 0) = true := by simp [hx]
            clear hx
            generalize ck5 C dn D 0 = q at *
            go_wp2
            go_ret
            exact ⟨ret_int (by rw [HE.out, HF.out]), btrans HB2.out (btrans hbl hb3)⟩
        · simp only [Nat.reduceAdd] at hc
          go_wp2_with fail
          refine (step5_any 1 hlt w1.heap.size D _ C _ dn _ (HK.out.keep hbl) Hno.out).mono ?_
          rintro e w3 ⟨rfl, hb3⟩
          by_cases hx : ck5 C dn D 1 = 0
          · have HX := hid hx
            rw [hx]
            clear hx
            go_wp2
            go_roundw
            case rel =>
              refine ⟨1 + 1, by omega, by go_num, btrans hbl hb3, fun j hj => ?_⟩
              by_cases e : j = 1
              · subst e; exact HX.out
              · exact Hno.out j (by omega)
            case measure => simp [intOf]
          · have HF := hid (fe_at 5 1 (ck5 C dn D) hlt hx Hno.out)
            have hx' : (ck5 C dn D 1 != 0) = true := by simp [hx]
            clear hx
            generalize ck5 C dn D 1 = q at *
            go_wp2
            go_ret
            exact ⟨ret_int (by rw [HE.out, HF.out]), btrans HB2.out (btrans hbl hb3)⟩
        · simp only [Nat.reduceAdd] at hc
          go_wp2_with fail
          refine (step5_any 2 hlt w1.heap.size D _ C _ dn _ (HK.out.keep hbl) Hno.out).mono ?_
          rintro e w3 ⟨rfl, hb3⟩
          by_cases hx : ck5 C dn D 2 = 0
          · have HX := hid hx
            rw [hx]
            clear hx
            go_wp2
            go_roundw
            case rel =>
              refine ⟨2 + 1, by omega, by go_num, btrans hbl hb3, fun j hj => ?_⟩
              by_cases e : j = 2
              · subst e; exact HX.out
              · exact Hno.out j (by omega)
            case measure => simp [intOf]
          · have HF := hid (fe_at 5 2 (ck5 C dn D) hlt hx Hno.out)
            have hx' : (ck5 C dn D 2 != 0) = true := by simp [hx]
            clear hx
            generalize ck5 C dn D 2 = q at *
            go_wp2
            go_ret
            exact ⟨ret_int (by rw [HE.out, HF.out]), btrans HB2.out (btrans hbl hb3)⟩
        · simp only [Nat.reduceAdd] at hc
          go_wp2_with fail
          refine (step5_any 3 hlt w1.heap.size D _ C _ dn _ (HK.out.keep hbl) Hno.out).mono ?_
          rintro e w3 ⟨rfl, hb3⟩
          by_cases hx : ck5 C dn D 3 = 0
          · have HX := hid hx
            rw [hx]
            clear hx
            go_wp2
            go_roundw
            case rel =>
              refine ⟨3 + 1, by omega, by go_num, btrans hbl hb3, fun j hj => ?_⟩
              by_cases e : j = 3
              · subst e; exact HX.out
              · exact Hno.out j (by omega)
            case measure => simp [intOf]
          · have HF := hid (fe_at 5 3 (ck5 C dn D) hlt hx Hno.out)
            have hx' : (ck5 C dn D 3 != 0) = true := by simp [hx]
            clear hx
            generalize ck5 C dn D 3 = q at *
            go_wp2
            go_ret
            exact ⟨ret_int (by rw [HE.out, HF.out]), btrans HB2.out (btrans hbl hb3)⟩
        · simp only [Nat.reduceAdd] at hc
          go_wp2_with fail
          refine (step5_any 4 hlt w1.heap.size D _ C _ dn _ (HK.out.keep hbl) Hno.out).mono ?_
          rintro e w3 ⟨rfl, hb3⟩
          by_cases hx : ck5 C dn D 4 = 0
          · have HX := hid hx
            rw [hx]
            clear hx
            go_wp2
            go_roundw
            case rel =>
              refine ⟨4 + 1, by omega, by go_num, btrans hbl hb3, fun j hj => ?_⟩
              by_cases e : j = 4
              · subst e; exact HX.out
              · exact Hno.out j (by omega)
            case measure => simp [intOf]
          · have HF := hid (fe_at 5 4 (ck5 C dn D) hlt hx Hno.out)
            have hx' : (ck5 C dn D 4 != 0) = true := by simp [hx]
            clear hx
            generalize ck5 C dn D 4 = q at *
            go_wp2
            go_ret
            exact ⟨ret_int (by rw [HE.out, HF.out]), btrans HB2.out (btrans hbl hb3)⟩
      · have hk5 : k = 5 := by omega
        subst hk5
        go_wp2
        go_ret
        exact ⟨ret_int (by rw [HE.out]; exact (fe_zero _ _ (fun j hj => Hno.out j (by omega))).symm), btrans HB2.out hbl⟩
  · have hx : (ckPlace C dn != 0) = true := by simp [h0]
    have HE : Hid (ckD C dn D = ckPlace C dn) := hid (by simp [ckD, h0])
    clear h0 hb1 HX HC HD HB HR
    generalize ckPlace C dn = q at *
    go_wp2
    go_ret
    exact ⟨ret_int HE.out.symm, HB1.out⟩

end Go.Proofs.YtildebflnmbefaaGreat
