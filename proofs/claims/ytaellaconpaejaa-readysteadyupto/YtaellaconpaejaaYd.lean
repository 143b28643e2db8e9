/- Walks: the check of a domain: what came in by channels, its shape. -/
import Derived.Test.YtaellaconpaejaaYc
set_option linter.unusedVariables false
namespace Go.Proofs.Ytaellaconpaejaa
open Go.RowKit

/-- What is wrong with ring i of what came in. -/
def ckIn1 (C : Conf) (D : Dom) (i : Nat) : Int := ckR (D.ins.getD i ([], 0)).1 (D.ins.getD i ([], 0)).2 (C.ch.getD i (0, 0, 0)).2.2
def ckIns (C : Conf) (D : Dom) : Int := fe D.ins.length (ckIn1 C D)

set_option maxRecDepth 100000 in
set_option maxHeartbeats 2000000 in
theorem checkIns_any (kb : Nat) (D : Dom) (A : DMem) (C : Conf) (B : Mem) (dn : Int) (w : World) (hK : KeepIn w kb D A C B dn) (hn : D.ins.length = C.ch.length) :
    Calls Try.prog 108 #[.pointer (some ⟨kb, 0, none⟩)] w fun e w' => e = .returned (.int .i64 (ckIns C D)) ∧ Below w.heap.size w w' := by
  have HK := hid hK
  have HN := hid hn
  have c3 := hK.row.cell 3 _ rfl
  have c14 := hK.row.cell 14 _ rfl
  have lI := hK.dom.lI
  have hkb := hK.row.lt
  clear hK hn
  obtain ⟨aJ, aR, aI, aT, aO, aE, cJ, cR, cI, cT, cO, cE⟩ := A
  obtain ⟨a5, a6, a7, a8, c5, c6, c7, c8⟩ := B
  dsimp only at *
  go_enter Try.func108, Try.ntmps108
  go_wp2
  go_loopw [12] (fun i wr => ∃ k : Nat, k ≤ D.ins.length ∧ i = .int .i64 k ∧ Below w.heap.size w wr ∧ ∀ j, j < k → ckIn1 C D j = 0) (fun i _ => D.ins.length - (intOf i).toNat)
  case atStart => exact ⟨0, Nat.zero_le _, rfl, Below.refl _ _, by omega⟩
  case round =>
    obtain ⟨k, hk, rfl, hbl, hno⟩ := hrel
    have Hno := hid hno
    clear hno
    by_cases hlt : k < D.ins.length
    · have hlc : k < C.ch.length := by have := HN.out; omega
      obtain ⟨b1, o1, a1, k1, rfl, p0, p1, p2, p3, p4⟩ := (HK.out.dom.keep hbl).ins k hlt
      obtain ⟨b2, o2, rfl, q0, q1, q2⟩ := (HK.out.con.keep hbl).ch k hlc
      have HV : Hid (ckIn1 C D k = ckR D.ins[k].1 D.ins[k].2 C.ch[k].2.2) := hid (by simp [ckIn1, hlt, hlc])
      have c14' := bkeep hbl c14 (Nat.le_refl _)
      have hk1 : (k : Int) < (D.ins.length : Int) := by omega
      have hk2 : (k : Int) < (C.ch.length : Int) := by omega
      have hk0 : (0 : Int) ≤ (k : Int) := by omega
      generalize D.ins[k].1 = V at *
      generalize D.ins[k].2 = l at *
      generalize C.ch[k].1 = z0 at *
      generalize C.ch[k].2.1 = z1 at *
      generalize C.ch[k].2.2 = z2 at *
      have q := below_new wr (.cells #[.slice a1 V.length k1, .int .i64 l] 63)
      have P2 := hid (p2.keep q)
      have HBL := hid hbl
      have r0 := bkeep q c14' (Nat.le_refl _)
      have r1 := bkeep q q2 (Nat.le_refl _)
      have hsz := hbl.size
      generalize hW : wr.alloc (.cells #[.slice a1 V.length k1, .int .i64 l] 63) = W at *
      have HW := hid hW
      have s0 : W.cell? ⟨wr.heap.size, 0, none⟩ = some (.slice a1 V.length k1) := by rw [← hW]; simp
      have s1 : W.cell? ⟨wr.heap.size, 1, none⟩ = some (.int .i64 l) := by rw [← hW]; simp
      clear hW
      have HS : Hid (∀ w', Below W.heap.size W w' → w'.cell? ⟨wr.heap.size, 0, none⟩ = some (.slice a1 V.length k1) ∧ w'.cell? ⟨wr.heap.size, 1, none⟩ = some (.int .i64 l) ∧ w'.cell? ⟨kb, 14, none⟩ = some (.slice (some ⟨b2, o2, none⟩) C.ch.length c7) ∧ w'.cell? ⟨b2, o2 + k * 3 + 2, none⟩ = some (.int .i64 z2)) := hid fun w' hb => ⟨bkeep hb s0 (Nat.le_refl _), bkeep hb s1 (Nat.le_refl _), bkeep hb r0 (Nat.le_refl _), bkeep hb r1 (Nat.le_refl _)⟩
      have hbz : Below W.heap.size W W.drew := (Below.refl _ _).drew
      go_wp2_with fail
      rw [HW.out]
      go_region_held3 (fun w' => w'.cell? ⟨wr.heap.size, 0, none⟩ = some (.slice a1 V.length k1) ∧ w'.cell? ⟨wr.heap.size, 1, none⟩ = some (.int .i64 l) ∧ w'.cell? ⟨kb, 14, none⟩ = some (.slice (some ⟨b2, o2, none⟩) C.ch.length c7) ∧ w'.cell? ⟨b2, o2 + k * 3 + 2, none⟩ = some (.int .i64 z2))
        (first | exact HS.out _ hB3 | exact HS.out _ hbz | go_keep)
        (first | (go_at_call 41; refine (ringCheck_any a1 V k1 l z2 _ (P2.out.keep hbz) p4).mono ?_; rintro e w3 ⟨rfl, hb3⟩; have hB3 := btrans hbz hb3))
      have HB3 := hid (btrans HBL.out (btrans q hB3))
      clear HS hB3 hbz s0 s1 r0 r1 q p0 p1 q0 q1 q2 c14' hbl p2
      by_cases h0 : ckR V l z2 = 0
      · have H0 : Hid (ckIn1 C D k = 0) := hid (by rw [HV.out, h0])
        rw [h0]
        clear h0
        go_wp2
        go_roundw
        case rel =>
          refine ⟨k + 1, by omega, by go_num, HB3.out, fun j hj => ?_⟩
          by_cases e : j = k
          · subst e; exact H0.out
          · exact Hno.out j (by omega)
        case measure => simp [intOf]; omega
      · have HE : Hid (ckIns C D = ckR V l z2) := hid (by rw [ckIns, fe_at _ k _ hlt (by rw [HV.out]; exact h0) (fun j hj => Hno.out j hj), HV.out])
        have hx : (ckR V l z2 != 0) = true := by simp [h0]
        clear h0 HV
        generalize ckR V l z2 = q at *
        go_wp2
        go_ret
        exact ⟨ret_int HE.out.symm, HB3.out⟩
    · go_wp2
      go_ret
      exact ⟨ret_int (by rw [ckIns]; exact (fe_zero _ _ (fun j hj => Hno.out j (by omega))).symm), hbl⟩

set_option maxRecDepth 100000 in
set_option maxHeartbeats 2000000 in
theorem checkShape2_any (kb : Nat) (D : Dom) (A : DMem) (C : Conf) (B : Mem) (dn : Int) (w : World) (hK : KeepIn w kb D A C B dn) :
    Calls Try.prog 105 #[.pointer (some ⟨kb, 0, none⟩)] w fun e w' => e = .returned (.int .i64 (ckShp C D)) ∧ Below w.heap.size w w' := by
  have k1 := hK.row.cell 1 _ rfl
  have k3 := hK.row.cell 3 _ rfl
  have k4 := hK.row.cell 4 _ rfl
  have k5 := hK.row.cell 5 _ rfl
  have kd := hK.row.cell 13 _ rfl
  have ke := hK.row.cell 14 _ rfl
  have kf := hK.row.cell 15 _ rfl
  have l1 := hK.dom.lR
  have l3 := hK.dom.lI
  have l4 := hK.dom.lT
  have l5 := hK.dom.lO
  have l6 := hK.con.l6
  have l7 := hK.con.l7
  have l8 := hK.con.l8
  clear hK
  have HE : Hid (∀ b1 b2 b3 b4 : Bool, ((D.rel.length : Int) != C.ta.length) = b1 → ((D.ins.length : Int) != C.ch.length) = b2 → ((D.out.length : Int) != C.ch.length) = b3 → ((D.tak.length : Int) != C.ow.length) = b4 → ckShp C D = if b1 || b2 || b3 || b4 then 1 else 0) := hid (by
    rintro b1 b2 b3 b4 rfl rfl rfl rfl
    unfold ckShp
    by_cases h : D.rel.length = C.ta.length ∧ D.ins.length = C.ch.length ∧ D.out.length = C.ch.length ∧ D.tak.length = C.ow.length
    · obtain ⟨h1, h2, h3, h4⟩ := h
      simp [h1, h2, h3, h4]
    · rw [if_neg h, if_pos]
      simp only [Bool.or_eq_true, bne_iff_ne, ne_eq, Int.ofNat_inj]
      omega)
  cases h1 : ((D.rel.length : Int) != C.ta.length) <;> cases h2 : ((D.ins.length : Int) != C.ch.length) <;> cases h3 : ((D.out.length : Int) != C.ch.length) <;> cases h4 : ((D.tak.length : Int) != C.ow.length)
  all_goals
    have HX := hid (HE.out _ _ _ _ h1 h2 h3 h4)
    clear HE
    go_enter Try.func105, Try.ntmps105
    go_wp2
    go_quiet (fail)
    go_wp2
    go_ret
    exact ⟨ret_int (by rw [HX.out]; rfl), below_drewN (Below.refl _ _) _⟩

end Go.Proofs.Ytaellaconpaejaa
