/- Walks: parts of the check of a domain: its place, its shape, its numbers, what came in, what goes out. Walks: the check of a domain: what came in by channels, its shape. -/
import Derived.Test.YtildebflnmbefaaGreatKe
set_option linter.unusedVariables false
namespace Go.Proofs.YtildebflnmbefaaGreat
open Go.RowKit

/-- What is wrong ahead of the domain itself. -/
def ckPlace (C : Conf) (dn : Int) : Int := if ckC C = 0 then (if inR dn 0 (C.d - 1) then 0 else 5) else ckC C
def ckShp (C : Conf) (D : Dom) : Int := if D.rel.length = C.ta.length ∧ D.ins.length = C.ch.length ∧ D.out.length = C.ch.length ∧ D.tak.length = C.ow.length then 0 else 1
def ckNums (D : Dom) : Int := if allR D.rel 0 100000 && inR D.nxt 0 100000 && allR D.tak 0 15 then 0 else 3
def long60 (l : List Int) : Bool := decide (60 < l.length)
def bad255 (l : List Int) : Bool := !allR l 0 255
def ckOuts (D : Dom) : Int := if D.out.any long60 then 2 else if D.out.any bad255 then 3 else 0

theorem ckC_d {C : Conf} (h : ckC C = 0) : 1 ≤ C.d ∧ C.d ≤ 4 := by
  have h1 := (ck_ok h).1
  unfold ckNum at h1
  split at h1
  · rename_i h2
    simp [inR] at h2
    omega
  · omega

/-- A keeper's cells. -/
abbrev kl (D : Dom) (A : DMem) (C : Conf) (B : Mem) (dn : Int) : List Value := [.slice A.aJ D.jobs.length A.cJ, .slice A.aR D.rel.length A.cR, .int .i64 D.nxt, .slice A.aI D.ins.length A.cI, .slice A.aT D.tak.length A.cT, .slice A.aO D.out.length A.cO, .slice A.aE D.evs.length A.cE, .int .i64 C.s, .int .i64 C.w, .int .i64 C.d, .int .i64 C.p, .int .i64 C.q, .slice B.a5 C.sl.length B.c5, .slice B.a6 C.ow.length B.c6, .slice B.a7 C.ch.length B.c7, .slice B.a8 C.ta.length B.c8, .int .i64 dn]

/-- A keeper in memory. -/
structure KeepIn (w : World) (kb : Nat) (D : Dom) (A : DMem) (C : Conf) (B : Mem) (dn : Int) : Prop where
  row : RowAt w kb 96 (kl D A C B dn)
  dom : DomIn w A D
  con : ConfIn w B C

theorem KeepIn.keep {w w' : World} {kb : Nat} {D : Dom} {A : DMem} {C : Conf} {B : Mem} {dn : Int} (h : KeepIn w kb D A C B dn) (hb : Below w.heap.size w w') : KeepIn w' kb D A C B dn :=
  ⟨h.row.below hb (Nat.le_refl _), h.dom.keep hb, h.con.keep hb⟩

set_option maxHeartbeats 1000000 in
theorem checkPlace_any (C : Conf) (B : Mem) (dn : Int) (w : World) (hC : ConfIn w B C) :
    Calls Tryz.prog 15 #[cv C B, .int .i64 dn] w fun e w' => e = .returned (.int .i64 (ckPlace C dn)) ∧ Below w.heap.size w w' := by
  have q1 := below_new w (.cells (cl C B) 27)
  have HC := hid (hC.keep q1)
  have HX := hid (boxC_new w C B)
  have HB := hid q1
  clear q1 hC
  obtain ⟨a5, a6, a7, a8, c5, c6, c7, c8⟩ := B
  dsimp only [cv, cl] at *
  go_enter Tryz.func15, Tryz.ntmps15
  go_wp2_with fail
  refine (checkC_any C ⟨a5, a6, a7, a8, c5, c6, c7, c8⟩ _ HC.out).mono ?_
  rintro e w1 ⟨rfl, hb1⟩
  have HB1 := hid (btrans HB.out hb1)
  have g2 := (HX.out.keep hb1).h2
  by_cases h0 : ckC C = 0
  · have H0 := hid h0
    have hd := ckC_d h0
    rw [h0]
    clear h0 hb1 HX HC HB
    have hw1 : wrap64 (C.d - 1) = C.d - 1 := by unfold wrap64; omega
    go_wp2_with fail
    refine (within_any _ _ _ _).mono ?_
    rintro e w' ⟨rfl, rfl⟩
    cases h1 : inR dn 0 (C.d - 1) with
    | true =>
      go_wp2
      go_ret
      exact ⟨ret_int (by simp [ckPlace, H0.out, h1]), HB1.out⟩
    | false =>
      go_wp2
      go_ret
      exact ⟨ret_int (by simp [ckPlace, H0.out, h1]), HB1.out⟩
  · have hx : (ckC C != 0) = true := by simp [h0]
    have HE : Hid (ckPlace C dn = ckC C) := hid (by simp [ckPlace, h0])
    clear h0 hb1 HX HC HB g2
    generalize ckC C = q at *
    go_wp2
    go_ret
    exact ⟨ret_int HE.out.symm, HB1.out⟩

set_option maxHeartbeats 2000000 in
theorem checkNums_any (kb : Nat) (D : Dom) (A : DMem) (C : Conf) (B : Mem) (dn : Int) (w : World) (hK : KeepIn w kb D A C B dn) :
    Calls Tryz.prog 36 #[.pointer (some ⟨kb, 0, none⟩)] w fun e w' => e = .returned (.int .i64 (ckNums D)) ∧ Below w.heap.size w w' := by
  have HK := hid hK
  have c1 := hK.row.cell 1 _ rfl
  clear hK
  go_enter Tryz.func36, Tryz.ntmps36
  go_wp2_with fail
  refine (all_any 0 100000 A.aR D.rel A.cR _ HK.out.dom.rel HK.out.dom.lR).mono ?_
  rintro e w1 ⟨rfl, hb1⟩
  have HK1 := hid (HK.out.keep hb1)
  have HB1 := hid hb1
  cases h1 : allR D.rel 0 100000 with
  | false =>
    go_wp2
    go_ret
    exact ⟨ret_int (by simp [ckNums, h1]), HB1.out⟩
  | true =>
    have H1 := hid h1
    clear h1 hb1 c1
    have c2 := HK1.out.row.cell 2 _ rfl
    have c4 := HK1.out.row.cell 4 _ rfl
    go_wp2_with fail
    refine (within_any _ _ _ _).mono ?_
    rintro e w' ⟨rfl, rfl⟩
    cases h2 : inR D.nxt 0 100000 with
    | false =>
      go_wp2
      go_ret
      exact ⟨ret_int (by simp [ckNums, h2]), HB1.out⟩
    | true =>
      have H2 := hid h2
      clear h2
      go_wp2_with fail
      refine (all_any 0 15 A.aT D.tak A.cT _ HK1.out.dom.tak HK1.out.dom.lT).mono ?_
      rintro e w2 ⟨rfl, hb2⟩
      have HB2 := hid (btrans HB1.out hb2)
      cases h3 : allR D.tak 0 15 with
      | false =>
        go_wp2
        go_ret
        exact ⟨ret_int (by simp [ckNums, h3]), HB2.out⟩
      | true =>
        go_wp2
        go_ret
        exact ⟨ret_int (by simp [ckNums, H1.out, H2.out, h3]), HB2.out⟩

set_option maxHeartbeats 400000 in
theorem outs1_any (a : Option Addr) (L : List Int) (cap : Nat) (hl : L.length ≤ 9223372036854775807) (w : World) :
    Calls Tryz.prog 64 #[.slice a L.length cap] w fun e w' => e = .returned (.bool (long60 L)) ∧ Below w.heap.size w w' := by
  go_enter Tryz.func64, Tryz.ntmps64
  go_wp2
  go_ret
  exact ⟨ret_bool (by rw [long60, Bool.eq_iff_iff]; simp; omega), Below.refl _ _⟩

set_option maxHeartbeats 400000 in
theorem outs2_any (a : Option Addr) (L : List Int) (cap : Nat) (hl : L.length ≤ 9223372036854775807) (w : World) (hi : IntsIn w a L) :
    Calls Tryz.prog 65 #[.slice a L.length cap] w fun e w' => e = .returned (.bool (bad255 L)) ∧ Below w.heap.size w w' := by
  go_enter Tryz.func65, Tryz.ntmps65
  go_wp2_with fail
  refine (all_any 0 255 a L cap _ hi hl).mono ?_
  rintro e w1 ⟨rfl, hb1⟩
  go_wp2
  go_ret
  exact ⟨rfl, hb1⟩

set_option maxHeartbeats 400000 in
theorem index156_135 (a : Option Addr) (LL : List (List Int)) (cap : Nat) (w : World) (hw : ListsIn w a LL) (hl : LL.length ≤ 9223372036854775807) :
    Calls Tryz.prog 89 #[.slice a LL.length cap, .func (.func 64) #[] #[]] w fun e w' => (∃ r : Int, e = .returned (.int .i64 r) ∧ (0 ≤ r ↔ LL.any long60 = true)) ∧ Below w.heap.size w w' := by
  go_enter Tryz.func89, Tryz.ntmps89
  go_wp2
  go_loopw [8] (fun i wr => ∃ k : Nat, k ≤ LL.length ∧ i = .int .i64 k ∧ Below w.heap.size w wr ∧ ∀ j (hj : j < LL.length), j < k → long60 LL[j] = false) (fun i _ => LL.length - (intOf i).toNat)
  case atStart => exact ⟨0, Nat.zero_le _, rfl, Below.refl _ _, by omega⟩
  case round =>
    obtain ⟨k, hk, rfl, hbl, hno⟩ := hrel
    have Hno := hid hno
    clear hno
    by_cases hlt : k < LL.length
    · obtain ⟨b', o', a2, cap2, rfl, hc1, hIs, hcap, hlen⟩ := hw k hlt
      have hc1' := bkeep hbl hc1 (Nat.le_refl _)
      have hIs' := hIs.keep hbl
      go_wp2_with fail
      refine (outs1_any a2 LL[k] cap2 hlen _).mono ?_
      rintro e w' ⟨rfl, hb2⟩
      cases hx : long60 LL[k] with
      | true =>
        have HX := hid hx
        clear hx
        go_wp2
        go_ret
        refine ⟨⟨k, rfl, ?_⟩, btrans hbl hb2⟩
        exact ⟨fun _ => List.any_eq_true.2 ⟨_, List.getElem_mem hlt, HX.out⟩, fun _ => by omega⟩
      | false =>
        have HX := hid hx
        clear hx
        go_wp2
        go_roundw
        case rel =>
          refine ⟨k + 1, by omega, by go_num, btrans hbl hb2, fun j hj hlt2 => ?_⟩
          by_cases e : j = k
          · subst e; exact HX.out
          · exact Hno.out j hj (by omega)
        case measure => simp [intOf]; omega
    · go_wp2
      go_ret
      refine ⟨⟨-1, rfl, ?_⟩, hbl⟩
      refine ⟨fun h => absurd h (by omega), fun h => ?_⟩
      obtain ⟨x, hx, hp⟩ := List.any_eq_true.1 h
      obtain ⟨j, hj, rfl⟩ := List.getElem_of_mem hx
      rw [Hno.out j hj (by omega)] at hp
      exact absurd hp (by simp)

set_option maxHeartbeats 400000 in
theorem contains134_135 (a : Option Addr) (LL : List (List Int)) (cap : Nat) (w : World) (hw : ListsIn w a LL) (hl : LL.length ≤ 9223372036854775807) :
    Calls Tryz.prog 63 #[.slice a LL.length cap, .func (.func 64) #[] #[]] w fun e w' => e = .returned (.bool (LL.any long60)) ∧ Below w.heap.size w w' := by
  go_enter Tryz.func63, Tryz.ntmps63
  go_wp2_with fail
  refine (index156_135 a LL cap _ hw hl).mono ?_
  rintro e w' ⟨⟨r, rfl, hr⟩, hb⟩
  have HR := hid hr
  clear hr
  go_wp2
  go_ret
  exact ⟨ret_bool (by rw [Bool.eq_iff_iff]; simpa using HR.out), hb⟩

set_option maxHeartbeats 400000 in
theorem index156_136 (a : Option Addr) (LL : List (List Int)) (cap : Nat) (w : World) (hw : ListsIn w a LL) (hl : LL.length ≤ 9223372036854775807) :
    Calls Tryz.prog 89 #[.slice a LL.length cap, .func (.func 65) #[] #[]] w fun e w' => (∃ r : Int, e = .returned (.int .i64 r) ∧ (0 ≤ r ↔ LL.any bad255 = true)) ∧ Below w.heap.size w w' := by
  go_enter Tryz.func89, Tryz.ntmps89
  go_wp2
  go_loopw [8] (fun i wr => ∃ k : Nat, k ≤ LL.length ∧ i = .int .i64 k ∧ Below w.heap.size w wr ∧ ∀ j (hj : j < LL.length), j < k → bad255 LL[j] = false) (fun i _ => LL.length - (intOf i).toNat)
  case atStart => exact ⟨0, Nat.zero_le _, rfl, Below.refl _ _, by omega⟩
  case round =>
    obtain ⟨k, hk, rfl, hbl, hno⟩ := hrel
    have Hno := hid hno
    clear hno
    by_cases hlt : k < LL.length
    · obtain ⟨b', o', a2, cap2, rfl, hc1, hIs, hcap, hlen⟩ := hw k hlt
      have hc1' := bkeep hbl hc1 (Nat.le_refl _)
      have hIs' := hIs.keep hbl
      go_wp2_with fail
      refine (outs2_any a2 LL[k] cap2 hlen _ hIs').mono ?_
      rintro e w' ⟨rfl, hb2⟩
      cases hx : bad255 LL[k] with
      | true =>
        have HX := hid hx
        clear hx
        go_wp2
        go_ret
        refine ⟨⟨k, rfl, ?_⟩, btrans hbl hb2⟩
        exact ⟨fun _ => List.any_eq_true.2 ⟨_, List.getElem_mem hlt, HX.out⟩, fun _ => by omega⟩
      | false =>
        have HX := hid hx
        clear hx
        go_wp2
        go_roundw
        case rel =>
          refine ⟨k + 1, by omega, by go_num, btrans hbl hb2, fun j hj hlt2 => ?_⟩
          by_cases e : j = k
          · subst e; exact HX.out
          · exact Hno.out j hj (by omega)
        case measure => simp [intOf]; omega
    · go_wp2
      go_ret
      refine ⟨⟨-1, rfl, ?_⟩, hbl⟩
      refine ⟨fun h => absurd h (by omega), fun h => ?_⟩
      obtain ⟨x, hx, hp⟩ := List.any_eq_true.1 h
      obtain ⟨j, hj, rfl⟩ := List.getElem_of_mem hx
      rw [Hno.out j hj (by omega)] at hp
      exact absurd hp (by simp)

set_option maxHeartbeats 400000 in
theorem contains134_136 (a : Option Addr) (LL : List (List Int)) (cap : Nat) (w : World) (hw : ListsIn w a LL) (hl : LL.length ≤ 9223372036854775807) :
    Calls Tryz.prog 63 #[.slice a LL.length cap, .func (.func 65) #[] #[]] w fun e w' => e = .returned (.bool (LL.any bad255)) ∧ Below w.heap.size w w' := by
  go_enter Tryz.func63, Tryz.ntmps63
  go_wp2_with fail
  refine (index156_136 a LL cap _ hw hl).mono ?_
  rintro e w' ⟨⟨r, rfl, hr⟩, hb⟩
  have HR := hid hr
  clear hr
  go_wp2
  go_ret
  exact ⟨ret_bool (by rw [Bool.eq_iff_iff]; simpa using HR.out), hb⟩

set_option maxHeartbeats 1000000 in
theorem checkOuts_any (kb : Nat) (D : Dom) (A : DMem) (C : Conf) (B : Mem) (dn : Int) (w : World) (hK : KeepIn w kb D A C B dn) :
    Calls Tryz.prog 39 #[.pointer (some ⟨kb, 0, none⟩)] w fun e w' => e = .returned (.int .i64 (ckOuts D)) ∧ Below w.heap.size w w' := by
  have HK := hid hK
  have c5 := hK.row.cell 5 _ rfl
  clear hK
  go_enter Tryz.func39, Tryz.ntmps39
  go_wp2_with fail
  refine (contains134_135 A.aO D.out A.cO _ HK.out.dom.out HK.out.dom.lO).mono ?_
  rintro e w1 ⟨rfl, hb1⟩
  have HK1 := hid (HK.out.keep hb1)
  have HB1 := hid hb1
  cases h1 : D.out.any long60 with
  | true =>
    go_wp2
    go_ret
    exact ⟨ret_int (by rw [ckOuts, if_pos h1]), HB1.out⟩
  | false =>
    have H1 := hid h1
    clear h1 hb1 c5
    have c5 := HK1.out.row.cell 5 _ rfl
    go_wp2_with fail
    refine (contains134_136 A.aO D.out A.cO _ HK1.out.dom.out HK1.out.dom.lO).mono ?_
    rintro e w2 ⟨rfl, hb2⟩
    have HB2 := hid (btrans HB1.out hb2)
    cases h2 : D.out.any bad255 with
    | true =>
      go_wp2
      go_ret
      exact ⟨ret_int (by rw [ckOuts, H1.out, if_neg (by simp), if_pos h2]), HB2.out⟩
    | false =>
      go_wp2
      go_ret
      exact ⟨ret_int (by rw [ckOuts, H1.out, if_neg (by simp), h2]; rfl), HB2.out⟩

end Go.Proofs.YtildebflnmbefaaGreat

namespace Go.Proofs.YtildebflnmbefaaGreat
open Go.RowKit

/-- What is wrong with ring i of what came in. -/
def ckIn1 (C : Conf) (D : Dom) (i : Nat) : Int := ckR (D.ins.getD i ([], 0)).1 (D.ins.getD i ([], 0)).2 (C.ch.getD i (0, 0, 0)).2.2
def ckIns (C : Conf) (D : Dom) : Int := fe D.ins.length (ckIn1 C D)

set_option maxRecDepth 100000 in
set_option maxHeartbeats 2000000 in
theorem checkIns_any (kb : Nat) (D : Dom) (A : DMem) (C : Conf) (B : Mem) (dn : Int) (w : World) (hK : KeepIn w kb D A C B dn) (hn : D.ins.length = C.ch.length) :
    Calls Tryz.prog 38 #[.pointer (some ⟨kb, 0, none⟩)] w fun e w' => e = .returned (.int .i64 (ckIns C D)) ∧ Below w.heap.size w w' := by
  have HK := hid hK
  have HN := hid hn
  have c3 := hK.row.cell 3 _ rfl
  have c14 := hK.row.cell 14 _ rfl
  have lI := hK.dom.lI
  have hkb := hK.row.lt
  clear hK hn
  obtain ⟨aJ, aR, aI, aT, aO, aE, cJ, cR, cI, cT, cO, cE⟩ := A
  obtain ⟨a5, a6, a7, a8, c5, c6, c7, c8⟩ := B
  dsimp only at *
  go_enter Tryz.func38, Tryz.ntmps38
  go_wp2
  go_loopw [12] (fun i wr => ∃ k : Nat, k ≤ D.ins.length ∧ i = .int .i64 k ∧ Below w.heap.size w wr ∧ ∀ j, j < k → ckIn1 C D j = 0) (fun i _ => D.ins.length - (intOf i).toNat)
  case atStart => exact ⟨0, Nat.zero_le _, rfl, Below.refl _ _, by omega⟩
  case round =>
    obtain ⟨k, hk, rfl, hbl, hno⟩ := hrel
    have Hno := hid hno
    clear hno
    by_cases hlt : k < D.ins.length
    · have hlc : k < C.ch.length := by have := HN.out; omega
      obtain ⟨b1, o1, a1, k1, rfl, p0, p1, p2, p3, p4⟩ := (HK.out.dom.keep hbl).ins k hlt
      obtain ⟨b2, o2, rfl, q0, q1, q2⟩ := (HK.out.con.keep hbl).ch k hlc
      have HV : Hid (ckIn1 C D k = ckR D.ins[k].1 D.ins[k].2 C.ch[k].2.2) := hid (by simp [ckIn1, hlt, hlc])
      have c14' := bkeep hbl c14 (Nat.le_refl _)
      have hk1 : (k : Int) < (D.ins.length : Int) := by omega
      have hk2 : (k : Int) < (C.ch.length : Int) := by omega
      have hk0 : (0 : Int) ≤ (k : Int) := by omega
      generalize D.ins[k].1 = V at *
      generalize D.ins[k].2 = l at *
      generalize C.ch[k].1 = z0 at *
      generalize C.ch[k].2.1 = z1 at *
      generalize C.ch[k].2.2 = z2 at *
      have q := below_new wr (.cells #[.slice a1 V.length k1, .int .i64 l] 83)
      have P2 := hid (p2.keep q)
      have HBL := hid hbl
      have r0 := bkeep q c14' (Nat.le_refl _)
      have r1 := bkeep q q2 (Nat.le_refl _)
      have hsz := hbl.size
      generalize hW : wr.alloc (.cells #[.slice a1 V.length k1, .int .i64 l] 83) = W at *
      have HW := hid hW
      have s0 : W.cell? ⟨wr.heap.size, 0, none⟩ = some (.slice a1 V.length k1) := by rw [← hW]; simp
      have s1 : W.cell? ⟨wr.heap.size, 1, none⟩ = some (.int .i64 l) := by rw [← hW]; simp
      clear hW
      have HS : Hid (∀ w', Below W.heap.size W w' → w'.cell? ⟨wr.heap.size, 0, none⟩ = some (.slice a1 V.length k1) ∧ w'.cell? ⟨wr.heap.size, 1, none⟩ = some (.int .i64 l) ∧ w'.cell? ⟨kb, 14, none⟩ = some (.slice (some ⟨b2, o2, none⟩) C.ch.length c7) ∧ w'.cell? ⟨b2, o2 + k * 3 + 2, none⟩ = some (.int .i64 z2)) := hid fun w' hb => ⟨bkeep hb s0 (Nat.le_refl _), bkeep hb s1 (Nat.le_refl _), bkeep hb r0 (Nat.le_refl _), bkeep hb r1 (Nat.le_refl _)⟩
      have hbz : Below W.heap.size W W.drew := (Below.refl _ _).drew
      go_wp2_with fail
      rw [HW.out]
      go_region_held3 (fun w' => w'.cell? ⟨wr.heap.size, 0, none⟩ = some (.slice a1 V.length k1) ∧ w'.cell? ⟨wr.heap.size, 1, none⟩ = some (.int .i64 l) ∧ w'.cell? ⟨kb, 14, none⟩ = some (.slice (some ⟨b2, o2, none⟩) C.ch.length c7) ∧ w'.cell? ⟨b2, o2 + k * 3 + 2, none⟩ = some (.int .i64 z2))
        (first | exact HS.out _ hB3 | exact HS.out _ hbz | go_keep)
        (first | (go_at_call 62; refine (ringCheck_any a1 V k1 l z2 _ (P2.out.keep hbz) p4).mono ?_; rintro e w3 ⟨rfl, hb3⟩; have hB3 := btrans hbz hb3))
      have HB3 := hid (btrans HBL.out (btrans q hB3))
      clear HS hB3 hbz s0 s1 r0 r1 q p0 p1 q0 q1 q2 c14' hbl p2
      by_cases h0 : ckR V l z2 = 0
      · have H0 : Hid (ckIn1 C D k = 0) := hid (by rw [HV.out, h0])
        rw [h0]
        clear h0
        go_wp2
        go_roundw
        case rel =>
          refine ⟨k + 1, by omega, by go_num, HB3.out, fun j hj => ?_⟩
          by_cases e : j = k
          · subst e; exact H0.out
          · exact Hno.out j (by omega)
        case measure => simp [intOf]; omega
      · have HE : Hid (ckIns C D = ckR V l z2) := hid (by rw [ckIns, fe_at _ k _ hlt (by rw [HV.out]; exact h0) (fun j hj => Hno.out j hj), HV.out])
        have hx : (ckR V l z2 != 0) = true := by simp [h0]
        clear h0 HV
        generalize ckR V l z2 = q at *
        go_wp2
        go_ret
        exact ⟨ret_int HE.out.symm, HB3.out⟩
    · go_wp2
      go_ret
      exact ⟨ret_int (by rw [ckIns]; exact (fe_zero _ _ (fun j hj => Hno.out j (by omega))).symm), hbl⟩

set_option maxRecDepth 100000 in
set_option maxHeartbeats 2000000 in
theorem checkShape2_any (kb : Nat) (D : Dom) (A : DMem) (C : Conf) (B : Mem) (dn : Int) (w : World) (hK : KeepIn w kb D A C B dn) :
    Calls Tryz.prog 35 #[.pointer (some ⟨kb, 0, none⟩)] w fun e w' => e = .returned (.int .i64 (ckShp C D)) ∧ Below w.heap.size w w' := by
  have k1 := hK.row.cell 1 _ rfl
  have k3 := hK.row.cell 3 _ rfl
  have k4 := hK.row.cell 4 _ rfl
  have k5 := hK.row.cell 5 _ rfl
  have kd := hK.row.cell 13 _ rfl
  have ke := hK.row.cell 14 _ rfl
  have kf := hK.row.cell 15 _ rfl
  have l1 := hK.dom.lR
  have l3 := hK.dom.lI
  have l4 := hK.dom.lT
  have l5 := hK.dom.lO
  have l6 := hK.con.l6
  have l7 := hK.con.l7
  have l8 := hK.con.l8
  clear hK
  have HE : Hid (∀ b1 b2 b3 b4 : Bool, ((D.rel.length : Int) != C.ta.length) = b1 → ((D.ins.length : Int) != C.ch.length) = b2 → ((D.out.length : Int) != C.ch.length) = b3 → ((D.tak.length : Int) != C.ow.length) = b4 → ckShp C D = if b1 || b2 || b3 || b4 then 1 else 0) := hid (by
    rintro b1 b2 b3 b4 rfl rfl rfl rfl
    unfold ckShp
    by_cases h : D.rel.length = C.ta.length ∧ D.ins.length = C.ch.length ∧ D.out.length = C.ch.length ∧ D.tak.length = C.ow.length
    · obtain ⟨h1, h2, h3, h4⟩ := h
      simp [h1, h2, h3, h4]
    · rw [if_neg h, if_pos]
      simp only [Bool.or_eq_true, bne_iff_ne, ne_eq, Int.ofNat_inj]
      omega)
  cases h1 : ((D.rel.length : Int) != C.ta.length) <;> cases h2 : ((D.ins.length : Int) != C.ch.length) <;> cases h3 : ((D.out.length : Int) != C.ch.length) <;> cases h4 : ((D.tak.length : Int) != C.ow.length)
  all_goals
    have HX := hid (HE.out _ _ _ _ h1 h2 h3 h4)
    clear HE
    go_enter Tryz.func35, Tryz.ntmps35
    go_wp2
    go_quiet (fail)
    go_wp2
    go_ret
    exact ⟨ret_int (by rw [HX.out]; rfl), below_drewN (Below.refl _ _) _⟩

end Go.Proofs.YtildebflnmbefaaGreat
