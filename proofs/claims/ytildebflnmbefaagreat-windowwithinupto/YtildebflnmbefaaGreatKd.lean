/- Walks: configs in memory; the first checks of a config. Walks: the checks of a config's lists. Walks: the checks of a config's owners, channels and tasks. Walks: the checks of a config's channels and tasks, and of the whole. Walks: the check of a config. -/
import Derived.Test.YtildebflnmbefaaGreatKc
import Derived.Test.YtildebflnmbefaaGreatKa
set_option linter.unusedVariables false
namespace Go.Proofs.YtildebflnmbefaaGreat
open Go.RowKit

/-- Where the lists of a config lie. -/
structure Mem where
  a5 : Option Addr
  a6 : Option Addr
  a7 : Option Addr
  a8 : Option Addr
  c5 : Nat
  c6 : Nat
  c7 : Nat
  c8 : Nat

abbrev cl (C : Conf) (A : Mem) : Array Value := #[.int .i64 C.s, .int .i64 C.w, .int .i64 C.d, .int .i64 C.p, .int .i64 C.q, .slice A.a5 C.sl.length A.c5, .slice A.a6 C.ow.length A.c6, .slice A.a7 C.ch.length A.c7, .slice A.a8 C.ta.length A.c8]
abbrev cv (C : Conf) (A : Mem) : Value := .agg (cl C A)

def SlotsIn (w : World) (a : Option Addr) (ls : List (Int × Int)) : Prop :=
  ∀ i (h : i < ls.length), ∃ b o, a = some ⟨b, o, none⟩ ∧ w.cell? ⟨b, o + i * 2, none⟩ = some (.int .i64 ls[i].1) ∧ w.cell? ⟨b, o + i * 2 + 1, none⟩ = some (.int .i64 ls[i].2)
def IntsIn (w : World) (a : Option Addr) (ls : List Int) : Prop :=
  ∀ i (h : i < ls.length), ∃ b o, a = some ⟨b, o, none⟩ ∧ w.cell? ⟨b, o + i, none⟩ = some (.int .i64 ls[i])
def ChansIn (w : World) (a : Option Addr) (ls : List (Int × Int × Int)) : Prop :=
  ∀ i (h : i < ls.length), ∃ b o, a = some ⟨b, o, none⟩ ∧ w.cell? ⟨b, o + i * 3, none⟩ = some (.int .i64 ls[i].1) ∧ w.cell? ⟨b, o + i * 3 + 1, none⟩ = some (.int .i64 ls[i].2.1) ∧ w.cell? ⟨b, o + i * 3 + 2, none⟩ = some (.int .i64 ls[i].2.2)
def TasksIn (w : World) (a : Option Addr) (ls : List (Int × Int × Int × Int)) : Prop :=
  ∀ i (h : i < ls.length), ∃ b o, a = some ⟨b, o, none⟩ ∧ w.cell? ⟨b, o + i * 4, none⟩ = some (.int .i64 ls[i].1) ∧ w.cell? ⟨b, o + i * 4 + 1, none⟩ = some (.int .i64 ls[i].2.1) ∧ w.cell? ⟨b, o + i * 4 + 2, none⟩ = some (.int .i64 ls[i].2.2.1) ∧ w.cell? ⟨b, o + i * 4 + 3, none⟩ = some (.int .i64 ls[i].2.2.2)

theorem SlotsIn.keep {w w' : World} {a : Option Addr} {ls : List (Int × Int)} (h : SlotsIn w a ls) (hb : Below w.heap.size w w') : SlotsIn w' a ls := by
  intro i hi
  obtain ⟨b, o, e, h1, h2⟩ := h i hi
  exact ⟨b, o, e, bkeep hb h1 (Nat.le_refl _), bkeep hb h2 (Nat.le_refl _)⟩
theorem IntsIn.keep {w w' : World} {a : Option Addr} {ls : List Int} (h : IntsIn w a ls) (hb : Below w.heap.size w w') : IntsIn w' a ls := by
  intro i hi
  obtain ⟨b, o, e, h1⟩ := h i hi
  exact ⟨b, o, e, bkeep hb h1 (Nat.le_refl _)⟩
theorem ChansIn.keep {w w' : World} {a : Option Addr} {ls : List (Int × Int × Int)} (h : ChansIn w a ls) (hb : Below w.heap.size w w') : ChansIn w' a ls := by
  intro i hi
  obtain ⟨b, o, e, h1, h2, h3⟩ := h i hi
  exact ⟨b, o, e, bkeep hb h1 (Nat.le_refl _), bkeep hb h2 (Nat.le_refl _), bkeep hb h3 (Nat.le_refl _)⟩
theorem TasksIn.keep {w w' : World} {a : Option Addr} {ls : List (Int × Int × Int × Int)} (h : TasksIn w a ls) (hb : Below w.heap.size w w') : TasksIn w' a ls := by
  intro i hi
  obtain ⟨b, o, e, h1, h2, h3, h4⟩ := h i hi
  exact ⟨b, o, e, bkeep hb h1 (Nat.le_refl _), bkeep hb h2 (Nat.le_refl _), bkeep hb h3 (Nat.le_refl _), bkeep hb h4 (Nat.le_refl _)⟩

/-- A config's lists lie in memory. -/
structure ConfIn (w : World) (A : Mem) (C : Conf) : Prop where
  sl : SlotsIn w A.a5 C.sl
  ow : IntsIn w A.a6 C.ow
  ch : ChansIn w A.a7 C.ch
  ta : TasksIn w A.a8 C.ta
  l5 : C.sl.length ≤ 9223372036854775807
  l6 : C.ow.length ≤ 9223372036854775807
  l7 : C.ch.length ≤ 9223372036854775807
  l8 : C.ta.length ≤ 9223372036854775807
  k7 : C.ch.length ≤ A.c7

theorem ConfIn.keep {w w' : World} {A : Mem} {C : Conf} (h : ConfIn w A C) (hb : Below w.heap.size w w') : ConfIn w' A C :=
  ⟨h.sl.keep hb, h.ow.keep hb, h.ch.keep hb, h.ta.keep hb, h.l5, h.l6, h.l7, h.l8, h.k7⟩

/-- A box that holds a config. -/
structure BoxC (w : World) (b : Nat) (C : Conf) (A : Mem) : Prop where
  h0 : w.cell? ⟨b, 0, none⟩ = some (.int .i64 C.s)
  h1 : w.cell? ⟨b, 1, none⟩ = some (.int .i64 C.w)
  h2 : w.cell? ⟨b, 2, none⟩ = some (.int .i64 C.d)
  h3 : w.cell? ⟨b, 3, none⟩ = some (.int .i64 C.p)
  h4 : w.cell? ⟨b, 4, none⟩ = some (.int .i64 C.q)
  h5 : w.cell? ⟨b, 5, none⟩ = some (.slice A.a5 C.sl.length A.c5)
  h6 : w.cell? ⟨b, 6, none⟩ = some (.slice A.a6 C.ow.length A.c6)
  h7 : w.cell? ⟨b, 7, none⟩ = some (.slice A.a7 C.ch.length A.c7)
  h8 : w.cell? ⟨b, 8, none⟩ = some (.slice A.a8 C.ta.length A.c8)

theorem BoxC.keep {w w' : World} {b : Nat} {A : Mem} {C : Conf} (h : BoxC w b C A) (hb : Below w.heap.size w w') : BoxC w' b C A :=
  ⟨bkeep hb h.h0 (Nat.le_refl _), bkeep hb h.h1 (Nat.le_refl _), bkeep hb h.h2 (Nat.le_refl _), bkeep hb h.h3 (Nat.le_refl _), bkeep hb h.h4 (Nat.le_refl _), bkeep hb h.h5 (Nat.le_refl _), bkeep hb h.h6 (Nat.le_refl _), bkeep hb h.h7 (Nat.le_refl _), bkeep hb h.h8 (Nat.le_refl _)⟩

theorem boxC_new (w : World) (C : Conf) (A : Mem) : BoxC (w.alloc (.cells (cl C A) 27)) w.heap.size C A := by
  constructor <;> simp

theorem below_new (w : World) (o : Obj) : Below w.heap.size w (w.alloc o) := (Below.refl _ _).alloc (Nat.le_refl _) _

set_option maxHeartbeats 400000 in
theorem isDomain_any (v0 v1 v3 v4 v5 v6 v7 v8 : Value) (d x : Int) (hd1 : 1 ≤ d) (hd4 : d ≤ 4) (w : World) :
    Calls Tryz.prog 79 #[.agg #[v0, v1, .int .i64 d, v3, v4, v5, v6, v7, v8], .int .i64 x] w fun e w' => e = .returned (.bool (isD d x)) ∧ Below w.heap.size w w' := by
  go_enter Tryz.func79, Tryz.ntmps79
  go_wp2_with fail
  refine (within_any _ _ _ _).mono ?_
  rintro e w' ⟨rfl, rfl⟩
  go_wp2
  go_ret
  exact ⟨rfl, below_new _ _⟩

set_option maxHeartbeats 1000000 in
theorem checkNumbers_any (C : Conf) (A : Mem) (w : World) :
    Calls Tryz.prog 48 #[cv C A] w fun e w' => e = .returned (.int .i64 (ckNum C)) ∧ Below w.heap.size w w' := by
  unfold cv cl
  go_enter Tryz.func48, Tryz.ntmps48
  go_wp2_with fail
  refine (within_any _ _ _ _).mono ?_
  rintro e w' ⟨rfl, rfl⟩
  cases h1 : inR C.s 1 4 with
  | false =>
    go_wp2
    go_ret
    exact ⟨ret_int (by simp [ckNum, h1]), below_new _ _⟩
  | true =>
    have H1 := hid h1
    clear h1
    go_wp2_with fail
    refine (within_any _ _ _ _).mono ?_
    rintro e w' ⟨rfl, rfl⟩
    cases h2 : inR C.w 1 3 with
    | false =>
      go_wp2
      go_ret
      exact ⟨ret_int (by simp [ckNum, h2]), below_new _ _⟩
    | true =>
      have H2 := hid h2
      clear h2
      go_wp2_with fail
      refine (within_any _ _ _ _).mono ?_
      rintro e w' ⟨rfl, rfl⟩
      cases h3 : inR C.d 1 4 with
      | false =>
        go_wp2
        go_ret
        exact ⟨ret_int (by simp [ckNum, h3]), below_new _ _⟩
      | true =>
        have H3 := hid h3
        clear h3
        go_wp2_with fail
        refine (within_any _ _ _ _).mono ?_
        rintro e w' ⟨rfl, rfl⟩
        cases h4 : inR C.q 1 100 with
        | false =>
          go_wp2
          go_ret
          exact ⟨ret_int (by simp [ckNum, h4]), below_new _ _⟩
        | true =>
          go_wp2
          go_ret
          exact ⟨ret_int (by simp [ckNum, H1.out, H2.out, H3.out, h4]), below_new _ _⟩

set_option maxHeartbeats 1000000 in
theorem checkPad_any (C : Conf) (A : Mem) (w : World) (h1 : 1 ≤ C.s) (h2 : C.s ≤ 4) (h3 : 1 ≤ C.w) (h4 : C.w ≤ 3) :
    Calls Tryz.prog 49 #[cv C A] w fun e w' => e = .returned (.int .i64 (ckPad C)) ∧ Below w.heap.size w w' := by
  have hb1 : 0 ≤ 5 * C.s * C.w := Int.mul_nonneg (by omega) (by omega)
  have hb2 : 5 * C.s * C.w ≤ 60 := by
    have h5 : (5 * C.s) * C.w ≤ 20 * C.w := Int.mul_le_mul_of_nonneg_right (by omega) (by omega)
    omega
  unfold cv cl
  go_enter Tryz.func49, Tryz.ntmps49
  go_wp2_with fail
  refine (within_any _ _ _ _).mono ?_
  rintro e w' ⟨rfl, rfl⟩
  cases h1 : inR C.p (2 + 5 * C.s * C.w) 99 with
  | false =>
    go_wp2
    go_ret
    exact ⟨ret_int (by simp [ckPad, h1]), below_new _ _⟩
  | true =>
    go_wp2
    go_ret
    exact ⟨ret_int (by simp [ckPad, h1]), below_new _ _⟩

set_option maxHeartbeats 1000000 in
theorem checkCounts_any (C : Conf) (A : Mem) (w : World) (hC : ConfIn w A C) :
    Calls Tryz.prog 50 #[cv C A] w fun e w' => e = .returned (.int .i64 (ckCnt C)) ∧ Below w.heap.size w w' := by
  have l5 := hC.l5
  have l6 := hC.l6
  have l7 := hC.l7
  have l8 := hC.l8
  unfold cv cl
  go_enter Tryz.func50, Tryz.ntmps50
  go_wp2_with fail
  refine (within_any _ _ _ _).mono ?_
  rintro e w' ⟨rfl, rfl⟩
  cases h1 : inR C.sl.length 1 6 with
  | false =>
    go_wp2
    go_ret
    exact ⟨ret_int (by simp [ckCnt, h1]), below_new _ _⟩
  | true =>
    have H1 := hid h1
    clear h1
    by_cases h2 : (C.ow.length : Int) > 4
    · go_wp2
      go_ret
      exact ⟨ret_int (by rw [ckCnt, if_neg]; simp; omega), below_new _ _⟩
    · by_cases h3 : (C.ch.length : Int) > 4
      · go_wp2
        go_ret
        exact ⟨ret_int (by rw [ckCnt, if_neg]; simp; omega), below_new _ _⟩
      · by_cases h4 : (C.ta.length : Int) > 6
        · go_wp2
          go_ret
          exact ⟨ret_int (by rw [ckCnt, if_neg]; simp; omega), below_new _ _⟩
        · go_wp2
          go_ret
          exact ⟨ret_int (by rw [ckCnt, if_pos]; simp [H1.out]; omega), below_new _ _⟩

end Go.Proofs.YtildebflnmbefaaGreat

namespace Go.Proofs.YtildebflnmbefaaGreat
open Go.RowKit

theorem BoxC.lt {w : World} {b : Nat} {A : Mem} {C : Conf} (h : BoxC w b C A) : b < w.heap.size := World.block_lt_of_cell? _ _ h.h0

theorem rowAt_new2 (w : World) (n : Nat) (L : List Value) (t : TypeId) (h : w.heap.size = n) : RowAt (w.alloc (.cells L.toArray t)) n t L := by
  subst h; exact heap_alloc_new _ _

theorem cell_old {w : World} {p : Addr} {v : Value} (o : Obj) (h : w.cell? p = some v) : (w.alloc o).cell? p = some v := bkeep (below_new w o) h (Nat.le_refl _)

set_option maxHeartbeats 1000000 in
theorem checkSlots_any (C : Conf) (A : Mem) (w : World) (hC : ConfIn w A C) (hd1 : 1 ≤ C.d) (hd4 : C.d ≤ 4) :
    Calls Tryz.prog 51 #[cv C A] w fun e w' => e = .returned (.int .i64 (ckSlots C)) ∧ Below w.heap.size w w' := by
  have l5 := hC.l5
  have q1 := below_new w (.cells (cl C A) 27)
  have B1 := hid (boxC_new w C A)
  have hS := hC.sl.keep q1
  obtain ⟨a5, a6, a7, a8, c5, c6, c7, c8⟩ := A
  dsimp only [cv, cl] at *
  go_enter Tryz.func51, Tryz.ntmps51
  go_wp2
  generalize hW : World.alloc _ _ = W at *
  clear hW hC
  go_loopw [8] (fun i wr => ∃ k : Nat, k ≤ C.sl.length ∧ i = .int .i64 k ∧ Below W.heap.size W wr ∧ ∀ j, j < k → ckSl C.d (C.sl.getD j (0, 0)) = 0) (fun i _ => C.sl.length - (intOf i).toNat)
  case atStart => exact ⟨0, Nat.zero_le _, rfl, Below.refl _ _, by omega⟩
  case round =>
    obtain ⟨k, hk, rfl, hbl, hno⟩ := hrel
    have Hno := hid hno
    clear hno
    by_cases hlt : k < C.sl.length
    · obtain ⟨b', o', rfl, hc1, hc2⟩ := hS k hlt
      have hc1' := bkeep hbl hc1 (Nat.le_refl _)
      have hc2' := bkeep hbl hc2 (Nat.le_refl _)
      have HD : Hid (C.sl.getD k (0, 0) = C.sl[k]) := getD_of _ _ hlt _
      have hbx := (B1.out.keep hbl).lt
      obtain ⟨g0, g1, g2, g3, g4, g5, g6, g7, g8⟩ := B1.out.keep hbl
      dsimp only at g5 g6 g7 g8
      have HF : Hid (ckSl C.d C.sl[k] ≠ 0 → ckSlots C = ckSl C.d C.sl[k]) := by
        intro h0
        show fe _ _ = _
        have := fe_at C.sl.length k (fun i => ckSl C.d (C.sl.getD i (0, 0))) hlt (by simp only [getD_of _ _ hlt]; exact h0) Hno.out
        rw [this]; simp only [getD_of _ _ hlt]
      generalize C.sl[k] = x at *
      obtain ⟨x1, x2⟩ := x
      simp only at hc1' hc2'
      clear hc1 hc2
      have q3 := below_new wr (.cells #[.int .i64 x1, .int .i64 x2] 67)
      have r3 : RowAt (wr.alloc (.cells #[.int .i64 x1, .int .i64 x2] 67)) wr.heap.size 67 [.int .i64 x1, .int .i64 x2] := rowAt_new2 wr _ [.int .i64 x1, .int .i64 x2] 67 rfl
      go_wp2_with fail
      refine (isDomain_any _ _ _ _ _ _ _ _ C.d x1 hd1 hd4 _).mono ?_
      rintro e w2 ⟨rfl, hb2⟩
      have hc4 := (r3.below hb2 (Nat.le_refl _)).cell 1 _ rfl
      have q2 := btrans q3 hb2
      clear hb2 q3 r3
      cases hx : isD C.d x1 with
      | false =>
        have e1 : ckSl C.d (x1, x2) = 5 := by simp [ckSl, hx]
        have HE := HF.out (by rw [e1]; decide)
        rw [e1] at HE
        clear HF hx e1
        have HE := hid HE
        go_wp2
        go_ret
        exact ⟨ret_int HE.out.symm, btrans q1 (btrans hbl q2)⟩
      | true =>
        have HX := hid hx
        clear hx
        go_wp2_with fail
        refine (within_any _ _ _ _).mono ?_
        rintro e w' ⟨rfl, rfl⟩
        cases hy : inR x2 100 1000 with
        | false =>
          have e1 : ckSl C.d (x1, x2) = 3 := by simp [ckSl, HX.out, hy]
          have HE := HF.out (by rw [e1]; decide)
          rw [e1] at HE
          clear HF hy e1
          have HE := hid HE
          go_wp2
          go_ret
          exact ⟨ret_int HE.out.symm, btrans q1 (btrans hbl q2)⟩
        | true =>
          have HY := hid hy
          clear hy
          go_wp2
          go_roundw
          case rel =>
            refine ⟨k + 1, by omega, by go_num, btrans hbl q2, fun j hj => ?_⟩
            by_cases e : j = k
            · subst e; rw [HD.out]; simp [ckSl, HX.out, HY.out]
            · exact Hno.out j (by omega)
          case measure => simp [intOf]; omega
    · go_wp2
      go_ret
      exact ⟨ret_int (fe_zero _ _ (fun j hj => Hno.out j (by omega))).symm, btrans q1 hbl⟩

end Go.Proofs.YtildebflnmbefaaGreat

namespace Go.Proofs.YtildebflnmbefaaGreat
open Go.RowKit

set_option maxHeartbeats 1000000 in
theorem owners1_any (C : Conf) (A : Mem) (b : Nat) (x : Int) (w : World) (hd1 : 1 ≤ C.d) (hd4 : C.d ≤ 4) (hB : BoxC w b C A) :
    Calls Tryz.prog 81 #[.int .i64 x, .pointer (some ⟨b, 0, none⟩)] w fun e w' => e = .returned (.bool (!isD C.d x)) ∧ Below w.heap.size w w' := by
  have hbx := hB.lt
  obtain ⟨g0, g1, g2, g3, g4, g5, g6, g7, g8⟩ := hB
  go_enter Tryz.func81, Tryz.ntmps81
  go_wp2_with fail
  refine (isDomain_any _ _ _ _ _ _ _ _ C.d x hd1 hd4 _).mono ?_
  rintro e w2 ⟨rfl, hb2⟩
  go_wp2
  go_ret
  exact ⟨rfl, hb2⟩

set_option maxHeartbeats 400000 in
theorem index70_any (p : Int → Bool) (b : Nat) (a : Option Addr) (L : List Int) (cap : Nat) (w : World) (hw : IntsIn w a L) (hl : L.length ≤ 9223372036854775807)
    (hF : ∀ (x : Int) (wr : World), Below w.heap.size w wr → Calls Tryz.prog 81 #[.int .i64 x, .pointer (some ⟨b, 0, none⟩)] wr fun e w' => e = .returned (.bool (p x)) ∧ Below wr.heap.size wr w') :
    Calls Tryz.prog 96 #[.slice a L.length cap, .func (.func 81) #[] #[.pointer (some ⟨b, 0, none⟩)]] w fun e w' => (∃ r : Int, e = .returned (.int .i64 r) ∧ (0 ≤ r ↔ L.any p = true)) ∧ Below w.heap.size w w' := by
  have HF := hid hF
  clear hF
  go_enter Tryz.func96, Tryz.ntmps96
  go_wp2
  go_loopw [8] (fun i wr => ∃ k : Nat, k ≤ L.length ∧ i = .int .i64 k ∧ Below w.heap.size w wr ∧ ∀ j (hj : j < L.length), j < k → p L[j] = false) (fun i _ => L.length - (intOf i).toNat)
  case atStart => exact ⟨0, Nat.zero_le _, rfl, Below.refl _ _, by omega⟩
  case round =>
    obtain ⟨k, hk, rfl, hbl, hno⟩ := hrel
    have Hno : Hid (∀ j (hj : j < L.length), j < k → p L[j] = false) := hno
    clear hno
    by_cases hlt : k < L.length
    · obtain ⟨b', o', rfl, hc1⟩ := hw k hlt
      have hc1' := bkeep hbl hc1 (Nat.le_refl _)
      go_wp2_with fail
      refine (HF.out L[k] _ hbl).mono ?_
      rintro e w' ⟨rfl, hb2⟩
      cases hx : p L[k] with
      | true =>
        have HX := hid hx
        clear hx
        go_wp2
        go_ret
        refine ⟨⟨k, rfl, ?_⟩, btrans hbl hb2⟩
        exact ⟨fun _ => List.any_eq_true.2 ⟨_, List.getElem_mem hlt, HX.out⟩, fun _ => by omega⟩
      | false =>
        have HX := hid hx
        clear hx
        go_wp2
        go_roundw
        case rel =>
          refine ⟨k + 1, by omega, by go_num, btrans hbl hb2, fun j hj hlt2 => ?_⟩
          by_cases e : j = k
          · subst e; exact HX.out
          · exact Hno.out j hj (by omega)
        case measure => simp [intOf]; omega
    · go_wp2
      go_ret
      refine ⟨⟨-1, rfl, ?_⟩, hbl⟩
      refine ⟨fun h => absurd h (by omega), fun h => ?_⟩
      obtain ⟨x, hx, hp⟩ := List.any_eq_true.1 h
      obtain ⟨j, hj, rfl⟩ := List.getElem_of_mem hx
      rw [Hno.out j hj (by omega)] at hp
      exact absurd hp (by simp)

set_option maxHeartbeats 400000 in
theorem contains61_any (p : Int → Bool) (b : Nat) (a : Option Addr) (L : List Int) (cap : Nat) (w : World) (hw : IntsIn w a L) (hl : L.length ≤ 9223372036854775807)
    (hF : ∀ (x : Int) (wr : World), Below w.heap.size w wr → Calls Tryz.prog 81 #[.int .i64 x, .pointer (some ⟨b, 0, none⟩)] wr fun e w' => e = .returned (.bool (p x)) ∧ Below wr.heap.size wr w') :
    Calls Tryz.prog 80 #[.slice a L.length cap, .func (.func 81) #[] #[.pointer (some ⟨b, 0, none⟩)]] w fun e w' => e = .returned (.bool (L.any p)) ∧ Below w.heap.size w w' := by
  have HF := hid hF
  clear hF
  go_enter Tryz.func80, Tryz.ntmps80
  go_wp2_with fail
  refine (index70_any p b a L cap _ hw hl HF.out).mono ?_
  rintro e w' ⟨⟨r, rfl, hr⟩, hb⟩
  have HR := hid hr
  clear hr
  go_wp2
  go_ret
  exact ⟨ret_bool (by rw [Bool.eq_iff_iff]; simpa using HR.out), hb⟩

set_option maxHeartbeats 1000000 in
theorem checkOwners_any (C : Conf) (A : Mem) (w : World) (hC : ConfIn w A C) (hd1 : 1 ≤ C.d) (hd4 : C.d ≤ 4) :
    Calls Tryz.prog 52 #[cv C A] w fun e w' => e = .returned (.int .i64 (ckOw C)) ∧ Below w.heap.size w w' := by
  have l6 := hC.l6
  have q1 := below_new w (.cells (cl C A) 27)
  have B1 := hid (boxC_new w C A)
  have hS := hC.ow.keep q1
  dsimp only [cv, cl] at *
  go_enter Tryz.func52, Tryz.ntmps52
  go_wp2_with fail
  refine (contains61_any (fun x => !isD C.d x) w.heap.size _ C.ow _ _ hS l6 (fun x wr hwr => owners1_any C A w.heap.size x wr hd1 hd4 (B1.out.keep hwr))).mono ?_
  rintro e w2 ⟨rfl, hb2⟩
  cases hx : C.ow.any fun x => !isD C.d x with
  | true =>
    go_wp2
    go_ret
    exact ⟨ret_int (by rw [ckOw, if_pos hx]), btrans q1 hb2⟩
  | false =>
    go_wp2
    go_ret
    exact ⟨ret_int (by rw [ckOw, hx]; rfl), btrans q1 hb2⟩

set_option maxHeartbeats 1000000 in
theorem chans1_any (y1 y2 y3 x1 x2 x3 : Int) (b : Nat) (w : World) (h1 : w.cell? ⟨b, 0, none⟩ = some (.int .i64 x1)) (h2 : w.cell? ⟨b, 1, none⟩ = some (.int .i64 x2)) :
    Calls Tryz.prog 82 #[.agg #[.int .i64 y1, .int .i64 y2, .int .i64 y3], .pointer (some ⟨b, 0, none⟩)] w fun e w' => e = .returned (.bool (twin (x1, x2, x3) (y1, y2, y3))) ∧ Below w.heap.size w w' := by
  have hbx := World.block_lt_of_cell? _ _ h1
  go_enter Tryz.func82, Tryz.ntmps82
  by_cases h : y1 = x1
  · subst h
    go_wp2
    go_ret
    exact ⟨ret_bool (by simp [twin]), below_new _ _⟩
  · have h' : (y1 == x1) = false := by simp [h]
    go_wp2
    go_ret
    exact ⟨ret_bool (by simp [twin, h]), below_new _ _⟩

set_option maxHeartbeats 400000 in
theorem index71_any (p : Int × Int × Int → Bool) (b : Nat) (a : Option Addr) (L : List (Int × Int × Int)) (cap : Nat) (w : World) (hw : ChansIn w a L) (hl : L.length ≤ 9223372036854775807)
    (hF : ∀ (x : Int × Int × Int) (wr : World), Below w.heap.size w wr → Calls Tryz.prog 82 #[.agg #[.int .i64 x.1, .int .i64 x.2.1, .int .i64 x.2.2], .pointer (some ⟨b, 0, none⟩)] wr fun e w' => e = .returned (.bool (p x)) ∧ Below wr.heap.size wr w') :
    Calls Tryz.prog 97 #[.slice a L.length cap, .func (.func 82) #[] #[.pointer (some ⟨b, 0, none⟩)]] w fun e w' => (∃ r : Int, e = .returned (.int .i64 r) ∧ (0 ≤ r ↔ L.any p = true)) ∧ Below w.heap.size w w' := by
  have HF := hid hF
  clear hF
  go_enter Tryz.func97, Tryz.ntmps97
  go_wp2
  go_loopw [8] (fun i wr => ∃ k : Nat, k ≤ L.length ∧ i = .int .i64 k ∧ Below w.heap.size w wr ∧ ∀ j (hj : j < L.length), j < k → p L[j] = false) (fun i _ => L.length - (intOf i).toNat)
  case atStart => exact ⟨0, Nat.zero_le _, rfl, Below.refl _ _, by omega⟩
  case round =>
    obtain ⟨k, hk, rfl, hbl, hno⟩ := hrel
    have Hno : Hid (∀ j (hj : j < L.length), j < k → p L[j] = false) := hno
    clear hno
    by_cases hlt : k < L.length
    · obtain ⟨b', o', rfl, hc1, hc2, hc3⟩ := hw k hlt
      have hc1' := bkeep hbl hc1 (Nat.le_refl _)
      have hc2' := bkeep hbl hc2 (Nat.le_refl _)
      have hc3' := bkeep hbl hc3 (Nat.le_refl _)
      go_wp2_with fail
      refine (HF.out L[k] _ hbl).mono ?_
      rintro e w' ⟨rfl, hb2⟩
      cases hx : p L[k] with
      | true =>
        have HX := hid hx
        clear hx
        go_wp2
        go_ret
        refine ⟨⟨k, rfl, ?_⟩, btrans hbl hb2⟩
        exact ⟨fun _ => List.any_eq_true.2 ⟨_, List.getElem_mem hlt, HX.out⟩, fun _ => by omega⟩
      | false =>
        have HX := hid hx
        clear hx
        go_wp2
        go_roundw
        case rel =>
          refine ⟨k + 1, by omega, by go_num, btrans hbl hb2, fun j hj hlt2 => ?_⟩
          by_cases e : j = k
          · subst e; exact HX.out
          · exact Hno.out j hj (by omega)
        case measure => simp [intOf]; omega
    · go_wp2
      go_ret
      refine ⟨⟨-1, rfl, ?_⟩, hbl⟩
      refine ⟨fun h => absurd h (by omega), fun h => ?_⟩
      obtain ⟨x, hx, hp⟩ := List.any_eq_true.1 h
      obtain ⟨j, hj, rfl⟩ := List.getElem_of_mem hx
      rw [Hno.out j hj (by omega)] at hp
      exact absurd hp (by simp)

set_option maxHeartbeats 400000 in
theorem contains64_any (p : Int × Int × Int → Bool) (b : Nat) (a : Option Addr) (L : List (Int × Int × Int)) (cap : Nat) (w : World) (hw : ChansIn w a L) (hl : L.length ≤ 9223372036854775807)
    (hF : ∀ (x : Int × Int × Int) (wr : World), Below w.heap.size w wr → Calls Tryz.prog 82 #[.agg #[.int .i64 x.1, .int .i64 x.2.1, .int .i64 x.2.2], .pointer (some ⟨b, 0, none⟩)] wr fun e w' => e = .returned (.bool (p x)) ∧ Below wr.heap.size wr w') :
    Calls Tryz.prog 83 #[.slice a L.length cap, .func (.func 82) #[] #[.pointer (some ⟨b, 0, none⟩)]] w fun e w' => e = .returned (.bool (L.any p)) ∧ Below w.heap.size w w' := by
  have HF := hid hF
  clear hF
  go_enter Tryz.func83, Tryz.ntmps83
  go_wp2_with fail
  refine (index71_any p b a L cap _ hw hl HF.out).mono ?_
  rintro e w' ⟨⟨r, rfl, hr⟩, hb⟩
  have HR := hid hr
  clear hr
  go_wp2
  go_ret
  exact ⟨ret_bool (by rw [Bool.eq_iff_iff]; simpa using HR.out), hb⟩

theorem ChansIn.take {w : World} {a : Option Addr} {ls : List (Int × Int × Int)} (h : ChansIn w a ls) (k : Nat) : ChansIn w a (ls.take k) := by
  intro i hi
  have : i < ls.length := by simp at hi; omega
  obtain ⟨b, o, e, h1, h2, h3⟩ := h i this
  exact ⟨b, o, e, by simpa using h1, by simpa using h2, by simpa using h3⟩

theorem contains64_take (x : Int × Int × Int) (b : Nat) (a : Option Addr) (L : List (Int × Int × Int)) (k cap : Nat) (w : World) (hw : ChansIn w a L) (hk : k ≤ L.length) (hl : L.length ≤ 9223372036854775807)
    (h1 : w.cell? ⟨b, 0, none⟩ = some (.int .i64 x.1)) (h2 : w.cell? ⟨b, 1, none⟩ = some (.int .i64 x.2.1)) :
    Calls Tryz.prog 83 #[.slice a k cap, .func (.func 82) #[] #[.pointer (some ⟨b, 0, none⟩)]] w fun e w' => e = .returned (.bool ((L.take k).any (twin x))) ∧ Below w.heap.size w w' := by
  have e : (L.take k).length = k := by simp; omega
  have := contains64_any (twin x) b a (L.take k) cap w (hw.take k) (by omega) (fun y wr hwr => chans1_any y.1 y.2.1 y.2.2 x.1 x.2.1 x.2.2 b wr (bkeep hwr h1 (Nat.le_refl _)) (bkeep hwr h2 (Nat.le_refl _)))
  rw [e] at this
  exact this

end Go.Proofs.YtildebflnmbefaaGreat

namespace Go.Proofs.YtildebflnmbefaaGreat
open Go.RowKit

set_option maxHeartbeats 2000000 in
theorem checkChannels_any (C : Conf) (A : Mem) (w : World) (hC : ConfIn w A C) (hd1 : 1 ≤ C.d) (hd4 : C.d ≤ 4) :
    Calls Tryz.prog 53 #[cv C A] w fun e w' => e = .returned (.int .i64 (ckChans C)) ∧ Below w.heap.size w w' := by
  have l7 := hC.l7
  have k7 := hC.k7
  have k7' : (C.ch.length : Int) ≤ (A.c7 : Int) := by omega
  have q1 := below_new w (.cells (cl C A) 27)
  have B1 := hid (boxC_new w C A)
  have hS := hC.ch.keep q1
  obtain ⟨a5, a6, a7, a8, c5, c6, c7, c8⟩ := A
  dsimp only [cv, cl] at *
  go_enter Tryz.func53, Tryz.ntmps53
  go_wp2
  generalize hW : World.alloc _ _ = W at *
  clear hW hC
  go_loopw [9] (fun i wr => ∃ k : Nat, k ≤ C.ch.length ∧ i = .int .i64 k ∧ Below W.heap.size W wr ∧ ∀ j, j < k → ckCh C.d C.ch j = 0) (fun i _ => C.ch.length - (intOf i).toNat)
  case atStart => exact ⟨0, Nat.zero_le _, rfl, Below.refl _ _, by omega⟩
  case round =>
    obtain ⟨k, hk, rfl, hbl, hno⟩ := hrel
    have Hno := hid hno
    clear hno
    by_cases hlt : k < C.ch.length
    · obtain ⟨b', o', rfl, hc1, hc2, hc3⟩ := hS k hlt
      have hc1' := bkeep hbl hc1 (Nat.le_refl _)
      have hc2' := bkeep hbl hc2 (Nat.le_refl _)
      have hc3' := bkeep hbl hc3 (Nat.le_refl _)
      have hlt' : (k : Int) < (C.ch.length : Int) := by omega
      have hkc : (k : Int) ≤ (c7 : Int) := by omega
      have HD : Hid (C.ch[k]? = some C.ch[k]) := List.getElem?_eq_getElem hlt
      have hbx := (B1.out.keep hbl).lt
      obtain ⟨g0, g1, g2, g3, g4, g5, g6, g7, g8⟩ := B1.out.keep hbl
      dsimp only at g5 g6 g7 g8
      have HF : Hid (ckCh C.d C.ch k ≠ 0 → ckChans C = ckCh C.d C.ch k) := fun h0 => fe_at C.ch.length k (ckCh C.d C.ch) hlt h0 Hno.out
      generalize C.ch[k] = x at *
      obtain ⟨x1, x2, x3⟩ := x
      simp only at hc1' hc2' hc3'
      clear hc1 hc2 hc3
      have q3 := below_new wr (.cells #[.int .i64 x1, .int .i64 x2, .int .i64 x3] 117)
      have r3 : RowAt (wr.alloc (.cells #[.int .i64 x1, .int .i64 x2, .int .i64 x3] 117)) wr.heap.size 117 [.int .i64 x1, .int .i64 x2, .int .i64 x3] := rowAt_new2 wr _ [.int .i64 x1, .int .i64 x2, .int .i64 x3] 117 rfl
      go_wp2_with fail
      refine (isDomain_any _ _ _ _ _ _ _ _ C.d x1 hd1 hd4 _).mono ?_
      rintro e w2 ⟨rfl, hb2⟩
      have r4 := r3.below hb2 (Nat.le_refl _)
      have d1 := r4.cell 0 _ rfl
      have d2 := r4.cell 1 _ rfl
      have d3 := r4.cell 2 _ rfl
      have hbx2 := r4.lt
      have q2 := btrans q3 hb2
      have Hr4 := hid r4
      obtain ⟨p0, p1, p2, p3, p4, p5, p6, p7, p8⟩ := (B1.out.keep hbl).keep q2
      dsimp only at p5 p6 p7 p8
      clear hb2 q3 r3 r4 g0 g1 g2 g3 g4 g5 g6 g7 g8 hc1' hc2' hc3'
      cases hx : isD C.d x1 with
      | false =>
        have e1 : ckCh C.d C.ch k = 5 := by rw [ckCh, HD.out]; simp [hx]
        have HE := HF.out (by rw [e1]; decide)
        rw [e1] at HE
        clear HF e1 hx
        have HE := hid HE
        go_wp2
        go_ret
        exact ⟨ret_int HE.out.symm, btrans q1 (btrans hbl q2)⟩
      | true =>
        have HX := hid hx
        clear hx
        go_wp2_with fail
        refine (isDomain_any _ _ _ _ _ _ _ _ C.d x2 hd1 hd4 _).mono ?_
        rintro e w3 ⟨rfl, hb3⟩
        have r5 := Hr4.out.below hb3 (Nat.le_refl _)
        have e1 := r5.cell 0 _ rfl
        have e2 := r5.cell 1 _ rfl
        have e3 := r5.cell 2 _ rfl
        have q4 := btrans q2 hb3
        have t7 := ((B1.out.keep hbl).keep q4).h7
        dsimp only at t7
        clear hb3 q2 Hr4 d1 d2 d3 p0 p1 p2 p3 p4 p5 p6 p7 p8 r5
        cases hy : isD C.d x2 with
        | false =>
          have z1 : ckCh C.d C.ch k = 5 := by rw [ckCh, HD.out]; simp [hy]
          have HE := HF.out (by rw [z1]; decide)
          rw [z1] at HE
          clear HF z1 hy
          have HE := hid HE
          go_wp2
          go_ret
          exact ⟨ret_int HE.out.symm, btrans q1 (btrans hbl q4)⟩
        | true =>
          have HY := hid hy
          clear hy
          by_cases hz : x1 = x2
          · subst hz
            have z1 : ckCh C.d C.ch k = 1 := by rw [ckCh, HD.out]; simp [HX.out]
            have HE := HF.out (by rw [z1]; decide)
            rw [z1] at HE
            clear HF z1 
            have HE := hid HE
            go_wp2
            go_ret
            exact ⟨ret_int HE.out.symm, btrans q1 (btrans hbl q4)⟩
          · have hz' : (x1 == x2) = false := by simp [hz]
            have HZ := hid hz
            clear hz
            go_wp2_with fail
            refine (within_any _ _ _ _).mono ?_
            rintro e w' ⟨rfl, rfl⟩
            cases hv : inR x3 1 4 with
            | false =>
              have z1 : ckCh C.d C.ch k = 3 := by rw [ckCh, HD.out]; simp [HX.out, HY.out, HZ.out, hv]
              have HE := HF.out (by rw [z1]; decide)
              rw [z1] at HE
              clear HF z1 hv
              have HE := hid HE
              go_wp2
              go_ret
              exact ⟨ret_int HE.out.symm, btrans q1 (btrans hbl q4)⟩
            | true =>
              have HV := hid hv
              clear hv
              have hS3 := (hS.keep hbl).keep q4
              go_wp2_with fail
              refine (contains64_take (x1, x2, x3) wr.heap.size _ C.ch k c7 _ hS3 hk l7 e1 e2).mono ?_
              rintro e w5 ⟨rfl, hb5⟩
              have q6 := btrans q4 hb5
              cases ht : (C.ch.take k).any (twin (x1, x2, x3)) with
              | true =>
                have z1 : ckCh C.d C.ch k = 6 := by rw [ckCh, HD.out]; simp only [HX.out, HY.out, HZ.out, HV.out, ht]; simp
                have HE := HF.out (by rw [z1]; decide)
                rw [z1] at HE
                clear HF z1 ht
                have HE := hid HE
                go_wp2
                go_ret
                exact ⟨ret_int HE.out.symm, btrans q1 (btrans hbl q6)⟩
              | false =>
                have HT := hid ht
                clear ht
                go_wp2
                go_roundw
                case rel =>
                  refine ⟨k + 1, by omega, by go_num, btrans hbl q6, fun j hj => ?_⟩
                  by_cases e : j = k
                  · subst e; rw [ckCh, HD.out]; simp only [HX.out, HY.out, HZ.out, HV.out, HT.out]; simp
                  · exact Hno.out j (by omega)
                case measure => simp [intOf]; omega
    · go_wp2
      go_ret
      exact ⟨ret_int (fe_zero _ _ (fun j hj => Hno.out j (by omega))).symm, btrans q1 hbl⟩

set_option maxHeartbeats 2000000 in
theorem checkTasks_any (C : Conf) (A : Mem) (w : World) (hC : ConfIn w A C) (hd1 : 1 ≤ C.d) (hd4 : C.d ≤ 4) :
    Calls Tryz.prog 54 #[cv C A] w fun e w' => e = .returned (.int .i64 (ckTasks C)) ∧ Below w.heap.size w w' := by
  have l8 := hC.l8
  have q1 := below_new w (.cells (cl C A) 27)
  have B1 := hid (boxC_new w C A)
  have hS := hC.ta.keep q1
  obtain ⟨a5, a6, a7, a8, c5, c6, c7, c8⟩ := A
  dsimp only [cv, cl] at *
  go_enter Tryz.func54, Tryz.ntmps54
  go_wp2
  generalize hW : World.alloc _ _ = W at *
  clear hW hC
  go_loopw [8] (fun i wr => ∃ k : Nat, k ≤ C.ta.length ∧ i = .int .i64 k ∧ Below W.heap.size W wr ∧ ∀ j, j < k → ckTa C.d (C.ta.getD j (0, 0, 0, 0)) = 0) (fun i _ => C.ta.length - (intOf i).toNat)
  case atStart => exact ⟨0, Nat.zero_le _, rfl, Below.refl _ _, by omega⟩
  case round =>
    obtain ⟨k, hk, rfl, hbl, hno⟩ := hrel
    have Hno := hid hno
    clear hno
    by_cases hlt : k < C.ta.length
    · obtain ⟨b', o', rfl, hc1, hc2, hc3, hc4⟩ := hS k hlt
      have hc1' := bkeep hbl hc1 (Nat.le_refl _)
      have hc2' := bkeep hbl hc2 (Nat.le_refl _)
      have hc3' := bkeep hbl hc3 (Nat.le_refl _)
      have hc4' := bkeep hbl hc4 (Nat.le_refl _)
      have HD : Hid (C.ta.getD k (0, 0, 0, 0) = C.ta[k]) := getD_of _ _ hlt _
      have hbx := (B1.out.keep hbl).lt
      obtain ⟨g0, g1, g2, g3, g4, g5, g6, g7, g8⟩ := B1.out.keep hbl
      dsimp only at g5 g6 g7 g8
      have HF : Hid (ckTa C.d C.ta[k] ≠ 0 → ckTasks C = ckTa C.d C.ta[k]) := by
        intro h0
        show fe _ _ = _
        have := fe_at C.ta.length k (fun i => ckTa C.d (C.ta.getD i (0, 0, 0, 0))) hlt (by simp only [getD_of _ _ hlt]; exact h0) Hno.out
        rw [this]; simp only [getD_of _ _ hlt]
      generalize C.ta[k] = x at *
      obtain ⟨x1, x2, x3, x4⟩ := x
      simp only at hc1' hc2' hc3' hc4'
      clear hc1 hc2 hc3 hc4
      have q3 := below_new wr (.cells #[.int .i64 x1, .int .i64 x2, .int .i64 x3, .int .i64 x4] 69)
      have r3 : RowAt (wr.alloc (.cells #[.int .i64 x1, .int .i64 x2, .int .i64 x3, .int .i64 x4] 69)) wr.heap.size 69 [.int .i64 x1, .int .i64 x2, .int .i64 x3, .int .i64 x4] := rowAt_new2 wr _ [.int .i64 x1, .int .i64 x2, .int .i64 x3, .int .i64 x4] 69 rfl
      go_wp2_with fail
      refine (isDomain_any _ _ _ _ _ _ _ _ C.d x1 hd1 hd4 _).mono ?_
      rintro e w2 ⟨rfl, hb2⟩
      have r4 := r3.below hb2 (Nat.le_refl _)
      have d1 := r4.cell 0 _ rfl
      have d2 := r4.cell 1 _ rfl
      have d3 := r4.cell 2 _ rfl
      have d4 := r4.cell 3 _ rfl
      have q2 := btrans q3 hb2
      clear hb2 q3 r3 r4 g0 g1 g2 g3 g4 g5 g6 g7 g8 hc1' hc2' hc3' hc4'
      cases hx : isD C.d x1 with
      | false =>
        have e1 : ckTa C.d (x1, x2, x3, x4) = 5 := by simp [ckTa, hx]
        have HE := HF.out (by rw [e1]; decide)
        rw [e1] at HE
        clear HF e1 hx
        have HE := hid HE
        go_wp2
        go_ret
        exact ⟨ret_int HE.out.symm, btrans q1 (btrans hbl q2)⟩
      | true =>
        have HX := hid hx
        clear hx
        go_wp2_with fail
        refine (within_any _ _ _ _).mono ?_
        rintro e w' ⟨rfl, rfl⟩
        cases h1 : inR x2 1 5000 with
        | false =>
          have e1 : ckTa C.d (x1, x2, x3, x4) = 3 := by simp [ckTa, HX.out, h1]
          have HE := HF.out (by rw [e1]; decide)
          rw [e1] at HE
          clear HF e1 h1
          have HE := hid HE
          go_wp2
          go_ret
          exact ⟨ret_int HE.out.symm, btrans q1 (btrans hbl q2)⟩
        | true =>
          have H1 := hid h1
          clear h1
          go_wp2_with fail
          refine (within_any _ _ _ _).mono ?_
          rintro e w' ⟨rfl, rfl⟩
          cases h2 : inR x3 1 x2 with
          | false =>
            have e1 : ckTa C.d (x1, x2, x3, x4) = 3 := by simp [ckTa, HX.out, h2]
            have HE := HF.out (by rw [e1]; decide)
            rw [e1] at HE
            clear HF e1 h2
            have HE := hid HE
            go_wp2
            go_ret
            exact ⟨ret_int HE.out.symm, btrans q1 (btrans hbl q2)⟩
          | true =>
            have H2 := hid h2
            clear h2
            go_wp2_with fail
            refine (within_any _ _ _ _).mono ?_
            rintro e w' ⟨rfl, rfl⟩
            cases h3 : inR x4 1 x2 with
            | false =>
              have e1 : ckTa C.d (x1, x2, x3, x4) = 3 := by simp [ckTa, HX.out, h3]
              have HE := HF.out (by rw [e1]; decide)
              rw [e1] at HE
              clear HF e1 h3
              have HE := hid HE
              go_wp2
              go_ret
              exact ⟨ret_int HE.out.symm, btrans q1 (btrans hbl q2)⟩
            | true =>
              have H3 := hid h3
              clear h3
              go_wp2
              go_roundw
              case rel =>
                refine ⟨k + 1, by omega, by go_num, btrans hbl q2, fun j hj => ?_⟩
                by_cases e : j = k
                · subst e; rw [HD.out]; simp [ckTa, HX.out, H1.out, H2.out, H3.out]
                · exact Hno.out j (by omega)
              case measure => simp [intOf]; omega
    · go_wp2
      go_ret
      exact ⟨ret_int (fe_zero _ _ (fun j hj => Hno.out j (by omega))).symm, btrans q1 hbl⟩

end Go.Proofs.YtildebflnmbefaaGreat

namespace Go.Proofs.YtildebflnmbefaaGreat
open Go.RowKit

theorem step7_any (k : Nat) (hk : k < 7) (C : Conf) (A : Mem) (w : World) (hC : ConfIn w A C) (hno : ∀ j, j < k → ck7 C j = 0) :
    Calls Tryz.prog (48 + k) #[cv C A] w fun e w' => e = .returned (.int .i64 (ck7 C k)) ∧ Below w.heap.size w w' := by
  match k, hk with
  | 0, _ => exact checkNumbers_any C A w
  | 1, _ =>
    obtain ⟨h1, h2, h3, h4, _⟩ := num_ok (hno 0 (by omega))
    exact checkPad_any C A w h1 h2 h3 h4
  | 2, _ => exact checkCounts_any C A w hC
  | 3, _ =>
    obtain ⟨_, _, _, _, h1, h2, _⟩ := num_ok (hno 0 (by omega))
    exact checkSlots_any C A w hC h1 h2
  | 4, _ =>
    obtain ⟨_, _, _, _, h1, h2, _⟩ := num_ok (hno 0 (by omega))
    exact checkOwners_any C A w hC h1 h2
  | 5, _ =>
    obtain ⟨_, _, _, _, h1, h2, _⟩ := num_ok (hno 0 (by omega))
    exact checkChannels_any C A w hC h1 h2
  | 6, _ =>
    obtain ⟨_, _, _, _, h1, h2, _⟩ := num_ok (hno 0 (by omega))
    exact checkTasks_any C A w hC h1 h2

theorem tab7 (k : Nat) (hk : k < 7) : ([.func (.func 48) #[] #[], .func (.func 49) #[] #[], .func (.func 50) #[] #[], .func (.func 51) #[] #[], .func (.func 52) #[] #[], .func (.func 53) #[] #[], .func (.func 54) #[] #[]] : List Value)[k]? = some (.func (.func (48 + k)) #[] #[]) := by
  match k, hk with
  | 0, _ => rfl
  | 1, _ => rfl
  | 2, _ => rfl
  | 3, _ => rfl
  | 4, _ => rfl
  | 5, _ => rfl
  | 6, _ => rfl

set_option maxHeartbeats 2000000 in
theorem checkC_any (C : Conf) (A : Mem) (w : World) (hC : ConfIn w A C) :
    Calls Tryz.prog 29 #[cv C A] w fun e w' => e = .returned (.int .i64 (ckC C)) ∧ Below w.heap.size w w' := by
  have q1 := below_new w (.cells (cl C A) 27)
  have B1 := hid (boxC_new w C A)
  have hS := hid (hC.keep q1)
  clear hC
  dsimp only [cv, cl] at *
  go_enter Tryz.func29, Tryz.ntmps29
  go_wp2
  generalize hW1 : World.alloc w _ = W1 at *
  have q2 := below_new W1 (.cells #[.func (.func 48) #[] #[], .func (.func 49) #[] #[], .func (.func 50) #[] #[], .func (.func 51) #[] #[], .func (.func 52) #[] #[], .func (.func 53) #[] #[], .func (.func 54) #[] #[]] 90)
  have hsz : W1.heap.size = w.heap.size + 1 := by rw [← hW1]; simp
  have R1 := hid (rowAt_new2 W1 (w.heap.size + 1) [.func (.func 48) #[] #[], .func (.func 49) #[] #[], .func (.func 50) #[] #[], .func (.func 51) #[] #[], .func (.func 52) #[] #[], .func (.func 53) #[] #[], .func (.func 54) #[] #[]] 90 hsz)
  have B2 := hid (B1.out.keep q2)
  have hS2 := hid (hS.out.keep q2)
  have q3 := btrans q1 q2
  clear hW1 hS B1 q1 q2 hsz
  generalize hW2 : World.alloc W1 _ = W2 at *
  have R1' : RowAt W2 (w.heap.size + 1) 90 [.func (.func 48) #[] #[], .func (.func 49) #[] #[], .func (.func 50) #[] #[], .func (.func 51) #[] #[], .func (.func 52) #[] #[], .func (.func 53) #[] #[], .func (.func 54) #[] #[]] := R1.out
  have R2 := hid R1'
  clear R1 R1' hW2
  go_loopw [10] (fun i wr => ∃ k : Nat, k ≤ 7 ∧ i = .int .i64 k ∧ Below W2.heap.size W2 wr ∧ ∀ j, j < k → ck7 C j = 0) (fun i _ => 7 - (intOf i).toNat)
  case atStart => exact ⟨0, Nat.zero_le _, rfl, Below.refl _ _, by omega⟩
  case round =>
    obtain ⟨k, hk, rfl, hbl, hno⟩ := hrel
    have Hno := hid hno
    clear hno
    by_cases hlt : k < 7
    · have hc := (R2.out.below hbl (Nat.le_refl _)).cell k _ (tab7 k hlt)
      have hlt' : (k : Int) < 7 := by omega
      obtain ⟨g0, g1, g2, g3, g4, g5, g6, g7, g8⟩ := B2.out.keep hbl
      have hcs : k = 0 ∨ k = 1 ∨ k = 2 ∨ k = 3 ∨ k = 4 ∨ k = 5 ∨ k = 6 := by omega
      rcases hcs with rfl | rfl | rfl | rfl | rfl | rfl | rfl
      · simp only [Nat.reduceAdd] at hc
        go_wp2_with fail
        refine (step7_any 0 hlt C A _ (hS2.out.keep hbl) Hno.out).mono ?_
        rintro e w3 ⟨rfl, hb3⟩
        by_cases hx : ck7 C 0 = 0
        · have HX := hid hx
          rw [hx]
          clear hx
          go_wp2
          go_roundw
          case rel =>
            refine ⟨1, by omega, by go_num, btrans hbl hb3, fun j hj => ?_⟩
            by_cases e : j = 0
            · subst e; exact HX.out
            · exact Hno.out j (by omega)
          case measure => simp [intOf]
        · have HE := hid (fe_at 7 0 (ck7 C) hlt hx Hno.out)
          have hx' : (ck7 C 0 != 0) = true := by simp [hx]
          clear hx
          generalize ck7 C 0 = q at *
          go_wp2
          go_ret
          exact ⟨ret_int HE.out.symm, btrans q3 (btrans hbl hb3)⟩
      · simp only [Nat.reduceAdd] at hc
        go_wp2_with fail
        refine (step7_any 1 hlt C A _ (hS2.out.keep hbl) Hno.out).mono ?_
        rintro e w3 ⟨rfl, hb3⟩
        by_cases hx : ck7 C 1 = 0
        · have HX := hid hx
          rw [hx]
          clear hx
          go_wp2
          go_roundw
          case rel =>
            refine ⟨2, by omega, by go_num, btrans hbl hb3, fun j hj => ?_⟩
            by_cases e : j = 1
            · subst e; exact HX.out
            · exact Hno.out j (by omega)
          case measure => simp [intOf]
        · have HE := hid (fe_at 7 1 (ck7 C) hlt hx Hno.out)
          have hx' : (ck7 C 1 != 0) = true := by simp [hx]
          clear hx
          generalize ck7 C 1 = q at *
          go_wp2
          go_ret
          exact ⟨ret_int HE.out.symm, btrans q3 (btrans hbl hb3)⟩
      · simp only [Nat.reduceAdd] at hc
        go_wp2_with fail
        refine (step7_any 2 hlt C A _ (hS2.out.keep hbl) Hno.out).mono ?_
        rintro e w3 ⟨rfl, hb3⟩
        by_cases hx : ck7 C 2 = 0
        · have HX := hid hx
          rw [hx]
          clear hx
          go_wp2
          go_roundw
          case rel =>
            refine ⟨3, by omega, by go_num, btrans hbl hb3, fun j hj => ?_⟩
            by_cases e : j = 2
            · subst e; exact HX.out
            · exact Hno.out j (by omega)
          case measure => simp [intOf]
        · have HE := hid (fe_at 7 2 (ck7 C) hlt hx Hno.out)
          have hx' : (ck7 C 2 != 0) = true := by simp [hx]
          clear hx
          generalize ck7 C 2 = q at *
          go_wp2
          go_ret
          exact ⟨ret_int HE.out.symm, btrans q3 (btrans hbl hb3)⟩
      · simp only [Nat.reduceAdd] at hc
        go_wp2_with fail
        refine (step7_any 3 hlt C A _ (hS2.out.keep hbl) Hno.out).mono ?_
        rintro e w3 ⟨rfl, hb3⟩
        by_cases hx : ck7 C 3 = 0
        · have HX := hid hx
          rw [hx]
          clear hx
          go_wp2
          go_roundw
          case rel =>
            refine ⟨4, by omega, by go_num, btrans hbl hb3, fun j hj => ?_⟩
            by_cases e : j = 3
            · subst e; exact HX.out
            · exact Hno.out j (by omega)
          case measure => simp [intOf]
        · have HE := hid (fe_at 7 3 (ck7 C) hlt hx Hno.out)
          have hx' : (ck7 C 3 != 0) = true := by simp [hx]
          clear hx
          generalize ck7 C 3 = q at *
          go_wp2
          go_ret
          exact ⟨ret_int HE.out.symm, btrans q3 (btrans hbl hb3)⟩
      · simp only [Nat.reduceAdd] at hc
        go_wp2_with fail
        refine (step7_any 4 hlt C A _ (hS2.out.keep hbl) Hno.out).mono ?_
        rintro e w3 ⟨rfl, hb3⟩
        by_cases hx : ck7 C 4 = 0
        · have HX := hid hx
          rw [hx]
          clear hx
          go_wp2
          go_roundw
          case rel =>
            refine ⟨5, by omega, by go_num, btrans hbl hb3, fun j hj => ?_⟩
            by_cases e : j = 4
            · subst e; exact HX.out
            · exact Hno.out j (by omega)
          case measure => simp [intOf]
        · have HE := hid (fe_at 7 4 (ck7 C) hlt hx Hno.out)
          have hx' : (ck7 C 4 != 0) = true := by simp [hx]
          clear hx
          generalize ck7 C 4 = q at *
          go_wp2
          go_ret
          exact ⟨ret_int HE.out.symm, btrans q3 (btrans hbl hb3)⟩
      · simp only [Nat.reduceAdd] at hc
        go_wp2_with fail
        refine (step7_any 5 hlt C A _ (hS2.out.keep hbl) Hno.out).mono ?_
        rintro e w3 ⟨rfl, hb3⟩
        by_cases hx : ck7 C 5 = 0
        · have HX := hid hx
          rw [hx]
          clear hx
          go_wp2
          go_roundw
          case rel =>
            refine ⟨6, by omega, by go_num, btrans hbl hb3, fun j hj => ?_⟩
            by_cases e : j = 5
            · subst e; exact HX.out
            · exact Hno.out j (by omega)
          case measure => simp [intOf]
        · have HE := hid (fe_at 7 5 (ck7 C) hlt hx Hno.out)
          have hx' : (ck7 C 5 != 0) = true := by simp [hx]
          clear hx
          generalize ck7 C 5 = q at *
          go_wp2
          go_ret
          exact ⟨ret_int HE.out.symm, btrans q3 (btrans hbl hb3)⟩
      · simp only [Nat.reduceAdd] at hc
        go_wp2_with fail
        refine (step7_any 6 hlt C A _ (hS2.out.keep hbl) Hno.out).mono ?_
        rintro e w3 ⟨rfl, hb3⟩
        by_cases hx : ck7 C 6 = 0
        · have HX := hid hx
          rw [hx]
          clear hx
          go_wp2
          go_roundw
          case rel =>
            refine ⟨7, by omega, by go_num, btrans hbl hb3, fun j hj => ?_⟩
            by_cases e : j = 6
            · subst e; exact HX.out
            · exact Hno.out j (by omega)
          case measure => simp [intOf]
        · have HE := hid (fe_at 7 6 (ck7 C) hlt hx Hno.out)
          have hx' : (ck7 C 6 != 0) = true := by simp [hx]
          clear hx
          generalize ck7 C 6 = q at *
          go_wp2
          go_ret
          exact ⟨ret_int HE.out.symm, btrans q3 (btrans hbl hb3)⟩
    · have hk7 : k = 7 := by omega
      subst hk7
      go_wp2
      go_ret
      exact ⟨ret_int (fe_zero _ _ (fun j hj => Hno.out j (by omega))).symm, btrans q3 hbl⟩

end Go.Proofs.YtildebflnmbefaaGreat
