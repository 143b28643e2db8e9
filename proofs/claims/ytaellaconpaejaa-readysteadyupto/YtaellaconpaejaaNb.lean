/- Walks: configs in memory; the first checks of a config. -/
import Derived.Test.YtaellaconpaejaaCg
import Derived.Test.YtaellaconpaejaaNa
set_option linter.unusedVariables false
namespace Go.Proofs.Ytaellaconpaejaa
open Go.RowKit

/-- Where the lists of a config lie. -/
structure Mem where
  a5 : Option Addr
  a6 : Option Addr
  a7 : Option Addr
  a8 : Option Addr
  c5 : Nat
  c6 : Nat
  c7 : Nat
  c8 : Nat

abbrev cl (C : Conf) (A : Mem) : Array Value := #[.int .i64 C.s, .int .i64 C.w, .int .i64 C.d, .int .i64 C.p, .int .i64 C.q, .slice A.a5 C.sl.length A.c5, .slice A.a6 C.ow.length A.c6, .slice A.a7 C.ch.length A.c7, .slice A.a8 C.ta.length A.c8]
abbrev cv (C : Conf) (A : Mem) : Value := .agg (cl C A)

def SlotsIn (w : World) (a : Option Addr) (ls : List (Int × Int)) : Prop :=
  ∀ i (h : i < ls.length), ∃ b o, a = some ⟨b, o, none⟩ ∧ w.cell? ⟨b, o + i * 2, none⟩ = some (.int .i64 ls[i].1) ∧ w.cell? ⟨b, o + i * 2 + 1, none⟩ = some (.int .i64 ls[i].2)
def IntsIn (w : World) (a : Option Addr) (ls : List Int) : Prop :=
  ∀ i (h : i < ls.length), ∃ b o, a = some ⟨b, o, none⟩ ∧ w.cell? ⟨b, o + i, none⟩ = some (.int .i64 ls[i])
def ChansIn (w : World) (a : Option Addr) (ls : List (Int × Int × Int)) : Prop :=
  ∀ i (h : i < ls.length), ∃ b o, a = some ⟨b, o, none⟩ ∧ w.cell? ⟨b, o + i * 3, none⟩ = some (.int .i64 ls[i].1) ∧ w.cell? ⟨b, o + i * 3 + 1, none⟩ = some (.int .i64 ls[i].2.1) ∧ w.cell? ⟨b, o + i * 3 + 2, none⟩ = some (.int .i64 ls[i].2.2)
def TasksIn (w : World) (a : Option Addr) (ls : List (Int × Int × Int × Int)) : Prop :=
  ∀ i (h : i < ls.length), ∃ b o, a = some ⟨b, o, none⟩ ∧ w.cell? ⟨b, o + i * 4, none⟩ = some (.int .i64 ls[i].1) ∧ w.cell? ⟨b, o + i * 4 + 1, none⟩ = some (.int .i64 ls[i].2.1) ∧ w.cell? ⟨b, o + i * 4 + 2, none⟩ = some (.int .i64 ls[i].2.2.1) ∧ w.cell? ⟨b, o + i * 4 + 3, none⟩ = some (.int .i64 ls[i].2.2.2)

theorem SlotsIn.keep {w w' : World} {a : Option Addr} {ls : List (Int × Int)} (h : SlotsIn w a ls) (hb : Below w.heap.size w w') : SlotsIn w' a ls := by
  intro i hi
  obtain ⟨b, o, e, h1, h2⟩ := h i hi
  exact ⟨b, o, e, bkeep hb h1 (Nat.le_refl _), bkeep hb h2 (Nat.le_refl _)⟩
theorem IntsIn.keep {w w' : World} {a : Option Addr} {ls : List Int} (h : IntsIn w a ls) (hb : Below w.heap.size w w') : IntsIn w' a ls := by
  intro i hi
  obtain ⟨b, o, e, h1⟩ := h i hi
  exact ⟨b, o, e, bkeep hb h1 (Nat.le_refl _)⟩
theorem ChansIn.keep {w w' : World} {a : Option Addr} {ls : List (Int × Int × Int)} (h : ChansIn w a ls) (hb : Below w.heap.size w w') : ChansIn w' a ls := by
  intro i hi
  obtain ⟨b, o, e, h1, h2, h3⟩ := h i hi
  exact ⟨b, o, e, bkeep hb h1 (Nat.le_refl _), bkeep hb h2 (Nat.le_refl _), bkeep hb h3 (Nat.le_refl _)⟩
theorem TasksIn.keep {w w' : World} {a : Option Addr} {ls : List (Int × Int × Int × Int)} (h : TasksIn w a ls) (hb : Below w.heap.size w w') : TasksIn w' a ls := by
  intro i hi
  obtain ⟨b, o, e, h1, h2, h3, h4⟩ := h i hi
  exact ⟨b, o, e, bkeep hb h1 (Nat.le_refl _), bkeep hb h2 (Nat.le_refl _), bkeep hb h3 (Nat.le_refl _), bkeep hb h4 (Nat.le_refl _)⟩

/-- A config's lists lie in memory. -/
structure ConfIn (w : World) (A : Mem) (C : Conf) : Prop where
  sl : SlotsIn w A.a5 C.sl
  ow : IntsIn w A.a6 C.ow
  ch : ChansIn w A.a7 C.ch
  ta : TasksIn w A.a8 C.ta
  l5 : C.sl.length ≤ 9223372036854775807
  l6 : C.ow.length ≤ 9223372036854775807
  l7 : C.ch.length ≤ 9223372036854775807
  l8 : C.ta.length ≤ 9223372036854775807
  k7 : C.ch.length ≤ A.c7

theorem ConfIn.keep {w w' : World} {A : Mem} {C : Conf} (h : ConfIn w A C) (hb : Below w.heap.size w w') : ConfIn w' A C :=
  ⟨h.sl.keep hb, h.ow.keep hb, h.ch.keep hb, h.ta.keep hb, h.l5, h.l6, h.l7, h.l8, h.k7⟩

/-- A box that holds a config. -/
structure BoxC (w : World) (b : Nat) (C : Conf) (A : Mem) : Prop where
  h0 : w.cell? ⟨b, 0, none⟩ = some (.int .i64 C.s)
  h1 : w.cell? ⟨b, 1, none⟩ = some (.int .i64 C.w)
  h2 : w.cell? ⟨b, 2, none⟩ = some (.int .i64 C.d)
  h3 : w.cell? ⟨b, 3, none⟩ = some (.int .i64 C.p)
  h4 : w.cell? ⟨b, 4, none⟩ = some (.int .i64 C.q)
  h5 : w.cell? ⟨b, 5, none⟩ = some (.slice A.a5 C.sl.length A.c5)
  h6 : w.cell? ⟨b, 6, none⟩ = some (.slice A.a6 C.ow.length A.c6)
  h7 : w.cell? ⟨b, 7, none⟩ = some (.slice A.a7 C.ch.length A.c7)
  h8 : w.cell? ⟨b, 8, none⟩ = some (.slice A.a8 C.ta.length A.c8)

theorem BoxC.keep {w w' : World} {b : Nat} {A : Mem} {C : Conf} (h : BoxC w b C A) (hb : Below w.heap.size w w') : BoxC w' b C A :=
  ⟨bkeep hb h.h0 (Nat.le_refl _), bkeep hb h.h1 (Nat.le_refl _), bkeep hb h.h2 (Nat.le_refl _), bkeep hb h.h3 (Nat.le_refl _), bkeep hb h.h4 (Nat.le_refl _), bkeep hb h.h5 (Nat.le_refl _), bkeep hb h.h6 (Nat.le_refl _), bkeep hb h.h7 (Nat.le_refl _), bkeep hb h.h8 (Nat.le_refl _)⟩

theorem boxC_new (w : World) (C : Conf) (A : Mem) : BoxC (w.alloc (.cells (cl C A) 46)) w.heap.size C A := by
  constructor <;> simp

theorem below_new (w : World) (o : Obj) : Below w.heap.size w (w.alloc o) := (Below.refl _ _).alloc (Nat.le_refl _) _

set_option maxHeartbeats 400000 in
theorem isDomain_any (v0 v1 v3 v4 v5 v6 v7 v8 : Value) (d x : Int) (hd1 : 1 ≤ d) (hd4 : d ≤ 4) (w : World) :
    Calls Try.prog 121 #[.agg #[v0, v1, .int .i64 d, v3, v4, v5, v6, v7, v8], .int .i64 x] w fun e w' => e = .returned (.bool (isD d x)) ∧ Below w.heap.size w w' := by
  go_enter Try.func121, Try.ntmps121
  go_wp2_with fail
  refine (within_any _ _ _ _).mono ?_
  rintro e w' ⟨rfl, rfl⟩
  go_wp2
  go_ret
  exact ⟨rfl, below_new _ _⟩

set_option maxHeartbeats 1000000 in
theorem checkNumbers_any (C : Conf) (A : Mem) (w : World) :
    Calls Try.prog 80 #[cv C A] w fun e w' => e = .returned (.int .i64 (ckNum C)) ∧ Below w.heap.size w w' := by
  unfold cv cl
  go_enter Try.func80, Try.ntmps80
  go_wp2_with fail
  refine (within_any _ _ _ _).mono ?_
  rintro e w' ⟨rfl, rfl⟩
  cases h1 : inR C.s 1 4 with
  | false =>
    go_wp2
    go_ret
    exact ⟨ret_int (by simp [ckNum, h1]), below_new _ _⟩
  | true =>
    have H1 := hid h1
    clear h1
    go_wp2_with fail
    refine (within_any _ _ _ _).mono ?_
    rintro e w' ⟨rfl, rfl⟩
    cases h2 : inR C.w 1 3 with
    | false =>
      go_wp2
      go_ret
      exact ⟨ret_int (by simp [ckNum, h2]), below_new _ _⟩
    | true =>
      have H2 := hid h2
      clear h2
      go_wp2_with fail
      refine (within_any _ _ _ _).mono ?_
      rintro e w' ⟨rfl, rfl⟩
      cases h3 : inR C.d 1 4 with
      | false =>
        go_wp2
        go_ret
        exact ⟨ret_int (by simp [ckNum, h3]), below_new _ _⟩
      | true =>
        have H3 := hid h3
        clear h3
        go_wp2_with fail
        refine (within_any _ _ _ _).mono ?_
        rintro e w' ⟨rfl, rfl⟩
        cases h4 : inR C.q 1 100 with
        | false =>
          go_wp2
          go_ret
          exact ⟨ret_int (by simp [ckNum, h4]), below_new _ _⟩
        | true =>
          go_wp2
          go_ret
          exact ⟨ret_int (by simp [ckNum, H1.out, H2.out, H3.out, h4]), below_new _ _⟩

set_option maxHeartbeats 1000000 in
theorem checkPad_any (C : Conf) (A : Mem) (w : World) (h1 : 1 ≤ C.s) (h2 : C.s ≤ 4) (h3 : 1 ≤ C.w) (h4 : C.w ≤ 3) :
    Calls Try.prog 81 #[cv C A] w fun e w' => e = .returned (.int .i64 (ckPad C)) ∧ Below w.heap.size w w' := by
  have hb1 : 0 ≤ 5 * C.s * C.w := Int.mul_nonneg (by omega) (by omega)
  have hb2 : 5 * C.s * C.w ≤ 60 := by
    have h5 : (5 * C.s) * C.w ≤ 20 * C.w := Int.mul_le_mul_of_nonneg_right (by omega) (by omega)
    omega
  unfold cv cl
  go_enter Try.func81, Try.ntmps81
  go_wp2_with fail
  refine (within_any _ _ _ _).mono ?_
  rintro e w' ⟨rfl, rfl⟩
  cases h1 : inR C.p (2 + 5 * C.s * C.w) 99 with
  | false =>
    go_wp2
    go_ret
    exact ⟨ret_int (by simp [ckPad, h1]), below_new _ _⟩
  | true =>
    go_wp2
    go_ret
    exact ⟨ret_int (by simp [ckPad, h1]), below_new _ _⟩

set_option maxHeartbeats 1000000 in
theorem checkCounts_any (C : Conf) (A : Mem) (w : World) (hC : ConfIn w A C) :
    Calls Try.prog 82 #[cv C A] w fun e w' => e = .returned (.int .i64 (ckCnt C)) ∧ Below w.heap.size w w' := by
  have l5 := hC.l5
  have l6 := hC.l6
  have l7 := hC.l7
  have l8 := hC.l8
  unfold cv cl
  go_enter Try.func82, Try.ntmps82
  go_wp2_with fail
  refine (within_any _ _ _ _).mono ?_
  rintro e w' ⟨rfl, rfl⟩
  cases h1 : inR C.sl.length 1 6 with
  | false =>
    go_wp2
    go_ret
    exact ⟨ret_int (by simp [ckCnt, h1]), below_new _ _⟩
  | true =>
    have H1 := hid h1
    clear h1
    by_cases h2 : (C.ow.length : Int) > 4
    · go_wp2
      go_ret
      exact ⟨ret_int (by rw [ckCnt, if_neg]; simp; omega), below_new _ _⟩
    · by_cases h3 : (C.ch.length : Int) > 4
      · go_wp2
        go_ret
        exact ⟨ret_int (by rw [ckCnt, if_neg]; simp; omega), below_new _ _⟩
      · by_cases h4 : (C.ta.length : Int) > 6
        · go_wp2
          go_ret
          exact ⟨ret_int (by rw [ckCnt, if_neg]; simp; omega), below_new _ _⟩
        · go_wp2
          go_ret
          exact ⟨ret_int (by rw [ckCnt, if_pos]; simp [H1.out]; omega), below_new _ _⟩

end Go.Proofs.Ytaellaconpaejaa
