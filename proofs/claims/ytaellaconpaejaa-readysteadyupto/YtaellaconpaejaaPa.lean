/- The plain reckoning of images: the numbers of a config's image. -/
import Derived.Test.YtaellaconpaejaaNa
namespace Go.Proofs.Ytaellaconpaejaa

/-- A number's two bytes, the greater first. -/
def hl (n : Int) : List Int := [n / 256, n % 256]
def enS (x : Int × Int) : List Int := x.1 :: hl x.2
def enC (x : Int × Int × Int) : List Int := [x.1, x.2.1, x.2.2]
def enT (x : Int × Int × Int × Int) : List Int := x.1 :: (hl x.2.1 ++ hl x.2.2.1 ++ hl x.2.2.2)
/-- The numbers of an image. -/
def en (C : Conf) : List Int :=
  67 :: C.s :: C.w :: C.d :: C.p :: C.q :: (C.sl.length : Int) :: (C.sl.flatMap enS ++ (C.ow.length : Int) :: (C.ow ++ (C.ch.length : Int) :: (C.ch.flatMap enC ++ (C.ta.length : Int) :: C.ta.flatMap enT)))

def u8s (l : List Int) : List UInt8 := l.map fun n => UInt8.ofNat n.toNat
def bstr (l : List Int) : ByteArray := ⟨(u8s l).toArray⟩

/-- A config whose numbers have room in their bytes. -/
structure Fits (C : Conf) : Prop where
  s : 1 ≤ C.s ∧ C.s ≤ 4
  w : 1 ≤ C.w ∧ C.w ≤ 3
  d : 1 ≤ C.d ∧ C.d ≤ 4
  p : 0 ≤ C.p ∧ C.p ≤ 99
  q : 1 ≤ C.q ∧ C.q ≤ 100
  l5 : 1 ≤ C.sl.length ∧ C.sl.length ≤ 6
  l6 : C.ow.length ≤ 4
  l7 : C.ch.length ≤ 4
  l8 : C.ta.length ≤ 6
  sl : ∀ x ∈ C.sl, 0 ≤ x.1 ∧ x.1 ≤ 3 ∧ 100 ≤ x.2 ∧ x.2 ≤ 1000
  ow : ∀ x ∈ C.ow, 0 ≤ x ∧ x ≤ 3
  ch : ∀ x ∈ C.ch, 0 ≤ x.1 ∧ x.1 ≤ 3 ∧ 0 ≤ x.2.1 ∧ x.2.1 ≤ 3 ∧ 1 ≤ x.2.2 ∧ x.2.2 ≤ 4
  ta : ∀ x ∈ C.ta, 0 ≤ x.1 ∧ x.1 ≤ 3 ∧ 1 ≤ x.2.1 ∧ x.2.1 ≤ 5000 ∧ 1 ≤ x.2.2.1 ∧ x.2.2.1 ≤ 5000 ∧ 1 ≤ x.2.2.2 ∧ x.2.2.2 ≤ 5000

theorem fits_of {C : Conf} (h : ckC C = 0) : Fits C := by
  obtain ⟨h1, h2, h3, h4, h5, h6, h7⟩ := ck_ok h
  have n := num_ok h1
  have p := pad_ok h2
  have c := cnt_ok h3
  have hp : 0 ≤ 5 * C.s * C.w := Int.mul_nonneg (by omega) (by omega)
  refine ⟨by omega, by omega, by omega, by omega, by omega, by omega, by omega, by omega, by omega, fun x hx => ?_, fun x hx => ?_, fun x hx => ?_, fun x hx => ?_⟩
  · have := sl_ok h4 x hx; omega
  · have := ow_ok h5 x hx; omega
  · have := ch_ok h6 x hx; omega
  · have := ta_ok h7 x hx; omega

theorem enS_len (l : List (Int × Int)) : (l.flatMap enS).length = 3 * l.length := by
  induction l with
  | nil => rfl
  | cons x l ih => simp only [List.flatMap_cons, List.length_append, ih, List.length_cons]; simp [enS, hl]; omega
theorem enC_len (l : List (Int × Int × Int)) : (l.flatMap enC).length = 3 * l.length := by
  induction l with
  | nil => rfl
  | cons x l ih => simp only [List.flatMap_cons, List.length_append, ih, List.length_cons]; simp [enC]; omega
theorem enT_len (l : List (Int × Int × Int × Int)) : (l.flatMap enT).length = 7 * l.length := by
  induction l with
  | nil => rfl
  | cons x l ih => simp only [List.flatMap_cons, List.length_append, ih, List.length_cons]; simp [enT, hl]; omega

theorem en_len (C : Conf) : (en C).length = 10 + 3 * C.sl.length + C.ow.length + 3 * C.ch.length + 7 * C.ta.length := by
  simp only [en, List.length_cons, List.length_append, enS_len, enC_len, enT_len]; omega

/-- All of an image are bytes. -/
theorem en_bytes {C : Conf} (h : Fits C) : ∀ x ∈ en C, 0 ≤ x ∧ x ≤ 255 := by
  obtain ⟨s, w, d, p, q, l5, l6, l7, l8, sl, ow, ch, ta⟩ := h
  intro x hx
  simp only [en, List.mem_cons, List.mem_append, List.mem_flatMap] at hx
  rcases hx with rfl | rfl | rfl | rfl | rfl | rfl | rfl | ⟨y, hy, hx⟩ | rfl | hx | rfl | ⟨y, hy, hx⟩ | rfl | ⟨y, hy, hx⟩
  · omega
  · omega
  · omega
  · omega
  · omega
  · omega
  · omega
  · have := sl y hy
    simp [enS, hl] at hx
    omega
  · omega
  · have := ow x hx; omega
  · omega
  · have := ch y hy
    simp [enC] at hx
    omega
  · omega
  · have := ta y hy
    simp [enT, hl] at hx
    omega

/-- The reckoning of Reach: a row of bools for each domain. -/
def orR (F T : List Bool) : List Bool := List.zipWith (· || ·) F T
def stepM (M : Nat → List Bool) (x : Int × Int × Int) : Nat → List Bool := fun i => if i = x.1.toNat then orR (M x.1.toNat) (M x.2.1.toNat) else M i
def idM (D : Nat) : Nat → List Bool := fun i => (List.replicate D false).set i true
def itM (ch : List (Int × Int × Int)) (M : Nat → List Bool) : Nat → (Nat → List Bool)
  | 0 => M
  | n + 1 => ch.foldl stepM (itM ch M n)

theorem orR_len {F T : List Bool} (h : F.length = T.length) : (orR F T).length = T.length := by simp [orR, h]

theorem stepM_len {M : Nat → List Bool} {D : Nat} (h : ∀ i, i < D → (M i).length = D) (x : Int × Int × Int) (h1 : x.1.toNat < D) (h2 : x.2.1.toNat < D) : ∀ i, i < D → (stepM M x i).length = D := by
  intro i hi
  unfold stepM
  split
  · rw [orR_len (by rw [h _ h1, h _ h2]), h _ h2]
  · exact h i hi

theorem ch_ne {C : Conf} (h : ckChans C = 0) : ∀ x ∈ C.ch, x.1 ≠ x.2.1 := by
  intro x hx
  obtain ⟨j, hj, rfl⟩ := List.getElem_of_mem hx
  have := fe_eq_zero h j hj
  simp only [List.getElem?_eq_getElem hj, ckCh] at this
  split at this
  · split at this
    · omega
    · assumption
  · omega

end Go.Proofs.Ytaellaconpaejaa
