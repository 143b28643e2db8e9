/- The plain reckoning of what is reached: over and over, and row by row, come to the same. -/
import Derived.Test.YtfcefkhlbbehcaaPa
namespace Go.Proofs.Ytfcefkhlbbehcaa

/-- One domain reaches another one: whatever holds of that one, and goes back along every channel, holds of it. -/
def Rch (ch : List (Int × Int × Int)) (i k : Nat) : Prop := ∀ Q : Nat → Prop, Q k → (∀ x ∈ ch, Q x.2.1.toNat → Q x.1.toNat) → Q i

theorem Rch.refl (ch : List (Int × Int × Int)) (i : Nat) : Rch ch i i := fun _ h _ => h
theorem Rch.head {ch : List (Int × Int × Int)} {k : Nat} (x : Int × Int × Int) (hx : x ∈ ch) (h : Rch ch x.2.1.toNat k) : Rch ch x.1.toNat k := fun Q hk hs => hs x hx (h Q hk hs)
theorem Rch.snoc {ch : List (Int × Int × Int)} {i j : Nat} (h : Rch ch i j) (x : Int × Int × Int) (hx : x ∈ ch) (e : j = x.1.toNat) : Rch ch i x.2.1.toNat := fun Q hk hs => h Q (by rw [e]; exact hs x hx hk) hs

/-- The column of one domain: who reaches it. -/
def sc (p : Nat → Bool) (x : Int × Int × Int) : Nat → Bool := fun i => if i = x.1.toNat then p x.1.toNat || p x.2.1.toNat else p i
def itc (ch : List (Int × Int × Int)) (p : Nat → Bool) : Nat → (Nat → Bool)
  | 0 => p
  | n + 1 => ch.foldl sc (itc ch p n)
def Cl (ch : List (Int × Int × Int)) (p : Nat → Bool) : Prop := ∀ x ∈ ch, p x.2.1.toNat = true → p x.1.toNat = true

theorem sc_mono (p : Nat → Bool) (x : Int × Int × Int) (i : Nat) (h : p i = true) : sc p x i = true := by
  unfold sc
  split
  · rename_i e; rw [← e, h]; simp
  · exact h

theorem fold_mono (ch : List (Int × Int × Int)) : ∀ (p : Nat → Bool) (i : Nat), p i = true → ch.foldl sc p i = true := by
  induction ch with
  | nil => intro p i h; exact h
  | cons x ch ih => intro p i h; exact ih _ i (sc_mono p x i h)

theorem fold_step (ch : List (Int × Int × Int)) : ∀ (p : Nat → Bool) (x : Int × Int × Int), x ∈ ch → p x.2.1.toNat = true → ch.foldl sc p x.1.toNat = true := by
  induction ch with
  | nil => intro p x hx; simp at hx
  | cons y ch ih =>
    intro p x hx h
    rw [List.foldl_cons]
    rcases List.mem_cons.1 hx with rfl | hx
    · refine fold_mono ch _ _ ?_
      unfold sc
      rw [if_pos rfl, h]; simp
    · exact ih _ x hx (sc_mono p y _ h)

theorem sc_closed {p : Nat → Bool} {x : Int × Int × Int} (h : p x.2.1.toNat = true → p x.1.toNat = true) : sc p x = p := by
  funext i
  unfold sc
  split
  · rename_i e
    rw [e]
    cases h1 : p x.2.1.toNat with
    | false => simp
    | true => simp [h h1]
  · rfl

theorem fold_closed (ch : List (Int × Int × Int)) : ∀ (p : Nat → Bool), Cl ch p → ch.foldl sc p = p := by
  induction ch with
  | nil => intro p _; rfl
  | cons x ch ih =>
    intro p h
    rw [List.foldl_cons, sc_closed (h x (by simp))]
    exact ih p (fun y hy => h y (by simp [hy]))

theorem count_lt {l : List Nat} {p q : Nat → Bool} (hm : ∀ i ∈ l, p i = true → q i = true) (h : ∃ i ∈ l, p i = false ∧ q i = true) : l.countP p < l.countP q := by
  induction l with
  | nil => obtain ⟨i, hi, _⟩ := h; simp at hi
  | cons x l ih =>
    have hle : l.countP p ≤ l.countP q := List.countP_mono_left (fun i hi => hm i (by simp [hi]))
    simp only [List.countP_cons]
    obtain ⟨i, hi, h1, h2⟩ := h
    rcases List.mem_cons.1 hi with rfl | hi
    · rw [h1, h2]; simp; omega
    · have := ih (fun i hi => hm i (by simp [hi])) ⟨i, hi, h1, h2⟩
      cases hp : p x with
      | false => simp; split <;> omega
      | true => rw [hm x (by simp) hp]; simp; omega

/-- After as many rounds as there are domains no column changes. -/
theorem col_closed (ch : List (Int × Int × Int)) (D : Nat) (hch : ∀ x ∈ ch, x.1.toNat < D ∧ x.2.1.toNat < D) (p : Nat → Bool) (k : Nat) (hk : k < D) (hp : p k = true) : ∀ n, Cl ch (itc ch p n) ∨ n + 1 ≤ (List.range D).countP (itc ch p n) := by
  intro n
  induction n with
  | zero =>
    right
    have : 0 < (List.range D).countP p := List.countP_pos_iff.2 ⟨k, List.mem_range.2 hk, hp⟩
    exact this
  | succ n ih =>
    rcases ih with h | h
    · left
      show Cl ch (ch.foldl sc (itc ch p n))
      rw [fold_closed ch _ h]; exact h
    · by_cases hc : Cl ch (itc ch p n)
      · left
        show Cl ch (ch.foldl sc (itc ch p n))
        rw [fold_closed ch _ hc]; exact hc
      · right
        have hex : ∃ x ∈ ch, itc ch p n x.2.1.toNat = true ∧ itc ch p n x.1.toNat = false := by
          apply Classical.byContradiction
          intro hn
          refine hc (fun x hx h1 => ?_)
          apply Classical.byContradiction
          intro h2
          exact hn ⟨x, hx, h1, by simpa using h2⟩
        obtain ⟨x, hx, h1, h2⟩ := hex
        have : (List.range D).countP (itc ch p n) < (List.range D).countP (ch.foldl sc (itc ch p n)) :=
          count_lt (fun i _ hi => fold_mono ch _ i hi) ⟨x.1.toNat, List.mem_range.2 (hch x hx).1, h2, fold_step ch _ x hx h1⟩
        show n + 1 + 1 ≤ (List.range D).countP (ch.foldl sc (itc ch p n))
        omega

theorem col_done (ch : List (Int × Int × Int)) (D : Nat) (hch : ∀ x ∈ ch, x.1.toNat < D ∧ x.2.1.toNat < D) (p : Nat → Bool) (k : Nat) (hk : k < D) (hp : p k = true) : Cl ch (itc ch p D) := by
  rcases col_closed ch D hch p k hk hp D with h | h
  · exact h
  · have := List.countP_le_length (p := itc ch p D) (l := List.range D)
    simp at this
    omega

theorem fold_sound (ch0 : List (Int × Int × Int)) (k : Nat) (ch : List (Int × Int × Int)) (hs : ∀ x ∈ ch, x ∈ ch0) : ∀ (p : Nat → Bool), (∀ i, p i = true → Rch ch0 i k) → ∀ i, ch.foldl sc p i = true → Rch ch0 i k := by
  induction ch with
  | nil => intro p h i hi; exact h i hi
  | cons x ch ih =>
    intro p h i hi
    rw [List.foldl_cons] at hi
    refine ih (fun y hy => hs y (by simp [hy])) _ (fun j hj => ?_) i hi
    unfold sc at hj
    split at hj
    · rename_i e
      subst e
      rw [Bool.or_eq_true] at hj
      rcases hj with hj | hj
      · exact h _ hj
      · exact Rch.head x (hs x (by simp)) (h _ hj)
    · exact h j hj

theorem col_sound (ch : List (Int × Int × Int)) (p : Nat → Bool) (k : Nat) (hp : ∀ i, p i = true → Rch ch i k) : ∀ n i, itc ch p n i = true → Rch ch i k := by
  intro n
  induction n with
  | zero => exact hp
  | succ n ih => exact fold_sound ch k ch (fun _ h => h) _ ih

theorem col_keep (ch : List (Int × Int × Int)) (p : Nat → Bool) (i : Nat) (h : p i = true) : ∀ n, itc ch p n i = true := by
  intro n
  induction n with
  | zero => exact h
  | succ n ih => exact fold_mono ch _ i ih

theorem rch_col (ch : List (Int × Int × Int)) (q : Nat → Bool) (hc : Cl ch q) {i k : Nat} (h : Rch ch i k) (hk : q k = true) : q i = true := h (fun i => q i = true) hk hc

/-- What a row says of a column. -/
def col (M : Nat → List Bool) (k : Nat) : Nat → Bool := fun i => (M i).getD k false

theorem orR_getD {F T : List Bool} (h : F.length = T.length) (k : Nat) : (orR F T).getD k false = (F.getD k false || T.getD k false) := by
  simp only [orR, List.getD_eq_getElem?_getD, List.getElem?_zipWith]
  by_cases hk : k < F.length
  · have hk2 : k < T.length := by omega
    simp [hk, hk2]
  · have h1 : F[k]? = none := List.getElem?_eq_none (by omega)
    have h2 : T[k]? = none := List.getElem?_eq_none (by omega)
    simp [h1, h2]

theorem col_step {M : Nat → List Bool} {D : Nat} (hl : ∀ i, i < D → (M i).length = D) (x : Int × Int × Int) (h1 : x.1.toNat < D) (h2 : x.2.1.toNat < D) (k : Nat) : col (stepM M x) k = sc (col M k) x := by
  funext i
  unfold col stepM sc
  split
  · rw [orR_getD (by rw [hl _ h1, hl _ h2])]
  · rfl

theorem col_fold (D : Nat) (k : Nat) (ch : List (Int × Int × Int)) (hch : ∀ x ∈ ch, x.1.toNat < D ∧ x.2.1.toNat < D) : ∀ M : Nat → List Bool, (∀ i, i < D → (M i).length = D) → col (ch.foldl stepM M) k = ch.foldl sc (col M k) ∧ ∀ i, i < D → (ch.foldl stepM M i).length = D := by
  induction ch with
  | nil => intro M h; exact ⟨rfl, h⟩
  | cons x ch ih =>
    intro M h
    have hx := hch x (by simp)
    have := ih (fun y hy => hch y (by simp [hy])) (stepM M x) (stepM_len h x hx.1 hx.2)
    rw [col_step h x hx.1 hx.2] at this
    exact this

theorem col_it (D : Nat) (k : Nat) (ch : List (Int × Int × Int)) (hch : ∀ x ∈ ch, x.1.toNat < D ∧ x.2.1.toNat < D) (M : Nat → List Bool) (hM : ∀ i, i < D → (M i).length = D) : ∀ n, col (itM ch M n) k = itc ch (col M k) n ∧ ∀ i, i < D → (itM ch M n i).length = D := by
  intro n
  induction n with
  | zero => exact ⟨rfl, hM⟩
  | succ n ih =>
    have := col_fold D k ch hch (itM ch M n) ih.2
    rw [ih.1] at this
    exact this

/-- The rows say who is reached. -/
theorem rows_reach (ch : List (Int × Int × Int)) (D : Nat) (hch : ∀ x ∈ ch, x.1.toNat < D ∧ x.2.1.toNat < D) (i k : Nat) (hk : k < D) : (itM ch (idM D) D i).getD k false = true ↔ Rch ch i k := by
  have hid : ∀ i, col (idM D) k i = true ↔ i = k := by
    intro i
    simp only [col, idM, List.getD_eq_getElem?_getD, List.getElem?_set]
    by_cases e : i = k
    · subst e; simp [hk]
    · simp [e, hk]
  have h := (col_it D k ch hch (idM D) (fun i _ => by simp [idM]) D).1
  have hc : (itM ch (idM D) D i).getD k false = itc ch (col (idM D) k) D i := by rw [← h]; rfl
  rw [hc]
  constructor
  · exact col_sound ch _ k (fun j hj => by rw [hid] at hj; subst hj; exact Rch.refl _ _) D i
  · intro hr
    exact rch_col ch _ (col_done ch D hch _ k hk ((hid k).2 rfl)) hr (col_keep ch _ k ((hid k).2 rfl) D)

/-- A set that is all that is reached from i. -/
structure Got (ch : List (Int × Int × Int)) (D i : Nat) (S : List Bool) : Prop where
  len : S.length = D
  at_i : S.getD i false = true
  sound : ∀ j, S.getD j false = true → Rch ch i j

theorem Got.set {ch : List (Int × Int × Int)} {D i : Nat} {S : List Bool} (h : Got ch D i S) (x : Int × Int × Int) (hx : x ∈ ch) (hf : S.getD x.1.toNat false = true) : Got ch D i (S.set x.2.1.toNat true) := by
  refine ⟨by rw [List.length_set]; exact h.len, ?_, fun j hj => ?_⟩
  · have := h.at_i
    simp only [List.getD_eq_getElem?_getD, List.getElem?_set] at this ⊢
    split
    · rename_i e
      subst e
      split
      · simp
      · rename_i h2
        rw [List.getElem?_eq_none (by omega)] at this
        simp at this
    · exact this
  · simp only [List.getD_eq_getElem?_getD, List.getElem?_set] at hj
    split at hj
    · rename_i e
      subst e
      exact (h.sound _ hf).snoc x hx rfl
    · exact h.sound j (by simpa [List.getD_eq_getElem?_getD] using hj)

theorem got_reach {ch : List (Int × Int × Int)} {D i k : Nat} {S : List Bool} (h : Got ch D i S) (hc : ∀ x ∈ ch, S.getD x.1.toNat false = true → S.getD x.2.1.toNat false = true) : S.getD k false = true ↔ Rch ch i k := by
  refine ⟨h.sound k, fun hr => ?_⟩
  exact hr (fun a => S.getD a false = true → S.getD k false = true) id (fun x hx ht hf => ht (hc x hx hf)) h.at_i

/-- How many are not yet reached. -/
def lacks (S : List Bool) : Nat := S.countP (!·)

theorem lacks_set {S : List Bool} {j : Nat} (hj : j < S.length) (h : S[j] = false) : lacks (S.set j true) < lacks S := by
  induction S generalizing j with
  | nil => simp at hj
  | cons a S ih =>
    cases j with
    | zero =>
      simp at h
      subst h
      simp [lacks]
    | succ j =>
      have := ih (j := j) (by simpa using hj) (by simpa using h)
      simp only [lacks, List.set_cons_succ, List.countP_cons] at this ⊢
      omega

end Go.Proofs.Ytfcefkhlbbehcaa
