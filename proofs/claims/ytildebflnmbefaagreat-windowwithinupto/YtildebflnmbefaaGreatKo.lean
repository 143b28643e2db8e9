/- A window's runner in memory: each of its parts lies in blocks of its own, so that what is written to one leaves the others as they were. A window's runner in memory, and a window, plain: what each of its functions does to a domain. -/
import Derived.Test.YtildebflnmbefaaGreatFbJ
import Derived.Test.YtildebflnmbefaaGreatKn
import Derived.Test.YtildebflnmbefaaGreatKk
import Derived.Test.YtildebflnmbefaaGreatKe
set_option linter.unusedVariables false
namespace Go.Proofs.YtildebflnmbefaaGreat
open Go.RowKit

/-- What a part says hangs on its own blocks alone. -/
def Parts (own : Nat → Nat) (w : World) (P : Nat → World → Prop) : Prop := ∀ l (w' : World), (∀ x, x < w.heap.size → own x = l → w'.heap[x]? = w.heap[x]?) → P l w'
theorem Parts.at {own : Nat → Nat} {w : World} {P : Nat → World → Prop} (h : Parts own w P) (l : Nat) : P l w := h l w (fun _ _ _ => rfl)
/-- New blocks are those of one part. -/
def own2 (n l : Nat) (own : Nat → Nat) : Nat → Nat := fun x => if n ≤ x then l else own x
theorem own2_lt {n l x : Nat} {own : Nat → Nat} (h : x < n) : own2 n l own x = own x := by unfold own2; rw [if_neg (by omega)]
theorem own2_ge {n l x : Nat} {own : Nat → Nat} (h : n ≤ x) : own2 n l own x = l := by unfold own2; rw [if_pos h]
/-- One part is written. -/
theorem Parts.next {own : Nat → Nat} {w w1 : World} {P P' : Nat → World → Prop} (h : Parts own w P) (l : Nat) (hsz : w.heap.size ≤ w1.heap.size) (hs : ∀ x, x < w.heap.size → own x ≠ l → w1.heap[x]? = w.heap[x]?)
    (hl : ∀ w' : World, (∀ x, x < w1.heap.size → (own x = l ∨ w.heap.size ≤ x) → w'.heap[x]? = w1.heap[x]?) → P' l w') (he : ∀ k, k ≠ l → P' k = P k) : Parts (own2 w.heap.size l own) w1 P' := by
  intro k w' hk
  by_cases e : k = l
  · subst e
    refine hl w' (fun x hx ho => hk x hx ?_)
    by_cases hx2 : w.heap.size ≤ x
    · exact own2_ge hx2
    · rw [own2_lt (by omega)]
      rcases ho with ho | ho
      · exact ho
      · omega
  · rw [he k e]
    refine h k w' (fun x hx ho => ?_)
    rw [hk x (by omega) (by rw [own2_lt hx]; exact ho)]
    exact hs x hx (by omega)

/-- A runner's parts: its row; jobs, events; the rows of In and Out; the cache; numbers. -/
structure PS where
  rb : Nat
  gI : Nat
  gO : Nat
  base : Nat
  R : List Value
  cI : List Value
  cO : List Value
  vJ : Value
  vE : Value
  J : List JobT
  E : List EvT
  aK : Option Addr
  K : List (List (Int × Bool))
  V : Nat → Value
  F : Nat → List Int
  fr : List (Nat × Obj)

def PS.P (s : PS) : Nat → World → Prop
  | 0 => fun w => ∀ p ∈ s.fr, w.heap[p.1]? = some p.2
  | 1 => fun w => RowAt w s.rb 64 s.R
  | 2 => fun w => w.ownsRow s.base 79 6 s.vJ s.J.length (fJ s.J)
  | 3 => fun w => w.ownsRow s.base 45 4 s.vE s.E.length (fE s.E)
  | 4 => fun w => RowAt w s.gI 83 s.cI
  | 5 => fun w => RowAt w s.gO 23 s.cO
  | 6 => fun w => CacheIn w s.aK s.K
  | n + 7 => fun w => w.ownsRow s.base 3 1 (s.V n) (s.F n).length (ivs (s.F n))

structure PO (own : Nat → Nat) (w : World) (s : PS) : Prop where
  ps : Parts own w s.P
  bw : s.base ≤ w.heap.size
  o0 : ∀ x, own x ≠ 0 → s.base ≤ x
  l1 : own s.rb = 1
  l2 : ∀ x, s.vJ.ownBlock = some x → own x = 2
  l3 : ∀ x, s.vE.ownBlock = some x → own x = 3
  l4 : own s.gI = 4
  l5 : own s.gO = 5
  l7 : ∀ k x, (s.V k).ownBlock = some x → own x = k + 7
  lf : ∀ p ∈ s.fr, own p.1 = 0
def PX (w : World) (s : PS) : Prop := ∃ own, PO own w s

section
variable {w w1 : World} {s : PS}
theorem PX.row (h : PX w s) : RowAt w s.rb 64 s.R := by obtain ⟨o, h⟩ := h; exact h.ps.at 1
theorem PX.jobs (h : PX w s) : w.ownsRow s.base 79 6 s.vJ s.J.length (fJ s.J) := by obtain ⟨o, h⟩ := h; exact h.ps.at 2
theorem PX.evs (h : PX w s) : w.ownsRow s.base 45 4 s.vE s.E.length (fE s.E) := by obtain ⟨o, h⟩ := h; exact h.ps.at 3
theorem PX.inr (h : PX w s) : RowAt w s.gI 83 s.cI := by obtain ⟨o, h⟩ := h; exact h.ps.at 4
theorem PX.outr (h : PX w s) : RowAt w s.gO 23 s.cO := by obtain ⟨o, h⟩ := h; exact h.ps.at 5
theorem PX.cache (h : PX w s) : CacheIn w s.aK s.K := by obtain ⟨o, h⟩ := h; exact h.ps.at 6
theorem PX.ints (h : PX w s) (n : Nat) : w.ownsRow s.base 3 1 (s.V n) (s.F n).length (ivs (s.F n)) := by obtain ⟨o, h⟩ := h; exact h.ps.at (n + 7)
theorem PX.base_le (h : PX w s) : s.base ≤ w.heap.size := by obtain ⟨o, h⟩ := h; exact h.bw
theorem PX.rb_ge (h : PX w s) : s.base ≤ s.rb := by obtain ⟨o, h⟩ := h; exact h.o0 _ (by rw [h.l1]; decide)
theorem PX.gI_ge (h : PX w s) : s.base ≤ s.gI := by obtain ⟨o, h⟩ := h; exact h.o0 _ (by rw [h.l4]; decide)
theorem PX.gO_ge (h : PX w s) : s.base ≤ s.gO := by obtain ⟨o, h⟩ := h; exact h.o0 _ (by rw [h.l5]; decide)
/-- The runner's row is none of the others' blocks. -/
theorem PX.ne_ints (h : PX w s) (k x : Nat) (hx : (s.V k).ownBlock = some x) : x ≠ s.rb ∧ x ≠ s.gI ∧ x ≠ s.gO := by
  obtain ⟨o, h⟩ := h
  have := h.l7 k x hx
  refine ⟨fun e => ?_, fun e => ?_, fun e => ?_⟩ <;> subst e
  · rw [h.l1] at this; omega
  · rw [h.l4] at this; omega
  · rw [h.l5] at this; omega

theorem PX.below (h : PX w s) (hb : Below w.heap.size w w1) : PX w1 s := by
  obtain ⟨o, h⟩ := h
  exact ⟨o, ⟨fun l w' hw' => h.ps l w' (fun x hx ho => (hw' x (Nat.lt_of_lt_of_le hx hb.size) ho).trans (hb.block x hx)), Nat.le_trans h.bw hb.size, h.o0, h.l1, h.l2, h.l3, h.l4, h.l5, h.l7, h.lf⟩⟩

theorem fr_lt {w : World} {s : PS} (h : s.P 0 w) (p : Nat × Obj) (hp : p ∈ s.fr) : p.1 < w.heap.size := (Array.getElem?_eq_some_iff.1 (h p hp)).1
theorem rowAt_lt {w : World} {g t : Nat} {L : List Value} (h : RowAt w g t L) : g < w.heap.size := h.lt

/-- A cell of the runner's row is written. -/
theorem PX.setRow (h : PX w s) (i : Nat) (v : Value) : PX (w.setCell ⟨s.rb, i, none⟩ v) { s with R := s.R.set i v } := by
  have hr := h.row
  obtain ⟨o, h⟩ := h
  have hz : w.heap.size ≤ (w.setCell ⟨s.rb, i, none⟩ v).heap.size := by simp
  refine ⟨own2 w.heap.size 1 o, ⟨h.ps.next 1 hz (fun x hx ho => heap_set_ne _ _ _ _ x (fun e => ho (by rw [e, h.l1]))) (fun w' hw' => ?_) (fun k hk => ?_), Nat.le_trans h.bw hz, fun x hx => ?_, ?_, fun x hx => ?_, fun x hx => ?_, ?_, ?_, fun k x hx => ?_, fun p hp => ?_⟩⟩
  · show RowAt w' s.rb 64 (s.R.set i v)
    exact (hw' s.rb (by simpa using hr.lt) (.inl h.l1)).trans (rowAt_set1 hr i v)
  · match k, hk with
    | 0, _ => rfl
    | 1, hk => exact absurd rfl hk
    | 2, _ => rfl
    | 3, _ => rfl
    | 4, _ => rfl
    | 5, _ => rfl
    | 6, _ => rfl
    | n + 7, _ => rfl
  · by_cases e : w.heap.size ≤ x
    · exact Nat.le_trans h.bw e
    · rw [own2_lt (by omega)] at hx; exact h.o0 x hx
  · rw [own2_lt hr.lt]; exact h.l1
  · rw [own2_lt (owns_lt (h.ps.at 2) x hx)]; exact h.l2 x hx
  · rw [own2_lt (owns_lt (h.ps.at 3) x hx)]; exact h.l3 x hx
  · rw [own2_lt (rowAt_lt (h.ps.at 4))]; exact h.l4
  · rw [own2_lt (rowAt_lt (h.ps.at 5))]; exact h.l5
  · rw [own2_lt (owns_lt (h.ps.at (k + 7)) x hx)]; exact h.l7 k x hx
  · rw [own2_lt (fr_lt (h.ps.at 0) p hp)]; exact h.lf p hp
/-- A cell of In's row is written. -/
theorem PX.setIn (h : PX w s) (i : Nat) (v : Value) : PX (w.setCell ⟨s.gI, i, none⟩ v) { s with cI := s.cI.set i v } := by
  have hr := h.inr
  obtain ⟨o, h⟩ := h
  have hz : w.heap.size ≤ (w.setCell ⟨s.gI, i, none⟩ v).heap.size := by simp
  refine ⟨own2 w.heap.size 4 o, ⟨h.ps.next 4 hz (fun x hx ho => heap_set_ne _ _ _ _ x (fun e => ho (by rw [e, h.l4]))) (fun w' hw' => ?_) (fun k hk => ?_), Nat.le_trans h.bw hz, fun x hx => ?_, ?_, fun x hx => ?_, fun x hx => ?_, ?_, ?_, fun k x hx => ?_, fun p hp => ?_⟩⟩
  · show RowAt w' s.gI 83 (s.cI.set i v)
    exact (hw' s.gI (by simpa using hr.lt) (.inl h.l4)).trans (rowAt_set1 hr i v)
  · match k, hk with
    | 0, _ => rfl
    | 4, hk => exact absurd rfl hk
    | 2, _ => rfl
    | 3, _ => rfl
    | 1, _ => rfl
    | 5, _ => rfl
    | 6, _ => rfl
    | n + 7, _ => rfl
  · by_cases e : w.heap.size ≤ x
    · exact Nat.le_trans h.bw e
    · rw [own2_lt (by omega)] at hx; exact h.o0 x hx
  · rw [own2_lt (rowAt_lt (h.ps.at 1))]; exact h.l1
  · rw [own2_lt (owns_lt (h.ps.at 2) x hx)]; exact h.l2 x hx
  · rw [own2_lt (owns_lt (h.ps.at 3) x hx)]; exact h.l3 x hx
  · rw [own2_lt hr.lt]; exact h.l4
  · rw [own2_lt (rowAt_lt (h.ps.at 5))]; exact h.l5
  · rw [own2_lt (owns_lt (h.ps.at (k + 7)) x hx)]; exact h.l7 k x hx
  · rw [own2_lt (fr_lt (h.ps.at 0) p hp)]; exact h.lf p hp
/-- A cell of Out's row is written. -/
theorem PX.setOut (h : PX w s) (i : Nat) (v : Value) : PX (w.setCell ⟨s.gO, i, none⟩ v) { s with cO := s.cO.set i v } := by
  have hr := h.outr
  obtain ⟨o, h⟩ := h
  have hz : w.heap.size ≤ (w.setCell ⟨s.gO, i, none⟩ v).heap.size := by simp
  refine ⟨own2 w.heap.size 5 o, ⟨h.ps.next 5 hz (fun x hx ho => heap_set_ne _ _ _ _ x (fun e => ho (by rw [e, h.l5]))) (fun w' hw' => ?_) (fun k hk => ?_), Nat.le_trans h.bw hz, fun x hx => ?_, ?_, fun x hx => ?_, fun x hx => ?_, ?_, ?_, fun k x hx => ?_, fun p hp => ?_⟩⟩
  · show RowAt w' s.gO 23 (s.cO.set i v)
    exact (hw' s.gO (by simpa using hr.lt) (.inl h.l5)).trans (rowAt_set1 hr i v)
  · match k, hk with
    | 0, _ => rfl
    | 5, hk => exact absurd rfl hk
    | 2, _ => rfl
    | 3, _ => rfl
    | 1, _ => rfl
    | 4, _ => rfl
    | 6, _ => rfl
    | n + 7, _ => rfl
  · by_cases e : w.heap.size ≤ x
    · exact Nat.le_trans h.bw e
    · rw [own2_lt (by omega)] at hx; exact h.o0 x hx
  · rw [own2_lt (rowAt_lt (h.ps.at 1))]; exact h.l1
  · rw [own2_lt (owns_lt (h.ps.at 2) x hx)]; exact h.l2 x hx
  · rw [own2_lt (owns_lt (h.ps.at 3) x hx)]; exact h.l3 x hx
  · rw [own2_lt (rowAt_lt (h.ps.at 4))]; exact h.l4
  · rw [own2_lt hr.lt]; exact h.l5
  · rw [own2_lt (owns_lt (h.ps.at (k + 7)) x hx)]; exact h.l7 k x hx
  · rw [own2_lt (fr_lt (h.ps.at 0) p hp)]; exact h.lf p hp
/-- The jobs are others, in their own block or in a new one. -/
theorem PX.newJ (h : PX w s) (hsz : w.heap.size ≤ w1.heap.size) (hg : ∀ x, x < w.heap.size → s.vJ.ownBlock ≠ some x → w1.heap[x]? = w.heap[x]?) {v : Value} {J : List JobT} (ho : w1.ownsRow s.base 79 6 v J.length (fJ J)) (hat : ∀ x, v.ownBlock = some x → s.vJ.ownBlock = some x ∨ w.heap.size ≤ x) : PX w1 { s with vJ := v, J := J } := by
  obtain ⟨o, h⟩ := h
  refine ⟨own2 w.heap.size 2 o, ⟨h.ps.next 2 hsz (fun x hx ho => hg x hx (fun e => ho (h.l2 x e))) (fun w' hw' => ?_) (fun k hk => ?_), Nat.le_trans h.bw hsz, fun x hx => ?_, ?_, fun x hx => ?_, fun x hx => ?_, ?_, ?_, fun k x hx => ?_, fun p hp => ?_⟩⟩
  · show w'.ownsRow s.base 79 6 v J.length (fJ J)
    exact owns_agree ho (fun x hx => hw' x (owns_lt ho x hx) (by rcases hat x hx with h' | h'; exact .inl (h.l2 x h'); exact .inr h'))
  · match k, hk with
    | 0, _ => rfl
    | 2, hk => exact absurd rfl hk
    | 1, _ => rfl
    | 3, _ => rfl
    | 4, _ => rfl
    | 5, _ => rfl
    | 6, _ => rfl
    | n + 7, _ => rfl
  · by_cases e : w.heap.size ≤ x
    · exact Nat.le_trans h.bw e
    · rw [own2_lt (by omega)] at hx; exact h.o0 x hx
  · rw [own2_lt (rowAt_lt (h.ps.at 1))]; exact h.l1
  · rcases hat x hx with h' | h'
    · rw [own2_lt (owns_lt (h.ps.at 2) x h')]; exact h.l2 x h'
    · exact own2_ge h'
  · rw [own2_lt (owns_lt (h.ps.at 3) x hx)]; exact h.l3 x hx
  · rw [own2_lt (rowAt_lt (h.ps.at 4))]; exact h.l4
  · rw [own2_lt (rowAt_lt (h.ps.at 5))]; exact h.l5
  · rw [own2_lt (owns_lt (h.ps.at (k + 7)) x hx)]; exact h.l7 k x hx
  · rw [own2_lt (fr_lt (h.ps.at 0) p hp)]; exact h.lf p hp
/-- The events are others. -/
theorem PX.newE (h : PX w s) (hsz : w.heap.size ≤ w1.heap.size) (hg : ∀ x, x < w.heap.size → s.vE.ownBlock ≠ some x → w1.heap[x]? = w.heap[x]?) {v : Value} {E : List EvT} (ho : w1.ownsRow s.base 45 4 v E.length (fE E)) (hat : ∀ x, v.ownBlock = some x → s.vE.ownBlock = some x ∨ w.heap.size ≤ x) : PX w1 { s with vE := v, E := E } := by
  obtain ⟨o, h⟩ := h
  refine ⟨own2 w.heap.size 3 o, ⟨h.ps.next 3 hsz (fun x hx ho => hg x hx (fun e => ho (h.l3 x e))) (fun w' hw' => ?_) (fun k hk => ?_), Nat.le_trans h.bw hsz, fun x hx => ?_, ?_, fun x hx => ?_, fun x hx => ?_, ?_, ?_, fun k x hx => ?_, fun p hp => ?_⟩⟩
  · show w'.ownsRow s.base 45 4 v E.length (fE E)
    exact owns_agree ho (fun x hx => hw' x (owns_lt ho x hx) (by rcases hat x hx with h' | h'; exact .inl (h.l3 x h'); exact .inr h'))
  · match k, hk with
    | 0, _ => rfl
    | 3, hk => exact absurd rfl hk
    | 1, _ => rfl
    | 2, _ => rfl
    | 4, _ => rfl
    | 5, _ => rfl
    | 6, _ => rfl
    | n + 7, _ => rfl
  · by_cases e : w.heap.size ≤ x
    · exact Nat.le_trans h.bw e
    · rw [own2_lt (by omega)] at hx; exact h.o0 x hx
  · rw [own2_lt (rowAt_lt (h.ps.at 1))]; exact h.l1
  · rw [own2_lt (owns_lt (h.ps.at 2) x hx)]; exact h.l2 x hx
  · rcases hat x hx with h' | h'
    · rw [own2_lt (owns_lt (h.ps.at 3) x h')]; exact h.l3 x h'
    · exact own2_ge h'
  · rw [own2_lt (rowAt_lt (h.ps.at 4))]; exact h.l4
  · rw [own2_lt (rowAt_lt (h.ps.at 5))]; exact h.l5
  · rw [own2_lt (owns_lt (h.ps.at (k + 7)) x hx)]; exact h.l7 k x hx
  · rw [own2_lt (fr_lt (h.ps.at 0) p hp)]; exact h.lf p hp
/-- Numbers of one list are others. -/
theorem PX.newF (h : PX w s) (n : Nat) (hsz : w.heap.size ≤ w1.heap.size) (hg : ∀ x, x < w.heap.size → (s.V n).ownBlock ≠ some x → w1.heap[x]? = w.heap[x]?) {v : Value} {L : List Int} (ho : w1.ownsRow s.base 3 1 v L.length (ivs L)) (hat : ∀ x, v.ownBlock = some x → (s.V n).ownBlock = some x ∨ w.heap.size ≤ x) : PX w1 { s with V := fun k => if k = n then v else s.V k, F := fun k => if k = n then L else s.F k } := by
  obtain ⟨o, h⟩ := h
  refine ⟨own2 w.heap.size (n + 7) o, ⟨h.ps.next (n + 7) hsz (fun x hx ho => hg x hx (fun e => ho (h.l7 n x e))) (fun w' hw' => ?_) (fun k hk => ?_), Nat.le_trans h.bw hsz, fun x hx => ?_, ?_, fun x hx => ?_, fun x hx => ?_, ?_, ?_, fun k x hx => ?_, fun p hp => ?_⟩⟩
  · show w'.ownsRow s.base 3 1 (if n = n then v else s.V n) (if n = n then L else s.F n).length (ivs (if n = n then L else s.F n))
    simp only [if_true]
    exact owns_agree ho (fun x hx => hw' x (owns_lt ho x hx) (by rcases hat x hx with h' | h'; exact .inl (h.l7 n x h'); exact .inr h'))
  · match k, hk with
    | 0, _ => rfl
    | 1, _ => rfl
    | 2, _ => rfl
    | 3, _ => rfl
    | 4, _ => rfl
    | 5, _ => rfl
    | 6, _ => rfl
    | m + 7, hk =>
      have : m ≠ n := fun e => hk (by rw [e])
      show (fun w : World => w.ownsRow s.base 3 1 (if m = n then v else s.V m) (if m = n then L else s.F m).length (ivs (if m = n then L else s.F m))) = _
      simp only [if_neg this]
      rfl
  · by_cases e : w.heap.size ≤ x
    · exact Nat.le_trans h.bw e
    · rw [own2_lt (by omega)] at hx; exact h.o0 x hx
  · rw [own2_lt (rowAt_lt (h.ps.at 1))]; exact h.l1
  · rw [own2_lt (owns_lt (h.ps.at 2) x hx)]; exact h.l2 x hx
  · rw [own2_lt (owns_lt (h.ps.at 3) x hx)]; exact h.l3 x hx
  · rw [own2_lt (rowAt_lt (h.ps.at 4))]; exact h.l4
  · rw [own2_lt (rowAt_lt (h.ps.at 5))]; exact h.l5
  · dsimp only at hx
    by_cases e : k = n
    · subst e
      rw [if_pos rfl] at hx
      rcases hat x hx with h' | h'
      · rw [own2_lt (owns_lt (h.ps.at (k + 7)) x h')]; exact h.l7 k x h'
      · exact own2_ge h'
    · rw [if_neg e] at hx
      rw [own2_lt (owns_lt (h.ps.at (k + 7)) x hx)]; exact h.l7 k x hx
  · rw [own2_lt (fr_lt (h.ps.at 0) p hp)]; exact h.lf p hp
/-- The cache is another one, in new blocks. -/
theorem PX.newK (h : PX w s) (hb : Below w.heap.size w w1) {a : Option Addr} {K : List (List (Int × Bool))} (hK : ∀ w' : World, (∀ x, x < w1.heap.size → w.heap.size ≤ x → w'.heap[x]? = w1.heap[x]?) → CacheIn w' a K) : PX w1 { s with aK := a, K := K } := by
  obtain ⟨o, h⟩ := h
  refine ⟨own2 w.heap.size 6 o, ⟨h.ps.next 6 hb.size (fun x hx ho => hb.block x hx) (fun w' hw' => ?_) (fun k hk => ?_), Nat.le_trans h.bw hb.size, fun x hx => ?_, ?_, fun x hx => ?_, fun x hx => ?_, ?_, ?_, fun k x hx => ?_, fun p hp => ?_⟩⟩
  · exact hK w' (fun x hx h1 => hw' x hx (.inr h1))
  · match k, hk with
    | 0, _ => rfl
    | 6, hk => exact absurd rfl hk
    | 1, _ => rfl
    | 2, _ => rfl
    | 4, _ => rfl
    | 5, _ => rfl
    | 3, _ => rfl
    | n + 7, _ => rfl
  · by_cases e : w.heap.size ≤ x
    · exact Nat.le_trans h.bw e
    · rw [own2_lt (by omega)] at hx; exact h.o0 x hx
  · rw [own2_lt (rowAt_lt (h.ps.at 1))]; exact h.l1
  · rw [own2_lt (owns_lt (h.ps.at 2) x hx)]; exact h.l2 x hx
  · rw [own2_lt (owns_lt (h.ps.at 3) x hx)]; exact h.l3 x hx
  · rw [own2_lt (rowAt_lt (h.ps.at 4))]; exact h.l4
  · rw [own2_lt (rowAt_lt (h.ps.at 5))]; exact h.l5
  · rw [own2_lt (owns_lt (h.ps.at (k + 7)) x hx)]; exact h.l7 k x hx
  · rw [own2_lt (fr_lt (h.ps.at 0) p hp)]; exact h.lf p hp
end

/-- A block that is nobody's, and stays. -/
theorem PX.push {w : World} {s : PS} (h : PX w s) (o : Obj) : PX (w.alloc o) { s with fr := (w.heap.size, o) :: s.fr } := by
  obtain ⟨own, h⟩ := h
  have hsz : (w.alloc o).heap.size = w.heap.size + 1 := by simp
  have old : ∀ x, x < w.heap.size → (w.alloc o).heap[x]? = w.heap[x]? := fun x hx => Below.heap_alloc w o x hx
  let own' : Nat → Nat := fun x => if x < w.heap.size then own x else 0
  have lt' : ∀ {x}, x < w.heap.size → own' x = own x := fun hx => if_pos hx
  refine ⟨own', ⟨fun l w' hw' => ?_, by rw [hsz]; exact Nat.le_succ_of_le h.bw, fun x hx => ?_, ?_, fun x hx => ?_, fun x hx => ?_, ?_, ?_, fun k x hx => ?_, fun p hp => ?_⟩⟩
  · have oldP : s.P l w' := h.ps l w' (fun x hx hl => (hw' x (by omega) (by rw [lt' hx]; exact hl)).trans (old x hx))
    match l, hw', oldP with
    | 0, hw', oldP =>
      intro p hp
      rcases List.mem_cons.1 hp with rfl | hp
      · exact (hw' w.heap.size (by omega) (if_neg (Nat.lt_irrefl _))).trans (heap_alloc_new w o)
      · exact oldP p hp
    | 1, _, oldP => exact oldP
    | 2, _, oldP => exact oldP
    | 3, _, oldP => exact oldP
    | 4, _, oldP => exact oldP
    | 5, _, oldP => exact oldP
    | 6, _, oldP => exact oldP
    | n + 7, _, oldP => exact oldP
  · by_cases e : x < w.heap.size
    · rw [lt' e] at hx; exact h.o0 x hx
    · exact absurd (if_neg e) hx
  · rw [lt' (rowAt_lt (h.ps.at 1))]; exact h.l1
  · rw [lt' (owns_lt (h.ps.at 2) x hx)]; exact h.l2 x hx
  · rw [lt' (owns_lt (h.ps.at 3) x hx)]; exact h.l3 x hx
  · rw [lt' (rowAt_lt (h.ps.at 4))]; exact h.l4
  · rw [lt' (rowAt_lt (h.ps.at 5))]; exact h.l5
  · rw [lt' (owns_lt (h.ps.at (k + 7)) x hx)]; exact h.l7 k x hx
  · rcases List.mem_cons.1 hp with rfl | hp
    · exact if_neg (Nat.lt_irrefl _)
    · rw [lt' (fr_lt (h.ps.at 0) p hp)]; exact h.lf p hp
theorem PX.fewer {w : World} {s : PS} (h : PX w s) {fr : List (Nat × Obj)} (hf : ∀ p ∈ fr, p ∈ s.fr) : PX w { s with fr := fr } := by
  obtain ⟨own, h⟩ := h
  refine ⟨own, ⟨fun l w' hw' => ?_, h.bw, h.o0, h.l1, h.l2, h.l3, h.l4, h.l5, h.l7, fun p hp => h.lf p (hf p hp)⟩⟩
  have oldP := h.ps l w' hw'
  match l, oldP with
  | 0, oldP => exact fun p hp => oldP p (hf p hp)
  | 1, oldP => exact oldP
  | 2, oldP => exact oldP
  | 3, oldP => exact oldP
  | 4, oldP => exact oldP
  | 5, oldP => exact oldP
  | 6, oldP => exact oldP
  | n + 7, oldP => exact oldP
theorem PX.frame {w : World} {s : PS} (h : PX w s) : ∀ p ∈ s.fr, w.heap[p.1]? = some p.2 := by obtain ⟨o, h⟩ := h; exact h.ps.at 0

/-- A cache in memory of its own, wherever that lies as it lay. -/
theorem ownC_from {w w' : World} {g0 n : Nat} {C : List (List (Int × Bool))} (h : OwnC w g0 C C.length) (hn : n ≤ g0) (h3 : ∀ ls ∈ C, ls.length ≤ 3) (hk : ∀ x, x < w.heap.size → n ≤ x → w'.heap[x]? = w.heap[x]?) : CacheIn w' (some ⟨g0, 0, none⟩) C := by
  refine cacheIn_of_own (k := C.length) ?_ (Nat.le_refl _) h3
  obtain ⟨L, G, cp, h1, h2, h4, h5⟩ := h
  exact ⟨L, G, cp, (hk g0 h1.lt hn).trans h1, h2, fun j hj hl => ⟨(h4 j hj hl).1, owns_agree (h4 j hj hl).2 (fun x hx => hk x (owns_lt (h4 j hj hl).2 x hx) (by have := owns_ge (h4 j hj hl).2 x hx; omega))⟩, h5⟩

end Go.Proofs.YtildebflnmbefaaGreat

namespace Go.Proofs.YtildebflnmbefaaGreat
open Go.RowKit


/-- Where a runner's memory lies. -/
structure RM where
  A : DMem
  V : Nat → Value
  gI : Nat
  gO : Nat
  aK : Option Addr
  cK : Nat
/-- What stays while a window runs. -/
structure RC where
  w0 : World
  rb : Nat
  C : Conf
  B : Mem
  dn : Int
  L : List ActT
  aL : Option Addr
  cL : Nat
  to : Int
  fr : List (Nat × Obj)

/-- The lists of numbers of a domain, by a number of their own. -/
def fI (D : Dom) : Nat → List Int := fun k => if k = 0 then D.rel else if k = 1 then D.tak else if k % 2 = 0 then (D.ins.getD (k / 2 - 1) ([], 0)).1 else D.out.getD (k / 2 - 1) []
theorem fI_in (D : Dom) (i : Nat) : fI D (2 * i + 2) = (D.ins.getD i ([], 0)).1 := by
  unfold fI
  rw [if_neg (by omega), if_neg (by omega), if_pos (by omega)]
  congr 2
  omega
theorem fI_out (D : Dom) (i : Nat) : fI D (2 * i + 3) = D.out.getD i [] := by
  unfold fI
  rw [if_neg (by omega), if_neg (by omega), if_neg (by omega)]
  congr 1
  omega
def inC (V : Nat → Value) (I : List (List Int × Int)) : List Value := (List.range I.length).flatMap fun i => [V (2 * i + 2), .int .i64 (I.getD i ([], 0)).2]
def outC (V : Nat → Value) (n : Nat) : List Value := (List.range n).map fun i => V (2 * i + 3)
theorem inC_at (V : Nat → Value) (I : List (List Int × Int)) (i : Nat) (h : i < I.length) : (inC V I)[i * 2]? = some (V (2 * i + 2)) ∧ (inC V I)[i * 2 + 1]? = some (.int .i64 I[i].2) := by
  have h0 := flatN_at (fun i => [V (2 * i + 2), Value.int .i64 (I.getD i ([], 0)).2]) 2 (fun _ => rfl) (List.range I.length) i 0 (by simpa using h) (by omega)
  have h1 := flatN_at (fun i => [V (2 * i + 2), Value.int .i64 (I.getD i ([], 0)).2]) 2 (fun _ => rfl) (List.range I.length) i 1 (by simpa using h) (by omega)
  unfold inC
  refine ⟨?_, ?_⟩
  · rw [Nat.add_zero] at h0
    rw [h0]
    simp
  · rw [h1]
    simp [h]
theorem outC_at (V : Nat → Value) (n i : Nat) (h : i < n) : (outC V n)[i]? = some (V (2 * i + 3)) := by simp [outC, h]

abbrev rl (X : RC) (M : RM) (D : Dom) (K : KT) (now : Int) : List Value := [.slice M.A.aJ D.jobs.length M.A.cJ, .slice M.A.aR D.rel.length M.A.cR, .int .i64 D.nxt, .slice M.A.aI D.ins.length M.A.cI, .slice M.A.aT D.tak.length M.A.cT, .slice M.A.aO D.out.length M.A.cO, .slice M.A.aE D.evs.length M.A.cE, .int .i64 X.C.s, .int .i64 X.C.w, .int .i64 X.C.d, .int .i64 X.C.p, .int .i64 X.C.q, .slice X.B.a5 X.C.sl.length X.B.c5, .slice X.B.a6 X.C.ow.length X.B.c6, .slice X.B.a7 X.C.ch.length X.B.c7, .slice X.B.a8 X.C.ta.length X.B.c8, .int .i64 X.dn, .slice M.aK K.length M.cK, .slice X.aL X.L.length X.cL, .int .i64 now, .int .i64 X.to]
abbrev psOf (X : RC) (M : RM) (D : Dom) (K : KT) (now : Int) : PS := ⟨X.rb, M.gI, M.gO, X.w0.heap.size, rl X M D K now, inC M.V D.ins, outC M.V D.out.length, .slice M.A.aJ D.jobs.length M.A.cJ, .slice M.A.aE D.evs.length M.A.cE, D.jobs, D.evs, M.aK, K, M.V, fI D, X.fr⟩

structure RO (X : RC) (w : World) (M : RM) (D : Dom) (K : KT) (now : Int) : Prop where
  ag : Below X.w0.heap.size X.w0 w
  px : PX w (psOf X M D K now)
  aI : M.A.aI = some ⟨M.gI, 0, none⟩
  aO : M.A.aO = some ⟨M.gO, 0, none⟩
  v0 : M.V 0 = .slice M.A.aR D.rel.length M.A.cR
  v1 : M.V 1 = .slice M.A.aT D.tak.length M.A.cT
  con : ConfIn X.w0 X.B X.C
  act : ChansIn X.w0 X.aL X.L
  lL : X.L.length ≤ 1000
  lI : D.ins.length ≤ 1000
  lO : D.out.length ≤ 1000

section
variable {X : RC} {w w1 : World} {M : RM} {D : Dom} {K : KT} {now : Int}
theorem RO.row (h : RO X w M D K now) : RowAt w X.rb 64 (rl X M D K now) := h.px.row
theorem RO.below (h : RO X w M D K now) (hb : Below w.heap.size w w1) : RO X w1 M D K now :=
  ⟨h.ag.trans (hb.mono h.ag.size), h.px.below hb, h.aI, h.aO, h.v0, h.v1, h.con, h.act, h.lL, h.lI, h.lO⟩
theorem RO.confIn (h : RO X w M D K now) : ConfIn w X.B X.C := h.con.keep h.ag
theorem RO.acts (h : RO X w M D K now) : ChansIn w X.aL X.L := h.act.keep h.ag
theorem RO.relOwn (h : RO X w M D K now) : w.ownsRow X.w0.heap.size 3 1 (.slice M.A.aR D.rel.length M.A.cR) D.rel.length (ivs D.rel) := by
  have := h.px.ints 0
  dsimp only at this
  rw [h.v0] at this
  exact this
theorem RO.takOwn (h : RO X w M D K now) : w.ownsRow X.w0.heap.size 3 1 (.slice M.A.aT D.tak.length M.A.cT) D.tak.length (ivs D.tak) := by
  have := h.px.ints 1
  dsimp only at this
  rw [h.v1] at this
  exact this
theorem RO.ringAt (h : RO X w M D K now) (i : Nat) (hi : i < D.ins.length) : ∃ a c, M.V (2 * i + 2) = .slice a D.ins[i].1.length c ∧ w.cell? ⟨M.gI, i * 2, none⟩ = some (.slice a D.ins[i].1.length c) ∧ w.cell? ⟨M.gI, i * 2 + 1, none⟩ = some (.int .i64 D.ins[i].2) ∧ IntsIn w a D.ins[i].1 ∧ D.ins[i].1.length ≤ c ∧ D.ins[i].1.length ≤ 9223372036854775807 := by
  obtain ⟨c0, c1⟩ := inC_at M.V D.ins i hi
  have o := h.px.ints (2 * i + 2)
  dsimp only at o
  rw [fI_in, show D.ins.getD i ([], 0) = D.ins[i] by simp [hi]] at o
  obtain ⟨a, c, ev, hc, hm, hI, _⟩ := owns_cells o
  refine ⟨a, c, ev, ?_, ?_, intsIn_of hI, hc, by simp only [maxLen] at hm; omega⟩
  · rw [← ev]; exact h.px.inr.cell _ _ c0
  · exact h.px.inr.cell _ _ c1
theorem RO.outAt (h : RO X w M D K now) (i : Nat) (hi : i < D.out.length) : w.cell? ⟨M.gO, i, none⟩ = some (M.V (2 * i + 3)) ∧ w.ownsRow X.w0.heap.size 3 1 (M.V (2 * i + 3)) D.out[i].length (ivs D.out[i]) := by
  have o := h.px.ints (2 * i + 3)
  dsimp only at o
  rw [fI_out, show D.out.getD i [] = D.out[i] by simp [hi]] at o
  exact ⟨h.px.outr.cell _ _ (outC_at M.V _ i hi), o⟩
/-- With one more block that is nobody's. -/
abbrev RC.more (X : RC) (b : Nat) (o : Obj) : RC := ⟨X.w0, X.rb, X.C, X.B, X.dn, X.L, X.aL, X.cL, X.to, (b, o) :: X.fr⟩
theorem RO.push (h : RO X w M D K now) (o : Obj) : RO (X.more w.heap.size o) (w.alloc o) M D K now :=
  ⟨h.ag.alloc h.ag.size o, h.px.push o, h.aI, h.aO, h.v0, h.v1, h.con, h.act, h.lL, h.lI, h.lO⟩
theorem RO.pop {b : Nat} {o : Obj} (h : RO (X.more b o) w M D K now) : RO X w M D K now :=
  ⟨h.ag, h.px.fewer (fr := X.fr) (fun p hp => List.mem_cons_of_mem _ hp), h.aI, h.aO, h.v0, h.v1, h.con, h.act, h.lL, h.lI, h.lO⟩
theorem RO.top {b : Nat} {o : Obj} (h : RO (X.more b o) w M D K now) : w.heap[b]? = some o := h.px.frame (b, o) (List.mem_cons_self ..)
theorem RO.topRow {b : Nat} {t : TypeId} {l : List Value} (h : RO (X.more b (.cells l.toArray t)) w M D K now) : RowAt w b t l := h.top
/-- The domain in memory. -/
theorem RO.dom (h : RO X w M D K now) : DomIn w M.A D := by
  have j := owns_in h.px.jobs
  have e := owns_in h.px.evs
  have r := owns_in h.relOwn
  have t := owns_in h.takOwn
  have hI := h.lI
  have hO := h.lO
  refine ⟨jobsIn_of j.1, intsIn_of r.1, ?_, intsIn_of t.1, ?_, evsIn_of e.1, j.2.2, r.2.2, by omega, t.2.2, by omega, e.2.2⟩
  · intro i hi
    obtain ⟨a, c, _, h1, h2, h3, h4, h5⟩ := h.ringAt i hi
    exact ⟨M.gI, 0, a, c, h.aI, by rw [Nat.zero_add]; exact h1, by rw [Nat.zero_add]; exact h2, h3, h4, h5⟩
  · intro i hi
    obtain ⟨h1, o⟩ := h.outAt i hi
    obtain ⟨a, c, ev, hc, hm, hI, _⟩ := owns_cells o
    exact ⟨M.gO, 0, a, c, h.aO, by rw [Nat.zero_add, ← ev]; exact h1, intsIn_of hI, hc, by simp only [maxLen] at hm; omega⟩
end

/-! A window, plain. -/
def ckRun (C : Conf) (dn : Int) (D : Dom) (K : KT) (L : List ActT) (fr to : Int) : Int :=
  if ckD C dn D ≠ 0 then ckD C dn D else if ck K ≠ 0 then ck K else if ckAs L ≠ 0 then ckAs L else if fr < 0 ∨ to < fr ∨ 100000 < to then 3 else 0
def mayA (C : Conf) (dn : Int) (a : ActT) : Bool :=
  if a.1 = 4 then decide (a.2.1 < (C.ch.length : Int)) && decide ((C.ch.getD a.2.1.toNat (0, 0, 0)).1 = dn)
  else if a.1 = 5 then decide (a.2.1 < (C.ch.length : Int)) && decide ((C.ch.getD a.2.1.toNat (0, 0, 0)).2.1 = dn)
  else if a.1 = 7 then decide (a.2.1 < (C.ow.length : Int)) && decide (C.ow.getD a.2.1.toNat 0 = dn)
  else true
def tellE (D : Dom) (e : EvT) : Dom := ⟨D.jobs, D.rel, D.nxt, D.ins, D.tak, D.out, D.evs ++ [e]⟩
def jat (D : Dom) (k : Nat) : JobT := D.jobs.getD k (0, 0, 0, 0, false, false)
def ranJ (j : JobT) : JobT := (j.1, j.2.1, j.2.2.1, j.2.2.2.1, true, j.2.2.2.2.2)
def useJ (j : JobT) (c : Int) : JobT := (j.1, j.2.1, j.2.2.1, j.2.2.2.1 + c, j.2.2.2.2.1, j.2.2.2.2.2)
def setJ (D : Dom) (k : Nat) (j : JobT) : Dom := ⟨D.jobs.set k j, D.rel, D.nxt, D.ins, D.tak, D.out, D.evs⟩
/-- It starts. -/
def startD (D : Dom) (now : Int) (k : Nat) : Dom := if (jat D k).2.2.2.2.1 then D else setJ (tellE D (now, 3, (jat D k).1, (jat D k).2.1)) k (ranJ (jat D k))
def spendD (D : Dom) (k : Nat) (c : Int) : Dom := setJ D k (useJ (jat D k) c)
def sendD (D : Dom) (c : Nat) (v : Int) : Dom := ⟨D.jobs, D.rel, D.nxt, D.ins, D.tak, D.out.set c (D.out.getD c [] ++ [v]), D.evs⟩
def recvR (C : Conf) (D : Dom) (c : Nat) : List Int × Int := (recvV (D.ins.getD c ([], 0)).1 (D.ins.getD c ([], 0)).2 (C.ch.getD c (0, 0, 0)).2.2, recvL (D.ins.getD c ([], 0)).1 (D.ins.getD c ([], 0)).2 (C.ch.getD c (0, 0, 0)).2.2)
def recvD (C : Conf) (D : Dom) (c : Nat) : Dom := ⟨D.jobs, D.rel, D.nxt, D.ins.set c (recvR C D c), D.tak, D.out, D.evs⟩
def recvZ (C : Conf) (D : Dom) (c : Nat) : Int := recvX (D.ins.getD c ([], 0)).1 (D.ins.getD c ([], 0)).2 (C.ch.getD c (0, 0, 0)).2.2
def takeD (D : Dom) (c : Nat) : Dom := ⟨D.jobs, D.rel, D.nxt, D.ins, D.tak.set c 0, D.out, D.evs⟩
def actD (C : Conf) (dn : Int) (D : Dom) (now : Int) (a : ActT) (cost : Int) : Dom :=
  if mayA C dn a = false then tellE D (now, 12, D.nxt, 0)
  else if a.1 = 1 ∨ a.1 = 2 ∨ a.1 = 3 then tellE D (now, 11, cost, 0)
  else if a.1 = 4 then tellE (sendD D a.2.1.toNat a.2.2) (now, 9, a.2.1, 0)
  else if a.1 = 5 then tellE (recvD C D a.2.1.toNat) (now, 8, a.2.1, recvZ C D a.2.1.toNat)
  else if a.1 = 6 then tellE D (now, 7, now - now.tmod C.q, 0)
  else if a.1 = 7 then tellE (takeD D a.2.1.toNat) (now, 10, a.2.1, D.tak.getD a.2.1.toNat 0)
  else D
def nextD (D : Dom) : Dom := ⟨D.jobs, D.rel, D.nxt + 1, D.ins, D.tak, D.out, D.evs⟩
def dropD (D : Dom) (k : Nat) : Dom := ⟨D.jobs.eraseIdx k, D.rel, D.nxt, D.ins, D.tak, D.out, D.evs⟩
def endD (C : Conf) (D : Dom) (now : Int) (k : Nat) (a : ActT) : Dom :=
  if a.1 = 8 then dropD (tellE D (now, 4, (jat D k).1, (jat D k).2.1)) k
  else if (tk C (jat D k).1.toNat).2.2.1 ≤ (jat D k).2.2.2.1 then dropD (tellE D (now, 5, (jat D k).1, (jat D k).2.1)) k
  else D
end Go.Proofs.YtildebflnmbefaaGreat
