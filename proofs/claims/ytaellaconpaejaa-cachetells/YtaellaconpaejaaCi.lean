/- Walks: what the use of a line in a set comes to, whatever the set. -/
import Derived.Test.YtaellaconpaejaaCh10
import Derived.Test.YtaellaconpaejaaCh20
import Derived.Test.YtaellaconpaejaaCh21
import Derived.Test.YtaellaconpaejaaCh30
import Derived.Test.YtaellaconpaejaaCh31
set_option linter.unusedVariables false
namespace Go.Proofs.Ytaellaconpaejaa
open Go.RowKit

theorem useSet_miss {ls : List (Int × Bool)} {ln : Int} {wr : Bool} (h : idx ln ls = -1) : useSet ls ln wr = ((ln, wr) :: ls.dropLast, 10 + wb (ls.getLastD (0, false)).2) := by
  unfold idx at h
  unfold useSet
  cases hf : ls.findIdx? (fun x => x.1 == ln) with
  | none => rfl
  | some k => rw [hf] at h; simp at h

theorem useSet_hit {ls : List (Int × Bool)} {ln : Int} {wr : Bool} {k : Nat} (h : idx ln ls = k) : useSet ls ln wr = (((ls.getD k (0, false)).1, (ls.getD k (0, false)).2 || wr) :: ls.eraseIdx k, 1) := by
  unfold idx at h
  unfold useSet
  cases hf : ls.findIdx? (fun x => x.1 == ln) with
  | none => rw [hf] at h; simp at h
  | some j => rw [hf] at h; simp at h; obtain rfl : j = k := by omega
              rfl

def UsePost (g cap base n : Nat) (w : World) (p : List (Int × Bool) × Int) (e : Ending) (w' : World) : Prop :=
  e = .returned (.int .i64 p.2) ∧ w'.ownsRow base 119 2 (.slice (some ⟨g, 0, none⟩) n cap) n (flat p.1) ∧ w.grownBy w' (some g)

theorem use_any (g cap base : Nat) (ls : List (Int × Bool)) (ln : Int) (wr : Bool) (w : World) (hown : w.ownsRow base 119 2 (.slice (some ⟨g, 0, none⟩) ls.length cap) ls.length (flat ls)) (hpos : 0 < ls.length) (hl : ls.length ≤ 3) :
    Calls Try.prog 71 #[.slice (some ⟨g, 0, none⟩) ls.length cap, .int .i64 ln, .bool wr] w (UsePost g cap base ls.length w (useSet ls ln wr)) := by
  obtain ⟨r, hr, hlen, hn, hm, hb⟩ := rowAt_of_owns hown
  have fin : ∀ (p : List (Int × Bool) × Int) (X : List (Int × Bool)) (c : Int), p = (X, c) → X.length = ls.length → ∀ (e : Ending) (w' : World), (e = .returned (.int .i64 c) ∧ RowAt w' g 119 (flat X ++ r) ∧ w.grownBy w' (some g)) → UsePost g cap base ls.length w p e w' := by
    rintro p X c rfl hX e w' ⟨rfl, h1, h2⟩
    refine ⟨rfl, owns_of_rowAt h1 ?_ hn hm hb hX, h2⟩
    rw [List.length_append, flat_len] at hlen ⊢
    rw [hX]; exact hlen
  match ls, hpos, hl with
  | [(a1, a2)], _, _ =>
    rcases idx_cases ln [(a1, a2)] with ⟨hx, _⟩ | ⟨k, hk, hx, _, _⟩
    · exact (use1_miss g cap a1 ln a2 wr r w hn hm hr hx).mono (fin _ _ _ (useSet_miss hx) rfl)
    · match k, hk, hx with
      | 0, _, hx =>
        cases a2
        · exact (use1_0f g cap a1 ln wr r w hn hm hr hx).mono (fin _ _ _ (useSet_hit (k := 0) hx) rfl)
        · exact (use1_0t g cap a1 ln wr r w hn hm hr hx).mono (fin _ _ _ (useSet_hit (k := 0) hx) rfl)
  | [(a1, a2), (b1, b2)], _, _ =>
    rcases idx_cases ln [(a1, a2), (b1, b2)] with ⟨hx, _⟩ | ⟨k, hk, hx, _, _⟩
    · exact (use2_miss g cap a1 b1 ln a2 b2 wr r w hn hm hr hx).mono (fin _ _ _ (useSet_miss hx) rfl)
    · match k, hk, hx with
      | 0, _, hx =>
        cases a2
        · exact (use2_0f g cap a1 b1 ln b2 wr r w hn hm hr hx).mono (fin _ _ _ (useSet_hit (k := 0) hx) rfl)
        · exact (use2_0t g cap a1 b1 ln b2 wr r w hn hm hr hx).mono (fin _ _ _ (useSet_hit (k := 0) hx) rfl)
      | 1, _, hx =>
        cases b2
        · exact (use2_1f g cap a1 b1 ln a2 wr r w hn hm hr hx).mono (fin _ _ _ (useSet_hit (k := 1) hx) rfl)
        · exact (use2_1t g cap a1 b1 ln a2 wr r w hn hm hr hx).mono (fin _ _ _ (useSet_hit (k := 1) hx) rfl)
  | [(a1, a2), (b1, b2), (c1, c2)], _, _ =>
    rcases idx_cases ln [(a1, a2), (b1, b2), (c1, c2)] with ⟨hx, _⟩ | ⟨k, hk, hx, _, _⟩
    · exact (use3_miss g cap a1 b1 c1 ln a2 b2 c2 wr r w hn hm hr hx).mono (fin _ _ _ (useSet_miss hx) rfl)
    · match k, hk, hx with
      | 0, _, hx =>
        cases a2
        · exact (use3_0f g cap a1 b1 c1 ln b2 c2 wr r w hn hm hr hx).mono (fin _ _ _ (useSet_hit (k := 0) hx) rfl)
        · exact (use3_0t g cap a1 b1 c1 ln b2 c2 wr r w hn hm hr hx).mono (fin _ _ _ (useSet_hit (k := 0) hx) rfl)
      | 1, _, hx =>
        cases b2
        · exact (use3_1f g cap a1 b1 c1 ln a2 c2 wr r w hn hm hr hx).mono (fin _ _ _ (useSet_hit (k := 1) hx) rfl)
        · exact (use3_1t g cap a1 b1 c1 ln a2 c2 wr r w hn hm hr hx).mono (fin _ _ _ (useSet_hit (k := 1) hx) rfl)
      | 2, _, hx =>
        cases c2
        · exact (use3_2f g cap a1 b1 c1 ln a2 b2 wr r w hn hm hr hx).mono (fin _ _ _ (useSet_hit (k := 2) hx) rfl)
        · exact (use3_2t g cap a1 b1 c1 ln a2 b2 wr r w hn hm hr hx).mono (fin _ _ _ (useSet_hit (k := 2) hx) rfl)

end Go.Proofs.Ytaellaconpaejaa
