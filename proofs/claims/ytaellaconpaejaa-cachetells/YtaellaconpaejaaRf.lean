/- Two answers beside their errnos: when the law finds them the same. -/
import Derived.Test.YtaellaconpaejaaRb
import Derived.Test.YtaellaconpaejaaCo
set_option linter.unusedVariables false
namespace Go.Proofs.Ytaellaconpaejaa
open Go.RowKit

/-- Two caches that must be the same: both nothing beside an error, or both one cache. -/
def Pair (w : World) (xv fv : Value) (e : Int) : Prop :=
  (e ≠ 0 ∧ xv = .slice none 0 0 ∧ fv = .slice none 0 0) ∨
  (e = 0 ∧ ∃ (ax af : Option Addr) (cx cf : Nat) (C : List (List (Int × Bool))), xv = .slice ax C.length cx ∧ fv = .slice af C.length cf ∧ CacheIn w ax C ∧ CacheIn w af C ∧ C.length ≤ 9223372036854775807)

theorem Pair.keep {w w' : World} {xv fv : Value} {e : Int} (h : Pair w xv fv e) (hb : Below w.heap.size w w') : Pair w' xv fv e := by
  rcases h with h | ⟨h1, ax, af, cx, cf, C, h2, h3, h4, h5, h6⟩
  · exact .inl h
  · exact .inr ⟨h1, ax, af, cx, cf, C, h2, h3, h4.keep hb, h5.keep hb, h6⟩

theorem Pair.one {w : World} {xv fv : Value} {e : Int} (h : Pair w xv fv e) : (∃ a n c, xv = .slice a n c) ∧ ∃ a n c, fv = .slice a n c := by
  rcases h with ⟨_, rfl, rfl⟩ | ⟨_, ax, af, cx, cf, C, rfl, rfl, _⟩
  · exact ⟨⟨_, _, _, rfl⟩, ⟨_, _, _, rfl⟩⟩
  · exact ⟨⟨_, _, _, rfl⟩, ⟨_, _, _, rfl⟩⟩

theorem cacheIs_pair {w : World} {xv fv : Value} {e : Int} (h : Pair w xv fv e) :
    Calls Try.prog 22 #[.agg #[xv], .int .i64 e, .int .i64 e, .agg #[fv]] w fun r w' => r = .returned (.bool true) ∧ Below w.heap.size w w' := by
  rcases h with ⟨h1, rfl, rfl⟩ | ⟨rfl, ax, af, cx, cf, C, rfl, rfl, h4, h5, h6⟩
  · exact cacheIs_err e h1 w
  · exact cacheIs_ok ax af C cx cf w h4 h5 h6

/-- What New answers. -/
theorem new_any (s n : Int) (w : World) :
    Calls Try.prog 14 #[.int .i64 s, .int .i64 n] w fun e w' => Below w.heap.size w w' ∧ ∃ (xv : Value) (q : Int), e = .returned (.tuple #[.agg #[xv], .int .i64 q]) ∧
      (((inR s 1 4 && inR n 1 3) = true ∧ q = 0 ∧ ∃ g, xv = .slice (some ⟨g, 0, none⟩) s.toNat s.toNat ∧ CacheIn w' (some ⟨g, 0, none⟩) (emptyC s.toNat n.toNat)) ∨ ((inR s 1 4 && inR n 1 3) = false ∧ q = 3 ∧ xv = .slice none 0 0)) := by
  cases h : (inR s 1 4 && inR n 1 3) with
  | false =>
    refine (new_bad s n w h).mono ?_
    rintro e w' ⟨rfl, hb⟩
    exact ⟨hb, _, _, rfl, .inr ⟨rfl, rfl, rfl⟩⟩
  | true =>
    have h2 : (1 ≤ s ∧ s ≤ 4) ∧ (1 ≤ n ∧ n ≤ 3) := by simpa [inR] using h
    have e1 : s = (s.toNat : Int) := by omega
    have e2 : n = (n.toNat : Int) := by omega
    have := new_ok s.toNat n.toNat w (by omega) (by omega) (by omega) (by omega)
    rw [← e1, ← e2] at this
    refine this.mono ?_
    rintro e w' ⟨g0, rfl, hO, _, hb⟩
    refine ⟨hb, _, _, rfl, .inl ⟨rfl, rfl, g0, rfl, cacheIn_of_own hO (by rw [emptyC_len]; exact Nat.le_refl _) (fun ls hls => ?_)⟩⟩
    simp [emptyC] at hls
    rw [hls.2]; simp; omega

/-- Boxes of caches. -/
def Boxes (w : World) (l : List (Nat × Value)) : Prop := ∀ p ∈ l, RowAt w p.1 24 [p.2]

theorem Boxes.keep {w w' : World} {l : List (Nat × Value)} (h : Boxes w l) (hb : Below w.heap.size w w') : Boxes w' l := fun p hp => (h p hp).below hb (Nat.le_refl _)
theorem Boxes.box {w : World} {l : List (Nat × Value)} (h : Boxes w l) (v : Value) : Boxes (w.alloc (.cells #[v] 24)) ((w.heap.size, v) :: l) := by
  intro p hp
  rcases List.mem_cons.1 hp with rfl | h'
  · exact rowAt_new w _ [v] 24 rfl
  · exact (h p h').alloc _
theorem Boxes.cell {w : World} {l : List (Nat × Value)} (h : Boxes w l) {b : Nat} {v : Value} (hm : (b, v) ∈ l) : w.cell? ⟨b, 0, none⟩ = some v := (h _ hm).cell 0 _ rfl
theorem Boxes.lt {w : World} {l : List (Nat × Value)} (h : Boxes w l) {b : Nat} {v : Value} (hm : (b, v) ∈ l) : b < w.heap.size := (h _ hm).lt
theorem Boxes.frozen {w : World} {l : List (Nat × Value)} (h : Boxes w l) {b : Nat} {v : Value} (hm : (b, v) ∈ l) : w.frozen? ⟨b, 0, none⟩ = false := (h _ hm).frozen 0

theorem bbox {w0 w : World} (h : Below w0.heap.size w0 w) (o : Obj) : Below w0.heap.size w0 (w.alloc o) := h.alloc h.size o

end Go.Proofs.Ytaellaconpaejaa
