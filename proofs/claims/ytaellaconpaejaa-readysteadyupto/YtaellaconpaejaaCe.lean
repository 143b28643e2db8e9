/- Walks: what a copy of a set comes to. -/
import Derived.Test.YtaellaconpaejaaCd
import Derived.Deep.AppendLies
set_option linter.unusedVariables false
namespace Go.Proofs.Ytaellaconpaejaa
open Go.RowKit

/-- The cells of a list of ways. -/
def flat (ls : List (Int × Bool)) : List Value := ls.flatMap fun x => [.int .i64 x.1, .bool x.2]

theorem flat_len (ls : List (Int × Bool)) : (flat ls).length = ls.length * 2 := by
  induction ls with
  | nil => rfl
  | cons x r ih => simp only [flat, List.flatMap_cons, List.length_append, List.length_cons, List.length_nil] at *; omega

theorem flat_at (ls : List (Int × Bool)) (i : Nat) (h : i < ls.length) : (flat ls)[i * 2]? = some (.int .i64 ls[i].1) ∧ (flat ls)[i * 2 + 1]? = some (.bool ls[i].2) := by
  induction ls generalizing i with
  | nil => simp at h
  | cons x r ih =>
    cases i with
    | zero => simp [flat]
    | succ i =>
      have := ih i (by simpa using h)
      have e1 : (i + 1) * 2 = i * 2 + 2 := by omega
      simpa [flat, e1, List.getElem?_cons] using this

theorem flat_mem (ls : List (Int × Bool)) : ∀ u ∈ flat ls, u.oneCell' = true := by
  intro u hu
  simp only [flat, List.mem_flatMap, List.mem_cons, List.not_mem_nil, or_false] at hu
  obtain ⟨x, _, rfl | rfl⟩ := hu <;> rfl

theorem Try.info119 : (Try.prog.info? 119).map (fun i => (i.zero, i.size, i.bytes)) = some (some (.agg #[.int .i64 0, .bool false]), 2, 16) := by kernel_rfl

theorem infoOf {P : Program} {t : TypeId} {z : Value} {sz b : Nat} (h : (P.info? t).map (fun i => (i.zero, i.size, i.bytes)) = some (some z, sz, b)) :
    ∃ i, P.info? t = some i ∧ i.zero = some z ∧ i.size = sz ∧ i.bytes = b := by
  obtain ⟨i, hi, h0⟩ := Option.map_eq_some_iff.1 h
  simp only [Prod.mk.injEq] at h0
  exact ⟨i, hi, h0.1, h0.2.1, h0.2.2⟩

/-- The cells of the ways, as a copy reads them. -/
theorem WaysIn.news {w : World} {b o : Nat} {ls : List (Int × Bool)} (h : WaysIn w (some ⟨b, o, none⟩) ls) : ∀ j u, (flat ls)[j]? = some u → w.cell? ((⟨b, o, none⟩ : Addr).add j) = some u := by
  intro j u hu
  have hj : j < ls.length * 2 := by rw [← flat_len]; exact (List.getElem?_eq_some_iff.1 hu).1
  have hadd : (⟨b, o, none⟩ : Addr).add j = ⟨b, o + j, none⟩ := by unfold Addr.add; split <;> simp_all
  rw [hadd]
  have hi : j / 2 < ls.length := by omega
  obtain ⟨b', o', e, h1, h2⟩ := h (j / 2) hi
  simp only [Option.some.injEq, Addr.mk.injEq, and_true] at e
  obtain ⟨rfl, rfl⟩ := e
  obtain ⟨f1, f2⟩ := flat_at ls (j / 2) hi
  by_cases hm : j % 2 = 0
  · have e : j / 2 * 2 = j := by omega
    rw [e] at h1 f1
    rw [hu] at f1
    rw [h1, f1]
  · have e : j / 2 * 2 + 1 = j := by omega
    rw [e] at f2
    have e2 : o + j / 2 * 2 + 1 = o + j := by omega
    rw [e2] at h2
    rw [hu] at f2
    rw [h2, f2]

theorem waysIn_of_owns {w : World} {base g n cap : Nat} {ls : List (Int × Bool)} (h : w.ownsRow base 119 2 (.slice (some ⟨g, 0, none⟩) n cap) n (flat ls)) : WaysIn w (some ⟨g, 0, none⟩) ls := by
  intro i hi
  obtain ⟨f1, f2⟩ := flat_at ls i hi
  have c1 := h.cells (g := g) rfl _ _ f1
  have c2 := h.cells (g := g) rfl _ _ f2
  have hadd : ∀ j, (⟨g, 0, none⟩ : Addr).add j = ⟨g, 0 + j, none⟩ := fun j => by unfold Addr.add; split <;> simp_all
  rw [hadd] at c1 c2
  exact ⟨g, 0, rfl, c1, by rw [Nat.add_assoc]; exact c2⟩

set_option maxRecDepth 100000 in
set_option maxHeartbeats 400000 in
theorem clone53_any (b o : Nat) (ls : List (Int × Bool)) (cap : Nat) (w : World) (hw : WaysIn w (some ⟨b, o, none⟩) ls) (hpos : 0 < ls.length) (hl : ls.length ≤ 3) :
    Calls Try.prog 114 #[.slice (some ⟨b, o, none⟩) ls.length cap] w fun e w' => ∃ g cap', e = .returned (.slice (some ⟨g, 0, none⟩) ls.length cap') ∧ w'.ownsRow w.heap.size 119 2 (.slice (some ⟨g, 0, none⟩) ls.length cap') ls.length (flat ls) ∧ Below w.heap.size w w' := by
  have hnil := fun (w : World) (a : Option Addr) (n c : Nat) => Lib.run_eql_slice_nil (P := Try.prog) w 35 119 a n c 0 0 Try.underlying35
  obtain ⟨i, hi, hz, hs, hby⟩ := infoOf Try.info119
  have h1 : Below w.heap.size w (w.alloc (.cells #[] 119)) := (Below.refl _ _).alloc (Nat.le_refl _) _
  have hown : (w.alloc (.cells #[] 119)).ownsRow w.heap.size 119 2 (.slice (some ⟨w.heap.size, 0, none⟩) 0 0) 0 [] := World.ownsRow_made w #[] 0 (Nat.le_refl _) (by simp [maxLen]) rfl
  have Hw := hid (hw.keep h1).news
  go_enter Try.func114, Try.ntmps114
  go_wp2_with (at_builtin; refine wpList_append_lies _ rfl _ _ _ (by rfl) w.heap.size 119 i _ 2 16 Try.underlying35 hi hz hs hby rfl (by omega) (.slice (some ⟨w.heap.size, 0, none⟩) 0 0) 0 [] (by rfl) hown ⟨b, o, none⟩ ls.length cap (flat ls) (by rfl) (flat_len ls) Hw.out (flat_mem ls) hpos (by simp [maxLen]; omega) (by omega) (by simp) (w.heap.size + 1) (by simp) ?_)
  intro g cap' w1 hown1 hgrow hat hlt
  go_wp2
  go_ret
  exact ⟨g, cap', rfl, hown1, h1.grown hgrow (by simp) (fun k hk => by simp [Value.ownBlock] at hk; omega)⟩

set_option maxHeartbeats 400000 in
theorem writeBack_any (l : Int) (d : Bool) (w : World) :
    Calls Try.prog 72 #[.agg #[.int .i64 l, .bool d]] w fun e w' => e = .returned (.int .i64 (wb d)) ∧ Below w.heap.size w w' := by
  cases d with
  | true =>
    go_enter Try.func72, Try.ntmps72
    go_wp2
    go_ret
    exact ⟨rfl, (Below.refl _ _).alloc (Nat.le_refl _) _⟩
  | false =>
    go_enter Try.func72, Try.ntmps72
    go_wp2
    go_ret
    exact ⟨rfl, (Below.refl _ _).alloc (Nat.le_refl _) _⟩

end Go.Proofs.Ytaellaconpaejaa
