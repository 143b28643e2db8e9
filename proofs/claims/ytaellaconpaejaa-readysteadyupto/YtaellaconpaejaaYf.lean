/- Walks: the tasks of a keeper as a sequence that may be left early. -/
import Derived.Test.YtaellaconpaejaaYe
set_option linter.unusedVariables false
namespace Go.Proofs.Ytaellaconpaejaa
open Go.RowKit Go.Shelf

theorem tasks_stops (n : Nat) (hn : 1 ≤ n) (Bk kb n₀ : Nat) (C : Conf) (a8 : Option Addr) (c8 : Nat) (dn : Int) (hkb : kb < n₀) (hBk : Bk < n₀) (hln : C.ta.length ≤ 9223372036854775807)
    (w : World) (hB : w.cell? ⟨Bk, 0, none⟩ = some (.pointer (some ⟨kb, 0, none⟩))) (h8 : w.cell? ⟨kb, 15, none⟩ = some (.slice a8 C.ta.length c8)) (h16 : w.cell? ⟨kb, 16, none⟩ = some (.int .i64 dn)) (hT : TasksIn w a8 C.ta) (ha8 : ∀ b o, a8 = some ⟨b, o, none⟩ → 0 < C.ta.length → b < n₀) (hsz : n₀ ≤ w.heap.size) :
    SeqStopsK Fence.wide n Try.prog 135 #[.pointer (some ⟨Bk, 0, none⟩)] encT (Below n₀) (fun ys => ys = ownT C dn C.ta.length) (fun pre => ∃ k, k ≤ C.ta.length ∧ pre = ownT C dn k) C.ta.length w := by
  intro l J Jx W hb hJ hJx hY h0
  have hsz' := hb.size
  have hTW : TasksIn W a8 C.ta := by
    intro k hk
    obtain ⟨b, o, e, p0, p1, p2, p3⟩ := hT k hk
    have hlt : b < w.heap.size := Nat.lt_of_lt_of_le (ha8 b o e (by omega)) hsz
    exact ⟨b, o, e, (hb.cell (p := ⟨b, o + k * 4, none⟩) hlt).trans p0, (hb.cell (p := ⟨b, o + k * 4 + 1, none⟩) hlt).trans p1, (hb.cell (p := ⟨b, o + k * 4 + 2, none⟩) hlt).trans p2, (hb.cell (p := ⟨b, o + k * 4 + 3, none⟩) hlt).trans p3⟩
  exact tasks1_in n hn l Bk kb n₀ C a8 c8 dn J Jx hkb hBk hln hY
    (fun pre W1 o h => hJ pre W1 _ none h (World.grownBy_alloc W1 o none) (fun _ e => by cases e))
    (fun pre W1 h => hJ pre W1 _ none h ⟨rfl, rfl, rfl, Nat.le_refl _, fun _ _ _ => rfl⟩ (fun _ e => by cases e))
    W ((hb.cell (p := ⟨Bk, 0, none⟩) (by show Bk < _; omega)).trans hB) ((hb.cell (p := ⟨kb, 15, none⟩) (by show kb < _; omega)).trans h8) ((hb.cell (p := ⟨kb, 16, none⟩) (by show kb < _; omega)).trans h16) hTW ha8 (by omega) h0

end Go.Proofs.Ytaellaconpaejaa
