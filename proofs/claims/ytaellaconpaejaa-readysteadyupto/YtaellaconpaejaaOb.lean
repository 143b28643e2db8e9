/- Walks: the writer of images: numbers of two bytes. -/
import Derived.Test.YtaellaconpaejaaOa
import Derived.Test.YtaellaconpaejaaPa
import Derived.Laws.BitsLemmas
set_option linter.unusedVariables false
namespace Go.Proofs.Ytaellaconpaejaa
open Go.RowKit

theorem and255 (n : Int) (h0 : 0 ≤ n) (h1 : n ≤ 65535) : bits .and .i64 n 255 = n % 256 := by
  have h := bits_mask .i64 62 (by decide) (fun n h0 h1 => by rw [IntKind.wrap_i64]; omega) 8 (by decide) n h0 (by omega)
  exact h

theorem intsIn_new (w : World) (l : List Int) (t : TypeId) : IntsIn (w.alloc (.cells (l.map fun n => Value.int .i64 n).toArray t)) (some ⟨w.heap.size, 0, none⟩) l := by
  intro i hi
  refine ⟨w.heap.size, 0, rfl, ?_⟩
  rw [cell_new _ _ _ _ _ rfl]
  simp [hi]

set_option maxRecDepth 100000 in
set_option maxHeartbeats 1000000 in
theorem twos_any (pb : Nat) (v : Value) (bs L : List Int) (a : Option Addr) (cap : Nat) (w : World) (hW : WAt w pb v bs) (hL : IntsIn w a L) (hne : ∀ b o, a = some ⟨b, o, none⟩ → L ≠ [] → b ≠ pb ∧ some b ≠ v.ownBlock)
    (hlen : bs.length + 2 * L.length ≤ 1000) (hin : ∀ x ∈ L, 0 ≤ x ∧ x ≤ 65535) :
    Calls Try.prog 120 #[.pointer (some ⟨pb, 0, none⟩), .slice a L.length cap] w fun e w' => e = .returned (.tuple #[]) ∧ ∃ v', WAt w' pb v' (bs ++ L.flatMap hl) ∧ Wrote w w' pb v v' := by
  have HW := hid hW
  have HL := hid hL
  clear hW hL
  go_enter Try.func120, Try.ntmps120
  go_wp2
  go_loopw [8] (fun i wr => ∃ (k : Nat) (u : Value), k ≤ L.length ∧ i = .int .i64 k ∧ WAt wr pb u (bs ++ (L.take k).flatMap hl) ∧ Wrote w wr pb v u) (fun i _ => L.length - (intOf i).toNat)
  case atStart => exact ⟨0, v, Nat.zero_le _, rfl, by simpa using HW.out, Wrote.refl _ _ _⟩
  case round =>
    obtain ⟨k, u, hk, rfl, hW1, hw1⟩ := hrel
    have HW1 := hid hW1
    have Hw1 := hid hw1
    have hlt1 := hW1.row.lt
    have hlu := hW1.lt
    clear hW1 hw1
    by_cases hlt : k < L.length
    · obtain ⟨b, o, rfl, hcb⟩ := HL.out k hlt
      have hb2 := hne b o rfl (by intro e; subst e; simp at hlt)
      have hcb2 : wr.cell? ⟨b, o + k, none⟩ = some (.int .i64 L[k]) := Hw1.out.cell hcb hb2.1 hb2.2
      have hr := hin L[k] (List.getElem_mem hlt)
      have hr1 := hr.1
      have hr2 := hr.2
      generalize hn : L[k] = n at *
      have Hn := hid hn
      clear hn
      go_wp2_with fail
      have Hb1 : Hid (Below wr.heap.size wr (wr.alloc (.cells #[.int .i64 (n / 256), .int .i64 (n % 256)] 3))) := below_new _ _
      rw [and255 n hr1 hr2]
      have hlk : ((L.take k).flatMap hl).length = 2 * k := by
        rw [List.length_flatMap]
        have e : (L.take k).map (fun a => (hl a).length) = List.replicate k 2 := by
          rw [show (fun a => (hl a).length) = fun _ => 2 from rfl, List.map_const', List.length_take, Nat.min_eq_left hk]
        rw [e]; simp; omega
      refine (ones_any pb u (bs ++ (L.take k).flatMap hl) [n / 256, n % 256] (some ⟨wr.heap.size, 0, none⟩) 2 _ (HW1.out.below Hb1.out) (intsIn_new wr [n / 256, n % 256] 3) ?_ ?_ ?_).mono ?_
      · intro b' o' e _
        simp only [Option.some.injEq, Addr.mk.injEq, and_true] at e
        refine ⟨by omega, fun q => ?_⟩
        have := (hlu _ q.symm).2
        omega
      · simp only [List.length_append, hlk, List.length_cons, List.length_nil]; omega
      · intro x hx
        simp only [List.mem_cons, List.not_mem_nil, or_false] at hx
        omega
      rintro e w2 ⟨rfl, v2, h1, h2⟩
      have Hfin : Hid (WAt w2 pb v2 (bs ++ (L.take (k + 1)).flatMap hl) ∧ Wrote w w2 pb v v2) := by
        refine ⟨?_, Hw1.out.trans ((Wrote.ofBelow Hb1.out).trans h2)⟩
        rw [List.take_succ_eq_append_getElem hlt, List.flatMap_append, Hn.out, ← List.append_assoc]
        simpa [hl] using h1
      clear HW1 Hw1 Hb1 hlu h1 h2
      go_wp2
      go_roundw
      case rel => exact ⟨k + 1, _, by omega, by go_num, Hfin.out⟩
      case measure => simp [intOf]; omega
    · obtain rfl : k = L.length := by omega
      go_wp2
      go_end0
      exact ⟨rfl, _, by simpa using HW1.out, Hw1.out⟩
end Go.Proofs.Ytaellaconpaejaa
