/- A law on a region in whatever order: what holds at the start and is kept by each operation, however they come, holds at its end. -/
import Derived.Test.YtaellaconpaejaaZa
import Derived.Deep.RegionHeld3
set_option linter.unusedVariables false
namespace Go.Proofs.Ytaellaconpaejaa
open Go.RowKit

theorem count_set (l : List Bool) (i : Nat) (h : l[i]? = some false) : (l.set i true).countP (fun b => !b) + 1 = l.countP (fun b => !b) := by
  induction l generalizing i with
  | nil => simp at h
  | cons x r ih =>
    cases i with
    | zero =>
      simp at h
      subst h
      simp
    | succ i =>
      have := ih i (by simpa using h)
      simp only [List.set_cons_succ, List.countP_cons]
      omega

/-- Each operation waits for such alone as stand ahead of it. -/
def ordB (ops : Array Oper) : Bool := (List.range ops.size).all fun i => ((ops[i]?).map (·.after.all fun e => decide (e.on < i))).getD true

theorem ordB_spec {ops : Array Oper} (h : ordB ops = true) {i : Nat} {o : Oper} (ho : ops[i]? = some o) : ∀ e ∈ o.after, e.on < i := by
  intro e he
  have hi : i < ops.size := (Array.getElem?_eq_some_iff.1 ho).1
  have := List.all_eq_true.1 h i (List.mem_range.2 hi)
  rw [ho] at this
  simp only [Option.map_some, Option.getD_some] at this
  exact of_decide_eq_true (Array.all_eq_true_iff_forall_mem.1 this e he)

theorem all_listed {md : Region.Mode} {ops : Array Oper} {l : Array Bool} (hord : ordB ops = true) (hsz : l.size = ops.size) (hr : Region.ready md ops l = []) : ∀ i, i < ops.size → l.getD i false = true := by
  intro i
  induction i using Nat.strongRecOn with
  | ind i ih =>
    intro hi
    cases hl : l.getD i false with
    | true => rfl
    | false =>
      exfalso
      have hlt : i < l.size := by omega
      have h1 : l.getD i true = false := by simpa [Array.getD_eq_getD_getElem?, hlt] using hl
      obtain ⟨o, ho⟩ : ∃ o, ops[i]? = some o := ⟨_, Array.getElem?_eq_getElem hi⟩
      have : i ∈ Region.ready md ops l := mem_ready.2 ⟨h1, o, ho, fun e he _ => ih e.on (ordB_spec hord ho e he) (by have := ordB_spec hord ho e he; omega)⟩
      rw [hr] at this
      cases this

theorem wpAny_inv {P : Program} {md : Region.Mode} {ops : Array Oper} {Q : Exit → Act → World → Prop} (R : Array Bool → Act → World → Prop) (hord : ordB ops = true)
    (hstep : ∀ (l : Array Bool) (a : Act) (w : World) (i : Nat) (o : Oper), R l a w → ops[i]? = some o → l.getD i false = false → (∀ e ∈ o.after, Region.binds md e = true → l.getD e.on false = true) → ∀ K' : Act → World → Prop, Shut (∀ a w, R (l.setIfInBounds i true) a w → K' a w) → if Region.wanted o (yielded ops a.tmps) = true then Oper.wp P o a w K' Q else K' (a.put o.dst undef) w)
    (hend : ∀ (l : Array Bool) (a : Act) (w : World), R l a w → (∀ i, i < ops.size → l.getD i false = true) → Q .normal a w) :
    ∀ (fuel : Nat) (l : Array Bool) (a : Act) (w : World), l.size = ops.size → l.toList.countP (fun b => !b) ≤ fuel → R l a w → wpAny P md ops Q fuel l a w := by
  intro fuel
  induction fuel with
  | zero =>
    intro l a w hsz hc hR
    have hr : Region.ready md ops l = [] := by
      apply List.eq_nil_iff_forall_not_mem.2
      intro i hi
      obtain ⟨h0, o, ho, _⟩ := mem_ready.1 hi
      have hlt : i < l.size := by have := (Array.getElem?_eq_some_iff.1 ho).1; omega
      have hz : l.toList.countP (fun b => !b) = 0 := by omega
      have := List.countP_eq_zero.1 hz l[i] (by simp)
      simp [Array.getD_eq_getD_getElem?, hlt] at h0
      simp [h0] at this
    exact ⟨hr, hend l a w hR (all_listed hord hsz hr)⟩
  | succ fuel ih =>
    intro l a w hsz hc hR
    refine ⟨fun hr => hend l a w hR (all_listed hord hsz hr), fun i hi => ?_⟩
    obtain ⟨h0, o, ho, hall⟩ := mem_ready.1 hi
    have hlt : i < l.size := by have := (Array.getElem?_eq_some_iff.1 ho).1; omega
    have h0' : l[i] = false := by simpa [Array.getD_eq_getD_getElem?, hlt] using h0
    have h00 : l.getD i false = false := by simp [Array.getD_eq_getD_getElem?, hlt, h0']
    refine wpOp_step ho (fun K' hK => hstep l a w i o hR ho h00 hall K' (fun a' w' h' => hK a' w' (ih _ a' w' (by simpa using hsz) ?_ h')))
    have := count_set l.toList i (by simp [hlt, h0'])
    rw [Array.toList_setIfInBounds]
    omega

end Go.Proofs.Ytaellaconpaejaa
