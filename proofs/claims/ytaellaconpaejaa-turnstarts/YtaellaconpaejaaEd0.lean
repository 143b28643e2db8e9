/- A domain that was told of one more event. -/
import Derived.Test.YtaellaconpaejaaEc
set_option linter.unusedVariables false
namespace Go.Proofs.Ytaellaconpaejaa
open Go.RowKit

/-- A domain that was told of one more event, in memory. -/
theorem dom_told {base : Nat} {w6 w7 wf : World} {A : DMem} {D : Dom} {gI gO m p q bx : Nat} {a7 : Option Addr} {c7 : Nat} {E : List EvT} (h : DomOwn base w6 A D gI gO m p q)
    (hg : w6.grownBy w7 (Value.slice A.aE D.evs.length A.cE).ownBlock) (ho : w7.ownsRow base 150 4 (.slice a7 E.length c7) E.length (fE E)) (hbx : q ≤ bx) (hbx2 : base ≤ bx) (hbl : bx < w6.heap.size) {L : List Value} (hrow : RowAt w6 bx 90 L)
    (hk : ∀ x, base ≤ x → x ≠ bx → wf.heap[x]? = w7.heap[x]?) (hI : D.ins.length ≤ 9223372036854775807) (hO : D.out.length ≤ 9223372036854775807) : DomIn wf { A with aE := a7, cE := c7 } { D with evs := E } := by
  have hm := h.mp
  have hbI := h.bI
  have hbO := h.bO
  have ag : ∀ x, x < w6.heap.size → x ≠ bx → base ≤ x → some x ≠ (Value.slice A.aE D.evs.length A.cE).ownBlock → wf.heap[x]? = w6.heap[x]? := fun x h1 h2 h3 h4 => (hk x h3 h2).trans (hg.block x h1 h4)
  have ow : ∀ {e sz n : Nat} {v : Value} {xs : List Value}, w6.ownsRow base e sz v n xs → e ≠ 150 → e ≠ 90 → wf.ownsRow base e sz v n xs := fun o n1 n2 => owns_agree o (fun x hx => ag x (owns_lt o x hx) (owns_ne o hrow n2 x hx) (owns_ge o x hx) (fun e => by
    rcases h.e.2 with ⟨q1, _⟩ | ⟨g', cap, cur, e1, e2, e3, r⟩
    · rw [q1] at e; cases e
    · exact owns_ne2 o e3 n1 x hx (by rw [e1] at e; simp [Value.ownBlock] at e; exact e)))
  have hrow7 : RowAt w7 bx 90 L := (hg.block bx hbl (fun e => by
    have := h.lt bx (.inr (.inr (.inr e.symm)))
    omega)).trans hrow
  have o7 : wf.ownsRow base 150 4 (.slice a7 E.length c7) E.length (fE E) := owns_agree ho (fun x hx => hk x (owns_ge ho x hx) (owns_ne ho hrow7 (by decide) x hx))
  have hne : ∀ x, x = gI ∨ x = gO ∨ m ≤ x → some x ≠ (Value.slice A.aE D.evs.length A.cE).ownBlock := fun x hx e => by
    rcases hx with rfl | rfl | hx
    · obtain ⟨cs, v, h1, _⟩ := h.i
      rcases h.e.2 with ⟨q1, _⟩ | ⟨g', cap, cur, e1, e2, e3, r⟩
      · rw [q1] at e; cases e
      · rw [e1] at e
        simp [Value.ownBlock] at e
        subst e
        rw [show w6.heap[x]? = _ from h1] at e3
        simp at e3
    · obtain ⟨cs, v, h1, _⟩ := h.o
      rcases h.e.2 with ⟨q1, _⟩ | ⟨g', cap, cur, e1, e2, e3, r⟩
      · rw [q1] at e; cases e
      · rw [e1] at e
        simp [Value.ownBlock] at e
        subst e
        rw [show w6.heap[x]? = _ from h1] at e3
        simp at e3
    · have := h.lt x (.inr (.inr (.inr e.symm)))
      omega
  have ri : RingsK wf gI m p D.ins D.ins.length := h.i.agree (fun x hx => ag x (by rcases hx with rfl | ⟨_, _⟩ <;> omega) (by rcases hx with rfl | ⟨_, _⟩ <;> omega) (by rcases hx with rfl | ⟨_, _⟩ <;> omega) (hne x (by rcases hx with h' | ⟨h1, h2⟩ <;> first | exact .inl h' | exact .inr (.inr (by omega)))))
  have lo : ListsK wf gO p q D.out D.out.length := h.o.agree (fun x hx => ag x (by rcases hx with rfl | ⟨_, _⟩ <;> omega) (by rcases hx with rfl | ⟨_, _⟩ <;> omega) (by rcases hx with rfl | ⟨_, _⟩ <;> omega) (hne x (by rcases hx with h' | ⟨h1, h2⟩ <;> first | exact .inr (.inl h') | exact .inr (.inr (by omega)))))
  have j := owns_in (ow h.j (by decide) (by decide))
  have r := owns_in (ow h.r (by decide) (by decide))
  have t := owns_in (ow h.t (by decide) (by decide))
  have e := owns_in o7
  exact ⟨jobsIn_of j.1, intsIn_of r.1, by show RingsIn wf A.aI D.ins; rw [h.aI]; exact ri.rings, intsIn_of t.1, by show ListsIn wf A.aO D.out; rw [h.aO]; exact lo.lists, evsIn_of e.1, j.2.2, r.2.2, hI, t.2.2, hO, e.2.2⟩

/-- The domain when its slot begins, if it has no lines. -/
def openD (D : Dom) (now s : Int) : Dom := { D with evs := D.evs ++ [(now, 1, s, 0)] }

end Go.Proofs.Ytaellaconpaejaa
