/- The plain reckoning of rings: what a check, a commit and a receive come to, over lists of numbers. -/
import Derived.Test.YtaellaconpaejaaMa
namespace Go.Proofs.Ytaellaconpaejaa

def allR (L : List Int) (l m : Int) : Bool := L.all fun n => inR n l m

theorem allR_any (L : List Int) (l m : Int) : (!L.any fun n => !inR n l m) = allR L l m := by
  simp [allR, List.not_any_eq_all_not]

theorem allR_true {L : List Int} {l m : Int} (h : ∀ j (hj : j < L.length), inR L[j] l m = true) : allR L l m = true := by
  rw [allR, List.all_eq_true]
  intro x hx
  obtain ⟨j, hj, rfl⟩ := List.getElem_of_mem hx
  exact h j hj

theorem allR_false {L : List Int} {l m : Int} (k : Nat) (hk : k < L.length) (h : inR L[k] l m = false) : allR L l m = false := by
  rw [allR, List.all_eq_false]
  exact ⟨L[k], List.getElem_mem hk, by simp [h]⟩

/-- What is wrong with a ring. -/
def ckR (V : List Int) (lost size : Int) : Int :=
  if inR size 1 4 = false then 3
  else if size < (V.length : Int) then 2
  else if allR V 0 255 = false then 3
  else if inR lost 0 100000 = false then 3
  else 0

theorem ckR_ok {V : List Int} {lost size : Int} (h : ckR V lost size = 0) : (1 ≤ size ∧ size ≤ 4) ∧ (V.length : Int) ≤ size ∧ allR V 0 255 = true ∧ 0 ≤ lost ∧ lost ≤ 100000 := by
  unfold ckR at h
  split at h
  · omega
  · rename_i h1
    split at h
    · omega
    · split at h
      · omega
      · rename_i h3
        split at h
        · omega
        · rename_i h4
          simp [inR] at h1 h4
          simp at h3
          exact ⟨⟨h1.1, h1.2⟩, by omega, h3, h4.1, h4.2⟩

/-- How much room there is. -/
def roomR (V : List Int) (size : Int) : Nat := size.toNat - V.length
/-- What waits when k of the values have come. -/
def comV (V L : List Int) (room k : Nat) : List Int := V ++ L.take (min k room)
/-- What is lost when k of the values have come. -/
def comL (lost : Int) (room k : Nat) : Int := min (lost + ((k - room : Nat) : Int)) 100000

theorem comV_len (V L : List Int) (room k : Nat) (hk : k ≤ L.length) : (comV V L room k).length = V.length + min k room := by
  simp [comV]; omega

theorem comV_more (V L : List Int) (room k : Nat) (hk : k < L.length) (hr : k < room) : comV V L room (k + 1) = comV V L room k ++ [L[k]] := by
  have e1 : min (k + 1) room = k + 1 := by omega
  have e2 : min k room = k := by omega
  simp only [comV, e1, e2, List.append_assoc]
  rw [List.take_succ_eq_append_getElem hk]

theorem comV_full (V L : List Int) (room k : Nat) (hr : room ≤ k) : comV V L room (k + 1) = comV V L room k := by
  have e1 : min (k + 1) room = room := by omega
  have e2 : min k room = room := by omega
  simp only [comV, e1, e2]

theorem comL_more (lost : Int) (room k : Nat) (hr : k < room) : comL lost room (k + 1) = comL lost room k := by
  unfold comL; omega

theorem comL_full (lost : Int) (room k : Nat) (hr : room ≤ k) : comL lost room (k + 1) = if comL lost room k < 100000 then comL lost room k + 1 else comL lost room k := by
  unfold comL; split <;> omega

end Go.Proofs.Ytaellaconpaejaa
