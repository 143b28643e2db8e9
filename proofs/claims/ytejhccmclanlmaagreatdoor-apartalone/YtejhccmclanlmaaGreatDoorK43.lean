/- Texts joined: Gf. -/
import Derived.Test.YtejhccmclanlmaaGreatDoorK40
set_option linter.unusedVariables false
set_option maxRecDepth 100000
namespace Go.Proofs.YtejhccmclanlmaaGreatDoor
open Go.RowKit
def Shp (s v:Nat) (K:KT):Prop:=List.length K=s∧∀ l∈K,List.length l=v
theorem Shp.sp {s v:Nat} {K:KT} (h:Shp s v K) (hv:1≤v) (a:ActT):Shp s v (spK K a):=by
 unfold spK
 split
 ·refine ⟨by rw [List.length_set];exact h.1,fun l hl=>?_⟩
  generalize setAt K a.2.1=p at *
  by_cases hp:p<List.length K
  ·rcases List.mem_or_eq_of_mem_set hl with hl|rfl
   ·exact h.2 l hl
   ·have e:K.getD p []=K[p]:=by simp [hp]
    have h1:=h.2 _ (List.getElem_mem hp)
    rw [e,useSet_len _ _ _ (by omega)]
    exact h1
  ·rw [List.set_eq_of_length_le (by omega)] at hl
   exact h.2 l hl
 ·exact h
theorem Shp.run {s v:Nat} (hv:1≤v) (C:Conf) (dn:Int) (L:List ActT) (te:Int):∀ (n:Nat) (D:Dom) (K:KT) (now:Int),Shp s v K→Shp s v (runD C dn L te n D K now).2
 | 0,D,K,now,h=>h
 | n+1,D,K,now,h=>by
  unfold runD
  split
  ·refine Shp.run hv C dn L te n _ _ _ ?_
   unfold stK
   split
   ·exact h.sp hv _
   ·exact h
  ·exact h
theorem Shp.empty (s v:Nat):Shp s v (emptyC s v):=⟨by simp [emptyC],fun l hl=>by rw [List.eq_of_mem_replicate hl];simp⟩
end Go.Proofs.YtejhccmclanlmaaGreatDoor
