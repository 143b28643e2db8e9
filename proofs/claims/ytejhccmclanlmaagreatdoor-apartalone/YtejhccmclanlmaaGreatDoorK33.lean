/- Texts joined: Wf. -/
import Derived.Test.YtejhccmclanlmaaGreatDoorK22
import Derived.Test.YtejhccmclanlmaaGreatDoorK24
set_option linter.unusedVariables false
set_option maxRecDepth 100000
namespace Go.Proofs.YtejhccmclanlmaaGreatDoor
open Go.RowKit
set_option maxHeartbeats 1000000 in
theorem tellW_ok (X:RC) (M:RM) (D:Dom) (K:KT) (now kd p q:Int) (w:World) (h:RO X w M D K now) (hl:D.evs.length≤1000000000000) :
  Calls Tryz.prog 159 #[.pointer (some ⟨X.rb,0,none⟩),.int .i64 kd,.int .i64 p,.int .i64 q] w fun e w'=>e=.returned (.tuple #[])∧∃ a' c',RO X w' (evM M a' c') (tellE D (now,kd,p,q)) K now:=by
 have hbs:X.w0.heap.size≤w.heap.size:=h.ag.size
 have c6:=h.row.cell 6 _ rfl
 have c19:=h.row.cell 19 _ rfl
 have hbA:Below w.heap.size w (w.alloc (.cells #[.int .i64 now,.int .i64 kd,.int .i64 p,.int .i64 q] 92)).drew:=(below_new _ _).drew
 have HA:=hid (h.below hbA)
 have RE:Hid (RowAt (w.alloc (.cells #[.int .i64 now,.int .i64 kd,.int .i64 p,.int .i64 q] 92)).drew w.heap.size 92 [.int .i64 now,.int .i64 kd,.int .i64 p,.int .i64 q]):=hid (rowAt_new2 w w.heap.size [.int .i64 now,.int .i64 kd,.int .i64 p,.int .i64 q] 92 rfl)
 have c6':∀ o,(w.alloc o).cell? ⟨X.rb,6,none⟩=some (.slice M.A.aE D.evs.length M.A.cE):=fun o=>cell_old o c6
 clear hbA h
 obtain ⟨⟨aJ,aR,aI,aT,aO,aE,cJ,cR,cI,cT,cO,cE⟩,V,gI,gO,aK,cK⟩:=M
 dsimp only at *
 go_enter Tryz.func159,Tryz.ntmps159
 go_wp2
 go_region_law (first
  | (refine step_appG (by rfl) _ _ 44 92 (by rfl) _ 4 32 Tryz.underlying44 Tryz.info92x rfl (by omega) X.w0.heap.size (.slice aE D.evs.length cE) D.evs.length (fE D.evs) (by rfl) HA.out.px.evs w.heap.size 1 1 (fE [(now,kd,p,q)]) (by rfl) rfl (fun j u hu=>RE.out.cell j u hu) (fE_one _) (by omega) (by simp [maxLen];omega) (by omega) (by simp;omega) ?_;intro g cap w4 hown4 hgrow4 hat4;have r4:RowAt w4 X.rb 152 _:=(hgrow4.block X.rb HA.out.row.lt (fun e=>owns_ne HA.out.px.evs HA.out.row (by decide) X.rb e.symm rfl)).trans HA.out.row;have e0:=r4.cell 6 _ rfl;have f0:=r4.frozen 6;have HO4:=hid hown4;have HG4:=hid hgrow4;have HT4:=hid hat4;clear hown4 hgrow4 r4 hat4))
 all_goals
  have HE:Hid (∃ a' c',RO X (w4.setCell ⟨X.rb,6,none⟩ (.slice (some ⟨g,0,none⟩) (D.evs.length+1) cap)) (evM ⟨⟨aJ,aR,aI,aT,aO,aE,cJ,cR,cI,cT,cO,cE⟩,V,gI,gO,aK,cK⟩ a' c') (tellE D (now,kd,p,q)) K now):=by
   have:=HA.out.told (E:=D.evs++[(now,kd,p,q)]) (a':=some ⟨g,0,none⟩) (c':=cap) HG4.out (by rw [fE_app,List.length_append];exact HO4.out) (fun x hx=>by
    simp only [Value.ownBlock,Option.some.injEq] at hx
    subst hx
    rcases HT4.out with h'|h'
    ·exact .inl h'
    ·exact .inr (by omega))
   rw [List.length_append] at this
   exact hid ⟨_,_,this⟩
  clear HA HO4 HG4 HT4 c6 c6'
  go_wp2
  go_end0
  exact ⟨rfl,HE.out⟩
end Go.Proofs.YtejhccmclanlmaaGreatDoor
