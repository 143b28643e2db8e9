/- Texts joined: Wj. -/
import Derived.Test.YtejhccmclanlmaaGreatDoorK22
import Derived.Test.YtejhccmclanlmaaGreatDoorK24
set_option linter.unusedVariables false
set_option maxRecDepth 100000
namespace Go.Proofs.YtejhccmclanlmaaGreatDoor
open Go.RowKit
theorem Tryz.info3w:(Tryz.prog.info? 3).map (fun i=>(i.zero,i.size,i.bytes))=some (some (.int .i64 0),1,8):=by kernel_rfl
theorem ivs_one (L:List Int):∀ u∈ivs L,u.oneCell'=true:=fun u hu=>by
 simp only [ivs,List.mem_map] at hu
 obtain ⟨x,_,rfl⟩:=hu
 rfl
set_option maxHeartbeats 1000000 in
theorem sendW_ok (X:RC) (M:RM) (D:Dom) (K:KT) (now v:Int) (c:Nat) (w:World) (h:RO X w M D K now) (hc:c<D.out.length) (hl:D.out[c].length≤1000000000) :
  Calls Tryz.prog 162 #[.pointer (some ⟨X.rb,0,none⟩),.int .i64 (c:Int),.int .i64 v] w fun e w'=>e=.returned (.tuple #[])∧∃ M',M'.A=M.A∧RO X w' M' (sendD D c v) K now:=by
 have hbs:X.w0.heap.size≤w.heap.size:=h.ag.size
 have c5:=h.row.cell 5 _ rfl
 have HaO:=hid h.aO
 rw [h.aO] at c5
 have hrb:=h.row.lt
 have hgo:=h.px.outr.lt
 dsimp only at hgo
 obtain ⟨g1,o⟩:=h.outAt c hc
 obtain ⟨a,cp,ev,hcp,_,_,_⟩:=owns_cells o
 have hne:=h.px.ne_ints (2 * c+3)
 dsimp only at hne
 have HN:=hid hne
 have HV:=hid ev
 rw [ev] at g1 o
 have hO:=h.lO
 have hcI:(c:Int)<(D.out.length:Int):=by omega
 have hbA:Below w.heap.size w (w.alloc (.cells #[.int .i64 v] 3)).drew:=(below_new _ _).drew
 have HA:=hid (h.below hbA)
 have HO:=hid (owns_below o hbA)
 have RE:Hid (RowAt (w.alloc (.cells #[.int .i64 v] 3)).drew w.heap.size 3 [.int .i64 v]):=hid (rowAt_new2 w w.heap.size [.int .i64 v] 3 rfl)
 have c5':∀ o,(w.alloc o).cell? ⟨X.rb,5,none⟩=some (.slice (some ⟨M.gO,0,none⟩) D.out.length M.A.cO):=fun o=>cell_old o c5
 have g1':∀ o,(w.alloc o).cell? ⟨M.gO,c,none⟩=some (.slice a D.out[c].length cp):=fun o=>cell_old o g1
 clear hbA h hne ev o
 go_enter Tryz.func162,Tryz.ntmps162
 go_wp2
 go_region_law (first
  | (refine step_appG (by rfl) _ _ 23 3 (by rfl) _ 1 8 Tryz.underlying23 Tryz.info3w rfl (by omega) X.w0.heap.size (.slice a D.out[c].length cp) D.out[c].length (ivs D.out[c]) (by rfl) HO.out w.heap.size 1 1 (ivs [v]) (by rfl) rfl (fun j u hu=>RE.out.cell j u hu) (ivs_one _) (by omega) (by simp [maxLen];omega) (by omega) (by simp;omega) ?_;intro g cap w4 hown4 hgrow4 hat4;have r4:RowAt w4 M.gO 23 _:=(hgrow4.block M.gO HA.out.px.outr.lt (fun e=>(HN.out M.gO (by rw [HV.out];exact e.symm)).2.2 rfl)).trans HA.out.px.outr;have q4:RowAt w4 X.rb 152 _:=(hgrow4.block X.rb HA.out.row.lt (fun e=>(HN.out X.rb (by rw [HV.out];exact e.symm)).1 rfl)).trans HA.out.row;have e0:=r4.cell c _ (outC_at M.V _ c hc);have f0:=r4.frozen c;have e5:=q4.cell 5 _ rfl;rw [HaO.out] at e5;have HO4:=hid hown4;have HG4:=hid hgrow4;have HT4:=hid hat4;clear hown4 hgrow4 r4 hat4 q4))
 all_goals
  have HE:Hid (RO X (w4.setCell ⟨M.gO,c,none⟩ (.slice (some ⟨g,0,none⟩) (D.out[c].length+1) cap)) (vM M (2 * c+3) (.slice (some ⟨g,0,none⟩) (D.out[c].length+1) cap)) (sendD D c v) K now):=by
   have:=HA.out.sent c hc (v:=.slice (some ⟨g,0,none⟩) (D.out[c].length+1) cap) (L:=D.out[c]++[v]) (w1:=w4) (by rw [HV.out];exact HG4.out) (by rw [ivs_app,List.length_append];exact HO4.out) (fun x hx=>by
    simp only [Value.ownBlock,Option.some.injEq] at hx
    subst hx
    rw [HV.out]
    rcases HT4.out with h'|h'
    ·exact .inl h'
    ·exact .inr (by omega))
   unfold sendD
   rw [show D.out.getD c []=D.out[c] by simp [hc]]
   exact hid this
  clear HA HO4 HG4 HT4 c5 c5' HO
  go_wp2
  go_end0
  exact ⟨rfl,vM M _ _,rfl,HE.out⟩
end Go.Proofs.YtejhccmclanlmaaGreatDoor
