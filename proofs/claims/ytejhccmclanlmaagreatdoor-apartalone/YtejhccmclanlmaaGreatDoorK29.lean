/- Texts joined: Wk. -/
import Derived.Test.YtejhccmclanlmaaGreatDoorK08
import Derived.Test.YtejhccmclanlmaaGreatDoorK23
import Derived.Test.YtejhccmclanlmaaGreatDoorK24
set_option linter.unusedVariables false
set_option maxRecDepth 100000
namespace Go.Proofs.YtejhccmclanlmaaGreatDoor
open Go.RowKit
set_option maxHeartbeats 2000000 in
theorem receiveW_ok (X:RC) (M:RM) (D:Dom) (K:KT) (now:Int) (c:Nat) (w:World) (h:RO X w M D K now) (hc:c<D.ins.length) (hch:c<X.C.ch.length) :
  Calls Tryz.prog 163 #[.pointer (some ⟨X.rb,0,none⟩),.int .i64 (c:Int)] w fun e w'=>e=.returned (.int .i64 (recvZ X.C D c))∧∃ M',M'.A=M.A∧RO X w' M' (recvD X.C D c) K now:=by
 have hbs:X.w0.heap.size≤w.heap.size:=h.ag.size
 have c3:=h.row.cell 3 _ rfl
 have c14:=h.row.cell 14 _ rfl
 rw [h.aI] at c3
 have hrb:=h.row.lt
 have hgi:=h.px.inr.lt
 dsimp only at hgi
 obtain ⟨a,cp,ev,g1,g2,hI,hcp,hmx⟩:=h.ringAt c hc
 obtain ⟨b,o,e1,t0,t1,t2⟩:=h.confIn.ch c hch
 have hb:b<w.heap.size:=World.block_lt_of_cell? _ _ t0
 rw [e1] at c14
 have l7:=h.confIn.l7
 have hO:=h.lI
 have hcI:(c:Int)<(D.ins.length:Int):=by omega
 have hcC:(c:Int)<(X.C.ch.length:Int):=by omega
 have HH:=hid h
 have CX:Hid (∀ wx,Below w.heap.size w wx→Calls Tryz.prog 178 #[.agg #[.slice a D.ins[c].1.length cp,.int .i64 D.ins[c].2],.int .i64 X.C.ch[c].2.2] wx fun e w'=>∃ v,e=.returned (.tuple #[.agg #[v,.int .i64 (recvL D.ins[c].1 D.ins[c].2 X.C.ch[c].2.2)],.int .i64 (recvX D.ins[c].1 D.ins[c].2 X.C.ch[c].2.2),.int .i64 (ckR D.ins[c].1 D.ins[c].2 X.C.ch[c].2.2)])∧w'.ownsRow wx.heap.size 3 1 v (recvV D.ins[c].1 D.ins[c].2 X.C.ch[c].2.2).length (ivs (recvV D.ins[c].1 D.ins[c].2 X.C.ch[c].2.2))∧Below wx.heap.size wx w'):=hid fun wx hbx=>receive_any a D.ins[c].1 cp D.ins[c].2 X.C.ch[c].2.2 wx (hI.keep hbx) hmx hcp
 have HR:Hid (recvR X.C D c=(recvV D.ins[c].1 D.ins[c].2 X.C.ch[c].2.2,recvL D.ins[c].1 D.ins[c].2 X.C.ch[c].2.2)∧recvZ X.C D c=recvX D.ins[c].1 D.ins[c].2 X.C.ch[c].2.2):=by
  refine hid ⟨?_,?_⟩
  ·unfold recvR;rw [show D.ins.getD c ([],0)=D.ins[c] by simp [hc],show X.C.ch.getD c (0,0,0)=X.C.ch[c] by simp [hch]]
  ·unfold recvZ;rw [show D.ins.getD c ([],0)=D.ins[c] by simp [hc],show X.C.ch.getD c (0,0,0)=X.C.ch[c] by simp [hch]]
 generalize recvV D.ins[c].1 D.ins[c].2 X.C.ch[c].2.2=rv at *
 generalize recvL D.ins[c].1 D.ins[c].2 X.C.ch[c].2.2=rL at *
 generalize recvX D.ins[c].1 D.ins[c].2 X.C.ch[c].2.2=rx at *
 generalize ckR D.ins[c].1 D.ins[c].2 X.C.ch[c].2.2=rk at *
 have HS:Hid (∀ w',Below w.heap.size w w'→w'.cell? ⟨X.rb,3,none⟩=some (.slice (some ⟨M.gI,0,none⟩) D.ins.length M.A.cI)∧w'.cell? ⟨X.rb,14,none⟩=some (.slice (some ⟨b,o,none⟩) X.C.ch.length X.B.c7)∧w'.cell? ⟨M.gI,c * 2,none⟩=some (.slice a D.ins[c].1.length cp)∧w'.cell? ⟨M.gI,c * 2+1,none⟩=some (.int .i64 D.ins[c].2)∧w'.cell? ⟨b,o+c * 3+2,none⟩=some (.int .i64 X.C.ch[c].2.2)):=hid fun w' hb'=>⟨bkeep hb' c3 lr,bkeep hb' c14 lr,bkeep hb' g1 lr,bkeep hb' g2 lr,bkeep hb' t2 lr⟩
 have hbz:Below w.heap.size w w.drew:=(Below.refl _ _).drew
 have hbz2:Below w.heap.size w (w.alloc (.cells #[.slice none 0 0,.int .i64 0] 90)).drew:=(below_new _ _).drew
 have RZ:Hid (RowAt (w.alloc (.cells #[.slice none 0 0,.int .i64 0] 90)).drew w.heap.size 90 [.slice none 0 0,.int .i64 0]):=hid (rowAt_new2 w w.heap.size [.slice none 0 0,.int .i64 0] 90 rfl)
 clear h hI t0 t1
 go_enter Tryz.func163,Tryz.ntmps163
 go_upto_region 1 with fail
 go_cut [5,6] (fun t u wx=>∃ Br v,t=.pointer (some ⟨Br,0,none⟩)∧u=.int .i64 rx∧Below w.heap.size w wx∧RowAt wx Br 90 [v,.int .i64 rL]∧wx.ownsRow w.heap.size 3 1 v rv.length (ivs rv)∧w.heap.size≤Br)
 case first=>
  go_region_held3 (fun w'=>w'.cell? ⟨X.rb,3,none⟩=some (.slice (some ⟨M.gI,0,none⟩) D.ins.length M.A.cI)∧w'.cell? ⟨X.rb,14,none⟩=some (.slice (some ⟨b,o,none⟩) X.C.ch.length X.B.c7)∧w'.cell? ⟨M.gI,c * 2,none⟩=some (.slice a D.ins[c].1.length cp)∧w'.cell? ⟨M.gI,c * 2+1,none⟩=some (.int .i64 D.ins[c].2)∧w'.cell? ⟨b,o+c * 3+2,none⟩=some (.int .i64 X.C.ch[c].2.2))
   (first|with_reducible exact HS.out _ hB2|with_reducible exact HS.out _ (hB2a _)|with_reducible exact HS.out _ (hB2c _ _)|with_reducible exact HS.out _ hbz|with_reducible exact HS.out _ hbz2|go_keep)
   (first
    | (go_at_call 178;with_reducible refine Calls.mono (CX.out _ hbz) ?_;rintro e w2 ⟨v,rfl,ho2,hb2⟩;obtain ⟨va,vc,rfl,_⟩:=owns_cells ho2;have hB2:=btrans hbz hb2;have HO2:=hid ho2;have hB2a:∀ o,Below w.heap.size w (w2.alloc o):=fun o=>btrans hB2 (below_new _ o))
    | (go_at_call 178;with_reducible refine Calls.mono (CX.out _ hbz2) ?_;rintro e w2 ⟨v,rfl,ho2,hb2⟩;obtain ⟨va,vc,rfl,_⟩:=owns_cells ho2;have hB2:=btrans hbz2 hb2;have HO2:=hid ho2;have HZ:=hid (RZ.out.below hb2 lr);have u0:=HZ.out.cell 0 _ rfl;have u1:=HZ.out.cell 1 _ rfl;have f0:=HZ.out.frozen 0;have f1:=HZ.out.frozen 1;have hB2c:∀ v0 v1,Below w.heap.size w ((w2.setCell ⟨w.heap.size,0,none⟩ v0).setCell ⟨w.heap.size,1,none⟩ v1):=fun v0 v1=>(hB2.setCell (p:=⟨w.heap.size,0,none⟩) lr _).setCell (p:=⟨w.heap.size,1,none⟩) lr _))
  all_goals
   go_wp2
   go_meet
   case rel=>
    first
     | (have hM:=hB2a;exact ⟨w2.heap.size,.slice va rv.length vc,rfl,rfl,btrans hB2 (below_new _ _),rowAt_new2 w2 _ [.slice va rv.length vc,.int .i64 rL] 90 rfl,owns_below HO2.out (below_new _ _),hB2.size⟩)
     | (have hM:=hB2c;exact ⟨w.heap.size,.slice va rv.length vc,rfl,rfl,hM _ _,rowAt_set1 (rowAt_set1 HZ.out 0 _) 1 _,owns_base (owns_agree HO2.out (fun x hx=>(heap_set_ne _ _ _ _ x (owns_ne HO2.out HZ.out (by decide) x hx)).trans (heap_set_ne _ _ _ _ x (owns_ne HO2.out HZ.out (by decide) x hx)))) (by simp),Nat.le_refl _⟩)
 case rest=>
  obtain ⟨Br,v,rfl,rfl,hbx,hRx,hOx,hge⟩:=hcut
  have HX:=hid (HH.out.below hbx)
  have HOX:=hid hOx
  obtain ⟨va,vc,rfl,_⟩:=owns_cells hOx
  have x3:=HX.out.row.cell 3 _ rfl
  have HaI:=HX.out.aI
  rw [HaI] at x3
  have y0:=hRx.cell 0 _ rfl
  have y1:=hRx.cell 1 _ rfl
  have ri:=HX.out.px.inr
  dsimp only at ri
  have i0:=ri.cell (c * 2) _ (inC_at M.V D.ins c hc).1
  have i1:=ri.cell (c * 2+1) _ (inC_at M.V D.ins c hc).2
  have k0:=ri.frozen (c * 2)
  have k1:=ri.frozen (c * 2+1)
  have HB:=hid hbx
  have HE:Hid (RO X ((wc.setCell ⟨M.gI,c * 2,none⟩ (.slice va rv.length vc)).setCell ⟨M.gI,c * 2+1,none⟩ (.int .i64 rL)) (vM M (2 * c+2) (.slice va rv.length vc)) (recvD X.C D c) K now):=by
   have:=HH.out.received c hc (v:=.slice va rv.length vc) (r:=(rv,rL)) hbx hOx
   unfold recvD
   rw [HR.out.1]
   exact hid this
  clear hOx HOX hbx hRx ri HS CX RZ hbz hbz2 HX
  go_wp2
  go_region
  all_goals
   go_wp2
   go_ret
   exact ⟨ret_int HR.out.2.symm,vM M _ _,rfl,HE.out.below (Below.refl _ _).drew⟩
end Go.Proofs.YtejhccmclanlmaaGreatDoor
