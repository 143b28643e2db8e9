/- Wi Wj Wk Wy -/
import Derived.Test.YtejhccmclanlmaaGreatDoorV21
import Derived.Test.YtejhccmclanlmaaGreatDoorV22
set_option linter.all false
set_option maxRecDepth 100000
set_option maxHeartbeats 8000000
namespace Go.Proofs.YtejhccmclanlmaaGreatDoor
open Go.RowKit Go.Proofs.Tryz
variable {D:Dom} {now:Int} {K:KT} {g0:Nat} {s:PS} {X:RC} {M:RM} {w wx:World}
theorem Zta (X:RC) (M:RM) (D:Dom) (K:KT) (now:Int) (c:Nat) (w:World) (h:RO X w M D K now) (hc:c<D.tak.length):
  Calls prog 164 #[.pointer (some ⟨X.rb,0,none⟩),.int .i64 (c:Int)] w fun e w'=>e=.returned (.int .i64 (D.tak.getD c 0))∧RO X w' M (Znq D c) K now:=by
 have c4:=h.row.cell 4 _ rfl;have HH:=hid h;have o:=h.takOwn;obtain ⟨g,hg,⟨a2,a0⟩,a3⟩:=Zb2 o (by omega);have hi:=Yc (Zz o).1;obtain ⟨b,of,e1,ct⟩:=hi c hc;rw [hg] at e1 c4;cases e1;rw [Nat.zero_add] at ct;have hl:=(Zz o).2.2;have a1:D.tak.getD c 0=D.tak[c]:=by simp [hc]
 have fz:w.frozen? ⟨g,c,none⟩=false:=by simp [World.frozen?,a0]
 have a4:(c:Int)<(D.tak.length:Int):=by omega
 rw [a1];clear h o hi;go_enter func164,ntmps164;go_wp2;go_ret;exact ⟨rfl,HH.out.taken hg c 0⟩
theorem Zp9 (X:RC) (M:RM) (D:Dom) (K:KT) (now:Int) (j:J6) (w:World) (h:RO X w M D K now) (h0:0≤j.1) (h1:j.1<X.C.ta.length):
  Calls prog 165 #[.pointer (some ⟨X.rb,0,none⟩),jv j] w (RB (.int .i64 (tk X.C j.1.toNat).2.2.1) w):=by
 obtain ⟨j0,j1,j2,j3,j4,j5⟩:=j;dsimp only [jv] at *
 obtain ⟨k,rfl⟩:∃ k:Nat,j0=(k:Int):=⟨j0.toNat,by omega⟩
 have hk:k<X.C.ta.length:=by omega
 have a0:=h.row.cell 15 _ rfl;have a1:=h.row.lt;have hC:=h.confIn;obtain ⟨b,o,e1,t0,t1,t2,t3⟩:=hC.ta k hk;have hl:=hC.l8;rw [e1] at a0;have hb:b<w.heap.size:=World.block_lt_of_cell? _ _ t0;have e:(tk X.C ((k:Int)).toNat).2.2.1=X.C.ta[k].2.2.1:=by simp [tk,hk]
 rw [e];have HB:=fun o=>hid (Za w o)
 clear h hC;go_enter func165,ntmps165;go_wp2;go_quiet (fail)
 go_wp2;go_ret;exact ⟨rfl,below_drewN (HB _).out _⟩
theorem Zb8 (X:RC) (M:RM) (D:Dom) (K:KT) (now:Int) (a:Qg) (w:World) (h:RO X w M D K now) (h0:0≤a.2.1):
  Calls prog 161 #[.pointer (some ⟨X.rb,0,none⟩),av a] w fun e w'=>e=.returned (.bool (Zht X.C X.dn a))∧Below w.heap.size w w':=by
 obtain ⟨k,n,v⟩:=a;dsimp only at h0;obtain ⟨n,rfl⟩:∃ m:Nat,n=(m:Int):=⟨n.toNat,by omega⟩
 have a2:=h.row.cell 13 _ rfl;have a1:=h.row.cell 14 _ rfl;have a3:=h.row.cell 16 _ rfl;have a4:=h.row.lt;have hC:=h.confIn;have l7:=hC.l7;have l6:=hC.l6;have HB:=fun o=>hid (Za w o)
 have HX:=hid hC;clear h hC;unfold Zht;dsimp only;rw [Int.toNat_natCast];by_cases h4:k=4
 ·subst h4
  by_cases hn:n<X.C.ch.length
  ·obtain ⟨b,o,e1,t0,t1,t2⟩:=HX.out.ch n hn
   rw [e1] at a1;have hb:b<w.heap.size:=World.block_lt_of_cell? _ _ t0;have a0:(n:Int)<(X.C.ch.length:Int):=by omega
   have e:X.C.ch.getD n (0,0,0)=X.C.ch[n]:=by simp [hn]
   rw [e];go_enter func161,ntmps161;go_wp2;go_quiet (fail)
   all_goals
    go_wp2;go_ret;exact ⟨Yh (by first|rfl|simp [a0]|(simp [a0];rfl)),below_drewN (HB _).out _⟩
  ·have a0:¬ (n:Int)<(X.C.ch.length:Int):=by omega
   go_enter func161,ntmps161;go_wp2;go_quiet (fail)
   all_goals
    go_wp2;go_ret;exact ⟨Yh (by first|rfl|simp [a0]|(simp [a0];rfl)),below_drewN (HB _).out _⟩
 simp only [h4,if_false];by_cases h5:k=5
 ·subst h5
  by_cases hn:n<X.C.ch.length
  ·obtain ⟨b,o,e1,t0,t1,t2⟩:=HX.out.ch n hn
   rw [e1] at a1;have hb:b<w.heap.size:=World.block_lt_of_cell? _ _ t0;have a0:(n:Int)<(X.C.ch.length:Int):=by omega
   have e:X.C.ch.getD n (0,0,0)=X.C.ch[n]:=by simp [hn]
   rw [e];go_enter func161,ntmps161;go_wp2;go_quiet (fail)
   all_goals
    go_wp2;go_ret;exact ⟨Yh (by first|rfl|simp [a0]|(simp [a0];rfl)),below_drewN (HB _).out _⟩
  ·have a0:¬ (n:Int)<(X.C.ch.length:Int):=by omega
   go_enter func161,ntmps161;go_wp2;go_quiet (fail)
   all_goals
    go_wp2;go_ret;exact ⟨Yh (by first|rfl|simp [a0]|(simp [a0];rfl)),below_drewN (HB _).out _⟩
 simp only [h5,if_false];by_cases h7:k=7
 ·subst h7
  by_cases hn:n<X.C.ow.length
  ·obtain ⟨b,o,e1,t0⟩:=HX.out.ow n hn
   rw [e1] at a2;have hb:b<w.heap.size:=World.block_lt_of_cell? _ _ t0;have a0:(n:Int)<(X.C.ow.length:Int):=by omega
   have e:X.C.ow.getD n 0=X.C.ow[n]:=by simp [hn]
   rw [e];go_enter func161,ntmps161;go_wp2;go_quiet (fail)
   all_goals
    go_wp2;go_ret;exact ⟨Yh (by first|rfl|simp [a0]|(simp [a0];rfl)),below_drewN (HB _).out _⟩
  ·have a0:¬ (n:Int)<(X.C.ow.length:Int):=by omega
   go_enter func161,ntmps161;go_wp2;go_quiet (fail)
   all_goals
    go_wp2;go_ret;exact ⟨Yh (by first|rfl|simp [a0]|(simp [a0];rfl)),below_drewN (HB _).out _⟩
 simp only [h7,if_false];go_enter func161,ntmps161;go_wp2;go_ret;exact ⟨rfl,(HB _).out⟩
theorem Tryz.info3w:(prog.info? 3).map (fun i=>(i.zero,i.size,i.bytes))=some (some (.int .i64 0),1,8):=by kernel_rfl
theorem Zv9 (L:List Int):∀ u∈ivs L,u.oneCell'=true:=fun u hu=>by
 simp only [ivs,List.mem_map] at hu;obtain ⟨x,_,rfl⟩:=hu;rfl
theorem Zt8 (X:RC) (M:RM) (D:Dom) (K:KT) (now v:Int) (c:Nat) (w:World) (h:RO X w M D K now) (hc:c<D.out.length) (hl:D.out[c].length≤1000000000):
  Calls prog 162 #[.pointer (some ⟨X.rb,0,none⟩),.int .i64 (c:Int),.int .i64 v] w fun e w'=>e=.returned (.tuple #[])∧∃ M',M'.A=M.A∧RO X w' M' (Zjj D c v) K now:=by
 have ac:X.w0.heap.size≤w.heap.size:=h.ag.size;have c5:=h.row.cell 5 _ rfl;have a9:=hid h.aO;rw [h.aO] at c5;have ad:=h.row.lt;have aa:=h.px.outr.lt;dsimp only at aa;obtain ⟨g1,o⟩:=h.outAt c hc;obtain ⟨a,cp,ev,ae,_,_,_⟩:=Zu o;have a3:=h.px.ne_ints (2*c+3);dsimp only at a3;have HN:=hid a3;have HV:=hid ev;rw [ev] at g1 o;have hO:=h.lO;have af:(c:Int)<(D.out.length:Int):=by omega
 have a4:Below w.heap.size w (w.alloc (.cells #[.int .i64 v] 3)).drew:=(Za _ _).drew;have HA:=hid (h.below a4);have HO:=hid (Zy o a4);have RE:Hid (Zf (w.alloc (.cells #[.int .i64 v] 3)).drew w.heap.size 3 [.int .i64 v]):=hid (Zc w w.heap.size [.int .i64 v] 3 rfl);have ab:∀ o,(w.alloc o).cell? ⟨X.rb,5,none⟩=some (.slice (some ⟨M.gO,0,none⟩) D.out.length M.A.cO):=fun o=>Zl o c5
 have ah:∀ o,(w.alloc o).cell? ⟨M.gO,c,none⟩=some (.slice a D.out[c].length cp):=fun o=>Zl o g1
 clear a4 h a3 ev o;go_enter func162,ntmps162;go_wp2;go_region_law (first
  | (refine Zak (by rfl) _ _ 23 3 (by rfl) _ 1 8 underlying23 Tryz.info3w rfl (by omega) X.w0.heap.size (.slice a D.out[c].length cp) D.out[c].length (ivs D.out[c]) (by rfl) HO.out w.heap.size 1 1 (ivs [v]) (by rfl) rfl (fun j u hu=>RE.out.cell j u hu) (Zv9 _) (by omega) (by simp [maxLen];omega) (by omega) (by simp;omega) ?_;intro g a5 w4 a1 a0 a2;have r4:Zf w4 M.gO 23 _:=(a0.block M.gO HA.out.px.outr.lt (fun e=>(HN.out M.gO (by rw [HV.out];exact e.symm)).2.2 rfl)).trans HA.out.px.outr;have q4:Zf w4 X.rb 152 _:=(a0.block X.rb HA.out.row.lt (fun e=>(HN.out X.rb (by rw [HV.out];exact e.symm)).1 rfl)).trans HA.out.row;have e0:=r4.cell c _ (Zdn M.V _ c hc);have f0:=r4.frozen c;have e5:=q4.cell 5 _ rfl;rw [a9.out] at e5;have a6:=hid a1;have a7:=hid a0;have a8:=hid a2;clear a1 a0 r4 a2 q4))
 all_goals
  have HE:Hid (RO X (w4.setCell ⟨M.gO,c,none⟩ (.slice (some ⟨g,0,none⟩) (D.out[c].length+1) a5)) (vM M (2*c+3) (.slice (some ⟨g,0,none⟩) (D.out[c].length+1) a5)) (Zjj D c v) K now):=by
   have:=HA.out.sent c hc (v:=.slice (some ⟨g,0,none⟩) (D.out[c].length+1) a5) (L:=D.out[c]++[v]) (w1:=w4) (by rw [HV.out];exact a7.out) (by rw [Zsi,List.length_append];exact a6.out) (fun x hx=>by
    simp only [Value.ownBlock,Option.some.injEq] at hx;subst hx;rw [HV.out];rcases a8.out with h'|h'
    ·exact .inl h'
    ·exact .inr (by omega))
   unfold Zjj;rw [show D.out.getD c []=D.out[c] by simp [hc]];exact hid this
  clear HA a6 a7 a8 c5 ab HO;go_wp2;go_end0;exact ⟨rfl,vM M _ _,rfl,HE.out⟩
theorem Znn (X:RC) (M:RM) (D:Dom) (K:KT) (now:Int) (c:Nat) (w:World) (h:RO X w M D K now) (hc:c<D.ins.length) (hch:c<X.C.ch.length):
  Calls prog 163 #[.pointer (some ⟨X.rb,0,none⟩),.int .i64 (c:Int)] w fun e w'=>e=.returned (.int .i64 (Zlb X.C D c))∧∃ M',M'.A=M.A∧RO X w' M' (Zds X.C D c) K now:=by
 have ad:X.w0.heap.size≤w.heap.size:=h.ag.size;have c3:=h.row.cell 3 _ rfl;have a6:=h.row.cell 14 _ rfl;rw [h.aI] at c3;have ae:=h.row.lt;have a8:=h.px.inr.lt;dsimp only at a8;obtain ⟨a,cp,ev,g1,g2,hI,a9,aa⟩:=h.ringAt c hc;obtain ⟨b,o,e1,t0,t1,t2⟩:=h.confIn.ch c hch;have hb:b<w.heap.size:=World.block_lt_of_cell? _ _ t0;rw [e1] at a6;have l7:=h.confIn.l7;have hO:=h.lI;have af:(c:Int)<(D.ins.length:Int):=by omega
 have ah:(c:Int)<(X.C.ch.length:Int):=by omega
 have HH:=hid h;have CX:Hid (∀ wx,Below w.heap.size w wx→Calls prog 178 #[.agg #[.slice a D.ins[c].1.length cp,.int .i64 D.ins[c].2],.int .i64 X.C.ch[c].2.2] wx fun e w'=>∃ v,e=.returned (.tuple #[.agg #[v,.int .i64 (Zjg D.ins[c].1 D.ins[c].2 X.C.ch[c].2.2)],.int .i64 (Zhk D.ins[c].1 D.ins[c].2 X.C.ch[c].2.2),.int .i64 (ckR D.ins[c].1 D.ins[c].2 X.C.ch[c].2.2)])∧w'.ownsRow wx.heap.size 3 1 v (Zgw D.ins[c].1 D.ins[c].2 X.C.ch[c].2.2).length (ivs (Zgw D.ins[c].1 D.ins[c].2 X.C.ch[c].2.2))∧Below wx.heap.size wx w'):=hid fun wx hbx=>Zmo a D.ins[c].1 cp D.ins[c].2 X.C.ch[c].2.2 wx (hI.keep hbx) aa a9
 have HR:Hid (Zrf X.C D c=(Zgw D.ins[c].1 D.ins[c].2 X.C.ch[c].2.2,Zjg D.ins[c].1 D.ins[c].2 X.C.ch[c].2.2)∧Zlb X.C D c=Zhk D.ins[c].1 D.ins[c].2 X.C.ch[c].2.2):=by
  refine hid ⟨?_,?_⟩
  ·unfold Zrf;rw [show D.ins.getD c ([],0)=D.ins[c] by simp [hc],show X.C.ch.getD c (0,0,0)=X.C.ch[c] by simp [hch]]
  ·unfold Zlb;rw [show D.ins.getD c ([],0)=D.ins[c] by simp [hc],show X.C.ch.getD c (0,0,0)=X.C.ch[c] by simp [hch]]
 generalize Zgw D.ins[c].1 D.ins[c].2 X.C.ch[c].2.2=rv at *
 generalize Zjg D.ins[c].1 D.ins[c].2 X.C.ch[c].2.2=rL at *
 generalize Zhk D.ins[c].1 D.ins[c].2 X.C.ch[c].2.2=rx at *
 generalize ckR D.ins[c].1 D.ins[c].2 X.C.ch[c].2.2=rk at *
 have HS:Hid (∀ w',Below w.heap.size w w'→w'.cell? ⟨X.rb,3,none⟩=some (.slice (some ⟨M.gI,0,none⟩) D.ins.length M.A.cI)∧w'.cell? ⟨X.rb,14,none⟩=some (.slice (some ⟨b,o,none⟩) X.C.ch.length X.B.c7)∧w'.cell? ⟨M.gI,c*2,none⟩=some (.slice a D.ins[c].1.length cp)∧w'.cell? ⟨M.gI,c*2+1,none⟩=some (.int .i64 D.ins[c].2)∧w'.cell? ⟨b,o+c*3+2,none⟩=some (.int .i64 X.C.ch[c].2.2)):=hid fun w' hb'=>⟨Zg hb' c3 lr,Zg hb' a6 lr,Zg hb' g1 lr,Zg hb' g2 lr,Zg hb' t2 lr⟩
 have a3:Below w.heap.size w w.drew:=br.drew;have a0:Below w.heap.size w (w.alloc (.cells #[.slice none 0 0,.int .i64 0] 90)).drew:=(Za _ _).drew;have RZ:Hid (Zf (w.alloc (.cells #[.slice none 0 0,.int .i64 0] 90)).drew w.heap.size 90 [.slice none 0 0,.int .i64 0]):=hid (Zc w w.heap.size [.slice none 0 0,.int .i64 0] 90 rfl);clear h hI t0 t1;go_enter func163,ntmps163;go_upto_region 1 with fail;go_cut [5,6] (fun t u wx=>∃ Br v,t=.pointer (some ⟨Br,0,none⟩)∧u=.int .i64 rx∧Below w.heap.size w wx∧Zf wx Br 90 [v,.int .i64 rL]∧wx.ownsRow w.heap.size 3 1 v rv.length (ivs rv)∧w.heap.size≤Br)
 case first=>
  go_region_held3 (fun w'=>w'.cell? ⟨X.rb,3,none⟩=some (.slice (some ⟨M.gI,0,none⟩) D.ins.length M.A.cI)∧w'.cell? ⟨X.rb,14,none⟩=some (.slice (some ⟨b,o,none⟩) X.C.ch.length X.B.c7)∧w'.cell? ⟨M.gI,c*2,none⟩=some (.slice a D.ins[c].1.length cp)∧w'.cell? ⟨M.gI,c*2+1,none⟩=some (.int .i64 D.ins[c].2)∧w'.cell? ⟨b,o+c*3+2,none⟩=some (.int .i64 X.C.ch[c].2.2))
   (first|with_reducible exact HS.out _ hB2|with_reducible exact HS.out _ (hB2a _)|with_reducible exact HS.out _ (hB2c _ _)|with_reducible exact HS.out _ a3|with_reducible exact HS.out _ a0|go_keep)
   (first
    | (go_at_call 178;with_reducible refine Calls.mono (CX.out _ a3) ?_;rintro e w2 ⟨v,rfl,a1,a4⟩;obtain ⟨va,vc,rfl,_⟩:=Zu a1;have hB2:=Zb a3 a4;have a2:=hid a1;have hB2a:∀ o,Below w.heap.size w (w2.alloc o):=fun o=>Zb hB2 (Za _ o))
    | (go_at_call 178;with_reducible refine Calls.mono (CX.out _ a0) ?_;rintro e w2 ⟨v,rfl,a1,a4⟩;obtain ⟨va,vc,rfl,_⟩:=Zu a1;have hB2:=Zb a0 a4;have a2:=hid a1;have HZ:=hid (RZ.out.below a4 lr);have u0:=HZ.out.cell 0 _ rfl;have u1:=HZ.out.cell 1 _ rfl;have f0:=HZ.out.frozen 0;have f1:=HZ.out.frozen 1;have hB2c:∀ v0 v1,Below w.heap.size w ((w2.setCell ⟨w.heap.size,0,none⟩ v0).setCell ⟨w.heap.size,1,none⟩ v1):=fun v0 v1=>(hB2.setCell (p:=⟨w.heap.size,0,none⟩) lr _).setCell (p:=⟨w.heap.size,1,none⟩) lr _))
  all_goals
   go_wp2;go_meet
   case rel=>
    first
     | (have hM:=hB2a;exact ⟨w2.heap.size,.slice va rv.length vc,rfl,rfl,Zb hB2 (Za _ _),Zc w2 _ [.slice va rv.length vc,.int .i64 rL] 90 rfl,Zy a2 (Za _ _),hB2.size⟩)
     | (have hM:=hB2c;exact ⟨w.heap.size,.slice va rv.length vc,rfl,rfl,hM _ _,Ze (Ze HZ.out 0 _) 1 _,Qd (Zi a2.out (fun x hx=>(Zd _ _ _ _ x (Yi a2.out HZ.out (by decide) x hx)).trans (Zd _ _ _ _ x (Yi a2.out HZ.out (by decide) x hx)))) (by simp),lr⟩)
 case rest=>
  obtain ⟨Br,v,rfl,rfl,hbx,a7,a5,ai⟩:=hcut;have HX:=hid (HH.out.below hbx);have ab:=hid a5;obtain ⟨va,vc,rfl,_⟩:=Zu a5;have x3:=HX.out.row.cell 3 _ rfl;have ac:=HX.out.aI;rw [ac] at x3;obtain ⟨y0,y1⟩:=a7.q2 rfl rfl;have ri:=HX.out.px.inr;dsimp only at ri;have i0:=ri.cell (c*2) _ (Zfi M.V D.ins c hc).1;have i1:=ri.cell (c*2+1) _ (Zfi M.V D.ins c hc).2;have k0:=ri.frozen (c*2);have k1:=ri.frozen (c*2+1);have HB:=hid hbx;have HE:Hid (RO X ((wc.setCell ⟨M.gI,c*2,none⟩ (.slice va rv.length vc)).setCell ⟨M.gI,c*2+1,none⟩ (.int .i64 rL)) (vM M (2*c+2) (.slice va rv.length vc)) (Zds X.C D c) K now):=by
   have:=HH.out.received c hc (v:=.slice va rv.length vc) (r:=(rv,rL)) hbx a5
   unfold Zds;rw [HR.out.1];exact hid this
  clear a5 ab hbx a7 ri HS CX RZ a3 a0 HX;go_wp2;go_region
  all_goals
   go_wp2;go_ret;exact ⟨Zh HR.out.2.symm,vM M _ _,rfl,HE.out.below br.drew⟩
theorem PX.shift (h:PX w s) (hk:∀ x,s.base≤x→(∀ p∈s.fr,p.1≠x)→wx.heap[x]? = w.heap[x]?):PX wx {s with fr:=[]}:=by
 have a3:=h.row;have a4:=h.rb_ge;obtain ⟨a1,h⟩:=h;have a2:∀ x,a1 x≠0→∀ p∈s.fr,p.1≠x:=fun x hx p hp e=>hx (by rw [← e];exact h.lf p hp)
 have a6:s.rb<wx.heap.size:=(Array.getElem?_eq_some_iff.1 ((hk s.rb a4 (a2 _ (by rw [h.l1];decide))).trans a3)).1;refine ⟨a1,⟨fun l w' hw'=>?_,by show s.base≤_;omega,h.o0,h.l1,h.l2,h.l3,h.l4,h.l5,h.l7,fun p hp=>by simp at hp⟩⟩;by_cases hl:l=0
 ·subst hl
  intro p hp;simp at hp
 ·have a0:s.P l w':=h.ps l w' (fun x hx ho=>by
   have hb:s.base≤x:=h.o0 x (by rw [ho];exact hl);have e:=hk x hb (a2 x (by rw [ho];exact hl));have a5:x<wx.heap.size:=by
    rw [Array.getElem?_eq_getElem hx] at e;exact (Array.getElem?_eq_some_iff.1 e).1
   exact (hw' x a5 ho).trans e)
  match l,hl,a0 with
  | 0,hl,_=>exact absurd rfl hl
  | 1,_,a0=>exact a0
  | 2,_,a0=>exact a0
  | 3,_,a0=>exact a0
  | 4,_,a0=>exact a0
  | 5,_,a0=>exact a0
  | 6,_,a0=>exact a0
  | n+7,_,a0=>exact a0
theorem RO.domAt (h:RO X w M D K now) (hk:∀ x,X.w0.heap.size≤x→(∀ p∈X.fr,p.1≠x)→wx.heap[x]? = w.heap[x]?):Yz wx M.A D∧Z8 wx M.aK K:=by
 have px:=h.px.shift hk;have hI:=h.lI;have hO:=h.lO;have j:=Zz px.jobs;have e:=Zz px.evs;have r0:=px.ints 0;have t0:=px.ints 1;dsimp only at r0 t0;rw [h.v0] at r0;rw [h.v1] at t0;have r:=Zz r0;have t:=Zz t0;refine ⟨⟨Za5 j.1,Yc r.1,?_,Yc t.1,?_,Zb4 e.1,j.2.2,r.2.2,by omega,t.2.2,by omega,e.2.2⟩,px.cache⟩
 ·intro i hi
  obtain ⟨c0,c1⟩:=Zfi M.V D.ins i hi;have o:=px.ints (2*i+2);dsimp only at o;rw [Zvc,show D.ins.getD i ([],0)=D.ins[i] by simp [hi]] at o;obtain ⟨a,c,ev,hc,hm,hI,_⟩:=Zu o;refine ⟨M.gI,0,a,c,h.aI,?_,?_,Yc hI,hc,by simp only [maxLen] at hm;omega⟩
  ·rw [Nat.zero_add,← ev];exact px.inr.cell _ _ c0
  ·rw [Nat.zero_add];exact px.inr.cell _ _ c1
 ·intro i hi
  have o:=px.ints (2*i+3);dsimp only at o;rw [Zn8,show D.out.getD i []=D.out[i] by simp [hi]] at o;obtain ⟨a,c,ev,hc,hm,hI,_⟩:=Zu o;exact ⟨M.gO,0,a,c,h.aO,by rw [Nat.zero_add,← ev];exact px.outr.cell _ _ (Zdn M.V _ i hi),Yc hI,hc,by simp only [maxLen] at hm;omega⟩
def Zhy (w:World) (x:Nat):Nat:=match w.heap[x]? with|some (.cells _ t _)=>t|_=>0
theorem Zdb {g:Nat} {t:Nat} {L:List Value} (h:Zf w g t L):Zhy w g=t:=by unfold Zhy;rw [show w.heap[g]? = _ from h]
theorem Zfx {base e sz n:Nat} {v:Value} {xs:List Value} (h:w.ownsRow base e sz v n xs) (x:Nat) (hx:v.ownBlock=some x):Zhy w x=e:=by
 obtain ⟨a0,hc⟩:=Zbs h hx;unfold Zhy;rw [hc]
def Zcq (w:World) (base:Nat) (kf:Nat→Nat):Nat→Nat:=fun x=>
 if base≤x then
  (if Zhy w x=152 then 1 else if Zhy w x=87 then 2 else if Zhy w x=92 then 3 else if Zhy w x=90 then 4 else if Zhy w x=23 then 5 else if Zhy w x=123∨Zhy w x=125 then 6 else
   if Zhy w x=3∧kf x≠0 then kf x+6 else 0)
 else 0
theorem Yad (V:Nat→Value) (hap:∀ i j x,(V i).ownBlock=some x→(V j).ownBlock=some x→i=j):∃ kf:Nat→Nat,∀ k x,(V k).ownBlock=some x→kf x=k+1:=by
 classical
 refine ⟨fun x=>if h:∃ k,(V k).ownBlock=some x then Classical.choose h+1 else 0,fun k x hx=>?_⟩;have h:∃ k,(V k).ownBlock=some x:=⟨k,hx⟩
 show (if h:∃ k,(V k).ownBlock=some x then Classical.choose h+1 else 0)=k+1
 rw [dif_pos h,hap _ k x (Classical.choose_spec h) hx]
theorem PX.start {g0:Nat} (hR:Zf w s.rb 152 s.R) (hrb:s.base≤s.rb) (hJ:w.ownsRow s.base 87 6 s.vJ s.J.length (fJ s.J)) (hE:w.ownsRow s.base 92 4 s.vE s.E.length (fE s.E)) (hI:Zf w s.gI 90 s.cI) (hgI:s.base≤s.gI) (hO:Zf w s.gO 23 s.cO) (hgO:s.base≤s.gO)
  (hV:∀ k,w.ownsRow s.base 3 1 (s.V k) (s.F k).length (ivs (s.F k))) (hap:∀ i j x,(s.V i).ownBlock=some x→(s.V j).ownBlock=some x→i=j) (hK:Zbo w g0 s.K s.K.length) (h3:∀ ls∈s.K,ls.length≤3) (hg0:s.base≤g0) (haK:s.aK=some ⟨g0,0,none⟩)
  (hfr:∀ p∈s.fr,w.heap[p.1]? = some p.2∧(Zhy w p.1=27∨Zhy w p.1=46∨Zhy w p.1=72)):PX w s:=by
 obtain ⟨kf,a0⟩:=Yad s.V hap;have t2:∀ x,s.vJ.ownBlock=some x→Zcq w s.base kf x=2:=fun x hx=>by
  have:=Zfx hJ x hx
  unfold Zcq;rw [if_pos (Zv hJ x hx),if_neg (by omega),if_pos this]
 have t3:∀ x,s.vE.ownBlock=some x→Zcq w s.base kf x=3:=fun x hx=>by
  have:=Zfx hE x hx
  unfold Zcq;rw [if_pos (Zv hE x hx),if_neg (by omega),if_neg (by omega),if_pos this]
 have t1:Zcq w s.base kf s.rb=1:=by
  unfold Zcq;rw [if_pos hrb,if_pos (Zdb hR)]
 have t4:Zcq w s.base kf s.gI=4:=by
  have:=Zdb hI
  unfold Zcq;rw [if_pos hgI,if_neg (by omega),if_neg (by omega),if_neg (by omega),if_pos this]
 have t5:Zcq w s.base kf s.gO=5:=by
  have:=Zdb hO
  unfold Zcq;rw [if_pos hgO,if_neg (by omega),if_neg (by omega),if_neg (by omega),if_neg (by omega),if_pos this]
 have t6:∀ x,s.base≤x→(Zhy w x=123∨Zhy w x=125)→Zcq w s.base kf x=6:=fun x hx ht=>by
  unfold Zcq;rw [if_pos hx,if_neg (by omega),if_neg (by omega),if_neg (by omega),if_neg (by omega),if_neg (by omega),if_pos ht]
 have t7:∀ k x,(s.V k).ownBlock=some x→Zcq w s.base kf x=k+7:=fun k x hx=>by
  have ht:=Zfx (hV k) x hx;have a1:Zhy w x=3∧kf x≠0:=⟨ht,by rw [a0 k x hx];omega⟩
  unfold Zcq;rw [if_pos (Zv (hV k) x hx),if_neg (by omega),if_neg (by omega),if_neg (by omega),if_neg (by omega),if_neg (by omega),if_neg (by omega),if_pos a1,a0 k x hx]
 refine ⟨Zcq w s.base kf,⟨fun l w' hw'=>?_,by have:=hR.lt;omega,fun x hx=>?_,t1,t2,t3,t4,t5,t7,fun p hp=>?_⟩⟩
 ·match l,hw' with
  | 0,hw'=>
   intro p hp;obtain ⟨h1,h2⟩:=hfr p hp;rw [hw' p.1 (Array.getElem?_eq_some_iff.1 h1).1 ?_]
   ·exact h1
   ·unfold Zcq
    split
    ·rw [if_neg (by omega),if_neg (by omega),if_neg (by omega),if_neg (by omega),if_neg (by omega),if_neg (by omega),if_neg (by intro h';omega)]
    ·rfl
  | 1,hw'=>exact (hw' s.rb hR.lt t1).trans hR
  | 2,hw'=>exact Zi hJ (fun x hx=>hw' x (Zt hJ x hx) (t2 x hx))
  | 3,hw'=>exact Zi hE (fun x hx=>hw' x (Zt hE x hx) (t3 x hx))
  | 4,hw'=>exact (hw' s.gI hI.lt t4).trans hI
  | 5,hw'=>exact (hw' s.gO hO.lt t5).trans hO
  | 6,hw'=>
   show Z8 w' s.aK s.K
   rw [haK];refine Jm (k:=s.K.length) ?_ lr h3;obtain ⟨L,G,cp,k1,k2,k4,k5⟩:=hK;refine ⟨L,G,cp,(hw' g0 k1.lt (t6 g0 hg0 (.inl (Zdb k1)))).trans k1,k2,fun j hj hl=>⟨(k4 j hj hl).1,Zi (k4 j hj hl).2 (fun x hx=>hw' x (Zt (k4 j hj hl).2 x hx) (t6 x (by have:=Zv (k4 j hj hl).2 x hx;omega) (.inr (Zfx (k4 j hj hl).2 x hx))))⟩,k5⟩
  | n+7,hw'=>exact Zi (hV n) (fun x hx=>hw' x (Zt (hV n) x hx) (t7 n x hx))
 ·by_cases hb:s.base≤x
  ·exact hb
  ·exact absurd (by unfold Zcq;rw [if_neg hb]) hx
 ·obtain ⟨h1,h2⟩:=hfr p hp
  unfold Zcq;split
  ·rw [if_neg (by omega),if_neg (by omega),if_neg (by omega),if_neg (by omega),if_neg (by omega),if_neg (by omega),if_neg (by intro h';omega)]
  ·rfl
def Zhv (A:Yk) (D:Dom) (vI vO:Nat→Value):Nat→Value:=fun k=>
 if k=0 then .slice A.aR D.rel.length A.cR else if k=1 then .slice A.aT D.tak.length A.cT
 else if k%2=0 then (if k/2-1<D.ins.length then vI (k/2-1) else .slice none 0 0) else (if k/2-1<D.out.length then vO (k/2-1) else .slice none 0 0)
theorem Znr (A:Yk) (D:Dom) (vI vO:Nat→Value) (i:Nat) (h:i<D.ins.length):Zhv A D vI vO (2*i+2)=vI i:=by
 unfold Zhv;rw [if_neg (by omega),if_neg (by omega),if_pos (by omega),if_pos (by omega),show (2*i+2)/2-1=i by omega]
theorem Zje (A:Yk) (D:Dom) (vI vO:Nat→Value) (i:Nat) (h:i<D.out.length):Zhv A D vI vO (2*i+3)=vO i:=by
 unfold Zhv;rw [if_neg (by omega),if_neg (by omega),if_neg (by omega),if_pos (by omega),show (2*i+3)/2-1=i by omega]
theorem RO.start {A:Yk} {gI gO m p q:Nat} {fr0:Int} (hown:Qu X.w0.heap.size w A D gI gO m p q) (hrow:Zf w X.rb 152 (rl X ⟨A,fun _=>.slice none 0 0,gI,gO,some ⟨g0,0,none⟩,K.length⟩ D K fr0)) (hrb:X.w0.heap.size≤X.rb)
  (hK:Zbo w g0 K K.length) (h3:∀ ls∈K,ls.length≤3) (hg0:X.w0.heap.size≤g0) (hag:Below X.w0.heap.size X.w0 w) (hfr:∀ p∈X.fr,w.heap[p.1]? = some p.2∧(Zhy w p.1=27∨Zhy w p.1=46∨Zhy w p.1=72))
  (con:Z1 X.w0 X.B X.C) (act:Yn X.w0 X.aL X.L) (lL:X.L.length≤1000) (lI:D.ins.length≤1000) (lO:D.out.length≤1000):∃ M,RO X w M D K fr0:=by
 obtain ⟨ac,vI,aa,aj,ad,BI,a8,ae,ak,al⟩:=hown.i;obtain ⟨af,vO,ab,am,ag,BO,a9,ah,an,ao⟩:=hown.o;have a6:=Zce ae;have a7:=Zce ah;have ap:=hown.mp;have aq:=hown.bI;have eI:ac=inC (Zhv A D vI vO) D.ins:=by
  have ar:(inC (Zhv A D vI vO) D.ins).length=D.ins.length*2:=by
   unfold inC;rw [Za4 _ 2 (fun _=>rfl)];simp
  refine List.ext_getElem? (fun n=>?_);by_cases hn:n<D.ins.length*2
  ·obtain ⟨i,hi,hq⟩:∃ i,i<D.ins.length∧(n=i*2∨n=i*2+1):=⟨n/2,by omega,by omega⟩
   have a1:=ad i hi;have a2:=Zfi (Zhv A D vI vO) D.ins i hi;rcases hq with rfl|rfl
   ·rw [a1.1,a2.1,Znr _ _ _ _ _ hi]
   ·rw [a1.2,a2.2,show D.ins.getD i ([],0)=D.ins[i] by simp [hi]]
  ·rw [List.getElem?_eq_none (by omega),List.getElem?_eq_none (by omega)]
 have eO:af=Zkg (Zhv A D vI vO) D.out.length:=by
  refine List.ext_getElem? (fun n=>?_);by_cases hn:n<D.out.length
  ·rw [ag n hn,Zdn _ _ _ hn,Zje _ _ _ _ _ hn]
  ·rw [List.getElem?_eq_none (by omega),List.getElem?_eq_none (by simp [Zkg];omega)]
 have hV:∀ k,w.ownsRow X.w0.heap.size 3 1 (Zhv A D vI vO k) (fI D k).length (ivs (fI D k)):=fun k=>by
  by_cases e0:k=0
  ·subst e0;exact hown.r
  by_cases e1:k=1
  ·subst e1;exact hown.t
  by_cases e2:k%2=0
  ·obtain ⟨i,rfl⟩:∃ i,k=2*i+2:=⟨k/2-1,by omega⟩
   rw [Zvc];by_cases hi:i<D.ins.length
   ·rw [Znr _ _ _ _ _ hi]
    exact Qd (a8 i hi).1 (by have:=a6 0 i (by omega) (by omega);omega)
   ·rw [show D.ins.getD i ([],0)=([],0) by simp [List.getD_eq_getElem?_getD,List.getElem?_eq_none (by omega:D.ins.length≤i)]]
    have:Zhv A D vI vO (2*i+2)=.slice none 0 0:=by
     unfold Zhv;rw [if_neg (by omega),if_neg (by omega),if_pos (by omega),if_neg (by omega)]
    rw [this];exact World.ownsRow_nil _ _ _ _
  ·obtain ⟨i,rfl⟩:∃ i,k=2*i+3:=⟨k/2-1,by omega⟩
   rw [Zn8];by_cases hi:i<D.out.length
   ·rw [Zje _ _ _ _ _ hi]
    exact Qd (a9 i hi).1 (by have:=a7 0 i (by omega) (by omega);omega)
   ·rw [show D.out.getD i []=[] by simp [List.getD_eq_getElem?_getD,List.getElem?_eq_none (by omega:D.out.length≤i)]]
    have:Zhv A D vI vO (2*i+3)=.slice none 0 0:=by
     unfold Zhv;rw [if_neg (by omega),if_neg (by omega),if_neg (by omega),if_neg (by omega)]
    rw [this];exact World.ownsRow_nil _ _ _ _
 have a0:∀ k x,(Zhv A D vI vO k).ownBlock=some x→(k=0∧(Value.slice A.aR D.rel.length A.cR).ownBlock=some x∧x<m)∨(k=1∧(Value.slice A.aT D.tak.length A.cT).ownBlock=some x∧x<m)∨(∃ i,k=2*i+2∧i<D.ins.length∧BI i≤x∧x<BI (i+1)∧m≤x∧x<p)∨(∃ i,k=2*i+3∧i<D.out.length∧BO i≤x∧x<BO (i+1)∧p≤x):=fun k x hx=>by
  by_cases e0:k=0
  ·subst e0;exact .inl ⟨rfl,hx,hown.lt x (.inr (.inl hx))⟩
  by_cases e1:k=1
  ·subst e1;exact .inr (.inl ⟨rfl,hx,hown.lt x (.inr (.inr (.inl hx)))⟩)
  by_cases e2:k%2=0
  ·obtain ⟨i,rfl⟩:∃ i,k=2*i+2:=⟨k/2-1,by omega⟩
   by_cases hi:i<D.ins.length
   ·rw [Znr _ _ _ _ _ hi] at hx
    have g1:=Zv (a8 i hi).1 x hx;have g2:=(a8 i hi).2 x hx;have g3:=a6 0 i (by omega) (by omega);have g4:=a6 (i+1) D.ins.length (by omega) (by omega);exact .inr (.inr (.inl ⟨i,rfl,hi,g1,g2,by omega,by omega⟩))
   ·have:Zhv A D vI vO (2*i+2)=.slice none 0 0:=by
     unfold Zhv;rw [if_neg (by omega),if_neg (by omega),if_pos (by omega),if_neg (by omega)]
    rw [this] at hx;cases hx
  ·obtain ⟨i,rfl⟩:∃ i,k=2*i+3:=⟨k/2-1,by omega⟩
   by_cases hi:i<D.out.length
   ·rw [Zje _ _ _ _ _ hi] at hx
    have g1:=Zv (a9 i hi).1 x hx;have g2:=(a9 i hi).2 x hx;have g3:=a7 0 i (by omega) (by omega);exact .inr (.inr (.inr ⟨i,rfl,hi,g1,g2,by omega⟩))
   ·have:Zhv A D vI vO (2*i+3)=.slice none 0 0:=by
     unfold Zhv;rw [if_neg (by omega),if_neg (by omega),if_neg (by omega),if_neg (by omega)]
    rw [this] at hx;cases hx
 have ai:∀ i j x,(Zhv A D vI vO i).ownBlock=some x→(Zhv A D vI vO j).ownBlock=some x→i=j:=fun i j x h1 h2=>by
  rcases a0 i x h1 with ⟨ei,a1,a2⟩|⟨ei,a1,a2⟩|⟨a,ei,a1,a2,a3,a4,a5⟩|⟨a,ei,a1,a2,a3,a4⟩<;>rcases a0 j x h2 with ⟨ej,b1,b2⟩|⟨ej,b1,b2⟩|⟨b,ej,b1,b2,b3,b4,b5⟩|⟨b,ej,b1,b2,b3,b4⟩
  ·omega
  ·exact absurd b1 (hown.rt x a1)
  ·omega
  ·omega
  ·exact absurd a1 (hown.rt x b1)
  ·omega
  ·omega
  ·omega
  ·omega
  ·omega
  ·rcases Nat.lt_trichotomy a b with h|h|h
   ·have:=a6 (a+1) b (by omega) (by omega);omega
   ·omega
   ·have:=a6 (b+1) a (by omega) (by omega);omega
  ·omega
  ·omega
  ·omega
  ·omega
  ·rcases Nat.lt_trichotomy a b with h|h|h
   ·have:=a7 (a+1) b (by omega) (by omega);omega
   ·omega
   ·have:=a7 (b+1) a (by omega) (by omega);omega
 rw [eI] at aa;rw [eO] at ab;refine ⟨⟨A,Zhv A D vI vO,gI,gO,some ⟨g0,0,none⟩,K.length⟩,⟨hag,PX.start (g0:=g0) hrow hrb hown.j hown.e aa hown.bI.1 ab hown.bO.1 hV ai hK h3 hg0 rfl hfr,hown.aI,hown.aO,rfl,rfl,con,act,lL,lI,lO⟩⟩
def EvO (n:Nat) (w:World) (A:Yk) (D:Dom) (aK:Option Addr) (K:KT):Prop:=w.ownsRow n 92 4 (.slice A.aE D.evs.length A.cE) D.evs.length (fE D.evs)∧∀ wx:World,(∀ x,n≤x→(Value.slice A.aE D.evs.length A.cE).ownBlock≠some x→wx.heap[x]? = w.heap[x]?)→Yz wx A ⟨D.jobs,D.rel,D.nxt,D.ins,D.tak,D.out,[]⟩∧Z8 wx aK K
theorem RO.domE (h:RO X w M D K now) (hk:∀ x,X.w0.heap.size≤x→(∀ p∈X.fr,p.1≠x)→wx.heap[x]? = w.heap[x]?):EvO X.w0.heap.size wx M.A D M.aK K:=by
 have px:=h.px.shift hk;refine ⟨px.evs,fun wy hy=>?_⟩;obtain ⟨o,po⟩:=px;have a0:=fun l (h0:l≠0) (h3:l≠3)=>po.ps l wy (fun x hx ho=>hy x (po.o0 x (by rw [ho];exact h0)) (fun e=>h3 (by rw [← ho,po.l3 x e])))
 have hI:=h.lI;have hO:=h.lO;have j:=Zz (a0 2 (by decide) (by decide));have a1:=fun n=>a0 (n+7) (by omega) (by omega)
 have inr:=a0 4 (by decide) (by decide);have a3:=a0 5 (by decide) (by decide);have a2:=a0 6 (by decide) (by decide);have r0:=a1 0;have t0:=a1 1;simp only [PS.P] at r0 t0 a1 inr a3 a2;rw [h.v0] at r0;rw [h.v1] at t0;have r:=Zz r0;have t:=Zz t0;refine ⟨⟨Za5 j.1,Yc r.1,?_,Yc t.1,?_,fun i hi=>absurd hi (by simp),j.2.2,r.2.2,by show D.ins.length≤_;omega,t.2.2,by show D.out.length≤_;omega,by simp⟩,a2⟩
 ·intro i hi
  obtain ⟨c0,c1⟩:=Zfi M.V D.ins i hi;have o:=a1 (2*i+2);rw [Zvc,show D.ins.getD i ([],0)=D.ins[i] by simp [hi]] at o;obtain ⟨a,c,ev,hc,hm,hI,_⟩:=Zu o;refine ⟨M.gI,0,a,c,h.aI,?_,?_,Yc hI,hc,by simp only [maxLen] at hm;omega⟩
  ·rw [Nat.zero_add,← ev];exact inr.cell _ _ c0
  ·rw [Nat.zero_add];exact inr.cell _ _ c1
 ·intro i hi
  have o:=a1 (2*i+3);rw [Zn8,show D.out.getD i []=D.out[i] by simp [hi]] at o;obtain ⟨a,c,ev,hc,hm,hI,_⟩:=Zu o;exact ⟨M.gO,0,a,c,h.aO,by rw [Nat.zero_add,← ev];exact a3.cell _ _ (Zdn M.V _ i hi),Yc hI,hc,by simp only [maxLen] at hm;omega⟩
end Go.Proofs.YtejhccmclanlmaaGreatDoor
