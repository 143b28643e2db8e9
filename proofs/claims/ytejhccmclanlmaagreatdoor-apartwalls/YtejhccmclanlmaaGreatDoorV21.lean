/- Fd Fe Ff Wm Af Ag -/
import Derived.Test.YtejhccmclanlmaaGreatDoorV19
set_option linter.all false
set_option maxRecDepth 100000
set_option maxHeartbeats 8000000
namespace Go.Proofs.YtejhccmclanlmaaGreatDoor
open Go.RowKit Go.Proofs.Tryz
variable {xs:List Value} {base c g n sz:Nat} {v:Value} {w w':World}
theorem Zak {ops:Array Oper} {o:Oper} {a:Act} {w:World} {K:Act→World→Prop} {Q:Exit→Act→World→Prop} {E:Prop} (hgd:o.guard=none) (s x:Operand) (t e:TypeId)
  (ho:o.op=.call {callee:=.builtin .append,args:=#[s,x],argTypes:=#[t,t]}) (z:Value) (sz by_:Nat) (ht:prog.underlying t=some (.slice e)) (hI:(prog.info? e).map (fun i=>(i.zero,i.size,i.bytes))=some (some z,sz,by_)) (hzs:z.cells.size=sz) (hsz:0<sz)
  (base:Nat) (v:Value) (n:Nat) (xs:List Value) (hs:a.eval s=v) (hown:w.ownsRow base e sz v n xs)
  (b m c:Nat) (news:List Value) (hx:a.eval x=.slice (some ⟨b,0,none⟩) m c) (hl:news.length=m*sz) (hrow:∀ j u,news[j]? = some u→w.cell? ⟨b,j,none⟩=some u) (h1:∀ u∈news,u.oneCell'=true) (hm:0<m) (h63:n+m≤maxLen) (hbytes:(n+m)*by_≤140737488355328) (hbase:base≤w.heap.size)
  (h:∀ g cap w',w'.ownsRow base e sz (.slice (some ⟨g,0,none⟩) (n+m) cap) (n+m) (xs++news)→w.grownBy w' v.ownBlock→(v.ownBlock=some g∨g=w.heap.size)→K (a.put o.dst (.slice (some ⟨g,0,none⟩) (n+m) cap)) w') :
  if Region.wanted o (yielded ops a.tmps)=true then Oper.wp prog o a w K Q else E:=by
 obtain ⟨i3,hi,hz,a0,a1⟩:=Zbk hI;refine step_append_lies w hgd s x t ho base e i3 z sz by_ ht hi hz a0 a1 hzs hsz v n xs hs hown ⟨b,0,none⟩ m c news hx hl (fun j u hu=>?_) h1 hm h63 hbytes hbase w.heap.size rfl (fun g cap w' h1 h2 h3 _=>h g cap w' h1 h2 h3);rw [Zvb];exact hrow j u hu
theorem Z6 (h:Below w.heap.size w w'):KeepsOthers w w':=
 ⟨h.size,fun k o hk _=>(h.block k (Array.getElem?_eq_some_iff.1 hk).1).trans hk⟩
theorem Ze7 {row:Option Nat} (h:w.grownBy w' row) (hr:∀ x,row=some x→∃ cur t,w.heap[x]? = some (.cells cur t (0,0))):KeepsOthers w w':=
 ⟨h.size,fun k o hk ho=>(h.block k (Array.getElem?_eq_some_iff.1 hk).1 (fun e=>by
  obtain ⟨cur,t,h1⟩:=hr k e.symm;rw [hk] at h1;simp only [Option.some.injEq] at h1;subst h1
  cases ho)).trans hk⟩
theorem Zcw {e:Nat} (h:w.grownBy w' v.ownBlock) (ho:w.ownsRow base e sz v n xs):KeepsOthers w w':=
 Ze7 h (fun x hx=>by obtain ⟨c,hc⟩:=Zbs ho hx;exact ⟨c,e,hc⟩)
theorem Zrm (w0:World) (X:Nat→Prop) (base kb:Nat) (D:Dom) (A:Yk) (C:Zm) (B:Mem) (dn tt kd:Int) (j:J6) (w:World) (h:KO w0 X base kb w D A C B dn) (hl:D.evs.length≤1000000000):
  Calls prog 174 #[.pointer (some ⟨kb,0,none⟩),.int .i64 tt,.int .i64 kd,jv j] w fun e w'=>e=.returned (.tuple #[])∧(∃ a' c',KO w0 X base kb w' ⟨D.jobs,D.rel,D.nxt,D.ins,D.tak,D.out,D.evs++[(tt,kd,j.1,j.2.1)]⟩ ⟨A.aJ,A.aR,A.aI,A.aT,A.aO,a',A.cJ,A.cR,A.cI,A.cT,A.cO,c'⟩ C B dn)∧KeepsOthers w w':=by
 obtain ⟨j0,j1,j2,j3,j4,j5⟩:=j;dsimp only [jv] at *
 have q1:=Za w (.cells #[.int .i64 j0,.int .i64 j1,.int .i64 j2,.int .i64 j3,.bool j4,.bool j5] 87);have h1:=h.below q1;have a8:=hid q1;have ab:base≤w.heap.size:=by have:=h.base_kb;have:=h.kb_lt;omega
 clear q1 h;have c6:=h1.row.cell 6 _ rfl;have a4:Below (w.alloc (.cells #[.int .i64 j0,.int .i64 j1,.int .i64 j2,.int .i64 j3,.bool j4,.bool j5] 87)).heap.size (w.alloc (.cells #[.int .i64 j0,.int .i64 j1,.int .i64 j2,.int .i64 j3,.bool j4,.bool j5] 87)) ((w.alloc (.cells #[.int .i64 j0,.int .i64 j1,.int .i64 j2,.int .i64 j3,.bool j4,.bool j5] 87)).alloc (.cells #[.int .i64 tt,.int .i64 kd,.int .i64 j0,.int .i64 j1] 92)).drew:=(Za _ _).drew;have HA:=hid (h1.below a4);have a9:=hid (Zb a8 a4);have RE:Hid (Zf ((w.alloc (.cells #[.int .i64 j0,.int .i64 j1,.int .i64 j2,.int .i64 j3,.bool j4,.bool j5] 87)).alloc (.cells #[.int .i64 tt,.int .i64 kd,.int .i64 j0,.int .i64 j1] 92)).drew (w.heap.size+1) 92 [.int .i64 tt,.int .i64 kd,.int .i64 j0,.int .i64 j1]):=hid (Zc (w.alloc (.cells #[.int .i64 j0,.int .i64 j1,.int .i64 j2,.int .i64 j3,.bool j4,.bool j5] 87)) (w.heap.size+1) [.int .i64 tt,.int .i64 kd,.int .i64 j0,.int .i64 j1] 92 (by simp));have aa:∀ o,((w.alloc (.cells #[.int .i64 j0,.int .i64 j1,.int .i64 j2,.int .i64 j3,.bool j4,.bool j5] 87)).alloc o).cell? ⟨kb,6,none⟩=some (.slice A.aE D.evs.length A.cE):=fun o=>Zl o c6
 clear a4 h1;obtain ⟨aJ,aR,aI,aT,aO,aE,cJ,cR,cI,cT,cO,cE⟩:=A;dsimp only at *
 go_enter func174,ntmps174;go_wp2;go_region_law (first
  | (refine Zak (by rfl) _ _ 44 92 (by rfl) _ 4 32 underlying44 Tryz.info92x rfl (by omega) base (.slice aE D.evs.length cE) D.evs.length (fE D.evs) (by rfl) HA.out.e (w.heap.size+1) 1 1 (fE [(tt,kd,j0,j1)]) (by rfl) rfl (fun j u hu=>RE.out.cell j u hu) (Ziv _) (by omega) (by simp [maxLen];omega) (by omega) (by simp;omega) ?_;intro g a3 w4 a1 a0 a2;have r4:Zf w4 kb 179 _:=(a0.block kb HA.out.kb_lt (fun e=>Yi HA.out.e HA.out.row (by decide) kb e.symm rfl)).trans HA.out.row;have e0:=r4.cell 6 _ rfl;have f0:=r4.frozen 6;have a6:=hid a1;have a5:=hid a0;have a7:=hid a2;clear a1 a0 r4 a2))
 all_goals
  have HE:Hid (KO w0 X base kb (w4.setCell ⟨kb,6,none⟩ (.slice (some ⟨g,0,none⟩) (D.evs.length+1) a3)) ⟨D.jobs,D.rel,D.nxt,D.ins,D.tak,D.out,D.evs++[(tt,kd,j0,j1)]⟩ ⟨aJ,aR,aI,aT,aO,some ⟨g,0,none⟩,cJ,cR,cI,cT,cO,a3⟩ C B dn):=by
   have:=HA.out.told (E:=D.evs++[(tt,kd,j0,j1)]) (a':=some ⟨g,0,none⟩) (c':=a3) a5.out (by rw [Zla,List.length_append];exact a6.out) (fun x hx=>by
    simp only [Value.ownBlock,Option.some.injEq] at hx;subst hx;rcases a7.out with h'|h'
    ·exact .inl h'
    ·exact .inr (by omega))
   rw [List.length_append] at this;exact hid this
  have HK:Hid (KeepsOthers w (w4.setCell ⟨kb,6,none⟩ (.slice (some ⟨g,0,none⟩) (D.evs.length+1) a3))):=hid (((Z6 a9).trans (Zcw a5 HA.out.e)).trans (KeepsOthers.setCell _ _ _));clear HA a6 a5 a7 c6 aa;go_wp2;go_end0;exact ⟨rfl,⟨_,_,HE.out⟩,HK.out⟩
theorem Zkp {k:Nat} {L:List Int} (h:w.ownsRow base 3 1 (.slice (some ⟨g,0,none⟩) n c) n (ivs L)) (hk:k<L.length):w.cell? ⟨g,k,none⟩=some (.int .i64 L[k]):=by
 have:=h.cells (g:=g) rfl k (.int .i64 L[k]) (by simp [ivs,hk])
 rw [Zvb] at this;exact this
theorem Zdz {e:Nat} (h:w.ownsRow base e sz (.slice (some ⟨g,0,none⟩) n c) n xs) (i:Nat):w.frozen? ⟨g,i,none⟩=false:=by
 obtain ⟨a0,hc⟩:=Zbs h (k:=g) rfl;simp [World.frozen?,hc]
theorem Zpq (w0:World) (X:Nat→Prop) (base kb:Nat) (D:Dom) (A:Yk) (C:Zm) (B:Mem) (dn:Int) (k:Nat) (w:World) (h:KO w0 X base kb w D A C B dn) (hk:k<C.ta.length) (hkr:k<D.rel.length) (hr0:0≤D.rel[k]) (hr1:D.rel[k]<100000) (hj:D.jobs.length≤20) (hl:D.evs.length≤1000000000):
  Calls prog 155 #[.pointer (some ⟨kb,0,none⟩),.int .i64 (k:Int)] w fun e w'=>e=.returned (.tuple #[])∧(∃ A',KO w0 X base kb w' (Ya C k D) A' C B dn)∧KeepsOthers w w':=by
 obtain ⟨rb,am,_,_⟩:=Zb2 h.r (by omega);have b0:(k:Int)<(D.rel.length:Int):=by omega
 have b1:(0:Int)≤(k:Int):=by omega
 have HH:=hid h;have aw:=hid hkr;have an:Hid (∀ x,(Value.slice A.aJ D.jobs.length A.cJ).ownBlock=some x→x<w.heap.size):=hid fun x hx=>Zt h.j x hx
 obtain ⟨aJ,aR,aI,aT,aO,aE,cJ,cR,cI,cT,cO,cE⟩:=A;dsimp only at am;subst am;have ax:rb<w.heap.size:=Zt h.r rb rfl;have c1:=h.row.cell 1 _ rfl;have cr:w.cell? ⟨rb,k,none⟩=some (.int .i64 D.rel[k]):=Zkp h.r hkr;have af:=hid (fun wx (hb:Below w.heap.size w wx)=>Zgs kb D _ C B dn k wx (h.below hb).keepIn hk hkr);have HS:Hid (∀ w',Below w.heap.size w w'→w'.cell? ⟨kb,1,none⟩=some (.slice (some ⟨rb,0,none⟩) D.rel.length cR)∧w'.cell? ⟨rb,k,none⟩=some (.int .i64 D.rel[k])):=hid fun w' hb=>⟨Zg hb c1 lr,Zg hb cr lr⟩
 have ag:Hid (Ya C k D=if D.jobs.length=20 then ⟨D.jobs,D.rel.set k (D.rel[k]+1),D.nxt,D.ins,D.tak,D.out,D.evs⟩
  else ⟨D.jobs++[((k:Int),D.rel[k],Y0 C D k,0,false,false)],D.rel.set k (D.rel[k]+1),D.nxt,D.ins,D.tak,D.out,D.evs++[(Y0 C D k,2,(k:Int),D.rel[k])]⟩):=hid (by
   have e:D.rel.getD k 0=D.rel[k]:=Zat D.rel k hkr 0;unfold Ya;rw [e])
 have aa:Below w.heap.size w w.drew:=br.drew;have a1:Below w.heap.size w (w.alloc (.cells #[.int .i64 0,.int .i64 0,.int .i64 0,.int .i64 0,.bool false,.bool false] 87)).drew:=(Za _ _).drew;have RZ:Hid (Zf (w.alloc (.cells #[.int .i64 0,.int .i64 0,.int .i64 0,.int .i64 0,.bool false,.bool false] 87)).drew w.heap.size 87 [.int .i64 0,.int .i64 0,.int .i64 0,.int .i64 0,.bool false,.bool false]):=hid (Zc w _ [.int .i64 0,.int .i64 0,.int .i64 0,.int .i64 0,.bool false,.bool false] 87 rfl);clear h c1 cr;generalize hy:D.rel[k]=y at *
 have HY:=hid hy;generalize Y0 C D k=c at *
 clear hy hk;go_enter func155,ntmps155;go_upto_region 0 with fail;go_cut [4] (fun t wx=>∃ Bj,t=.pointer (some ⟨Bj,0,none⟩)∧Below w.heap.size w wx∧Zf wx Bj 87 [.int .i64 (k:Int),.int .i64 y,.int .i64 c,.int .i64 0,.bool false,.bool false]∧w.heap.size≤Bj)
 case first=>
  go_region_held3 (fun w'=>w'.cell? ⟨kb,1,none⟩=some (.slice (some ⟨rb,0,none⟩) D.rel.length cR)∧w'.cell? ⟨rb,k,none⟩=some (.int .i64 y))
   (first|with_reducible exact HS.out _ hB2|with_reducible exact HS.out _ (hB2a _)|with_reducible exact HS.out _ (hB2c _ _ _ _ _ _)|with_reducible exact HS.out _ aa|with_reducible exact HS.out _ a1|go_keep)
   (first
    | (go_at_call 154;with_reducible refine Calls.mono (af.out _ aa) ?_;rintro e w2 ⟨rfl,ab⟩;have hB2:=Zb aa ab;have hB2a:∀ o,Below w.heap.size w (w2.alloc o):=fun o=>Zb hB2 (Za _ o))
    | (go_at_call 154;with_reducible refine Calls.mono (af.out _ a1) ?_;rintro e w2 ⟨rfl,ab⟩;have hB2:=Zb a1 ab;have HZ:=hid (RZ.out.below ab lr);have u0:=HZ.out.cell 0 _ rfl;have u1:=HZ.out.cell 1 _ rfl;have u2:=HZ.out.cell 2 _ rfl;have u3:=HZ.out.cell 3 _ rfl;have u4:=HZ.out.cell 4 _ rfl;have u5:=HZ.out.cell 5 _ rfl;have f0:=HZ.out.frozen 0;have f1:=HZ.out.frozen 1;have f2:=HZ.out.frozen 2;have f3:=HZ.out.frozen 3;have f4:=HZ.out.frozen 4;have f5:=HZ.out.frozen 5;have hB2c:∀ v0 v1 v2 v3 v4 v5,Below w.heap.size w ((((((w2.setCell ⟨w.heap.size,0,none⟩ v0).setCell ⟨w.heap.size,1,none⟩ v1).setCell ⟨w.heap.size,2,none⟩ v2).setCell ⟨w.heap.size,3,none⟩ v3).setCell ⟨w.heap.size,4,none⟩ v4).setCell ⟨w.heap.size,5,none⟩ v5):=fun v0 v1 v2 v3 v4 v5=>(((((hB2.setCell (p:=⟨w.heap.size,0,none⟩) lr _).setCell (p:=⟨w.heap.size,1,none⟩) lr _).setCell (p:=⟨w.heap.size,2,none⟩) lr _).setCell (p:=⟨w.heap.size,3,none⟩) lr _).setCell (p:=⟨w.heap.size,4,none⟩) lr _).setCell (p:=⟨w.heap.size,5,none⟩) lr _))
  all_goals
   go_wp2;go_meet
   case rel=>
    first
     | (have hM:=hB2a;exact ⟨w2.heap.size,rfl,Zb hB2 (Za _ _),Zc w2 _ [.int .i64 (k:Int),.int .i64 y,.int .i64 c,.int .i64 0,.bool false,.bool false] 87 rfl,hB2.size⟩)
     | (have hM:=hB2c;exact ⟨w.heap.size,rfl,hM _ _ _ _ _ _,Ze (Ze (Ze (Ze (Ze (Ze HZ 0 _) 1 _) 2 _) 3 _) 4 _) 5 _,lr⟩)
 case rest=>
  obtain ⟨Bj,rfl,hB,a5,b2⟩:=hcut;have ac:=HH.out.below hB;have c1:=ac.row.cell 1 _ rfl;have cr:wc.cell? ⟨rb,k,none⟩=some (.int .i64 y):=(HS.out _ hB).2;have fr:=Zdz ac.r k;have ah:=ac.setRel (g:=rb) rfl k (y+1);have R2:=hid (show Zf (wc.setCell ⟨rb,k,none⟩ (.int .i64 (y+1))) Bj 87 _ from (Zd _ _ _ _ Bj (by omega)).trans a5);have a3:=hid ah;have ai:=hid ((Z6 hB).trans (KeepsOthers.setCell wc ⟨rb,k,none⟩ (.int .i64 (y+1))));have b3:w.heap.size≤(wc.setCell ⟨rb,k,none⟩ (.int .i64 (y+1))).heap.size:=Nat.le_trans hB.size (by simp);have cj:=ah.row.cell 0 _ rfl;clear HS af RZ aa a1 ac ah a5 hB HH;dsimp only at cj;go_upto_region 2 with fail;clear c1 cr fr;generalize wc.setCell ⟨rb,k,none⟩ (.int .i64 (y+1))=W2 at *
  by_cases h20:D.jobs.length=20
  ·have aj:(D.jobs.length:Int)=20:=by omega
   have HF:Hid (∃ A',KO w0 X base kb W2 (Ya C k D) A' C B dn):=hid ⟨_,by rw [ag.out,if_pos h20];exact a3.out⟩;clear h20 a3 R2;go_wp2;refine bodyPost_ret (results_none rfl _ _ _) rfl ?_;exact ⟨rfl,HF.out,ai.out⟩
  ·have aj:¬ (D.jobs.length:Int)=20:=by omega
   rw [if_neg h20] at ag;have b4:D.jobs.length≤19:=by omega
   clear h20 hj;have ad:Below W2.heap.size W2 (W2.alloc (.cells #[.int .i64 (k:Int),.int .i64 y,.int .i64 c,.int .i64 0,.bool false,.bool false] 87)).drew:=(Za _ _).drew;have HA:=hid (a3.out.below ad);have ao:=hid (Z6 ad);have RE:Hid (Zf (W2.alloc (.cells #[.int .i64 (k:Int),.int .i64 y,.int .i64 c,.int .i64 0,.bool false,.bool false] 87)).drew W2.heap.size 87 (jc ((k:Int),y,c,0,false,false))):=hid (Zc W2 W2.heap.size [.int .i64 (k:Int),.int .i64 y,.int .i64 c,.int .i64 0,.bool false,.bool false] 87 rfl);have RA:=hid (R2.out.below ad lr);have ay:∀ o,(W2.alloc o).cell? ⟨kb,0,none⟩=some (.slice aJ D.jobs.length cJ):=fun o=>Zl o cj
   obtain ⟨r0,r1,r2,r3,r4,r5⟩:=R2.out.q6 rfl rfl rfl rfl rfl rfl;have b5:base≤W2.heap.size:=by have:=a3.out.base_kb;have:=a3.out.kb_lt;omega
   have ap:∀ x,(Value.slice aJ D.jobs.length cJ).ownBlock=some x→x<Bj:=fun x hx=>by have:=an.out x hx;omega
   have a6:=hid ap;have b6:Bj<W2.heap.size:=R2.out.lt;have a7:Bj<(W2.alloc (.cells #[.int .i64 (k:Int),.int .i64 y,.int .i64 c,.int .i64 0,.bool false,.bool false] 87)).drew.heap.size:=RA.out.lt;have a8:=hid a7;clear ad R2 a3 an ap a7 HY aw;go_upto_region 3 with fail;go_region_law (first
    | (refine Zak (by rfl) _ _ 41 87 (by rfl) _ 6 40 underlying41 Tryz.info87x rfl (by omega) base (.slice aJ D.jobs.length cJ) D.jobs.length (fJ D.jobs) (by rfl) HA.out.j W2.heap.size 1 1 (fJ [((k:Int),y,c,0,false,false)]) (by rfl) rfl (fun j u hu=>RE.out.cell j u (by simpa [fJ] using hu)) (Zqi _) (by omega) (by simp [maxLen];omega) (by omega) (by simp;omega) ?_;intro g a4 w4 a2 a0 a9;have ak:Zf w4 kb 179 _:=(a0.block kb HA.out.kb_lt (fun e=>Yi HA.out.j HA.out.row (by decide) kb e.symm rfl)).trans HA.out.row;have al:=hid (show Zf w4 Bj 87 _ from (a0.block Bj a8.out (fun e=>by have:=a6.out Bj e.symm;omega)).trans RA.out);have e0:=ak.cell 0 _ rfl;have f0:=ak.frozen 0;have aq:=hid a2;have ae:=hid a0;have ar:=hid a9;clear a2 a0 ak a9))
   all_goals
    have HE:Hid (KO w0 X base kb (w4.setCell ⟨kb,0,none⟩ (.slice (some ⟨g,0,none⟩) (D.jobs.length+1) a4)) ⟨D.jobs++[((k:Int),y,c,0,false,false)],D.rel.set k (y+1),D.nxt,D.ins,D.tak,D.out,D.evs⟩ ⟨some ⟨g,0,none⟩,some ⟨rb,0,none⟩,aI,aT,aO,aE,a4,cR,cI,cT,cO,cE⟩ C B dn):=by
     have:=HA.out.pushed (J:=D.jobs++[((k:Int),y,c,0,false,false)]) (a':=some ⟨g,0,none⟩) (c':=a4) ae.out (by rw [Zod,List.length_append];exact aq.out) (fun x hx=>by
      simp only [Value.ownBlock,Option.some.injEq] at hx;subst hx;rcases ar.out with h'|h'
      ·exact .inl h'
      ·exact .inr (by omega))
     rw [List.length_append] at this;exact hid this
    have HK:Hid (KeepsOthers w (w4.setCell ⟨kb,0,none⟩ (.slice (some ⟨g,0,none⟩) (D.jobs.length+1) a4))):=hid (((ai.out.trans ao).trans (Zcw ae HA.out.j)).trans (KeepsOthers.setCell _ _ _));have R5:=hid (show Zf (w4.setCell ⟨kb,0,none⟩ (.slice (some ⟨g,0,none⟩) (D.jobs.length+1) a4)) Bj 87 _ from (Zd _ _ _ _ Bj (fun e=>by
     have h1:w4.heap[Bj]? = _:=al.out;have h2:=(HA.out.row)
     have h3:w4.heap[kb]? = _:=(ae.out.block kb HA.out.kb_lt (fun e=>Yi HA.out.j HA.out.row (by decide) kb e.symm rfl)).trans HA.out.row;rw [e,h3] at h1;simp at h1)).trans al.out)
    clear HA aq ae ar cj ay r0 r1 r2 r3 r4 r5 ao ai al RA RE a8 a6;go_upto_region 4 with fail;clear e0 f0;generalize w4.setCell ⟨kb,0,none⟩ (.slice (some ⟨g,0,none⟩) (D.jobs.length+1) a4)=W5 at *
    obtain ⟨r0,r1,r2,r3,r4,r5⟩:=R5.out.q6 rfl rfl rfl rfl rfl rfl;go_wp2_with fail;refine (Zrm w0 X base kb _ _ C B dn c 2 ((k:Int),y,c,0,false,false) _ HE hl).mono ?_;rintro e w6 ⟨rfl,⟨a',c',h6⟩,au⟩;have H6:=hid h6;have az:=hid (HK.out.trans au);clear h6 au HE HK r0 r1 r2 r3 r4 r5 R5;go_wp2;go_end0;exact ⟨rfl,⟨_,by rw [ag.out];exact H6.out⟩,az.out⟩
theorem Zw4 (w0:World) (X:Nat→Prop) (base kb:Nat) (D:Dom) (A:Yk) (C:Zm) (B:Mem) (dn now:Int) (w:World) (h:KO w0 X base kb w D A C B dn) (hz:ckD C dn D=0) (hl:D.evs.length≤900000000):
  Calls prog 156 #[.pointer (some ⟨kb,0,none⟩),.int .i64 now] w fun e w'=>e=.returned (.tuple #[])∧(∃ A',KO w0 X base kb w' (Zcs C now D.jobs.length D) A' C B dn)∧KeepsOthers w w':=by
 have HH:=hid h;have HZ:=hid hz;have aa:=Zln hz;have c0:=h.row.cell 0 _ rfl;clear h hz;obtain ⟨aJ,aR,aI,aT,aO,aE,cJ,cR,cI,cT,cO,cE⟩:=A;dsimp only at *
 go_enter func156,ntmps156;go_wp2;go_loopw [13] (fun i wr=>∃ k:Nat,k≤D.jobs.length∧i=.int .i64 k∧(∃ aE' cE',KO w0 X base kb wr (Zcs C now k D) ⟨aJ,aR,aI,aT,aO,aE',cJ,cR,cI,cT,cO,cE'⟩ C B dn)∧KeepsOthers w wr) (fun i _=>D.jobs.length-(intOf i).toNat)
 case atStart=>exact ⟨0,zl,rfl,⟨aE,cE,HH.out⟩,KeepsOthers.refl _⟩
 case round=>
  obtain ⟨k,hk,rfl,⟨aE',cE',hK⟩,hO⟩:=hrel;have HO:=hid hO;have HN:Hid ((Zcs C now k D).jobs.length=D.jobs.length):=hid (Zq6 C now k D);have ab:Hid ((Zcs C now k D).evs.length≤900000020):=hid (by have:=Zlw C now k D;omega);have ac:Hid (ckD C dn (Zcs C now k D)=0):=hid (Zn7 HZ k);have HS:Hid (Zcs C now (k+1) D=Ym C now k (Zcs C now k D)):=hid (Ze0 C now k D);clear hO c0;by_cases hlt:k<D.jobs.length
  ·generalize Zcs C now k D=M at *
   have a1:k<M.jobs.length:=by have:=HN.out;omega
   obtain ⟨g,hg,_,_⟩:=Zb2 hK.j (by omega);dsimp only at hg;subst hg;have hT:=Zio ac.out k a1;obtain ⟨b',o',e',p0,p1,p2,p3,p4,p5⟩:=hK.keepIn.dom.jobs k a1;dsimp only at e';simp only [Option.some.injEq,Addr.mk.injEq,and_true] at e';obtain ⟨rfl,rfl⟩:=e';rw [Nat.zero_add] at p0 p1 p2 p3 p4 p5;have HJ:Hid (M.jobs[k]? = some M.jobs[k]):=hid (List.getElem?_eq_getElem a1);have ae:(k:Int)<(D.jobs.length:Int):=by omega
   have af:(k:Int)<(M.jobs.length:Int):=by omega
   have ag:(0:Int)≤(k:Int):=by omega
   have ah:g<wr.heap.size:=Zt hK.j g rfl;generalize M.jobs[k]=jj at *
   obtain ⟨j0,j1,j2,j3,j4,j5⟩:=jj;dsimp only at *
   have q1:=Za wr (.cells #[.int .i64 j0,.int .i64 j1,.int .i64 j2,.int .i64 j3,.bool j4,.bool j5] 87);have a4:=hid (hK.below q1);have a5:=hid q1;have R1:=hid (Zc wr wr.heap.size [.int .i64 j0,.int .i64 j1,.int .i64 j2,.int .i64 j3,.bool j4,.bool j5] 87 rfl);clear q1 hK;go_wp2_with fail;refine (Zc5 kb M _ C B dn (j0,j1,j2,j3,j4,j5) _ a4.out.keepIn hT.1 hT.2).mono ?_;rintro e w1 ⟨rfl,a2⟩;have a0:=hid (a4.out.below a2);have a3:=hid (HO.out.trans ((Z6 a5).trans (Z6 a2)));have R2:=hid (R1.out.below a2 lr);clear a4 HO R1 a5 a2 p0 p1 p2 p3 p4 p5;generalize hdue:Zbv C (j0,j1,j2,j3,j4,j5)=du at *
   have a6:=hid hdue;clear hdue;obtain ⟨r0,r1,r2,r3,r4,r5⟩:=R2.out.q6 rfl rfl rfl rfl rfl rfl
   cases j5 with
   | true=>
    have HE:Hid (Ym C now k M=M):=hid (by simp [Ym,HJ.out,Zrg]);clear R2;go_wp2;go_roundw
    case rel=>exact ⟨k+1,by omega,by go_num,⟨aE',cE',by rw [HS.out,HE.out];exact a0.out⟩,a3.out⟩
    case measure=>simp [intOf];omega
   | false=>
    by_cases hdn:du≤now
    ·have HE:Hid (Ym C now k M=⟨M.jobs.set k (Zk3 (j0,j1,j2,j3,j4,false)),M.rel,M.nxt,M.ins,M.tak,M.out,M.evs++[(du,6,j0,j1)]⟩):=hid (by simp [Ym,HJ.out,Zrg,a6.out,hdn])
     have k0:=a0.out.row.cell 0 _ rfl;have pj:=a0.out.keepIn.dom.jobs k a1;obtain ⟨b',o',e',-,-,-,-,-,p5⟩:=pj;dsimp only at e';simp only [Option.some.injEq,Addr.mk.injEq,and_true] at e';obtain ⟨rfl,rfl⟩:=e';rw [Nat.zero_add] at p5;have fz:=Zdz a0.out.j (k*6+5);have a7:=hid (a0.out.setJob (g:=g) rfl k _ HJ);have a8:=hid (a3.out.trans (KeepsOthers.setCell w1 ⟨g,k*6+5,none⟩ (.bool true)));have R3:=hid (show Zf (w1.setCell ⟨g,k*6+5,none⟩ (.bool true)) wr.heap.size 87 _ from (Zd _ _ _ _ wr.heap.size (by omega)).trans R2.out);clear r0 r1 r2 r3 r4 a0 a3 R2;dsimp only at k0;go_upto_region 6 with fail;clear p5 fz k0 r5;generalize w1.setCell ⟨g,k*6+5,none⟩ (.bool true)=W3 at *
     obtain ⟨r0,r1,r2,r3,r4,r5⟩:=R3.out.q6 rfl rfl rfl rfl rfl rfl;go_wp2_with fail;refine (Zrm w0 X base kb _ _ C B dn du 6 (j0,j1,j2,j3,j4,false) _ a7.out (by have:=ab.out;simp only;omega)).mono ?_;rintro e w6 ⟨rfl,⟨a',c',h6⟩,a9⟩;have H6:=hid h6;have ad:=hid (a8.out.trans a9);clear h6 a9 a7 a8 r0 r1 r2 r3 r4 r5 R3;go_wp2;go_roundw
     case rel=>exact ⟨k+1,by omega,by go_num,⟨a',c',by rw [HS.out,HE.out];exact H6.out⟩,ad.out⟩
     case measure=>simp [intOf];omega
    ·have HE:Hid (Ym C now k M=M):=hid (by simp [Ym,HJ.out,Zrg,a6.out,hdn])
     clear R2;go_wp2;go_roundw
     case rel=>exact ⟨k+1,by omega,by go_num,⟨aE',cE',by rw [HS.out,HE.out];exact a0.out⟩,a3.out⟩
     case measure=>simp [intOf];omega
  ·obtain rfl:k=D.jobs.length:=by omega
   go_wp2;go_end0;exact ⟨rfl,⟨_,hK⟩,HO.out⟩
theorem Zxm (a:Qg) (aK:Option Addr) (K:KT) (cK:Nat) (w:World) (hw:Z8 w aK K) (h:ck K=0) (hA:ckA a=0):
  Calls prog 160 #[.agg #[.slice aK K.length cK],av a] w fun e w'=>∃ g0,e=.returned (.tuple #[.agg #[.slice (some ⟨g0,0,none⟩) K.length K.length],.int .i64 (spC K a),.int .i64 0])∧Zbo w' g0 (spK K a) K.length∧w.heap.size≤g0∧Below w.heap.size w w':=by
 obtain ⟨k,n,v⟩:=a;obtain ⟨_,b1,b2,am⟩:=Zh8 h;have q1:=Za w (.cells #[.slice aK K.length cK] 72);have q2:=Za (w.alloc (.cells #[.slice aK K.length cK] 72)) (.cells #[.int .i64 k,.int .i64 n,.int .i64 v] 63);have q3:=Za ((w.alloc (.cells #[.slice aK K.length cK] 72)).alloc (.cells #[.int .i64 k,.int .i64 n,.int .i64 v] 63)) (.cells #[.slice none 0 0] 72);have HB:=hid (Zb (Zb q1 q2) q3);have HW:=hid (hw.keep (Zb (Zb q1 q2) q3));have R1:=hid (((Z5 w _ [.slice aK K.length cK] 72 rfl).below q2 lr).below q3 lr);have R2:=hid ((Z5 (w.alloc (.cells #[.slice aK K.length cK] 72)) (w.heap.size+1) [.int .i64 k,.int .i64 n,.int .i64 v] 63 (by simp)).below q3 lr);have R3:=hid (Z5 ((w.alloc (.cells #[.slice aK K.length cK] 72)).alloc (.cells #[.int .i64 k,.int .i64 n,.int .i64 v] 63)) (w.heap.size+1+1) [.slice none 0 0] 72 (by simp));have HA:Hid (ckA (k,n,v)=0):=hid hA;have HK:Hid (ck K=0):=hid h;clear q1 q2 q3 hw hA h;have hr:(k=2∨k=3)→inR n 1 1000=true:=fun hk=>by
  have:=HA.out
  unfold ckA at this
  split at this
  ·split at this
   ·rename_i hx
    unfold Zmx at hx;dsimp only at hx;rw [if_neg (by omega),if_pos hk] at hx;exact hx
   ·omega
  ·omega
 go_enter func160,ntmps160;go_wp2_with fail;generalize hW:World.alloc (World.alloc (World.alloc w _) _) _=W at *
 clear hW;refine (Zea aK K cK _ HW (by omega)).mono ?_;rintro e w1 ⟨rfl,ab⟩;rw [HK.out];have S2:=hid (R2.out.below ab lr);obtain ⟨a0,a1,a2⟩:=S2.out.q3 rfl rfl rfl;go_wp2_with fail;refine (Za3 (k,n,v) _).mono ?_;rintro e w2 ⟨rfl,af⟩;rw [HA.out];have a3:=Zb ab af;have T1:=hid (R1.out.below a3 lr);have T2:=hid (R2.out.below a3 lr);have T3:=hid (R3.out.below a3 lr);have a6:=hid (Zb HB a3);have ag:=hid (HW.out.keep a3);clear a0 a1 a2 S2 R1 R2 R3 HB HW ab af a3;obtain ⟨a0,a1,a2⟩:=T2.out.q3 rfl rfl rfl;have c0:=T1.out.cell 0 _ rfl;by_cases hk:k=2∨k=3
 ·have ac:=hr hk
  have a7:=ac;simp only [inR,Bool.and_eq_true,decide_eq_true_eq] at a7;have a5:(0:Int)<(K.length:Int):=by omega
  have an:=Int.emod_nonneg n (Int.ne_of_gt a5);have ao:=Int.emod_lt_of_pos n a5;have a8:Zad K n<K.length:=by unfold Zad;omega
  have hs:n%(K.length:Int)=(Zad K n:Int):=by unfold Zad;omega
  have ah:Hid (spK K (k,n,v)=K.set (Zad K n) (Qp K[Zad K n] n (decide (k=3))).1):=by
   unfold spK;rw [if_pos hk];dsimp only;rw [show K.getD (Zad K n) []=K[Zad K n] by simp [a8]];exact hid rfl
  have ai:Hid (spC K (k,n,v)=(Qp K[Zad K n] n (decide (k=3))).2):=by
   unfold spC;rw [if_pos hk];dsimp only;rw [show K.getD (Zad K n) []=K[Zad K n] by simp [a8]];exact hid rfl
  have CA:Hid (Calls prog 177 #[.agg #[.slice aK K.length cK],.int .i64 n,.bool (decide (k=3))] w2 fun e w'=>∃ g0,e=.returned (.tuple #[.agg #[.slice (some ⟨g0,0,none⟩) K.length K.length],.int .i64 (spC K (k,n,v)),.int .i64 0])∧Zbo w' g0 (spK K (k,n,v)) K.length∧w2.heap.size≤g0∧Below w2.heap.size w2 w'):=by
   rw [ah.out,ai.out];exact hid (Zr3 aK K cK n (decide (k=3)) (Zad K n) w2 ag (by omega) HK ac hs a8)
  generalize hsc:spC K (k,n,v)=sc at *
  generalize hsk:spK K (k,n,v)=sk at *
  have a9:=hid hsc;have aa:=hid hsk;clear ah ai hs a8 an ao a5 ac a7 hr hsc hsk;rcases hk with rfl|rfl
  ·rw [show (decide ((2:Int)=3))=false by decide] at CA
   go_wp2_with fail;refine Calls.mono CA.out ?_;rintro e w3 ⟨g0,rfl,hO,ap,a4⟩;have U3:=hid (T3.out.below a4 lr);have d0:=U3.out.cell 0 _ rfl;have f0:=U3.out.frozen 0;have HO:=hid hO;have ad:=hid (Zb a6 a4);have aj:=T3.out.lt;clear hO;go_wp2;have V3:=Ze U3.out 0 (.slice (some ⟨g0,0,none⟩) (List.length K) (List.length K));have d1:=V3.cell 0 _ rfl;have hz:=a6.out.size;exact bodyPost_ret (v:=.tuple #[.agg #[.slice (some ⟨g0,0,none⟩) (List.length K) (List.length K)],.int .i64 sc,.int .i64 0]) (by simp [results,results160,go_sem,d1]) rfl ⟨g0,by rw [a9.out],by rw [aa.out];exact HO.out.setOther _ _ (by show w.heap.size+1+1<g0;omega),by omega,ad.out.setCell (p:=⟨w.heap.size+1+1,0,none⟩) (by show w.heap.size≤w.heap.size+1+1;omega) _⟩
  ·rw [show (decide ((3:Int)=3))=true by decide] at CA
   go_wp2_with fail;refine Calls.mono CA.out ?_;rintro e w3 ⟨g0,rfl,hO,ap,a4⟩;have U3:=hid (T3.out.below a4 lr);have d0:=U3.out.cell 0 _ rfl;have f0:=U3.out.frozen 0;have HO:=hid hO;have ad:=hid (Zb a6 a4);have aj:=T3.out.lt;clear hO;go_wp2;have V3:=Ze U3.out 0 (.slice (some ⟨g0,0,none⟩) (List.length K) (List.length K));have d1:=V3.cell 0 _ rfl;have hz:=a6.out.size;exact bodyPost_ret (v:=.tuple #[.agg #[.slice (some ⟨g0,0,none⟩) (List.length K) (List.length K)],.int .i64 sc,.int .i64 0]) (by simp [results,results160,go_sem,d1]) rfl ⟨g0,by rw [a9.out],by rw [aa.out];exact HO.out.setOther _ _ (by show w.heap.size+1+1<g0;omega),by omega,ad.out.setCell (p:=⟨w.heap.size+1+1,0,none⟩) (by show w.heap.size≤w.heap.size+1+1;omega) _⟩
 ·have aq:¬ k=2:=by omega
  have ar:¬ k=3:=by omega
  have au:(k==2)=false:=by simp [aq]
  have aw:(k==3)=false:=by simp [ar]
  have a9:Hid (spC K (k,n,v)=Zie (k,n,v)):=by
   unfold spC;rw [if_neg hk];exact hid rfl
  have aa:Hid (spK K (k,n,v)=K):=by
   unfold spK;rw [if_neg hk];exact hid rfl
  have CX:Hid (∀ wx,Below w2.heap.size w2 wx→Calls prog 70 #[.agg #[.slice aK K.length cK]] wx fun e w'=>∃ g0,e=.returned (.agg #[.slice (some ⟨g0,0,none⟩) K.length K.length])∧wx.heap.size≤g0∧Zbo w' g0 K K.length∧Below wx.heap.size wx w'):=hid fun wx hb=>Zgc aK K cK wx (ag.out.keep hb) (by omega) (by omega) am
  have CY:Hid (∀ wx,Below w2.heap.size w2 wx→Calls prog 87 #[.agg #[.int .i64 k,.int .i64 n,.int .i64 v]] wx fun e w'=>e=.returned (.int .i64 (Zie (k,n,v)))∧Below wx.heap.size wx w'):=hid fun wx hb=>Zee (k,n,v) wx
  generalize hsc:Zie (k,n,v)=sc at *
  have HS:Hid (∀ w',Below w2.heap.size w2 w'→w'.cell? ⟨w.heap.size,0,none⟩=some (.slice aK K.length cK)∧w'.cell? ⟨w.heap.size+1,0,none⟩=some (.int .i64 k)∧w'.cell? ⟨w.heap.size+1,1,none⟩=some (.int .i64 n)∧w'.cell? ⟨w.heap.size+1,2,none⟩=some (.int .i64 v)):=hid fun w' hb=>⟨Zg hb c0 lr,Zg hb a0 lr,Zg hb a1 lr,Zg hb a2 lr⟩
  have hB:Below w2.heap.size w2 w2.drew:=br.drew;have n1:¬ w.heap.size+1+1=w.heap.size:=by omega
  have n2:¬ w.heap.size+1+1=w.heap.size+1:=by omega
  clear hsc hr;go_wp2_with fail;go_region_held3 (fun w'=>w'.cell? ⟨w.heap.size,0,none⟩=some (.slice aK K.length cK)∧w'.cell? ⟨w.heap.size+1,0,none⟩=some (.int .i64 k)∧w'.cell? ⟨w.heap.size+1,1,none⟩=some (.int .i64 n)∧w'.cell? ⟨w.heap.size+1,2,none⟩=some (.int .i64 v))
   (first|with_reducible exact HS.out _ hB|with_reducible exact HS.out _ hB3|with_reducible exact HS.out _ hB4|go_keep)
   (first
    | (go_at_call 70;with_reducible refine Calls.mono (CX.out _ hB) ?_;rintro e w3 ⟨g0,rfl,ak,al,a4⟩;have hB3:=Zb hB a4;have ax:=hid al;have ay:=hid ak;clear al ak a4)
    | (go_at_call 87;with_reducible refine Calls.mono (CY.out _ hB3) ?_;rintro e w4 ⟨rfl,ae⟩;have hB4:=Zb hB3 ae;have az:=hid (ax.out.below ae);have U3:=hid (T3.out.below hB4 lr);have d0:=U3.out.cell 0 _ rfl;have f0:=U3.out.frozen 0;clear ae))
  all_goals
   have b0:=hid (Zb a6 hB4);have aj:=T3.out.lt;have hz:=a6.out.size;clear hB hB3 hB4 HS CX CY;go_wp2;have V3:=Ze U3.out 0 (.slice (some ⟨g0,0,none⟩) (List.length K) (List.length K));have d1:=V3.cell 0 _ rfl;have b3:w2.heap.size≤g0:=ay.out;exact bodyPost_ret (v:=.tuple #[.agg #[.slice (some ⟨g0,0,none⟩) (List.length K) (List.length K)],.int .i64 sc,.int .i64 0]) (by simp [results,results160,go_sem,d1]) rfl ⟨g0,by rw [a9.out],by rw [aa.out];exact az.out.setOther _ _ (by show w.heap.size+1+1<g0;omega),by omega,b0.out.setCell (p:=⟨w.heap.size+1+1,0,none⟩) (by show w.heap.size≤w.heap.size+1+1;omega) _⟩
theorem Zqy {T:List Int} {w6 w7 wf:World} {A:Yk} {D:Dom} {gI gO m p q bx:Nat} {a7:Option Addr} {c7:Nat} {E:List EvT} (h:Qu base w6 A D gI gO m p q)
  (hg:w6.grownBy w7 (Value.slice A.aE D.evs.length A.cE).ownBlock) (ho:w7.ownsRow base 92 4 (.slice a7 E.length c7) E.length (fE E)) (hbx:q≤bx) (hbx2:base≤bx) (hbl:bx<w6.heap.size) {L:List Value} (hrow:Zf w6 bx 46 L)
  (hT:wf.ownsRow base 3 1 (.slice A.aT T.length A.cT) T.length (ivs T)) (hTl:T.length=D.tak.length) (hk:∀ x,base≤x→x≠bx→some x≠(Value.slice A.aT D.tak.length A.cT).ownBlock→wf.heap[x]? = w7.heap[x]?) (hI:D.ins.length≤9223372036854775807) (hO:D.out.length≤9223372036854775807):Yz wf {A with aE:=a7,cE:=c7} {D with evs:=E,tak:=T}:=by
 have hm:=h.mp;have a8:=h.bI;have a9:=h.bO;have a3:∀ x,(Value.slice A.aT D.tak.length A.cT).ownBlock=some x→∃ cur fz,w6.heap[x]? = some (.cells cur 3 fz):=fun x hx=>by
  rcases h.t.2 with ⟨q1,_⟩|⟨g',a2,cur,e1,e2,e3,r⟩
  ·rw [q1] at hx;cases hx
  ·rw [e1] at hx
   simp [Value.ownBlock] at hx;subst hx;exact ⟨_,_,e3⟩
 have ag:∀ x,x<w6.heap.size→x≠bx→base≤x→some x≠(Value.slice A.aE D.evs.length A.cE).ownBlock→some x≠(Value.slice A.aT D.tak.length A.cT).ownBlock→wf.heap[x]? = w6.heap[x]? := fun x h1 h2 h3 h4 h5=>(hk x h3 h2 h5).trans (hg.block x h1 h4)
 have ow:∀ {e sz n:Nat} {v:Value} {xs:List Value},w6.ownsRow base e sz v n xs→e≠92→e≠46→(∀ x,v.ownBlock=some x→some x≠(Value.slice A.aT D.tak.length A.cT).ownBlock)→wf.ownsRow base e sz v n xs:=fun o n1 n2 n3=>Zi o (fun x hx=>ag x (Zt o x hx) (Yi o hrow n2 x hx) (Zv o x hx) (fun e=>by
  rcases h.e.2 with ⟨q1,_⟩|⟨g',a2,cur,e1,e2,e3,r⟩
  ·rw [q1] at e;cases e
  ·exact Zbl o e3 n1 x hx (by rw [e1] at e;simp [Value.ownBlock] at e;exact e)) (n3 x hx))
 have a0:Zf w7 bx 46 L:=(hg.block bx hbl (fun e=>by
  have:=h.lt bx (.inr (.inr (.inr e.symm)))
  omega)).trans hrow
 have o7:wf.ownsRow base 92 4 (.slice a7 E.length c7) E.length (fE E):=Zi ho (fun x hx=>hk x (Zv ho x hx) (Yi ho a0 (by decide) x hx) (fun e=>by
  obtain ⟨cur,fz,hc⟩:=a3 x e.symm;have a5:w7.heap[x]? = some (.cells cur 3 fz):=(hg.block x (Array.getElem?_eq_some_iff.1 hc).1 (fun e'=>by
   rcases h.e.2 with ⟨q1,_⟩|⟨g',a2,a6,e1,e2,e3,r⟩
   ·rw [q1] at e';cases e'
   ·rw [e1] at e'
    simp [Value.ownBlock] at e';subst e';rw [hc] at e3;simp at e3)).trans hc
  exact Zbl ho a5 (by decide) x hx rfl))
 have a1:∀ x,x=gI∨x=gO∨m≤x→some x≠(Value.slice A.aT D.tak.length A.cT).ownBlock:=fun x hx e=>by
  obtain ⟨cur,fz,hc⟩:=a3 x e.symm;rcases hx with rfl|rfl|hx
  ·obtain ⟨cs,v,h1,_⟩:=h.i
   rw [show w6.heap[x]? = _ from h1] at hc;simp at hc
  ·obtain ⟨cs,v,h1,_⟩:=h.o
   rw [show w6.heap[x]? = _ from h1] at hc;simp at hc
  ·have:=h.lt x (.inr (.inr (.inl e.symm)))
   omega
 have a4:∀ x,x=gI∨x=gO∨m≤x→some x≠(Value.slice A.aE D.evs.length A.cE).ownBlock:=fun x hx e=>by
  rcases hx with rfl|rfl|hx
  ·obtain ⟨cs,v,h1,_⟩:=h.i
   rcases h.e.2 with ⟨q1,_⟩|⟨g',a2,cur,e1,e2,e3,r⟩
   ·rw [q1] at e;cases e
   ·rw [e1] at e
    simp [Value.ownBlock] at e;subst e;rw [show w6.heap[x]? = _ from h1] at e3;simp at e3
  ·obtain ⟨cs,v,h1,_⟩:=h.o
   rcases h.e.2 with ⟨q1,_⟩|⟨g',a2,cur,e1,e2,e3,r⟩
   ·rw [q1] at e;cases e
   ·rw [e1] at e
    simp [Value.ownBlock] at e;subst e;rw [show w6.heap[x]? = _ from h1] at e3;simp at e3
  ·have:=h.lt x (.inr (.inr (.inr e.symm)))
   omega
 have ri:Qw wf gI m p D.ins D.ins.length:=h.i.agree (fun x hx=>ag x (by rcases hx with rfl|⟨_,_⟩<;>omega) (by rcases hx with rfl|⟨_,_⟩<;>omega) (by rcases hx with rfl|⟨_,_⟩<;>omega) (a4 x (by rcases hx with h'|⟨h1,h2⟩<;>first|exact .inl h'|exact .inr (.inr (by omega)))) (a1 x (by rcases hx with h'|⟨h1,h2⟩<;>first|exact .inl h'|exact .inr (.inr (by omega)))));have lo:Je wf gO p q D.out D.out.length:=h.o.agree (fun x hx=>ag x (by rcases hx with rfl|⟨_,_⟩<;>omega) (by rcases hx with rfl|⟨_,_⟩<;>omega) (by rcases hx with rfl|⟨_,_⟩<;>omega) (a4 x (by rcases hx with h'|⟨h1,h2⟩<;>first|exact .inr (.inl h')|exact .inr (.inr (by omega)))) (a1 x (by rcases hx with h'|⟨h1,h2⟩<;>first|exact .inr (.inl h')|exact .inr (.inr (by omega)))));have j:=Zz (ow h.j (by decide) (by decide) (fun x hx e=>by
  obtain ⟨cur,fz,hc⟩:=a3 x e.symm;exact Zbl h.j hc (by decide) x hx rfl))
 have r:=Zz (ow h.r (by decide) (by decide) (fun x hx e=>h.rt x hx e.symm));have t:=Zz hT;have e:=Zz o7;exact ⟨Za5 j.1,Yc r.1,by show Za7 wf A.aI D.ins;rw [h.aI];exact ri.rings,Yc t.1,by show Jq wf A.aO D.out;rw [h.aO];exact lo.lists,Zb4 e.1,j.2.2,r.2.2,hI,t.2.2,hO,e.2.2⟩
theorem Zb1 {C:Zm} {L:List Zar} {dn fr te:Int} (h0:Yv C L dn fr te=0):L.length≤40:=by
 unfold Yv at h0
 split at h0
 ·omega
 ·split at h0
  ·omega
  ·split at h0
   ·omega
   ·omega
theorem Znk {b e b' e' sz' n':Nat} {v':Value} {xs':List Value} (h:w.ownsRow b e sz v n xs) (h':w.ownsRow b' e' sz' v' n' xs') (hne:e≠e') (x:Nat) (hx:v.ownBlock=some x):v'.ownBlock≠some x:=fun e0=>by
 rcases h'.2 with ⟨q1,_⟩|⟨g',cap,cur,e1,e2,e3,r⟩
 ·rw [q1] at e0;cases e0
 ·exact Zbl h e3 hne x hx (by rw [e1] at e0;simp [Value.ownBlock] at e0;exact e0.symm)
theorem Zwy (C:Zm) (L:List Zar) (dn fr te:Int) (h:L.length≤40) (l:Nat):0≤(Qy C L dn fr te).getD l 0∧(Qy C L dn fr te).getD l 0≤40:=by
 by_cases hl:l<C.ow.length
 ·have:=Zn5 C L dn fr te l
  rw [show (Qy C L dn fr te).getD l 0=Jl C L dn fr te l by simp [Qy,hl]];omega
 ·rw [show (Qy C L dn fr te).getD l 0=0 by simp [Qy,List.getD,hl]]
  omega
def Zix (D:Dom) (came:List Int) (k:Nat):List Int:=(List.range D.tak.length).map fun l=>if l<k then min (D.tak.getD l 0+came.getD l 0) 15 else D.tak.getD l 0
theorem Zdc (D:Dom) (came:List Int) (k:Nat):(Zix D came k).length=D.tak.length:=by simp [Zix]
theorem Zqj (D:Dom) (came:List Int):Zix D came 0=D.tak:=by
 refine List.ext_getElem (by simp [Zix]) fun i h1 h2=>?_
 simp [Zix,h2]
theorem Zqk (D:Dom) (came:List Int) (k:Nat) (hk:k<D.tak.length):Zix D came (k+1)=(Zix D came k).set k (min (D.tak[k]+came.getD k 0) 15):=by
 refine List.ext_getElem (by simp [Zix]) fun i h1 h2=>?_
 have hi:i<D.tak.length:=by simpa [Zix] using h1
 rw [List.getElem_set];simp only [Zix,List.getElem_map,List.getElem_range];by_cases e:k=i
 ·subst e
  rw [if_pos (by omega),if_pos rfl];simp [hk]
 ·rw [if_neg e]
  by_cases h:i<k
  ·rw [if_pos (by omega),if_pos h]
  ·rw [if_neg (by omega),if_neg h]
theorem Zwm (D:Dom) (came:List Int) (k:Nat) (hk:k<D.tak.length):(Zix D came k)[k]'(by rw [Zdc];exact hk)=D.tak[k]:=by
 simp [Zix,hk]
def Zmg (D:Dom) (came:List Int) (now s:Int):Dom:=⟨D.jobs,D.rel,D.nxt,D.ins,Zix D came D.tak.length,D.out,D.evs++[(now,1,s,0)]⟩
theorem Znw (l:List Int) (c:Nat) (n:Int):(ivs l).set c (.int .i64 n)=ivs (l.set c n):=by simp [ivs,List.map_set]
theorem Ztf (C:Zm) (B:Mem) (aL:Option Addr) (L:List Zar) (cL:Nat) (D:Dom) (A:Yk) (s:Nat) (fr now:Int) (w:World) (hLs:Qs w aL L) (hLl:L.length≤9223372036854775807) (hC:Z1 w B C) (hD:Yz w A D) (h0:ckC C=0) (hs:s<C.sl.length) (hz:ckD C C.sl[s].1 D=0) (hca:Yv C L C.sl[s].1 fr now=0)
  (hl:D.jobs.length≤1000000000000∧D.rel.length≤1000000000000∧D.tak.length≤1000000000000∧D.evs.length≤1000000000000) (hI:D.ins.length≤1000000000000) (hO:D.out.length≤1000000000000) (hi:∀ r∈D.ins,r.1.length≤1000000000000) (ho:∀ r∈D.out,r.length≤1000000000000) :
  Calls prog 45 #[cv C B,.slice aL L.length cL,.int .i64 s,dv D A,.int .i64 fr,.int .i64 now] w fun e w'=>∃ A',e=.returned (.tuple #[dv (Zmg D (Qy C L C.sl[s].1 fr now) now s) A',.int .i64 0])∧(∀ wx:World,(∀ x,w.heap.size≤x→wx.heap[x]? = w'.heap[x]?)→Yz wx A' (Zmg D (Qy C L C.sl[s].1 fr now) now s))∧Below w.heap.size w w':=by
 have q1:=Za w (.cells (cl C B) 27);have q2:=Za (w.alloc (.cells (cl C B) 27)) (.cells (dl D A) 46);have q3:=Za ((w.alloc (.cells (cl C B) 27)).alloc (.cells (dl D A) 46)) (.cells #[.slice none 0 0,.slice none 0 0,.int .i64 0,.slice none 0 0,.slice none 0 0,.slice none 0 0,.slice none 0 0] 46);have HC:=hid (((hC.keep q1).keep q2).keep q3);have HD:=hid (((hD.keep q1).keep q2).keep q3);have HX:=hid (((Yq w C B).keep q2).keep q3);have b7:=hid ((Zc (w.alloc (.cells (cl C B) 27)) (w.heap.size+1) (dl D A).toList 46 (by simp)).below q3 lr);have be:=hid (Zc ((w.alloc (.cells (cl C B) 27)).alloc (.cells (dl D A) 46)) (w.heap.size+1+1) [.slice none 0 0,.slice none 0 0,.int .i64 0,.slice none 0 0,.slice none 0 0,.slice none 0 0,.slice none 0 0] 46 (by simp));have HB:=hid (Zb q1 (Zb q2 q3));have bf:Hid ((((w.alloc (.cells (cl C B) 27)).alloc (.cells (dl D A) 46)).alloc (.cells #[.slice none 0 0,.slice none 0 0,.int .i64 0,.slice none 0 0,.slice none 0 0,.slice none 0 0,.slice none 0 0] 46)).heap.size=w.heap.size+3):=hid (by simp);have bg:Hid (Zbt C s=0):=hid (by simp [Zbt,h0,inR];omega);have HZ:=hid hz;have H0:=hid h0;have bh:=hid hca;have bi:=hid (((hLs.keep q1).keep q2).keep q3);have aj:=Ye.1 (Z0.1 hz).2.1;have aq:Hid (D.tak.length=C.ow.length):=hid aj.2.2.2;have ar:=(Yg.1 (Z0.1 hz).2.2.1).2.2;have bj:L.length≤40:=Zb1 hca;have bk:=hid ar;clear aj ar;have HL:=hid hl;have b8:=hid hI;have b9:=hid hO;have Hi:=hid hi;have Ho:=hid ho;clear q1 q2 q3 hC hD hz h0 hl hI hO hi ho hca hLs;obtain ⟨a5,a6,a7,a8,c5,c6,c7,c8⟩:=B;obtain ⟨aJ,aR,aI,aT,aO,aE,cJ,cR,cI,cT,cO,cE⟩:=A;dsimp only [cv,cl,dv,dl] at *
 go_enter func45,ntmps45;obtain ⟨g0,g1,g2,g3,g4,g5,g6,g7,g8⟩:=HX.out;go_wp2_with fail;refine (Zcf C ⟨a5,a6,a7,a8,c5,c6,c7,c8⟩ s _ HC).mono ?_;rintro e w1 ⟨rfl,ac⟩;rw [bg.out];generalize World.alloc (World.alloc (World.alloc w _) _) _=W at *
 clear g0 g1 g2 g3 g4 g5 g6 g7 g8;obtain ⟨g0,g1,g2,g3,g4,g5,g6,g7,g8⟩:=HX.out.keep ac;have rd:=b7.out.below ac lr;obtain ⟨d0,d1,d2,d3,d4,d5,d6⟩:=rd.q7 rfl rfl rfl rfl rfl rfl rfl;obtain ⟨b',o',e',c0,c1⟩:=(HC.out.keep ac).sl s hs;dsimp only at e';rw [e'] at g5;have cg:(0:Int)≤(s:Int):=by omega
 have ch:(s:Int)<(C.sl.length:Int):=by omega
 go_wp2_with fail;rw [← e'];refine (Za1 D ⟨aJ,aR,aI,aT,aO,aE,cJ,cR,cI,cT,cO,cE⟩ C ⟨a5,a6,a7,a8,c5,c6,c7,c8⟩ C.sl[s].1 _ (HC.out.keep ac) (HD.out.keep ac)).mono ?_;rintro e w2 ⟨rfl,ak⟩;rw [HZ.out];clear g0 g1 g2 g3 g4 g5 g6 g7 g8 d0 d1 d2 d3 d4 d5 d6 rd c0 c1 e';obtain ⟨g0,g1,g2,g3,g4,g5,g6,g7,g8⟩:=HX.out.keep (Zb ac ak);go_wp2_with fail;refine (Zf5 C ⟨a5,a6,a7,a8,c5,c6,c7,c8⟩ aL L cL C.sl[s].1 fr now _ (HC.out.keep (Zb ac ak)) (bi.out.keep (Zb ac ak)) hLl bh).mono ?_;rintro e w3 ⟨ga,rfl,au,bm,ba⟩;have bn:=hid au;have bo:ga<w3.heap.size:=au.lt;clear g0 g1 g2 g3 g4 g5 g6 g7 g8 au;have ag:=hid (Zb ac (Zb ak ba));clear ac ak ba;have rd:=b7.out.below ag.out lr;obtain ⟨d0,d1,d2,d3,d4,d5,d6⟩:=rd.q7 rfl rfl rfl rfl rfl rfl rfl;go_wp2_with fail;refine (Zda D ⟨aJ,aR,aI,aT,aO,aE,cJ,cR,cI,cT,cO,cE⟩ _ (HD.out.keep ag) HL b8 b9 Hi.out Ho.out).mono ?_;rintro e w4 ⟨A4,gI,gO,m,p,q,rfl,a2,ao⟩;clear d0 d1 d2 d3 d4 d5 d6 rd;obtain ⟨jJ,jR,jI,jT,jO,jE,kJ,kR,kI,kT,kO,kE⟩:=A4;have q5:=Za w4 (.cells #[.slice jJ D.jobs.length kJ,.slice jR D.rel.length kR,.int .i64 D.nxt,.slice jI D.ins.length kI,.slice jT D.tak.length kT,.slice jO D.out.length kO,.slice jE D.evs.length kE] 46);have q6:=Za (w4.alloc (.cells #[.slice jJ D.jobs.length kJ,.slice jR D.rel.length kR,.int .i64 D.nxt,.slice jI D.ins.length kI,.slice jT D.tak.length kT,.slice jO D.out.length kO,.slice jE D.evs.length kE] 46)) (.cells #[.int .i64 now,.int .i64 1,.int .i64 s,.int .i64 0] 92);have ad:=hid ((a2.keep q5).keep q6);have R5:=hid ((Zc w4 w4.heap.size [.slice jJ D.jobs.length kJ,.slice jR D.rel.length kR,.int .i64 D.nxt,.slice jI D.ins.length kI,.slice jT D.tak.length kT,.slice jO D.out.length kO,.slice jE D.evs.length kE] 46 rfl).below q6 lr);have R6:=hid (Zc (w4.alloc (.cells #[.slice jJ D.jobs.length kJ,.slice jR D.rel.length kR,.int .i64 D.nxt,.slice jI D.ins.length kI,.slice jT D.tak.length kT,.slice jO D.out.length kO,.slice jE D.evs.length kE] 46)) (w4.heap.size+1) [.int .i64 now,.int .i64 1,.int .i64 s,.int .i64 0] 92 (by simp));have bp:Hid (Q9 ((w4.alloc (.cells #[.slice jJ D.jobs.length kJ,.slice jR D.rel.length kR,.int .i64 D.nxt,.slice jI D.ins.length kI,.slice jT D.tak.length kT,.slice jO D.out.length kO,.slice jE D.evs.length kE] 46)).alloc (.cells #[.int .i64 now,.int .i64 1,.int .i64 s,.int .i64 0] 92)) (some ⟨w4.heap.size+1,0,none⟩) (fE [(now,1,(s:Int),0)])):=hid fun _=>⟨_,0,rfl,fun j u hu=>by rw [Nat.zero_add];exact R6.out.cell j u hu⟩
 have bq:=hid (Zb HB (Zb ag (Zb ao (Zb q5 q6))));have HQ:=hid a2.mp;have aw:=hid (Zb ao (Zb q5 q6));have bs:=ao.size;have ax:=ag.out.size;rw [bf.out] at ax;have ay:=hid a2.lt;have az:=hid ((be.out.below (Zb ag (Zb ao (Zb q5 q6))) lr));have ah:Hid (((w4.alloc (.cells #[.slice jJ D.jobs.length kJ,.slice jR D.rel.length kR,.int .i64 D.nxt,.slice jI D.ins.length kI,.slice jT D.tak.length kT,.slice jO D.out.length kO,.slice jE D.evs.length kE] 46)).alloc (.cells #[.int .i64 now,.int .i64 1,.int .i64 s,.int .i64 0] 92)).heap.size=w4.heap.size+2):=hid (by simp);dsimp only [dv,dl] at *
 clear a2 q5 q6;go_wp2_with (at_builtin;refine Js rfl _ _ 44 92 rfl _ 4 32 underlying44 Tryz.info92x rfl (by omega) w3.heap.size (.slice jE D.evs.length kE) D.evs.length (fE D.evs) rfl ad.out.e 1 (fE [(now,1,(s:Int),0)]) rfl (Ziv _) _ _ rfl bp.out (by have:=HL.out;simp [maxLen];omega) (by have:=HL.out;omega) (by rw [ah.out];omega) ?_);intro v7 w7 a3 a0;obtain ⟨a4,a9,rfl,-⟩:=Zu a3;rw [← Zla] at a3;generalize World.alloc (World.alloc w4 _) _=w6 at *
 have al:∀ k,(Value.slice jE D.evs.length kE).ownBlock=some k→w3.heap.size≤k∧k<m:=fun k hk=>⟨Zv ad.out.e k hk,ay.out k (.inr (.inr (.inr hk)))⟩
 have ci:m≤w4.heap.size:=by have:=HQ.out;omega
 have R7:=hid (show Zf w7 w4.heap.size 46 [.slice jJ D.jobs.length kJ,.slice jR D.rel.length kR,.int .i64 D.nxt,.slice jI D.ins.length kI,.slice jT D.tak.length kT,.slice jO D.out.length kO,.slice jE D.evs.length kE] from (a0.block w4.heap.size (by rw [ah.out];omega) (fun e=>by have:=al _ e.symm;omega)).trans R5.out);have bt:=hid (show Zf w7 (w.heap.size+1+1) 46 [.slice none 0 0,.slice none 0 0,.int .i64 0,.slice none 0 0,.slice none 0 0,.slice none 0 0,.slice none 0 0] from (a0.block (w.heap.size+1+1) (by rw [ah.out];omega) (fun e=>by have:=al _ e.symm;omega)).trans az.out);have cj:=hid (bq.out.grown a0 (by rw [ah.out];omega) (fun k hk=>by have:=al k hk;omega));have b0:=hid (aw.out.grown a0 (by rw [ah.out];omega) (fun k hk=>(al k hk).1));have bu:=hid a3;have bb:=hid a0;clear a3 a0 al;have y6:=R7.out.cell 6 _ rfl;have z6:=R7.out.frozen 6;have bv:=R7.out.cell 4 _ rfl;have R8:=hid (Ze R7.out 6 (.slice a4 (D.evs.length+1) a9));have bw:=hid (show Zf (w7.setCell ⟨w4.heap.size,6,none⟩ (.slice a4 (D.evs.length+1) a9)) (w.heap.size+1+1) 46 _ from (Zd w7 w4.heap.size 6 (.slice a4 (D.evs.length+1) a9) (w.heap.size+1+1) (by omega)).trans bt.out);go_wp2;clear y6 z6 bv;generalize hw8:w7.setCell ⟨w4.heap.size,6,none⟩ (.slice a4 (D.evs.length+1) a9)=w8 at *
 have b1:=hid hw8;clear hw8;have b2:Hid (Below w3.heap.size w3 w8):=by rw [← b1.out];exact hid (b0.out.setCell (p:=⟨w4.heap.size,6,none⟩) (by show w3.heap.size≤w4.heap.size;omega) _)
 have bz:Hid (w8.ownsRow w3.heap.size 3 1 (.slice jT D.tak.length kT) D.tak.length (ivs D.tak)):=hid (Zi ad.out.t (fun x hx=>by
  have am:=ay.out x (.inr (.inr (.inl hx)));rw [← b1.out,Zd _ _ _ _ x (by omega)];exact bb.out.block x (Zt ad.out.t x hx) (fun e=>Znk ad.out.t ad.out.e (by decide) x hx e.symm)))
 have ap:Hid (∀ x,(Value.slice jT D.tak.length kT).ownBlock=some x→w3.heap.size≤x∧x<w4.heap.size):=hid fun x hx=>⟨Zv ad.out.t x hx,by have:=ay.out x (.inr (.inr (.inl hx)));omega⟩
 have c2:Hid (∀ wx,Below w3.heap.size w3 wx→Below w.heap.size w wx):=hid fun wx h=>Zb (Zb HB ag) h
 have c3:=hid (Zwy C L C.sl[s].1 fr now bj);have b3:Hid ((Qy C L C.sl[s].1 fr now).length=C.ow.length):=hid (by simp [Qy]);generalize hCM:Qy C L C.sl[s].1 fr now=CM at *
 have bc:=hid hCM;clear hCM;go_loopw [68] (fun i wr=>∃ k:Nat,k≤D.tak.length∧i=.int .i64 k∧wr.ownsRow w3.heap.size 3 1 (.slice jT D.tak.length kT) D.tak.length (ivs (Zix D CM k))∧(∀ x,some x≠(Value.slice jT D.tak.length kT).ownBlock→wr.heap[x]? = w8.heap[x]?)∧Below w3.heap.size w3 wr) (fun i _=>D.tak.length-(intOf i).toNat)
 case atStart=>exact ⟨0,zl,rfl,by rw [Zqj];exact bz.out,fun _ _=>rfl,b2.out⟩
 case round=>
  obtain ⟨k,hk,rfl,aa,ai,an⟩:=hrel;have r8:Zf wr w4.heap.size 46 [.slice jJ D.jobs.length kJ,.slice jR D.rel.length kR,.int .i64 D.nxt,.slice jI D.ins.length kI,.slice jT D.tak.length kT,.slice jO D.out.length kO,.slice a4 (D.evs.length+1) a9]:=(ai _ (fun e=>by have:=ap.out _ e.symm;omega)).trans R8.out;have b4:Zf wr (w.heap.size+1+1) 46 [.slice none 0 0,.slice none 0 0,.int .i64 0,.slice none 0 0,.slice none 0 0,.slice none 0 0,.slice none 0 0]:=(ai (w.heap.size+1+1) (fun e=>by have:=ap.out _ e.symm;omega)).trans bw.out;by_cases am:k<D.tak.length
  ·have cn:(k:Int)<(C.ow.length:Int):=by have:=aq.out;omega
   have co:(k:Int)<(D.tak.length:Int):=by omega
   have cp:(0:Int)≤(k:Int):=by omega
   have cq:D.tak.length≤1000000000000:=HL.out.2.2.1;obtain ⟨a,c,ee,_,_,ab,bd⟩:=Zu aa;simp only [Value.slice.injEq,true_and] at ee;obtain ⟨rfl,rfl⟩:=ee;obtain ⟨g,o,ej,ae⟩:=ab (by
    intro e;have h9:(ivs (Zix D CM k)).length=0:=by rw [e];rfl
    rw [show (ivs (Zix D CM k)).length=D.tak.length by simp [ivs,Zdc]] at h9
    omega)
   obtain ⟨rfl,cr,cs⟩:=bd g o ej;subst ej;have tc:wr.cell? ⟨g,0+k,none⟩=some (.int .i64 D.tak[k]):=ae k _ (by
    have h1:k<(Zix D CM k).length:=by rw [Zdc];exact am
    simp only [ivs,List.getElem?_map,List.getElem?_eq_getElem h1,Option.map_some];rw [Zwm D CM k am])
   rw [Nat.zero_add] at tc;have tf:=Zdz aa k;have d4:=r8.cell 4 _ rfl;have ca:=(bn.out.below an lr).cell k (.int .i64 (CM.getD k 0)) (by
    have h1:k<CM.length:=by have:=b3.out;have:=aq.out;omega
    simp [ivs,h1])
   have ct:=c3.out k;have ar:0≤D.tak[k]∧D.tak[k]≤15:=by
    have:=bk.out
    simp only [Zbc,List.all_eq_true] at this
    have:=this _ (List.getElem_mem am)
    simpa [inR] using this
   have hw:IntKind.i64.wrap (D.tak[k]+CM.getD k 0)=D.tak[k]+CM.getD k 0:=by rw [IntKind.wrap_i64];omega
   have c4:¬ g=w4.heap.size:=fun e=>by have:=ap.out g rfl;omega
   have c9:=hid (Zqk D CM k am);have af:=hid aa;have b5:=hid ai;have b6:=hid an;clear aa ai an ab bd ae r8 b4;generalize hv:D.tak[k]=v at *
   generalize CM.getD k 0=cm at *
   clear hv;go_wp2_with fail;go_region
   all_goals
    go_wp2;go_roundw
    case rel=>
     refine ⟨k+1,by omega,by go_num,?_,fun x hx=>?_,?_⟩
     ·have h1:=Zd7 (i:=k) af.out (.int .i64 (min (v+cm) 15))
      rw [Znw,← c9.out,show min (v+cm) 15=if 15<v+cm then 15 else v+cm by split<;>omega] at h1;exact Zi h1 (fun x _=>rfl)
     ·exact (Zd _ g k _ x (fun e=>hx (by rw [e];rfl))).trans (b5.out x hx)
     ·exact (b6.out.setCell (p:=⟨g,k,none⟩) (by show w3.heap.size≤g;omega) _).drew
    case measure=>simp [intOf];omega
  ·have cb:k=D.tak.length:=by omega
   subst cb;have cu:¬ ((D.tak.length:Nat):Int)<(C.ow.length:Int):=by have:=aq.out;omega
   have cc:=hid r8;have a1:=hid b4;have af:=hid aa;have b5:=hid ai;have b6:=hid an;clear aa ai an r8 b4;obtain ⟨d0,d1,d2,d3,d4,d5,d6⟩:=cc.out.q7 rfl rfl rfl rfl rfl rfl rfl;have z0:=a1.out.frozen 0;have z1:=a1.out.frozen 1;have z2:=a1.out.frozen 2;have z3:=a1.out.frozen 3;have z4:=a1.out.frozen 4;have z5:=a1.out.frozen 5;have z6:=a1.out.frozen 6;obtain ⟨y0,y1,y2,y3,y4,y5,y6⟩:=a1.out.q7 rfl rfl rfl rfl rfl rfl rfl;have cd:Hid (Zf (wr.setCells (w.heap.size+1+1) 0 [.slice jJ D.jobs.length kJ,.slice jR D.rel.length kR,.int .i64 D.nxt,.slice jI D.ins.length kI,.slice jT D.tak.length kT,.slice jO D.out.length kO,.slice a4 (D.evs.length+1) a9]) (w.heap.size+1+1) 46 [.slice jJ D.jobs.length kJ,.slice jR D.rel.length kR,.int .i64 D.nxt,.slice jI D.ins.length kI,.slice jT D.tak.length kT,.slice jO D.out.length kO,.slice a4 (D.evs.length+1) a9]):=hid (Jc _ [] _ wr a1.out rfl);have ce:Hid (∀ wx:World,(∀ x,w.heap.size≤x→wx.heap[x]? = (wr.setCells (w.heap.size+1+1) 0 [.slice jJ D.jobs.length kJ,.slice jR D.rel.length kR,.int .i64 D.nxt,.slice jI D.ins.length kI,.slice jT D.tak.length kT,.slice jO D.out.length kO,.slice a4 (D.evs.length+1) a9]).heap[x]?)→Yz wx ⟨jJ,jR,jI,jT,jO,a4,kJ,kR,kI,kT,kO,a9⟩ (Zmg D CM now s)):=by
    refine hid fun wx hwx=>Zqy (T:=Zix D CM D.tak.length) (E:=D.evs++[(now,1,(s:Int),0)]) ad.out bb.out ?_ (bx:=w4.heap.size) HQ.out.2.2 (by omega) (by rw [ah.out];omega) R5.out ?_ (Zdc ..) (fun x h1 h2 h3=>?_) (by have:=b8.out;omega) (by have:=b9.out;omega)
    ·simpa using bu.out
    ·rw [Zdc]
     exact Zi af.out (fun x hx=>by
      have:=ap.out x hx
      rw [hwx x (by omega),Y6 _ _ _ _ x (by omega)])
    ·rw [hwx x (by omega),Y6 _ _ _ _ x (by omega),b5.out x h3,← b1.out,Zd _ _ _ _ x h2]
   have cf:Hid (Below w.heap.size w (wr.setCells (w.heap.size+1+1) 0 [.slice jJ D.jobs.length kJ,.slice jR D.rel.length kR,.int .i64 D.nxt,.slice jI D.ins.length kI,.slice jT D.tak.length kT,.slice jO D.out.length kO,.slice a4 (D.evs.length+1) a9])):=hid (Qq (c2.out _ b6) _ (by omega) _ _);go_wp2;change bodyPost _ _ _ _ _ (wr.setCells (w.heap.size+1+1) 0 [.slice jJ D.jobs.length kJ,.slice jR D.rel.length kR,.int .i64 D.nxt,.slice jI D.ins.length kI,.slice jT D.tak.length kT,.slice jO D.out.length kO,.slice a4 (D.evs.length+1) a9]);clear d0 d1 d2 d3 d4 d5 d6 z0 z1 z2 z3 z4 z5 z6 y0 y1 y2 y3 y4 y5 y6;generalize wr.setCells (w.heap.size+1+1) 0 [.slice jJ D.jobs.length kJ,.slice jR D.rel.length kR,.int .i64 D.nxt,.slice jI D.ins.length kI,.slice jT D.tak.length kT,.slice jO D.out.length kO,.slice a4 (D.evs.length+1) a9]=wf at *
   obtain ⟨d0,d1,d2,d3,d4,d5,d6⟩:=cd.out.q7 rfl rfl rfl rfl rfl rfl rfl;exact bodyPost_ret (v:=.tuple #[dv (Zmg D CM now s) ⟨jJ,jR,jI,jT,jO,a4,kJ,kR,kI,kT,kO,a9⟩,.int .i64 0]) (by simp [results,results45,go_sem,d0,d1,d2,d3,d4,d5,d6,Zmg,Zdc]) rfl ⟨⟨jJ,jR,jI,jT,jO,a4,kJ,kR,kI,kT,kO,a9⟩,by rw [bc.out],by rw [bc.out];exact ce.out,cf.out⟩
end Go.Proofs.YtejhccmclanlmaaGreatDoor
