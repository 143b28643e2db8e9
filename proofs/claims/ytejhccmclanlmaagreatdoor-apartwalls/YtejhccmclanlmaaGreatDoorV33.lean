/- Ba An Bc0 Be Bh -/
import Derived.Test.YtejhccmclanlmaaGreatDoorV31
import Derived.Test.YtejhccmclanlmaaGreatDoorV32
set_option linter.all false
set_option maxRecDepth 100000
set_option maxHeartbeats 8000000
namespace Go.Proofs.YtejhccmclanlmaaGreatDoor
open Go.RowKit Go.Proofs.Tryz
variable {l:Array Bool} {D D1 RD:Dom} {b fr te:Int} {K RK:KT} {ks:List Nat} {Br b5 bA c cK cL d f g k lL lkK m nW o5 oA slot t:Nat} {aK aL:Option Addr} {w w':World} {A A1:Yk}
def Zto (P:Nat→Prop) (w:World) (A:Yk) (D:Dom):Prop:=∀ wx:World,Ext P w wx→Yz wx A D
abbrev Zya (Fo:Nat→Prop) (n:Nat) (w:World) (A:Yk) (D:Dom):Prop:=Zto (fun k=>k<n∨Fo k) w A D
theorem Zto.dom {P:Nat→Prop} (h:Zto P w A D):Yz w A D:=h w (Ext.refl _ _)
theorem Zto.ext {P:Nat→Prop} (h:Zto P w A D) (hx:Ext P w w'):Zto P w' A D:=fun wx hw=>h wx (hx.trans hw)
theorem Zax.foreign {n:Nat} {Fo:Nat→Prop} (h:Zax n w A D) (hm:m≤n) (hf:∀ k,Fo k→k<n):Zya Fo m w A D:=fun wx hx=>h wx (hx.wider fun k hk=>by
 rcases hk with hk|hk
 ·omega
 ·exact hf k hk)
structure MK where
 C:Zm
 B:Mem
 S:Zcm
 M:Zg0
 w0:World
 gm:Nat
 gl:Nat
 n:Nat
 fo:Nat→Prop
abbrev Zdg (K:MK) (gd:Nat):List Value:=[.int .i64 K.C.s,.int .i64 K.C.w,.int .i64 K.C.d,.int .i64 K.C.p,.int .i64 K.C.q,.slice K.B.a5 K.C.sl.length K.B.c5,.slice K.B.a6 K.C.ow.length K.B.c6,.slice K.B.a7 K.C.ch.length K.B.c7,.slice K.B.a8 K.C.ta.length K.B.c8,.slice K.M.aA K.S.acts.length K.M.cA,.slice K.M.aR K.S.arr.length K.M.cR,.int .i64 K.S.rounds,.slice (some ⟨gd,0,none⟩) K.n K.n,.slice (some ⟨K.gl,0,none⟩) K.n K.n]
def MX (K:MK) (gd:Nat) (k:Nat):Prop:=k=K.gm∨k=K.gl∨k=gd
structure MO (K:MK) (w:World) (gd base:Nat) (Ds:Nat→Dom) (As:Nat→Yk) (La:Nat→Int):Prop where
 low:Below K.w0.heap.size K.w0 w
 cf:Z1 K.w0 K.B K.C
 sc:Q8 K.w0 K.M K.S
 row:Zf w K.gm 113 (Zdg K gd)
 drow:Zhz w gd K.n
 at_:∀ i,i<K.n→Qx w gd 0 i (Ds i) (As i)∧Zya K.fo base w (As i) (Ds i)
 last:Zf w K.gl 3 (ivs ((List.range K.n).map La))
 lo:K.w0.heap.size≤K.gm∧K.w0.heap.size≤K.gl∧K.w0.heap.size≤gd
 hi:K.gm<base∧K.gl<base∧gd<base∧base≤w.heap.size
 fo:∀ k,K.fo k→k<w.heap.size
section
variable {K:MK} {w w':World} {gd base:Nat} {Ds:Nat→Dom} {As:Nat→Yk} {La:Nat→Int}
theorem MO.keep (h:MO K w gd base Ds As La) (hb:Below w.heap.size w w'):MO K w' gd base Ds As La:=
 ⟨h.low.trans (hb.mono h.low.size),h.cf,h.sc,h.row.below hb lr,h.drow.keep hb,fun i hi=>⟨(h.at_ i hi).1.keep hb,(h.at_ i hi).2.ext (Ext.below hb)⟩,h.last.below hb lr,h.lo,⟨h.hi.1,h.hi.2.1,h.hi.2.2.1,Nat.le_trans h.hi.2.2.2 hb.size⟩,fun k hk=>Nat.lt_of_lt_of_le (h.fo k hk) hb.size⟩
theorem MO.conf (h:MO K w gd base Ds As La):Z1 w K.B K.C:=h.cf.keep h.low
theorem MO.scr (h:MO K w gd base Ds As La):Q8 w K.M K.S:=h.sc.keep h.low
theorem MO.ne (h:MO K w gd base Ds As La):K.gm≠gd∧K.gm≠K.gl∧gd≠K.gl:=by
 obtain ⟨cs,h1,_⟩:=h.drow;exact ⟨Qn h.row h1 (by decide),Qn h.row h.last (by decide),Qn h1 h.last (by decide)⟩
theorem MO.win (h:MO K w gd base Ds As La) (hb:Below w.heap.size w w') {i:Nat} (hi:i<K.n) {n5:Nat} (hD:Zax n5 w' A D) (hn5:w.heap.size≤n5) (t:Int) {bx:Nat} (hbx:w.heap.size≤bx) (hbx5:bx<n5) (o:Nat) (u:Value):
  MO K (((Zc7 w' gd (i*7) (.slice A.aJ D.jobs.length A.cJ) (.slice A.aR D.rel.length A.cR) (.int .i64 D.nxt) (.slice A.aI D.ins.length A.cI) (.slice A.aT D.tak.length A.cT) (.slice A.aO D.out.length A.cO) (.slice A.aE D.evs.length A.cE)).setCell ⟨K.gl,i,none⟩ (.int .i64 t)).setCell ⟨bx,o,none⟩ u) gd base (Zct Ds i D) (Zct As i A) (Zct La i t) ∧
  Ext (MX K gd) w (((Zc7 w' gd (i*7) (.slice A.aJ D.jobs.length A.cJ) (.slice A.aR D.rel.length A.cR) (.int .i64 D.nxt) (.slice A.aI D.ins.length A.cI) (.slice A.aT D.tak.length A.cT) (.slice A.aO D.out.length A.cO) (.slice A.aE D.evs.length A.cE)).setCell ⟨K.gl,i,none⟩ (.int .i64 t)).setCell ⟨bx,o,none⟩ u)∧Ext (fun k=>k<n5) w' (((Zc7 w' gd (i*7) (.slice A.aJ D.jobs.length A.cJ) (.slice A.aR D.rel.length A.cR) (.int .i64 D.nxt) (.slice A.aI D.ins.length A.cI) (.slice A.aT D.tak.length A.cT) (.slice A.aO D.out.length A.cO) (.slice A.aE D.evs.length A.cE)).setCell ⟨K.gl,i,none⟩ (.int .i64 t)).setCell ⟨bx,o,none⟩ u):=by
 have h':=h.keep hb;obtain ⟨n1,n2,n3⟩:=h.ne;have hh:=h.hi;have a5:=h.lo;have ad:=h.drow.lt;have hp:=Zmj h'.drow hi D A;have a2:=Zd1 w' gd (i*7) (.slice A.aJ D.jobs.length A.cJ) (.slice A.aR D.rel.length A.cR) (.int .i64 D.nxt) (.slice A.aI D.ins.length A.cI) (.slice A.aT D.tak.length A.cT) (.slice A.aO D.out.length A.cO) (.slice A.aE D.evs.length A.cE);have ae:=Zgn w' gd (i*7) (.slice A.aJ D.jobs.length A.cJ) (.slice A.aR D.rel.length A.cR) (.int .i64 D.nxt) (.slice A.aI D.ins.length A.cI) (.slice A.aT D.tak.length A.cT) (.slice A.aO D.out.length A.cO) (.slice A.aE D.evs.length A.cE);have a7:=Zac h'.low a5.2.2 (i*7) (.slice A.aJ D.jobs.length A.cJ) (.slice A.aR D.rel.length A.cR) (.int .i64 D.nxt) (.slice A.aI D.ins.length A.cI) (.slice A.aT D.tak.length A.cT) (.slice A.aO D.out.length A.cO) (.slice A.aE D.evs.length A.cE);generalize Zc7 w' gd (i*7) (.slice A.aJ D.jobs.length A.cJ) (.slice A.aR D.rel.length A.cR) (.int .i64 D.nxt) (.slice A.aI D.ins.length A.cI) (.slice A.aT D.tak.length A.cT) (.slice A.aO D.out.length A.cO) (.slice A.aE D.evs.length A.cE)=w1 at *
 have a8:Zf w1 K.gl 3 (ivs ((List.range K.n).map La)):=(a2 K.gl (Ne.symm n3)).trans h'.last;have a9:=Ze a8 i (.int .i64 t);have a1:=fun k (hk:k≠K.gl)=>Zd w1 K.gl i (.int .i64 t) k hk
 have aa:(w1.setCell ⟨K.gl,i,none⟩ (.int .i64 t)).heap.size=w1.heap.size:=by simp [World.setCell]
 have a3:=a7.setCell (p:=⟨K.gl,i,none⟩) a5.2.1 (.int .i64 t);generalize w1.setCell ⟨K.gl,i,none⟩ (.int .i64 t)=w2 at *
 have a0:=fun k (hk:k≠bx)=>Zd w2 bx o u k hk
 have ab:(w2.setCell ⟨bx,o,none⟩ u).heap.size=w2.heap.size:=by simp [World.setCell]
 have a4:=a3.setCell (p:=⟨bx,o,none⟩) (show K.w0.heap.size≤bx from Nat.le_trans h.low.size hbx) u;generalize w2.setCell ⟨bx,o,none⟩ u=w3 at *
 have af:=hb.size;have hx:Ext (MX K gd) w w3:=⟨by omega,fun k hk hX=>(a0 k (by omega)).trans ((a1 k (fun e=>hX (.inr (.inl e)))).trans ((a2 k (fun e=>hX (.inr (.inr e)))).trans (hb.block k hk)))⟩
 have ac:Ext (fun k=>k<base∨K.fo k) w w3:=hx.wider fun k hk=>.inl (by rcases hk with rfl|rfl|rfl<;>omega)
 have a6:Ext (fun k=>k<n5) w' w3:=⟨by omega,fun k hk hX=>(a0 k (by omega)).trans ((a1 k (by omega)).trans (a2 k (by omega)))⟩
 have d3:gd≠bx:=by omega
 refine ⟨⟨a4,h.cf,h.sc,?_,(hp.1.other (a1 gd n3)).other (a0 gd d3),fun j hj=>?_,?_,h.lo,by omega,fun k hk=>by have:=h.fo k hk;omega⟩,hx,a6⟩
 ·exact (a0 K.gm (by omega)).trans ((a1 K.gm n2).trans ((a2 K.gm n1).trans h'.row))
 ·by_cases e:j=i
  ·subst e
   rw [Yb,Yb];exact ⟨(hp.2.1.other (a1 gd n3)).other (a0 gd d3),(hD.ext a6).foreign (by omega) (fun k hk=>by have:=h.fo k hk;omega)⟩
  ·rw [Z9 _ _ e,Z9 _ _ e]
   exact ⟨((hp.2.2 j _ _ e (h'.at_ j hj).1).other (a1 gd n3)).other (a0 gd d3),(h.at_ j hj).2.ext ac⟩
 ·have e:(ivs ((List.range K.n).map La)).set i (.int .i64 t)=ivs ((List.range K.n).map (Zct La i t)):=by
   rw [Znw];congr 1;refine List.ext_getElem (by simp) fun j h1 h2=>?_
   rw [List.getElem_set];simp only [List.getElem_map,List.getElem_range];split
   ·rename_i e;subst e;rw [Yb]
   ·rename_i e;rw [Z9 _ _ (Ne.symm e)]
  rw [← e];exact (a0 K.gl (by omega)).trans a9
theorem MO.write (h:MO K w gd base Ds As La) {b:Nat} (hb:K.fo b) (h1:b≠K.gm) (h2:b≠K.gl) (h3:b≠gd) (h4:K.w0.heap.size≤b) (o:Nat) (u:Value):MO K (w.setCell ⟨b,o,none⟩ u) gd base Ds As La:=by
 have a0:=fun k (hk:k≠b)=>Zd w b o u k hk
 have hx:Ext (fun k=>k<base∨K.fo k) w (w.setCell ⟨b,o,none⟩ u):=Ext.set w (.inr hb) o u;have hz:(w.setCell ⟨b,o,none⟩ u).heap.size=w.heap.size:=by simp [World.setCell]
 exact ⟨h.low.setCell (p:=⟨b,o,none⟩) h4 u,h.cf,h.sc,(a0 _ (Ne.symm h1)).trans h.row,h.drow.other (a0 _ (Ne.symm h3)),fun i hi=>⟨(h.at_ i hi).1.other (a0 _ (Ne.symm h3)),(h.at_ i hi).2.ext hx⟩,(a0 _ (Ne.symm h2)).trans h.last,h.lo,by rw [hz];exact h.hi,by rw [hz];exact h.fo⟩
theorem MO.others (h:MO K w gd base Ds As La) (hb:Below w.heap.size w w') (Fo:Nat→Prop) (hF:∀ k,Fo k→w.heap.size≤k∧k<w'.heap.size) (hK:∀ k,¬ K.fo k):MO {K with fo:=Fo} w' gd base Ds As La:=by
 have h':=h.keep hb;refine ⟨h'.low,h'.cf,h'.sc,h'.row,h'.drow,fun i hi=>⟨(h'.at_ i hi).1,fun wx hx=>(h.at_ i hi).2 wx ⟨Nat.le_trans hb.size hx.1,fun k hk hX=>(hx.2 k (Nat.lt_of_lt_of_le hk hb.size) (fun e=>?_)).trans (hb.block k hk)⟩⟩,h'.last,h'.lo,h'.hi,fun k hk=>(hF k hk).2⟩;rcases e with e|e
 ·exact hX (.inl e)
 ·have:=(hF k e).1
  omega
theorem MO.close (h:MO K w gd base Ds As La) (hb:Below w.heap.size w w') {Es:Nat→Dom} {As':Nat→Yk} (hr:Zhz w' g K.n) (hd:∀ i,i<K.n→Qx w' g 0 i (Es i) (As' i)∧Zax (g+1) w' (As' i) (Es i)) (hg:w.heap.size≤g):
  MO K (w'.setCell ⟨K.gm,12,none⟩ (.slice (some ⟨g,0,none⟩) K.n K.n)) g (g+1) Es As' La∧Ext (MX K gd) w (w'.setCell ⟨K.gm,12,none⟩ (.slice (some ⟨g,0,none⟩) K.n K.n)):=by
 have h':=h.keep hb;obtain ⟨n1,n2,n3⟩:=h.ne;have hh:=h.hi;have a1:=h.lo;have a4:=hr.lt;have a2:Zf (w'.setCell ⟨K.gm,12,none⟩ (.slice (some ⟨g,0,none⟩) K.n K.n)) K.gm 113 (Zdg K g):=Ze h'.row 12 (.slice (some ⟨g,0,none⟩) K.n K.n);have a0:=fun k (hk:k≠K.gm)=>Zd w' K.gm 12 (.slice (some ⟨g,0,none⟩) K.n K.n) k hk
 have a5:(w'.setCell ⟨K.gm,12,none⟩ (.slice (some ⟨g,0,none⟩) K.n K.n)).heap.size=w'.heap.size:=by simp [World.setCell]
 have a3:=h'.low.setCell (p:=⟨K.gm,12,none⟩) a1.1 (.slice (some ⟨g,0,none⟩) K.n K.n);generalize w'.setCell ⟨K.gm,12,none⟩ (.slice (some ⟨g,0,none⟩) K.n K.n)=w2 at *
 have a6:=hb.size;refine ⟨⟨a3,h.cf,h.sc,a2,hr.other (a0 g (by omega)),fun i hi=>⟨(hd i hi).1.other (a0 g (by omega)),((hd i hi).2.ext ⟨by omega,fun k hk hx=>a0 k (by omega)⟩).foreign lr (fun k hk=>by have:=h.fo k hk;omega)⟩,(a0 K.gl (Ne.symm n2)).trans h'.last,⟨a1.1,a1.2.1,by omega⟩,by omega,fun k hk=>by have:=h.fo k hk;omega⟩,⟨by omega,fun k hk hX=>(a0 k (fun e=>hX (.inl e))).trans (hb.block k hk)⟩⟩
end
theorem EvO.ext {n:Nat} (h:EvO n w A D aK K) {wx:World} (hs:w.heap.size≤wx.heap.size) (hk:∀ x,n≤x→x<w.heap.size→(Value.slice A.aE D.evs.length A.cE).ownBlock≠some x→wx.heap[x]? = w.heap[x]?):Yz wx A ⟨D.jobs,D.rel,D.nxt,D.ins,D.tak,D.out,[]⟩∧Z8 wx aK K:=by
 have:=h.2 (Zxq wx w.heap.size) fun x hn he=>by
  rw [Zmi _ _ _ hs];split
  ·rename_i a0
   exact hk x hn a0 he
  ·rename_i a0
   exact (Array.getElem?_eq_none (by omega)).symm
 exact ⟨this.1.keep (Ze9 _ _ hs),this.2.keep (Ze9 _ _ hs)⟩
theorem Zyj {X:Nat→Prop} (h:Ext X w w'):w.heap.size≤w'.heap.size:=h.1
theorem Zwk {X:Nat→Prop} {t:TypeId} {L:List Value} (h:Ext X w.drew w') (hr:Zf w k t L) (hk:k<w.heap.size) (hx:¬ X k):Zf w' k t L:=(h.2 k hk hx).trans hr
def Zau (C:Zm) (dn:Nat) (Ds:Nat→Dom) (k:Nat):Nat→Dom:=(List.range k).foldl (fun Ds c=>if chF C c=dn then Zm1 C c Ds else Ds) Ds
theorem Zdt (C:Zm) (dn:Nat) (Ds:Nat→Dom) (k:Nat):Zau C dn Ds (k+1)=if chF C k=dn then Zm1 C k (Zau C dn Ds k) else Zau C dn Ds k:=by
 unfold Zau;rw [List.range_succ,List.foldl_append];rfl
theorem Zo2 (C:Zm) (dn:Nat) (Ds:Nat→Dom):Zau C dn Ds C.ch.length=J4 C dn Ds:=rfl
theorem Zgj {C:Zm} {m:Nat→Nat} {Ds:Nat→Dom} {dn:Nat} (hd:(dn:Int)<C.d) (h:ALL C m b Ds):∀ k,k≤C.ch.length→ALL C m b (Zau C dn Ds k)
 | 0,_=>h
 | k+1,hk=>by
  rw [Zdt];split
  ·rename_i e
   exact Zsu (by omega) (by rw [e];exact hd) (Zgj hd h k (by omega))
  ·exact Zgj hd h k (by omega)
theorem Zwc {C:Zm} {Ds:Nat→Dom} (hf:chF C c=f) (ht:chT C c=t) (hne:f≠t):Zm1 C c Ds=Zct (Zct Ds t (Zde (Ds t) (Ds f) c (C.ch.getD c (0,0,0)).2.2)) f (Zgb (Ds f) c):=by
 unfold Zm1;rw [hf,ht];dsimp only;rw [Z9 _ _ hne]
theorem Zt7 {C:Zm} {m:Nat→Nat} {Ds:Nat→Dom} (h:ALL C m b Ds) (hc:c<C.ch.length) (hf:(f:Int)<C.d) (ht:(t:Int)<C.d):
  ∃ (h1:c<(Ds t).ins.length) (h2:c<(Ds f).out.length),ckR (Ds t).ins[c].1 (Ds t).ins[c].2 C.ch[c].2.2=0∧Zbc (Ds f).out[c] 0 255=true∧(Ds f).out[c].length≤140737488355328:=by
 obtain ⟨_,t1,_,_,t4,_⟩:=Z0.1 (h t ht).ck;obtain ⟨_,f1,_,_,_,f5⟩:=Z0.1 (h f hf).ck;have st:=Ye.1 t1;have sf:=Ye.1 f1;have h1:c<(Ds t).ins.length:=by omega
 have h2:c<(Ds f).out.length:=by omega
 have hi:=Zib.1 t4 c h1;unfold Zex at hi;rw [show (Ds t).ins.getD c ([],0)=(Ds t).ins[c] by simp [h1],show C.ch.getD c (0,0,0)=C.ch[c] by simp [hc]] at hi;have ho:=Zbu.1 f5 _ (List.getElem_mem h2);exact ⟨h1,h2,hi,ho.2,by omega⟩
theorem Zuu (C:Zm) (B:Mem) (b o n c:Nat) (Ds:Nat→Dom) (As:Nat→Yk) (s:Nat) (m:Nat→Nat) (bb:Int) (w:World) (hC:Z1 w B C) (hD:Zh6 w b o n Ds As) (h0:ckC C=0) (hs:s<C.sl.length) (hn:C.d=(n:Int)) (hA:ALL C m bb Ds) (hbb:bb≤1000000000000):
  Calls prog 49 #[cv C B,.slice (some ⟨b,o,none⟩) n c,.int .i64 s] w fun e w'=>∃ g:Nat,e=.returned (.tuple #[.slice (some ⟨g,0,none⟩) n n,.int .i64 0])∧Zhz w' g n∧(∃ As':Nat→Yk,∀ i,i<n→Qx w' g 0 i (J4 C (slD C s) Ds i) (As' i)∧Zax (g+1) w' (As' i) (J4 C (slD C s) Ds i))∧w.heap.size≤g∧Below w.heap.size w w':=by
 have bg:n≤4:=by have:=(Y1 h0).2.2.2;omega
 have hz:∀ i,i<n→ckD C i (Ds i)=0:=fun i hi=>(hA i (by omega)).ck
 have bh:=Ziy n (by omega);have q1:=Za w (.cells (cl C B) 27);have HC:=hid (hC.keep q1);have HD:=hid (hD.keep q1);have HX:=hid (Yq w C B);have HB:=hid q1;have CK:Hid (∀ wx,Below (w.alloc (.cells (cl C B) 27)).heap.size (w.alloc (.cells (cl C B) 27)) wx→Calls prog 74 #[cv C B,.slice (some ⟨b,o,none⟩) n c,.int .i64 s] wx fun e w'=>e=.returned (.int .i64 0)∧Below wx.heap.size wx w'):=hid fun wx hbx=>Zj2 C B b o n c Ds As s wx (HC.out.keep hbx) (HD.out.keep hbx) h0 hs hn bg hz
 have cb:=hid (hC.sl);have ag:Hid (∀ i,i<n→((Ds i).jobs.length≤1000000000000∧(Ds i).rel.length≤1000000000000∧(Ds i).tak.length≤1000000000000∧(Ds i).evs.length≤1000000000000)∧(Ds i).ins.length≤1000000000000∧(Ds i).out.length≤1000000000000∧(∀ r∈(Ds i).ins,r.1.length≤1000000000000)∧(∀ r∈(Ds i).out,r.length≤1000000000000)):=hid fun i hi=>by
  obtain ⟨⟨s1,s2,s3⟩,s4,s5,s6,s7⟩:=Za8 (hz i hi)
  have:=(hA i (by omega)).ev
  exact ⟨⟨by omega,by omega,by omega,by omega⟩,by omega,by omega,fun r hr=>by have:=s6 r hr;omega,fun r hr=>by have:=s7 r hr;omega⟩
 have am:=hid (Zia h0 hs);have HA:=hid hA;have HN:=hid hn;have H0:=hid h0;have an:=hid hs;have bi:(n:Int)≤4:=by omega
 have l7:=hC.l7;clear q1 hC hD hz h0 hn hA hs;obtain ⟨a5,a6,a7,a8,c5,c6,c7,c8⟩:=B;dsimp only [cv,cl] at *
 obtain ⟨g0,g1,g2,g3,g4,g5,g6,g7,g8⟩:=HX.out;go_enter func49,ntmps49;go_wp2_with fail;refine (CK.out _ br).mono ?_;rintro e w1 ⟨rfl,ac⟩;generalize hW:World.alloc w _=W at *
 have ay:Hid (W.heap.size=w.heap.size+1):=hid (by rw [← hW];simp);clear hW g0 g1 g2 g3 g4 g5 g6 g7 g8 CK;have az:=hid (Zb HB ac);have b0:=hid (HC.out.keep ac);have bj:=hid (HD.out.keep ac);have bk:=hid (HX.out.keep ac);have b1:Hid (w.heap.size+1≤w1.heap.size):=hid (by have:=ac.size;have:=ay.out;omega);clear HB HC HD HX ac ay;have HM:Hid (CpS w w1.heap.size n 0 (w1.alloc (.cells (madeCells #[.slice none 0 0,.slice none 0 0,.int .i64 0,.slice none 0 0,.slice none 0 0,.slice none 0 0,.slice none 0 0] (n*7)) 46)) Ds As (fun _=>0) (fun _=>0) (fun _=>0) (fun _=>w1.heap.size+1)):=hid ⟨⟨(madeCells #[.slice none 0 0,.slice none 0 0,.int .i64 0,.slice none 0 0,.slice none 0 0,.slice none 0 0,.slice none 0 0] (n*7)).toList,by simpa [Zf] using heap_alloc_new w1 (.cells (madeCells #[.slice none 0 0,.slice none 0 0,.int .i64 0,.slice none 0 0,.slice none 0 0,.slice none 0 0,.slice none 0 0] (n*7)) 46),by simp [size_madeCells]⟩,fun i hi=>by omega,fun i hi=>by omega,fun i hi=>by omega,fun i hi=>by omega,by simp,Zb az.out (Za _ _),by have:=b1.out;omega⟩;have HQ:=hid (Za w1 (.cells (madeCells #[.slice none 0 0,.slice none 0 0,.int .i64 0,.slice none 0 0,.slice none 0 0,.slice none 0 0,.slice none 0 0] (n*7)) 46));go_wp2;clear bh;generalize World.alloc w1 _=W2 at *
 go_loopw [27] (fun i wr=>∃ k:Nat,k≤n∧i=.int .i64 k∧Below w1.heap.size w1 wr∧∃ As' gI gO q bnd,CpS w w1.heap.size n k wr Ds As' gI gO q bnd) (fun i _=>n-(intOf i).toNat)
 case atStart=>exact ⟨0,zl,rfl,HQ.out,_,_,_,_,_,HM.out⟩
 case round=>
  obtain ⟨k,hk,rfl,a0,As',gI,gO,q,bnd,a4⟩:=hrel;by_cases hlt:k<n
  ·have cc:(k:Int)<(n:Int):=by omega
   have cd:(0:Int)≤(k:Int):=by omega
   obtain ⟨⟨p0,p1,p2,p3,p4,p5,p6⟩,b2⟩:=(bj.out.keep a0) k hlt;have q4:=Za wr (.cells (dl (Ds k) (As k)) 46);have ah:=hid (a4.keep q4);have a9:=hid (b2.keep q4);have R4:=hid (Zc wr wr.heap.size (dl (Ds k) (As k)).toList 46 rfl);have ao:=hid (Zb a0 q4);have aa:=hid (ag.out k hlt);generalize hD:Ds k=D at p0 p1 p2 p3 p4 p5 p6 R4 a9 aa ah ao;generalize As k=A at p0 p1 p2 p3 p4 p5 p6 R4 a9 aa ah ao;have b3:=hid hD.symm;clear b2 q4 a0 a4 hD;obtain ⟨aJ,aR,aI,aT,aO,aE,cJ,cR,cI,cT,cO,cE⟩:=A;dsimp only [dl] at *
   go_upto_region 8 with fail;generalize World.alloc wr _=w4 at *
   obtain ⟨d0,d1,d2,d3,d4,d5,d6⟩:=R4.out.q7 rfl rfl rfl rfl rfl rfl rfl;clear p0 p1 p2 p3 p4 p5 p6;go_wp2_with fail;refine (Zda D ⟨aJ,aR,aI,aT,aO,aE,cJ,cR,cI,cT,cO,cE⟩ _ a9 aa.out.1 aa.out.2.1 aa.out.2.2.1 aa.out.2.2.2.1 aa.out.2.2.2.2).mono ?_;rintro e w5 ⟨A5,gi,go,mm,pp,qq,rfl,b4,ai⟩;have bm:=hid ((b3.out ▸ ah.out.next (A:=A5) (gi:=gi) (go:=go) (m:=mm) (p:=pp) (q':=qq) hlt ai (by rw [← b3.out];exact b4):CpS w w1.heap.size n (k+1) (Zc7 w5 w1.heap.size (k*7) (.slice A5.aJ D.jobs.length A5.cJ) (.slice A5.aR D.rel.length A5.cR) (.int .i64 D.nxt) (.slice A5.aI D.ins.length A5.cI) (.slice A5.aT D.tak.length A5.cT) (.slice A5.aO D.out.length A5.cO) (.slice A5.aE D.evs.length A5.cE)) Ds _ _ _ _ _));have a3:=(ah.out.keep ai).row;obtain ⟨ab,a1,bn⟩:=a3;obtain ⟨v0,y0⟩:∃ v,w5.cell? ⟨w1.heap.size,k*7,none⟩=some v:=⟨_,a1.cell (k*7) ab[k*7] (by simp)⟩
   obtain ⟨v1,y1⟩:∃ v,w5.cell? ⟨w1.heap.size,k*7+1,none⟩=some v:=⟨_,a1.cell (k*7+1) ab[k*7+1] (by simp)⟩
   obtain ⟨v2,y2⟩:∃ v,w5.cell? ⟨w1.heap.size,k*7+2,none⟩=some v:=⟨_,a1.cell (k*7+2) ab[k*7+2] (by simp)⟩
   obtain ⟨v3,y3⟩:∃ v,w5.cell? ⟨w1.heap.size,k*7+3,none⟩=some v:=⟨_,a1.cell (k*7+3) ab[k*7+3] (by simp)⟩
   obtain ⟨v4,y4⟩:∃ v,w5.cell? ⟨w1.heap.size,k*7+4,none⟩=some v:=⟨_,a1.cell (k*7+4) ab[k*7+4] (by simp)⟩
   obtain ⟨v5,y5⟩:∃ v,w5.cell? ⟨w1.heap.size,k*7+5,none⟩=some v:=⟨_,a1.cell (k*7+5) ab[k*7+5] (by simp)⟩
   obtain ⟨v6,y6⟩:∃ v,w5.cell? ⟨w1.heap.size,k*7+6,none⟩=some v:=⟨_,a1.cell (k*7+6) ab[k*7+6] (by simp)⟩
   have z0:=a1.frozen (k*7);have z1:=a1.frozen (k*7+1);have z2:=a1.frozen (k*7+2);have z3:=a1.frozen (k*7+3);have z4:=a1.frozen (k*7+4);have z5:=a1.frozen (k*7+5);have z6:=a1.frozen (k*7+6);have bo:=hid (Zb ao ai);clear ai b4 d0 d1 d2 d3 d4 d5 d6 a1 bn;go_wp2;go_roundw
   case rel=>exact ⟨k+1,by omega,by go_num,Zac bo lr (k*7) _ _ _ _ _ _ _,_,_,_,_,_,bm.out⟩
   case measure=>simp [intOf];omega
  ·have b6:k=n:=by omega
   have ce:¬ (k:Int)<(n:Int):=by omega
   rw [b6] at a4;obtain ⟨a2,b8⟩:=a4.all (fun i hi=>by have:=(ag.out i hi).2.1;omega) (fun i hi=>by have:=(ag.out i hi).2.2.1;omega);have bp:=hid a2;have aj:=hid b8;have bq:=hid a4.row;have bs:=hid a0;have ap:Hid (w1.heap.size<wr.heap.size):=hid a4.row.lt;obtain ⟨b5,o5,e5,s0,s1⟩:=(b0.out.keep a0).sl s (show s<C.sl.length from an.out);dsimp only at e5;have ak:s<C.sl.length:=an.out;have b9:(C.sl[s]'ak).1=(slD C s:Int):=by
    have:=am.out.2
    rw [show C.sl.getD s (0,0)=C.sl[s]'ak by simp [ak]] at this;exact this.symm
   rw [b9] at s0;have al:Hid ((slD C s:Int)<(n:Int)):=hid (by have:=am.out.1;have:=HN.out;omega);have bt:=hid (bk.out.keep a0);obtain ⟨g0,g1,g2,g3,g4,g5,g6,g7,g8⟩:=bt.out;rw [e5] at g5;have cf:(0:Int)≤(s:Int):=by omega
   have cg:(s:Int)<(C.sl.length:Int):=by have:=an.out;omega
   have bu:=(Zag H0).1;generalize hDE:slD C s=dn at *
   have bv:=hid hDE;clear hDE;clear a2 b8 a4 a0 hlt hk b6 s1 b9 ak HM HQ ag am;obtain ⟨W3,rfl⟩:∃ x,x=wr:=⟨_,rfl⟩
   go_wp2;clear g0 g1 g2 g3 g4 g5 g6 g7 g8 s0;go_loopw [47] (fun i wr=>∃ j:Nat,j≤C.ch.length∧i=.int .i64 j∧ClS (fun k=>k≤w1.heap.size∨∃ j,j<n∧(k=gI j∨k=gO j)) wr w1.heap.size n (Zau C dn Ds j) As' gI gO∧Zhz wr w1.heap.size n∧Below w1.heap.size w1 wr∧W3.heap.size≤wr.heap.size) (fun i _=>C.ch.length-(intOf i).toNat)
   case atStart=>exact ⟨0,zl,rfl,bp.out,bq.out,bs.out,lr⟩
   case round=>
    obtain ⟨j,hj,rfl,a2,a3,a0,ba⟩:=hrel;by_cases hjt:j<C.ch.length
    ·have ci:(j:Int)<(C.ch.length:Int):=by omega
     have cj:(0:Int)≤(j:Int):=by omega
     obtain ⟨b7,o7,e7,c0,c1,c2⟩:=(b0.out.keep a0).ch j hjt;dsimp only at e7;subst e7;have aq:=Zwp H0.out hjt;obtain ⟨T,HT⟩:∃ T:Nat,Hid (C.ch[j].2.1=(T:Int)):=⟨C.ch[j].2.1.toNat,hid (by omega)⟩
     have bw:Hid (chT C j=T):=hid (by unfold chT;rw [show C.ch.getD j (0,0,0)=C.ch[j] by simp [hjt]];have:=HT.out;omega);have ar:Hid ((T:Int)<(n:Int)):=hid (by have:=HT.out;have:=HN.out;omega);have au:Hid (C.ch.getD j (0,0,0)=C.ch[j]):=hid (by simp [hjt]);have bc:=hid aq;rw [HT.out] at c1;have ad:=hid a2;have ae:=hid a3;have af:=hid a0;by_cases hfd:C.ch[j].1=(dn:Int)
     ·have HF:Hid (chF C j=dn):=hid (by unfold chF;rw [au.out];omega)
      rw [hfd] at c0;have bd:Hid (dn≠T):=hid (by have:=bc.out.2.2;have:=HT.out;omega);have be:=Zgj (dn:=dn) (by have:=al.out;have:=HN.out;omega) HA.out j (by omega);obtain ⟨k1,k2,k3,k4,k5⟩:=Zt7 be (f:=dn) (t:=T) hjt (by have:=al.out;have:=HN.out;omega) (by have:=ar.out;have:=HN.out;omega);have q4:=Za wr (.cells #[.int .i64 (dn:Int),.int .i64 (T:Int),.int .i64 C.ch[j].2.2] 99);have aw:=hid (a2.keep q4);have a9:=hid (a3.keep q4);have ax:=hid (a0.trans (q4.mono a0.size));have R4:=hid (Zc wr wr.heap.size [.int .i64 (dn:Int),.int .i64 (T:Int),.int .i64 C.ch[j].2.2] 99 rfl);have HE:Hid (Zau C dn Ds (j+1)=Zct (Zct (Zau C dn Ds j) T (Zde (Zau C dn Ds j T) (Zau C dn Ds j dn) j C.ch[j].2.2)) dn (Zgb (Zau C dn Ds j dn) j)):=hid (by rw [Zdt,if_pos HF.out,Zwc HF.out bw.out bd.out,au.out]);have cm:W3.heap.size<(wr.alloc (.cells #[.int .i64 (dn:Int),.int .i64 (T:Int),.int .i64 C.ch[j].2.2] 99)).heap.size:=by have:=(Za wr (.cells #[.int .i64 (dn:Int),.int .i64 (T:Int),.int .i64 C.ch[j].2.2] 99)).size;simp;omega
      have hbx:wr.heap.size<(wr.alloc (.cells #[.int .i64 (dn:Int),.int .i64 (T:Int),.int .i64 C.ch[j].2.2] 99)).heap.size:=by simp
      generalize hw4:wr.alloc (.cells #[.int .i64 (dn:Int),.int .i64 (T:Int),.int .i64 C.ch[j].2.2] 99)=w4 at *
      have CX:Hid (Calls prog 75 #[.int .i64 (j:Int),.int .i64 C.ch[j].2.2,.pointer (some ⟨w1.heap.size,dn*7,none⟩),.pointer (some ⟨w1.heap.size,T*7,none⟩)] w4.drew fun e w'=>e=.returned (.tuple #[])∧ClS (fun k=>k≤w1.heap.size∨∃ j,j<n∧(k=gI j∨k=gO j)) w' w1.heap.size n (Zau C dn Ds (j+1)) As' gI gO∧Ext (fun k=>k≤w1.heap.size∨∃ j,j<n∧(k=gI j∨k=gO j)) w4.drew w'∧Below w1.heap.size w4.drew w'∧w'.heap[w1.heap.size]? = w4.drew.heap[w1.heap.size]?):=hid (by
       rw [HE.out];refine Zpb _ w1.heap.size w4.drew w1.heap.size n (Zau C dn Ds j) As' gI gO (aw.out.keep br.drew) (fun k hk hx=>?_) (fun i hi=>?_) ?_ dn T j C.ch[j].2.2 (by have:=al.out;omega) (by have:=ar.out;omega) bd.out k1 k2 k3 k4 k5
       ·have cn:w4.heap.size≤k:=hk
        rcases hx with hx|⟨i,hi,hx⟩
        ·have:=ap.out;omega
        ·have:=aj.out i hi
         omega
       ·have:=aj.out i hi
        omega
       ·show w1.heap.size≤w4.heap.size
        have:=ap.out;omega)
      have bx:=hid hw4;have bz:(dn:Int)<(n:Int):=al.out;have co:(T:Int)<(n:Int):=ar.out;have c3:(0:Int)≤(dn:Int):=by omega
      have cp:(0:Int)≤(T:Int):=by omega
      clear a2 a3 a0 q4 aq k1 k2 k3 k4 k5 be hfd HE;generalize hsz2:C.ch[j].2.2=sz at *
      clear hsz2;go_upto_region 14 with fail;clear c0 c1 c2 bx;obtain ⟨d0,d1,d2⟩:=R4.out.q3 rfl rfl rfl;go_upto_region 15 with fail;have c4:Hid (¬ (fun k=>k≤w1.heap.size∨∃ j,j<n∧(k=gI j∨k=gO j)) wr.heap.size):=hid (by
       rintro (hx|⟨i,hi,hx⟩)
       ·have:=ap.out;omega
       ·have:=aj.out i hi;omega)
      go_region_held3 (fun w'=>w'.cell? ⟨wr.heap.size,0,none⟩=some (.int .i64 (dn:Int))∧w'.cell? ⟨wr.heap.size,1,none⟩=some (.int .i64 (T:Int))∧w'.cell? ⟨wr.heap.size,2,none⟩=some (.int .i64 sz))
       (first|with_reducible exact HS5|go_keep)
       (first|(go_at_call 75;with_reducible refine Calls.mono CX.out ?_;rintro e w5 ⟨rfl,h1,h2,h3,h4⟩;have H1:=hid h1;have H2:=hid h2;have H3:=hid h3;have H4:=hid h4;have R5:=hid (Zwk h2 R4.out hbx c4.out);have HS5:=And.intro (R5.out.cell 0 _ rfl) (And.intro (R5.out.cell 1 _ rfl) (R5.out.cell 2 _ rfl));clear h1 h2 h3 h4))
      all_goals
       clear d0 d1 d2;have H9:Hid (W3.heap.size≤w5.heap.size):=hid (by have:=Zyj H2.out;have h9:w4.drew.heap.size=w4.heap.size:=rfl;omega);go_wp2;go_roundw
       case rel=>exact ⟨j+1,by omega,by go_num,H1.out,a9.out.other H4,(ax.out.trans br.drew).trans H3,H9.out⟩
       case measure=>simp [intOf];omega
     ·have HF:Hid (¬ chF C j=dn):=hid (by unfold chF;rw [au.out];have:=bc.out.1;omega)
      have HE:Hid (Zau C dn Ds (j+1)=Zau C dn Ds j):=hid (by rw [Zdt,if_neg HF.out]);have cq:(C.ch[j].1==(dn:Int))=false:=by simp [hfd]
      have q4:=Za wr (.cells #[.int .i64 C.ch[j].1,.int .i64 (T:Int),.int .i64 C.ch[j].2.2] 99);have aw:=hid (a2.keep q4);have a9:=hid (a3.keep q4);have ax:=hid (a0.trans (q4.mono a0.size));have c9:Hid (W3.heap.size≤(wr.alloc (.cells #[.int .i64 C.ch[j].1,.int .i64 (T:Int),.int .i64 C.ch[j].2.2] 99)).heap.size):=hid (Nat.le_trans ba q4.size);clear a2 a3 a0 q4 ba aq;generalize C.ch[j].1=x0 at *
      generalize C.ch[j].2.2=x2 at *
      go_wp2;generalize World.alloc wr _=w4 at *
      go_roundw
      case rel=>exact ⟨j+1,by omega,by go_num,by rw [HE.out];exact aw.out,a9.out,ax.out,c9.out⟩
      case measure=>simp [intOf];omega
    ·have bf:j=C.ch.length:=by omega
     have cr:¬ (j:Int)<(C.ch.length:Int):=by omega
     have ad:=hid a2;have ae:=hid a3;have af:=hid a0;have ca:=hid bf;clear a2 a3 a0 bf;go_wp2;refine bodyPost_ret (v:=.tuple #[.slice (some ⟨w1.heap.size,0,none⟩) n n,.int .i64 0]) (by simp [results,results49,go_sem]) rfl ⟨w1.heap.size,rfl,ae.out,⟨As',fun i hi=>?_⟩,?_,?_⟩
     ·have hc:=ad.out
      rw [ca.out,Zo2] at hc;rw [bv.out];have hg:=aj.out i hi;exact ⟨hc.at_ i hi,(hc.cl i hi).dom (fun k hk=>.inl (by omega)) (by omega) (by omega)⟩
     ·have:=b1.out;omega
     ·exact Zb az.out af.out
def Zrk (n:Nat) (w:World) (A:Yk) (D:Dom) (aK:Option Addr) (K:KT):Prop:=w.ownsRow n 92 4 (.slice A.aE D.evs.length A.cE) D.evs.length (fE D.evs)∧∀ wx:World,w.heap.size≤wx.heap.size→(∀ x,n≤x→x<w.heap.size→(Value.slice A.aE D.evs.length A.cE).ownBlock≠some x→wx.heap[x]? = w.heap[x]?)→Yz wx A ⟨D.jobs,D.rel,D.nxt,D.ins,D.tak,D.out,[]⟩∧Z8 wx aK K
theorem EvO.two {n:Nat} (h:EvO n w A D aK K):Zrk n w A D aK K:=⟨h.1,fun wx hs hk=>h.ext hs hk⟩
theorem Zrk.keep {n:Nat} (h:Zrk n w A D aK K) (hb:Below w.heap.size w w'):Zrk n w' A D aK K:=
 ⟨Zy h.1 hb,fun wx hs hk=>h.2 wx (Nat.le_trans hb.size hs) fun x hn hlt he=>(hk x hn (Nat.lt_of_lt_of_le hlt hb.size) he).trans (hb.block x hlt)⟩
theorem Zrk.told {n:Nat} {w6 w7:World} (h:Zrk n w A D aK K) (hs:w.heap.size≤w6.heap.size) (hk:∀ x,n≤x→x<w.heap.size→w6.heap[x]? = w.heap[x]?) (hg:w6.grownBy w7 (Value.slice A.aE D.evs.length A.cE).ownBlock) {a7:Option Addr} {c7:Nat} {E:List EvT} (ho:w7.ownsRow n 92 4 (.slice a7 E.length c7) E.length (fE E)) {w8:World} (h8:Ext (fun k=>k<n) w7 w8):
  Zax n w8 {A with aE:=a7,cE:=c7} {D with evs:=E}∧∀ wx,Ext (fun k=>k<n) w8 wx→Z8 wx aK K:=by
 have a1:∀ wx,Ext (fun k=>k<n) w8 wx→Yz wx A ⟨D.jobs,D.rel,D.nxt,D.ins,D.tak,D.out,[]⟩∧Z8 wx aK K:=fun wx hx=>by
  have a0:=h8.trans hx;have a2:=hg.size;refine h.2 wx (by have:=a0.1;omega) fun x hn hlt he=>?_
  rw [a0.2 x (by omega) (by omega),hg.block x (by omega) (Ne.symm he)];exact hk x hn hlt
 refine ⟨fun wx hx=>?_,fun wx hx=>(a1 wx hx).2⟩;have a0:=h8.trans hx;obtain ⟨d,_⟩:=a1 wx hx;have o7:=Zz (Zi ho fun x hx'=>a0.2 x (Zt ho x hx') (by have:=Zv ho x hx';omega));exact ⟨d.jobs,d.rel,d.ins,d.tak,d.out,Zb4 o7.1,d.lJ,d.lR,d.lI,d.lT,d.lO,o7.2.2⟩
def Yap:Value→Value | .tuple xs=>xs.getD 0 undef|_=>undef
def Yaz:Value→Value | .tuple xs=>xs.getD 1 undef|_=>undef
theorem Zkn {B:Nat} {a:World} (h:Below B a w) (hg:B≤g) (v0 v1 v2 v3 v4 v5 v6:Value):Below B a (((((((w.setCell ⟨g,0,none⟩ v0).setCell ⟨g,1,none⟩ v1).setCell ⟨g,2,none⟩ v2).setCell ⟨g,3,none⟩ v3).setCell ⟨g,4,none⟩ v4).setCell ⟨g,5,none⟩ v5).setCell ⟨g,6,none⟩ v6):=Zac h hg 0 v0 v1 v2 v3 v4 v5 v6
theorem Zn0 {o:Oper} (ks:List Nat) (hdep:∀ e∈o.after,Region.binds .any e=true→l.getD e.on false=true) (hk:(ks.all fun k=>o.after.any fun e=>Region.binds .any e&&e.on==k)=true):∀ i∈ks,l.getD i false=true:=
 fun i hi=>Zn hdep i (List.all_eq_true.1 hk i hi)
theorem Zof (hs:l.size=m) (hk:k<m) (h:∀ i∈ks,l.getD i false=true):∀ i∈ks++[k],(l.setIfInBounds k true).getD i false=true:=by
 intro i hi;rcases List.mem_append.1 hi with h1|h1
 ·exact getD_set_true (h i h1)
 ·rw [List.mem_singleton.1 h1];exact Qv (by omega)
theorem Zel (h:∀ i∈ks,l.getD i false=true):∀ i∈ks,(l.setIfInBounds k true).getD i false=true:=fun i hi=>getD_set_true (h i hi)
def Zze:Nat→Nat
 | 0=>52
 | 1=>53
 | 2=>54
 | 3=>55
 | 4=>56
 | 5=>57
 | 6=>58
 | 7=>59
 | 8=>60
 | 9=>61
 | 10=>62
 | 11=>63
 | 12=>64
 | 13=>65
 | 14=>66
 | 15=>67
 | 16=>68
 | 17=>69
 | 18=>70
 | 19=>71
 | 20=>51
 | 21=>72
 | 22=>73
 | 23=>74
 | _=>999
def Zai:Nat→List Nat
 | 21=>[20,21]
 | 22=>[20,22]
 | i=>[i]
def Yac (K:MK) (d slot nW:Nat) (fr te:Int) (b5 o5 bA oA:Nat) (aK:Option Addr) (lkK cK:Nat) (aL:Option Addr) (lL cL Br:Nat) (D1:Dom) (A1:Yk) (RD:Dom) (RK:KT) (n0:Nat) (i:Nat) (x:Nat→Value) (w:World):Prop:=
 match i with
 | 0=>x 52=.pointer (some ⟨K.gm,0,none⟩)
 | 1=>x 53=.pointer (some ⟨K.gm,0,none⟩)
 | 2=>x 54=.pointer (some ⟨K.gm,0,none⟩)
 | 3=>x 55=.agg #[.int .i64 K.C.s,.int .i64 K.C.w,.int .i64 K.C.d,.int .i64 K.C.p,.int .i64 K.C.q,.slice (some ⟨b5,o5,none⟩) K.C.sl.length K.B.c5,.slice K.B.a6 K.C.ow.length K.B.c6,.slice K.B.a7 K.C.ch.length K.B.c7,.slice K.B.a8 K.C.ta.length K.B.c8]
 | 4=>x 56=.int .i64 (d:Int)
 | 5=>x 57=.agg #[.slice A1.aJ D1.jobs.length A1.cJ,.slice A1.aR D1.rel.length A1.cR,.int .i64 D1.nxt,.slice A1.aI D1.ins.length A1.cI,.slice A1.aT D1.tak.length A1.cT,.slice A1.aO D1.out.length A1.cO,.slice A1.aE D1.evs.length A1.cE]
 | 6=>x 58=.agg #[.slice aK lkK cK]
 | 7=>x 59=.pointer (some ⟨K.gm,0,none⟩)
 | 8=>x 60=.pointer (some ⟨K.gm,0,none⟩)
 | 9=>x 61=.pointer (some ⟨K.gm,9,none⟩)
 | 10=>x 62=.pointer (some ⟨K.gm,9,none⟩)
 | 11=>x 63=.slice (some ⟨bA,oA,none⟩) K.S.acts.length K.M.cA
 | 12=>x 64=.int .i64 (d:Int)
 | 13=>x 65=.pointer (some ⟨bA,oA+d,none⟩)
 | 14=>x 66=.slice aL lL cL
 | 15=>x 67=.pointer (some ⟨nW,1,none⟩)
 | 16=>x 68=.int .i64 fr
 | 17=>x 69=.pointer (some ⟨nW,2,none⟩)
 | 18=>x 70=.int .i64 te
 | 19=>∃ (Az:Yk) (aq:Option Addr) (cq:Nat),x 71=.tuple #[.agg #[.slice Az.aJ RD.jobs.length Az.cJ,.slice Az.aR RD.rel.length Az.cR,.int .i64 RD.nxt,.slice Az.aI RD.ins.length Az.cI,.slice Az.aT RD.tak.length Az.cT,.slice Az.aO RD.out.length Az.cO,.slice Az.aE RD.evs.length Az.cE],.agg #[.slice aq (List.length RK) cq],.int .i64 0]∧∃ n1,n0≤n1∧n1≤w.heap.size∧Zrk n1 w Az RD aq RK
 | 20=>∃ (Az:Yk) (aq:Option Addr) (cq:Nat),x 51=.tuple #[.agg #[.slice Az.aJ RD.jobs.length Az.cJ,.slice Az.aR RD.rel.length Az.cR,.int .i64 RD.nxt,.slice Az.aI RD.ins.length Az.cI,.slice Az.aT RD.tak.length Az.cT,.slice Az.aO RD.out.length Az.cO,.slice Az.aE RD.evs.length Az.cE],.agg #[.slice aq (List.length RK) cq],.int .i64 0]∧∃ n1,n0≤n1∧n1≤w.heap.size∧Zrk n1 w Az RD aq RK
 | 21=>∃ (Az:Yk) (aq:Option Addr) (cq:Nat),x 72=.agg #[.slice Az.aJ RD.jobs.length Az.cJ,.slice Az.aR RD.rel.length Az.cR,.int .i64 RD.nxt,.slice Az.aI RD.ins.length Az.cI,.slice Az.aT RD.tak.length Az.cT,.slice Az.aO RD.out.length Az.cO,.slice Az.aE RD.evs.length Az.cE]∧x 51=.tuple #[.agg #[.slice Az.aJ RD.jobs.length Az.cJ,.slice Az.aR RD.rel.length Az.cR,.int .i64 RD.nxt,.slice Az.aI RD.ins.length Az.cI,.slice Az.aT RD.tak.length Az.cT,.slice Az.aO RD.out.length Az.cO,.slice Az.aE RD.evs.length Az.cE],.agg #[.slice aq (List.length RK) cq],.int .i64 0]
 | 22=>∃ (Az:Yk) (aq:Option Addr) (cq:Nat),x 73=.agg #[.slice aq (List.length RK) cq]∧x 51=.tuple #[.agg #[.slice Az.aJ RD.jobs.length Az.cJ,.slice Az.aR RD.rel.length Az.cR,.int .i64 RD.nxt,.slice Az.aI RD.ins.length Az.cI,.slice Az.aT RD.tak.length Az.cT,.slice Az.aO RD.out.length Az.cO,.slice Az.aE RD.evs.length Az.cE],.agg #[.slice aq (List.length RK) cq],.int .i64 0]
 | 23=>x 74=.int .i64 0
 | _=>True
def J1 (x:Nat→Value):Act:={tmps:=#[x 0,x 1,x 2,x 3,x 4,x 5,x 6,x 7,x 8,x 9,x 10,x 11,x 12,x 13,x 14,x 15,x 16,x 17,x 18,x 19,x 20,x 21,x 22,x 23,x 24,x 25,x 26,x 27,x 28,x 29,x 30,x 31,x 32,x 33,x 34,x 35,x 36,x 37,x 38,x 39,x 40,x 41,x 42,x 43,x 44,x 45,x 46,x 47,x 48,x 49,x 50,x 51,x 52,x 53,x 54,x 55,x 56,x 57,x 58,x 59,x 60,x 61,x 62,x 63,x 64,x 65,x 66,x 67,x 68,x 69,x 70,x 71,x 72,x 73,x 74,x 75,x 76,x 77,x 78,x 79,x 80,x 81,x 82,x 83,x 84,x 85,x 86,x 87,x 88,x 89,x 90,x 91,x 92,x 93,x 94,x 95,x 96,x 97,x 98],defers:=[]}
def Yag (K:MK) (d slot nW:Nat) (fr te:Int) (b5 o5 bA oA:Nat) (aK:Option Addr) (lkK cK:Nat) (aL:Option Addr) (lL cL Br:Nat) (D1:Dom) (A1:Yk) (RD:Dom) (RK:KT) (x:Nat→Value):Prop:=x 0=.pointer (some ⟨K.gm,0,none⟩)∧x 1=.agg #[.int .i64 (slot:Int),.int .i64 fr,.int .i64 te]∧x 2=.agg #[.slice aK lkK cK]∧x 3=undef∧x 4=.pointer (some ⟨nW,0,none⟩)∧x 5=.pointer (some ⟨nW+1,0,none⟩)∧x 6=.pointer (some ⟨nW+1+1,0,none⟩)∧x 7=.int .i64 (d:Int)∧x 8=.pointer (some ⟨Br,0,none⟩)
theorem Yl {K:MK} (x:Nat→Value) (s:Nat) (v:Value) (hs:0≠s∧1≠s∧2≠s∧3≠s∧4≠s∧5≠s∧6≠s∧7≠s∧8≠s) (h:Yag K d slot nW fr te b5 o5 bA oA aK lkK cK aL lL cL Br D1 A1 RD RK x):Yag K d slot nW fr te b5 o5 bA oA aK lkK cK aL lL cL Br D1 A1 RD RK (upd x s v):=by
 obtain ⟨q0,q1,q2,q3,q4,q5,q6,q7,q8⟩:=hs;obtain ⟨h0,h1,h2,h3,h4,h5,h6,h7,h8⟩:=h;exact ⟨(if_neg q0).trans h0,(if_neg q1).trans h1,(if_neg q2).trans h2,(if_neg q3).trans h3,(if_neg q4).trans h4,(if_neg q5).trans h5,(if_neg q6).trans h6,(if_neg q7).trans h7,(if_neg q8).trans h8⟩
theorem Yf {K:MK} {n0:Nat} (i:Nat) (x x':Nat→Value) (w w':World) (hb:Below w.heap.size w w') (hx:∀ j∈Zai i,x' (Zze j)=x (Zze j)) (h:Yac K d slot nW fr te b5 o5 bA oA aK lkK cK aL lL cL Br D1 A1 RD RK n0 i x w):Yac K d slot nW fr te b5 o5 bA oA aK lkK cK aL lL cL Br D1 A1 RD RK n0 i x' w':=by
 match i with
 | 0=>exact (hx 0 (by simp [Zai])).trans h
 | 1=>exact (hx 1 (by simp [Zai])).trans h
 | 2=>exact (hx 2 (by simp [Zai])).trans h
 | 3=>exact (hx 3 (by simp [Zai])).trans h
 | 4=>exact (hx 4 (by simp [Zai])).trans h
 | 5=>exact (hx 5 (by simp [Zai])).trans h
 | 6=>exact (hx 6 (by simp [Zai])).trans h
 | 7=>exact (hx 7 (by simp [Zai])).trans h
 | 8=>exact (hx 8 (by simp [Zai])).trans h
 | 9=>exact (hx 9 (by simp [Zai])).trans h
 | 10=>exact (hx 10 (by simp [Zai])).trans h
 | 11=>exact (hx 11 (by simp [Zai])).trans h
 | 12=>exact (hx 12 (by simp [Zai])).trans h
 | 13=>exact (hx 13 (by simp [Zai])).trans h
 | 14=>exact (hx 14 (by simp [Zai])).trans h
 | 15=>exact (hx 15 (by simp [Zai])).trans h
 | 16=>exact (hx 16 (by simp [Zai])).trans h
 | 17=>exact (hx 17 (by simp [Zai])).trans h
 | 18=>exact (hx 18 (by simp [Zai])).trans h
 | 19=>
  have e:x' 71=x 71:=hx 19 (by simp [Zai]);obtain ⟨Az,aq,cq,h1,h2⟩:=h;exact ⟨Az,aq,cq,e.trans h1,by obtain ⟨n1,k1,k2,k3⟩:=h2;exact ⟨n1,k1,Nat.le_trans k2 hb.size,k3.keep hb⟩⟩
 | 20=>
  have e:x' 51=x 51:=hx 20 (by simp [Zai]);obtain ⟨Az,aq,cq,h1,h2⟩:=h;exact ⟨Az,aq,cq,e.trans h1,by obtain ⟨n1,k1,k2,k3⟩:=h2;exact ⟨n1,k1,Nat.le_trans k2 hb.size,k3.keep hb⟩⟩
 | 21=>
  have e:x' 72=x 72:=hx 21 (by simp [Zai]);obtain ⟨Az,aq,cq,h1,h2⟩:=h;exact ⟨Az,aq,cq,e.trans h1,(hx 20 (by simp [Zai])).trans h2⟩
 | 22=>
  have e:x' 73=x 73:=hx 22 (by simp [Zai]);obtain ⟨Az,aq,cq,h1,h2⟩:=h;exact ⟨Az,aq,cq,e.trans h1,(hx 20 (by simp [Zai])).trans h2⟩
 | 23=>exact (hx 23 (by simp [Zai])).trans h
 | n+24=>trivial
theorem Yu:∀ i,i<24→∀ j,j<24→i≠j→Zze i≠Zze j:=by decide
theorem Y9:∀ i,i<24→∀ j∈Zai i,j<24:=by decide
end Go.Proofs.YtejhccmclanlmaaGreatDoor
namespace Go.Proofs.YtejhccmclanlmaaGreatDoor
open Go.RowKit Go.Shelf Go.Proofs.Tryz
variable {K:MK} {Bm k r:Nat} {C:Zm}
attribute [local go_sem] Oper.semAt_some
abbrev TT:=Nat×Int×Int
def Zy0 (x:TT):Array Value:=#[.agg #[.int .i64 (x.1:Int),.int .i64 x.2.1,.int .i64 x.2.2]]
def Zic (C:Zm) (r k:Nat):TT:=(k,(r:Int)*Ji C.sl+Ji (C.sl.take k),(r:Int)*Ji C.sl+Ji (C.sl.take k)+(C.sl.getD k (0,0)).2-C.p)
def Zam (C:Zm) (r k:Nat):List TT:=Qm C r++(List.range k).map (Zic C r)
theorem Zmn (C:Zm) (r:Nat):Zam C r 0=Qm C r:=by simp [Zam]
theorem Zf4 (C:Zm) (r k:Nat):Zam C r (k+1)=Zam C r k++[Zic C r k]:=by simp [Zam,List.range_succ]
theorem Zg2 (C:Zm) (r:Nat):Zam C r C.sl.length=Qm C (r+1):=by
 unfold Zam Qm;rw [List.range_succ,List.flatMap_append];simp only [List.flatMap_cons,List.flatMap_nil,List.append_nil];rfl
theorem Zpt (C:Zm) (r:Nat):(Qm C r).length=r*C.sl.length:=by
 induction r with
 | zero=>simp [Qm]
 | succ r ih=>
  rw [← Zg2];unfold Zam;rw [List.length_append,ih,List.length_map,List.length_range,Nat.add_mul,Nat.one_mul]
theorem Zo1 (C:Zm) (r k:Nat):(Zam C r k).length=r*C.sl.length+k:=by
 unfold Zam;rw [List.length_append,Zpt,List.length_map,List.length_range]
theorem Zor {R:Nat} (hr:r<R) (hk:k<C.sl.length):Zic C r k∈Qm C R:=by
 unfold Qm;rw [List.mem_flatMap];exact ⟨r,List.mem_range.2 hr,List.mem_map.2 ⟨k,List.mem_range.2 hk,rfl⟩⟩
structure TM (K:MK) (Bm:Nat) (W W':World):Prop where
 bl:Below K.w0.heap.size W W'
 c0:W'.cell? ⟨Bm,0,none⟩=W.cell? ⟨Bm,0,none⟩
 cm:∀ i,i<12→W'.cell? ⟨K.gm,i,none⟩=W.cell? ⟨K.gm,i,none⟩
theorem TM.refl (K:MK) (Bm:Nat) (W:World):TM K Bm W W:=⟨br,rfl,fun _ _=>rfl⟩
theorem TM.trans {X Y Z:World} (h:TM K Bm X Y) (k:TM K Bm Y Z):TM K Bm X Z:=
 ⟨h.bl.trans k.bl,k.c0.trans h.c0,fun i hi=>(k.cm i hi).trans (h.cm i hi)⟩
theorem TM.below {W W':World} (h0:Bm<W.heap.size) (h1:K.gm<W.heap.size) (h2:K.w0.heap.size≤W.heap.size) (hb:Below W.heap.size W W'):TM K Bm W W':=
 ⟨hb.mono h2,hb.cell h0,fun i _=>hb.cell (p:=⟨K.gm,i,none⟩) h1⟩
theorem TM.book {w:World} (h0:Bm<w.heap.size) (h1:K.gm<w.heap.size) (h2:K.w0.heap.size≤w.heap.size) (W:World) (l:Nat) (o o':Obj) (hl:w.heap.size≤l) (h:W.heap[l]? = some o) (_:o.isCells=false) (_:o.isWalk=false):TM K Bm W (W.putObj l o'):=
 ⟨⟨rfl,rfl,rfl,by simp,fun k hk=>World.putObj_heap_other (by omega)⟩,Za9 (World.putObj_heap_other (by omega)) 0,fun i _=>Za9 (World.putObj_heap_other (by omega)) i⟩
theorem Zv4 (h:ckC C=0):0<C.sl.length:=by
 have h1:=(Zcr h).2.2.1;unfold Zc0 at h1
 split at h1
 ·rename_i h2
  simp only [inR,Bool.and_eq_true,decide_eq_true_eq] at h2;omega
 ·omega
theorem Zrx (h:ckC C=0) (hr:r≤8) (hk:k<C.sl.length):Zcn C r k=.tuple #[.int .i64 ((r:Int)*Ji C.sl+Ji (C.sl.take k)),.int .i64 0]:=by
 unfold Zcn Zwu Zlr;rw [if_pos h,if_pos (show inR (r:Int) 0 8=true by simp [inR];omega),if_pos (show inR (k:Int) 0 ((C.sl.length:Int)-1)=true by simp [inR];omega),if_pos rfl,Int.toNat_natCast]
theorem Zum (n:Nat) (hn:1≤n) (l Bm n₀ R:Nat) (K:MK) (J Jx:List TT→World→Prop) (hgm:K.gm<n₀) (hBm:Bm<n₀) (hw0:K.w0.heap.size≤n₀) (hck:ckC K.C=0) (hR:K.S.rounds=(R:Int)) (hR8:R≤8) (hc5:K.C.sl.length≤K.B.c5) (hcf:Z1 K.w0 K.B K.C)
  (hY:∀ pre x W,x∈Qm K.C R→J pre W→pre.length<R*K.C.sl.length→YieldAt Fence.wide (n-1) prog l (Zy0 x) W fun e W'=>
   (e=.returned (.bool true)∧J (pre++[x]) W'∧TM K Bm W W')∨(e=.returned (.bool false)∧Jx (pre++[x]) W'))
  (hJb:∀ pre W W',J pre W→Below W.heap.size W W'→J pre W')
  (W:World) (hB:W.cell? ⟨Bm,0,none⟩=some (.pointer (some ⟨K.gm,0,none⟩))) (gd:Nat) (hM:∀ i v,i<12→(Zdg K gd)[i]? = some v→W.cell? ⟨K.gm,i,none⟩=some v) (hlow:Below K.w0.heap.size K.w0 W) (hsz:n₀≤W.heap.size) (h0:J [] W) :
  CallsIn Fence.wide n prog 43 #[.func (.yield l) #[] #[],.pointer (some ⟨Bm,0,none⟩)] W fun e W'=>(∃ v,e=.returned v) ∧
   ((∃ ys,ys=Qm K.C R∧J ys W')∨(∃ pre,(∃ r k,r≤R∧k≤K.C.sl.length∧pre=Zam K.C r k)∧Jx pre W')):=by
 have ac:prog.follows Departure.mixedOrders=true:=by kernel_rfl
 have ao:=(Zag hck).1;obtain ⟨b5,o5,e5,-⟩:=hcf.sl 0 (Zv4 hck);refine callsIn_of_wp func43 rfl trivial ?_ rfl;simp only [ntmps43,List.size_toArray,List.length_cons,List.length_nil,Nat.reduceAdd,Nat.reduceSub,Array.replicate_succ,Array.replicate_zero,List.push_toArray,List.append_toArray,List.nil_append,List.cons_append];have ad:=hM 11 _ (by decide) rfl;have HM:=hid hM;clear hM;rw [hR] at ad;have HR:=hid hR;clear hR;gi_wp2;clear ad;gi_loopw [13] (fun i wr=>∃ r:Nat,r≤R∧i=.int .i64 r∧J (Qm K.C r) wr∧TM K Bm W wr)
  (fun i _=>R-(intOf i).toNat)
 case atStart=>exact ⟨0,zl,rfl,h0,TM.refl _ _ _⟩
 case round=>
  obtain ⟨r,hr,rfl,ae,a4⟩:=hrel;have HJ:=hid ae;have HX:=hid a4;by_cases hlt:r<R
  ·have ba:(r:Int)<(R:Int):=by omega
   have bb:=a4.c0.trans hB;have m5:=(a4.cm 5 (by decide)).trans (HM.out 5 _ (by decide) rfl);rw [e5] at m5;clear ae a4;obtain ⟨W1,rfl⟩:∃ x,x=wr:=⟨_,rfl⟩
   gi_wp2;clear m5;gi_loopw [22] (fun i wr=>∃ k:Nat,k≤K.C.sl.length∧i=.int .i64 k∧J (Zam K.C r k) wr∧TM K Bm W wr)
    (fun i _=>K.C.sl.length-(intOf i).toNat)
   case atStart=>exact ⟨0,zl,rfl,by rw [Zmn];exact HJ.out,HX.out⟩
   case round=>
    obtain ⟨k,hk,rfl,af,a1⟩:=hrel;have ag:=hid af;have ah:=hid a1;by_cases hlk:k<K.C.sl.length
    ·have bc:(k:Int)<(K.C.sl.length:Int):=by omega
     have bd:(0:Int)≤(k:Int):=by omega
     have a5:=hlow.trans a1.bl;obtain ⟨be,bf,ai,s0,s1⟩:=(hcf.keep a5).sl k hlk;rw [e5] at ai;cases ai;have HS:=hid (Zrx hck (show r≤8 by omega) hlk);have aj:=a1.c0.trans hB;have hm:=fun i v hi hv=>(a1.cm i hi).trans (HM.out i v hi hv)
     have x0:=hm 0 _ (by decide) rfl;have x1:=hm 1 _ (by decide) rfl;have x2:=hm 2 _ (by decide) rfl;have x3:=hm 3 _ (by decide) rfl;have x4:=hm 4 _ (by decide) rfl;have x5:=hm 5 _ (by decide) rfl;have x6:=hm 6 _ (by decide) rfl;have x7:=hm 7 _ (by decide) rfl;have x8:=hm 8 _ (by decide) rfl;have ap:=a1.bl.size;have q1:=Za wr (.cells #[.int .i64 K.C.sl[k].1,.int .i64 K.C.sl[k].2] 106);have R1:=Zc wr wr.heap.size [.int .i64 K.C.sl[k].1,.int .i64 K.C.sl[k].2] 106 rfl;have CS:=hid (Zro K.C K.B r k (wr.alloc (.cells #[.int .i64 K.C.sl[k].1,.int .i64 K.C.sl[k].2] 106)) ((hcf.keep a5).keep q1) hc5);rw [HS.out] at CS;dsimp only [cv,cl] at CS;rw [e5] at CS;have bg:=Zd5 hck k (by omega);have a0:=Zd5 hck K.C.sl.length lr;rw [List.take_length] at a0;have bh:=Znt hck;have aq:=Zj8 hck hlk;rw [show K.C.sl.getD k (0,0)=K.C.sl[k] by simp [hlk]] at aq;have ar:0≤(r:Int)*Ji K.C.sl:=Int.mul_nonneg (by omega) a0.1;have au:(r:Int)*Ji K.C.sl≤8*6000:=Int.mul_le_mul (by omega) (by omega) a0.1 (by omega);have aw:Hid (Zic K.C r k=(k,(r:Int)*Ji K.C.sl+Ji (K.C.sl.take k),(r:Int)*Ji K.C.sl+Ji (K.C.sl.take k)+K.C.sl[k].2-K.C.p)):=hid (by unfold Zic;rw [show K.C.sl.getD k (0,0)=K.C.sl[k] by simp [hlk]]);have a6:=hid (Zor (C:=K.C) hlt hlk);have a7:Hid ((Zam K.C r k).length<R*K.C.sl.length):=hid (by
      rw [Zo1]
      have:=Nat.mul_le_mul_right K.C.sl.length (show r+1≤R from hlt)
      rw [Nat.add_mul,Nat.one_mul] at this
      omega)
     have Q1:=hid q1;have ax:=hid R1;generalize (r:Int)*Ji K.C.sl=rs at *
     generalize Ji (K.C.sl.take k)=st at *
     clear a0 af a1 hm a5 q1 R1;have a3:=Zl (.cells #[.int .i64 K.C.sl[k].1,.int .i64 K.C.sl[k].2] 106) aj;have ay:=Zl (.cells #[.int .i64 K.C.sl[k].1,.int .i64 K.C.sl[k].2] 106) x0;have az:=Zl (.cells #[.int .i64 K.C.sl[k].1,.int .i64 K.C.sl[k].2] 106) x1;have b0:=Zl (.cells #[.int .i64 K.C.sl[k].1,.int .i64 K.C.sl[k].2] 106) x2;have ak:=Zl (.cells #[.int .i64 K.C.sl[k].1,.int .i64 K.C.sl[k].2] 106) x3;have b1:=Zl (.cells #[.int .i64 K.C.sl[k].1,.int .i64 K.C.sl[k].2] 106) x4;have b2:=Zl (.cells #[.int .i64 K.C.sl[k].1,.int .i64 K.C.sl[k].2] 106) x5;have b3:=Zl (.cells #[.int .i64 K.C.sl[k].1,.int .i64 K.C.sl[k].2] 106) x6;have b4:=Zl (.cells #[.int .i64 K.C.sl[k].1,.int .i64 K.C.sl[k].2] 106) x7;have b6:=Zl (.cells #[.int .i64 K.C.sl[k].1,.int .i64 K.C.sl[k].2] 106) x8;have a8:K.gm<wr.heap.size:=by omega
     have a9:Bm<wr.heap.size:=by omega
     gi_wp2_with fail;refine ⟨trivial,(callsIn_wide.2 CS.out).mono ?_⟩;rintro e w2 ⟨rfl,a2⟩;have bi:=Zg a2 a3 lr;have bj:=Zg a2 ak lr;have bk:=(ax.out.below a2 lr).cell 1 _ rfl;have Q2:=hid (Zb Q1.out a2);have bm:IntKind.i64.wrap (rs+st+K.C.sl[k].2)=rs+st+K.C.sl[k].2:=by rw [IntKind.wrap_i64];omega
     have bn:IntKind.i64.wrap (rs+st+K.C.sl[k].2-K.C.p)=rs+st+K.C.sl[k].2-K.C.p:=by rw [IntKind.wrap_i64];omega
     have al:TM K Bm wr w2.drew:=TM.below a9 a8 (by omega) ((Zb Q1.out a2).drew);have b7:=hid al;obtain ⟨fn,b8,aa,b9,hy,hR⟩:=hY (Zam K.C r k) (Zic K.C r k) w2.drew a6.out (hJb _ _ _ ag (Q2.out.drew)) a7.out;rw [aw.out] at hy;dsimp only [Zy0] at hy;clear aj a3 x0 x1 x2 x3 x4 x5 x6 x7 x8 ay az b0 ak b1 b2 b3 b4 b6 a2 CS al s0 s1;generalize hsl:K.C.sl[k].2=sl2 at *
     generalize K.C.sl[k].1=sl1 at *
     gi_wp2;gi_cut [52,54] from 37 (fun t u wx=>∃ r':Bool,t=.bool (!r')∧u=u54∧(r'=true→J (Zam K.C r (k+1)) wx∧TM K Bm W wx)∧(r'=false→Jx (Zam K.C r (k+1)) wx))
     case first=>
      gi_region_with_o (refine hR.mono ?_;intro e W3 am;obtain ⟨r',rfl,an⟩:=Zg9 am;have ab:=hid an;clear am an)
      all_goals
       gi_wp2;go_meet
       case rel=>exact ⟨r',by cases r'<;>rfl,rfl,fun e=>by rw [Zf4];exact ⟨(ab.out.1 e).1,(ah.out.trans b7.out).trans (ab.out.1 e).2⟩,fun e=>by rw [Zf4];exact ab.out.2 e⟩
     case rest=>
      obtain ⟨r',rfl,rfl,h1,h2⟩:=hcut;have H1:=hid h1;have H2:=hid h2;clear h1 h2
      cases r' with
      | true=>
       gi_wp2;go_roundw
       case rel=>exact ⟨k+1,by omega,by go_num,(H1.out (by trivial)).1,(H1.out (by trivial)).2⟩
       case measure=>simp [intOf];omega
      | false=>
       gi_wp2;refine bodyPost_ret (results_none rfl _ _ _) rfl ?_;refine ⟨⟨_,rfl⟩,.inr ?_⟩;exact ⟨_,⟨r,by omega,k+1,by omega,rfl⟩,H2.out trivial⟩
    ·obtain rfl:k=K.C.sl.length:=by omega
     gi_wp2;go_roundw
     case rel=>exact ⟨r+1,by omega,by go_num,by rw [← Zg2];exact ag.out,ah.out⟩
     case measure=>simp [intOf];omega
  ·obtain rfl:r=R:=by omega
   gi_wp2;go_end0;exact ⟨⟨_,rfl⟩,.inl ⟨_,rfl,HJ.out⟩⟩
end Go.Proofs.YtejhccmclanlmaaGreatDoor
namespace Go.Proofs.YtejhccmclanlmaaGreatDoor
open Go.RowKit Go.Proofs.Tryz
variable {D:Dom} {K:MK} {base gd:Nat} {a:Option Addr} {row:Option Nat} {W W' w w':World} {A:Yk}
def KC (w w':World):Prop:=∀ p v,w.cell? p=some v→w'.cell? p=some v
theorem Z4.kc {ls:List Int} (h:Z4 w a ls) (hk:KC w w'):Z4 w' a ls:=fun i hi=>by
 obtain ⟨b,o,e,h1⟩:=h i hi;exact ⟨b,o,e,hk _ _ h1⟩
theorem Zcp.kc {ls:List J6} (h:Zcp w a ls) (hk:KC w w'):Zcp w' a ls:=fun i hi=>by
 obtain ⟨b,o,e,h1,h2,h3,h4,h5,h6⟩:=h i hi;exact ⟨b,o,e,hk _ _ h1,hk _ _ h2,hk _ _ h3,hk _ _ h4,hk _ _ h5,hk _ _ h6⟩
theorem Zev.kc {ls:List EvT} (h:Zev w a ls) (hk:KC w w'):Zev w' a ls:=fun i hi=>by
 obtain ⟨b,o,e,h1,h2,h3,h4⟩:=h i hi;exact ⟨b,o,e,hk _ _ h1,hk _ _ h2,hk _ _ h3,hk _ _ h4⟩
theorem Za7.kc {ls:List (List Int×Int)} (h:Za7 w a ls) (hk:KC w w'):Za7 w' a ls:=fun i hi=>by
 obtain ⟨b,o,a',c',e,h1,h2,h3,h4⟩:=h i hi;exact ⟨b,o,a',c',e,hk _ _ h1,hk _ _ h2,h3.kc hk,h4⟩
theorem Jq.kc {ls:List (List Int)} (h:Jq w a ls) (hk:KC w w'):Jq w' a ls:=fun i hi=>by
 obtain ⟨b,o,a',c',e,h1,h3,h4⟩:=h i hi;exact ⟨b,o,a',c',e,hk _ _ h1,h3.kc hk,h4⟩
theorem Yz.kc (h:Yz w A D) (hk:KC w w'):Yz w' A D:=
 ⟨h.jobs.kc hk,h.rel.kc hk,h.ins.kc hk,h.tak.kc hk,h.out.kc hk,h.evs.kc hk,h.lJ,h.lR,h.lI,h.lT,h.lO,h.lE⟩
def Zc3 (W:World) (row:Option Nat):Prop:=∀ r,row=some r→∃ o:Obj,W.heap[r]? = some o∧o.isCells=false
theorem Zii {p:Addr} {v:Value} (h:w.cell? p=some v) {o:Obj} (ho:w.heap[p.block]? = some o):o.isCells=true:=by
 unfold World.cell? at h;rw [ho] at h
 cases o<;>simp_all [Obj.isCells]
theorem Zql (hg:W.grownBy W' row) (hr:Zc3 W row):KC W W':=fun p v hv=>by
 have hlt:=World.block_lt_of_cell? _ _ hv;have hne:some p.block≠row:=fun e=>by
  obtain ⟨o,ho,hc⟩:=hr _ e.symm;rw [Zii hv ho] at hc;cases hc
 rw [World.cell?_of_block (w:=W) (a:=p) (hg.block p.block hlt hne)];exact hv
theorem Zto.turn {P:Nat→Prop} (h:Zto P W A D) (hg:W.grownBy W' row) (hr:Zc3 W row):Zto P W' A D:=by
 intro wx hx
 cases row with
 | none=>exact h wx ⟨Nat.le_trans hg.size hx.1,fun k hk hX=>(hx.2 k (Nat.lt_of_lt_of_le hk hg.size) hX).trans (hg.block k hk (by simp))⟩
 | some r=>
  obtain ⟨o,ho,hc⟩:=hr r rfl;have a2:r<W.heap.size:=(Array.getElem?_eq_some_iff.1 ho).1;have a0:r<wx.heap.size:=by have:=hg.size;have:=hx.1;omega
  have hy:Ext P W {wx with heap:=wx.heap.set r o a0}:=by
   refine ⟨by show W.heap.size≤(wx.heap.set r o a0).size;simp;have:=hg.size;have:=hx.1;omega,fun k hk hX=>?_⟩;show (wx.heap.set r o a0)[k]? = _
   rw [Array.getElem?_set];split
   ·rename_i e;rw [← e];exact ho.symm
   ·rename_i e
    exact (hx.2 k (Nat.lt_of_lt_of_le hk hg.size) hX).trans (hg.block k hk (fun e'=>e (by cases e';rfl)))
  refine (h _ hy).kc fun p v hv=>?_
  have a1:p.block≠r:=fun e=>by
   have:=Zii hv (o:=o) (by show (wx.heap.set r o a0)[p.block]? = _;rw [e];simp)
   rw [this] at hc;cases hc
  have hb:wx.heap[p.block]? = ({wx with heap:=wx.heap.set r o a0}:World).heap[p.block]? := by
   show _=(wx.heap.set r o a0)[p.block]?
   rw [Array.getElem?_set,if_neg (Ne.symm a1)]
  rw [World.cell?_of_block (w:={wx with heap:=wx.heap.set r o a0}) (a:=p) hb];exact hv
theorem J5 {g:Nat} {t:TypeId} {cs:List Value} (h:Zf W g t cs) (hg:W.grownBy W' row) (hr:Zc3 W row):Zf W' g t cs:=by
 have a0:g<W.heap.size:=(Array.getElem?_eq_some_iff.1 h).1;refine (hg.block g a0 (fun e=>?_)).trans h;obtain ⟨o,ho,hc⟩:=hr _ e.symm;rw [show W.heap[g]? = _ from h] at ho;cases ho;simp [Obj.isCells] at hc
theorem MO.turn {Ds:Nat→Dom} {As:Nat→Yk} {La:Nat→Int} (h:MO K W gd base Ds As La) (hg:W.grownBy W' row) (hr:Zc3 W row) (hlo:∀ r,row=some r→K.w0.heap.size≤r):MO K W' gd base Ds As La:=by
 obtain ⟨cs,h1,h2⟩:=h.drow;refine ⟨h.low.grown hg h.low.size hlo,h.cf,h.sc,J5 h.row hg hr,⟨cs,J5 h1 hg hr,h2⟩,fun i hi=>⟨?_,(h.at_ i hi).2.turn hg hr⟩,J5 h.last hg hr,h.lo,⟨h.hi.1,h.hi.2.1,h.hi.2.2.1,Nat.le_trans h.hi.2.2.2 hg.size⟩,fun k hk=>Nat.lt_of_lt_of_le (h.fo k hk) hg.size⟩;have hd:=(h.at_ i hi).1;have kc:=Zql hg hr;exact ⟨kc _ _ hd.c0,kc _ _ hd.c1,kc _ _ hd.c2,kc _ _ hd.c3,kc _ _ hd.c4,kc _ _ hd.c5,kc _ _ hd.c6⟩
theorem Zer {X:Nat→Prop} (h:Ext X W W') (hX:∀ k o,X k→W.heap[k]? = some o→o.isCells=true):KeepsOthers W W':=
 ⟨h.1,fun k o ho hc=>(h.2 k (Array.getElem?_eq_some_iff.1 ho).1 (fun hx=>by rw [hX k o hx ho] at hc;cases hc)).trans ho⟩
theorem MO.cellsX {Ds:Nat→Dom} {As:Nat→Yk} {La:Nat→Int} (h:MO K W gd base Ds As La):∀ k o,MX K gd k→W.heap[k]? = some o→o.isCells=true:=by
 intro k o hk ho;obtain ⟨cs,h1,h2⟩:=h.drow;rcases hk with e|e|e
 ·rw [e,show W.heap[K.gm]? = _ from h.row] at ho;cases ho;rfl
 ·rw [e,show W.heap[K.gl]? = _ from h.last] at ho;cases ho;rfl
 ·rw [e,show W.heap[gd]? = _ from h1] at ho;cases ho;rfl
theorem J7.kc {ls:List (Int×Bool)} (h:J7 w a ls) (hk:KC w w'):J7 w' a ls:=fun i hi=>by
 obtain ⟨b,o,e,h1,h2⟩:=h i hi;exact ⟨b,o,e,hk _ _ h1,hk _ _ h2⟩
theorem Z8.kc {C:KT} (h:Z8 w a C) (hk:KC w w'):Z8 w' a C:=fun i hi=>by
 obtain ⟨b,o,a',cap,e,h1,h2,h3⟩:=h i hi;exact ⟨b,o,a',cap,e,hk _ _ h1,h2.kc hk,h3⟩
end Go.Proofs.YtejhccmclanlmaaGreatDoor
