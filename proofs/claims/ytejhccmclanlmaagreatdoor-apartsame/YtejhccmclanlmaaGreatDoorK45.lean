/- Texts joined: Ba An Bc0 Be Bh. -/
import Derived.Deep.MidRow
import Derived.BigQuiet
import Derived.RangeFuncNested
import Derived.Test.YtejhccmclanlmaaGreatDoorK15
import Derived.Test.YtejhccmclanlmaaGreatDoorK41
import Derived.Test.YtejhccmclanlmaaGreatDoorK43
import Derived.Test.YtejhccmclanlmaaGreatDoorK44
set_option linter.unusedVariables false
set_option maxRecDepth 100000
namespace Go.Proofs.YtejhccmclanlmaaGreatDoor
open Go.RowKit
def DomP (P:Nat→Prop) (w:World) (A:DMem) (D:Dom):Prop:=∀ wx:World,Ext P w wx→DomIn wx A D
abbrev DomOF (Fo:Nat→Prop) (n:Nat) (w:World) (A:DMem) (D:Dom):Prop:=DomP (fun k=>k<n∨Fo k) w A D
theorem DomP.dom {P:Nat→Prop} {w:World} {A:DMem} {D:Dom} (h:DomP P w A D):DomIn w A D:=h w (Ext.refl _ _)
theorem DomP.ext {P:Nat→Prop} {w w':World} {A:DMem} {D:Dom} (h:DomP P w A D) (hx:Ext P w w'):DomP P w' A D:=fun wx hw=>h wx (hx.trans hw)
theorem DomOn.foreign {n m:Nat} {w:World} {A:DMem} {D:Dom} {Fo:Nat→Prop} (h:DomOn n w A D) (hm:m≤n) (hf:∀ k,Fo k→k<n):DomOF Fo m w A D:=fun wx hx=>h wx (hx.wider fun k hk=>by
 rcases hk with hk|hk
 ·omega
 ·exact hf k hk)
structure MK where
 C:Conf
 B:Mem
 S:ScrT
 M:SMem
 w0:World
 gm:Nat
 gl:Nat
 n:Nat
 fo:Nat→Prop
abbrev mcells (K:MK) (gd:Nat):List Value:=[.int .i64 K.C.s,.int .i64 K.C.w,.int .i64 K.C.d,.int .i64 K.C.p,.int .i64 K.C.q,.slice K.B.a5 K.C.sl.length K.B.c5,.slice K.B.a6 K.C.ow.length K.B.c6,.slice K.B.a7 K.C.ch.length K.B.c7,.slice K.B.a8 K.C.ta.length K.B.c8,.slice K.M.aA K.S.acts.length K.M.cA,.slice K.M.aR K.S.arr.length K.M.cR,.int .i64 K.S.rounds,.slice (some ⟨gd,0,none⟩) K.n K.n,.slice (some ⟨K.gl,0,none⟩) K.n K.n]
def MX (K:MK) (gd:Nat) (k:Nat):Prop:=k=K.gm∨k=K.gl∨k=gd
structure MO (K:MK) (w:World) (gd base:Nat) (Ds:Nat→Dom) (As:Nat→DMem) (La:Nat→Int):Prop where
 low:Below K.w0.heap.size K.w0 w
 cf:ConfIn K.w0 K.B K.C
 sc:ScrIn K.w0 K.M K.S
 row:RowAt w K.gm 113 (mcells K gd)
 drow:DRow w gd K.n
 at_:∀ i,i<K.n→DomsAt w gd 0 i (Ds i) (As i)∧DomOF K.fo base w (As i) (Ds i)
 last:RowAt w K.gl 3 (ivs ((List.range K.n).map La))
 lo:K.w0.heap.size≤K.gm∧K.w0.heap.size≤K.gl∧K.w0.heap.size≤gd
 hi:K.gm<base∧K.gl<base∧gd<base∧base≤w.heap.size
 fo:∀ k,K.fo k→k<w.heap.size
section
variable {K:MK} {w w':World} {gd base:Nat} {Ds:Nat→Dom} {As:Nat→DMem} {La:Nat→Int}
theorem MO.keep (h:MO K w gd base Ds As La) (hb:Below w.heap.size w w'):MO K w' gd base Ds As La:=
 ⟨h.low.trans (hb.mono h.low.size),h.cf,h.sc,h.row.below hb lr,h.drow.keep hb,fun i hi=>⟨(h.at_ i hi).1.keep hb,(h.at_ i hi).2.ext (Ext.below hb)⟩,h.last.below hb lr,h.lo,⟨h.hi.1,h.hi.2.1,h.hi.2.2.1,Nat.le_trans h.hi.2.2.2 hb.size⟩,fun k hk=>Nat.lt_of_lt_of_le (h.fo k hk) hb.size⟩
theorem MO.conf (h:MO K w gd base Ds As La):ConfIn w K.B K.C:=h.cf.keep h.low
theorem MO.scr (h:MO K w gd base Ds As La):ScrIn w K.M K.S:=h.sc.keep h.low
theorem MO.ne (h:MO K w gd base Ds As La):K.gm≠gd∧K.gm≠K.gl∧gd≠K.gl:=by
 obtain ⟨cs,h1,_⟩:=h.drow
 exact ⟨row_ne h.row h1 (by decide),row_ne h.row h.last (by decide),row_ne h1 h.last (by decide)⟩
theorem MO.win (h:MO K w gd base Ds As La) (hb:Below w.heap.size w w') {i:Nat} (hi:i<K.n) {D:Dom} {A:DMem} {n5:Nat} (hD:DomOn n5 w' A D) (hn5:w.heap.size≤n5) (t:Int) {bx:Nat} (hbx:w.heap.size≤bx) (hbx5:bx<n5) (o:Nat) (u:Value) :
  MO K (((put7 w' gd (i * 7) (.slice A.aJ D.jobs.length A.cJ) (.slice A.aR D.rel.length A.cR) (.int .i64 D.nxt) (.slice A.aI D.ins.length A.cI) (.slice A.aT D.tak.length A.cT) (.slice A.aO D.out.length A.cO) (.slice A.aE D.evs.length A.cE)).setCell ⟨K.gl,i,none⟩ (.int .i64 t)).setCell ⟨bx,o,none⟩ u) gd base (putF Ds i D) (putF As i A) (putF La i t) ∧
  Ext (MX K gd) w (((put7 w' gd (i * 7) (.slice A.aJ D.jobs.length A.cJ) (.slice A.aR D.rel.length A.cR) (.int .i64 D.nxt) (.slice A.aI D.ins.length A.cI) (.slice A.aT D.tak.length A.cT) (.slice A.aO D.out.length A.cO) (.slice A.aE D.evs.length A.cE)).setCell ⟨K.gl,i,none⟩ (.int .i64 t)).setCell ⟨bx,o,none⟩ u)∧Ext (fun k=>k<n5) w' (((put7 w' gd (i * 7) (.slice A.aJ D.jobs.length A.cJ) (.slice A.aR D.rel.length A.cR) (.int .i64 D.nxt) (.slice A.aI D.ins.length A.cI) (.slice A.aT D.tak.length A.cT) (.slice A.aO D.out.length A.cO) (.slice A.aE D.evs.length A.cE)).setCell ⟨K.gl,i,none⟩ (.int .i64 t)).setCell ⟨bx,o,none⟩ u):=by
 have h':=h.keep hb
 obtain ⟨n1,n2,n3⟩:=h.ne
 have hh:=h.hi
 have hlo:=h.lo
 have hgd:=h.drow.lt
 have hp:=put7_at h'.drow hi D A
 have hne:=put7_ne w' gd (i * 7) (.slice A.aJ D.jobs.length A.cJ) (.slice A.aR D.rel.length A.cR) (.int .i64 D.nxt) (.slice A.aI D.ins.length A.cI) (.slice A.aT D.tak.length A.cT) (.slice A.aO D.out.length A.cO) (.slice A.aE D.evs.length A.cE)
 have hsz:=put7_size w' gd (i * 7) (.slice A.aJ D.jobs.length A.cJ) (.slice A.aR D.rel.length A.cR) (.int .i64 D.nxt) (.slice A.aI D.ins.length A.cI) (.slice A.aT D.tak.length A.cT) (.slice A.aO D.out.length A.cO) (.slice A.aE D.evs.length A.cE)
 have hbl:=put7_below h'.low hlo.2.2 (i * 7) (.slice A.aJ D.jobs.length A.cJ) (.slice A.aR D.rel.length A.cR) (.int .i64 D.nxt) (.slice A.aI D.ins.length A.cI) (.slice A.aT D.tak.length A.cT) (.slice A.aO D.out.length A.cO) (.slice A.aE D.evs.length A.cE)
 generalize put7 w' gd (i * 7) (.slice A.aJ D.jobs.length A.cJ) (.slice A.aR D.rel.length A.cR) (.int .i64 D.nxt) (.slice A.aI D.ins.length A.cI) (.slice A.aT D.tak.length A.cT) (.slice A.aO D.out.length A.cO) (.slice A.aE D.evs.length A.cE)=w1 at *
 have hl1:RowAt w1 K.gl 3 (ivs ((List.range K.n).map La)):=(hne K.gl (Ne.symm n3)).trans h'.last
 have hl2:=rowAt_set1 hl1 i (.int .i64 t)
 have hne2:=fun k (hk:k≠K.gl)=>heap_set_ne w1 K.gl i (.int .i64 t) k hk
 have hsz2:(w1.setCell ⟨K.gl,i,none⟩ (.int .i64 t)).heap.size=w1.heap.size:=by simp [World.setCell]
 have hbl2:=hbl.setCell (p:=⟨K.gl,i,none⟩) hlo.2.1 (.int .i64 t)
 generalize w1.setCell ⟨K.gl,i,none⟩ (.int .i64 t)=w2 at *
 have hne3:=fun k (hk:k≠bx)=>heap_set_ne w2 bx o u k hk
 have hsz3:(w2.setCell ⟨bx,o,none⟩ u).heap.size=w2.heap.size:=by simp [World.setCell]
 have hbl3:=hbl2.setCell (p:=⟨bx,o,none⟩) (show K.w0.heap.size≤bx from Nat.le_trans h.low.size hbx) u
 generalize w2.setCell ⟨bx,o,none⟩ u=w3 at *
 have hws:=hb.size
 have hx:Ext (MX K gd) w w3:=⟨by omega,fun k hk hX=>(hne3 k (by omega)).trans ((hne2 k (fun e=>hX (.inr (.inl e)))).trans ((hne k (fun e=>hX (.inr (.inr e)))).trans (hb.block k hk)))⟩
 have hxb:Ext (fun k=>k<base∨K.fo k) w w3:=hx.wider fun k hk=>.inl (by rcases hk with rfl|rfl|rfl <;> omega)
 have hx5:Ext (fun k=>k<n5) w' w3:=⟨by omega,fun k hk hX=>(hne3 k (by omega)).trans ((hne2 k (by omega)).trans (hne k (by omega)))⟩
 have d3:gd≠bx:=by omega
 refine ⟨⟨hbl3,h.cf,h.sc,?_,(hp.1.other (hne2 gd n3)).other (hne3 gd d3),fun j hj=>?_,?_,h.lo,by omega,fun k hk=>by have:=h.fo k hk;omega⟩,hx,hx5⟩
 ·exact (hne3 K.gm (by omega)).trans ((hne2 K.gm n2).trans ((hne K.gm n1).trans h'.row))
 ·by_cases e:j=i
  ·subst e
   rw [putF_eq,putF_eq]
   exact ⟨(hp.2.1.other (hne2 gd n3)).other (hne3 gd d3),(hD.ext hx5).foreign (by omega) (fun k hk=>by have:=h.fo k hk;omega)⟩
  ·rw [putF_ne _ _ e,putF_ne _ _ e]
   exact ⟨((hp.2.2 j _ _ e (h'.at_ j hj).1).other (hne2 gd n3)).other (hne3 gd d3),(h.at_ j hj).2.ext hxb⟩
 ·have e:(ivs ((List.range K.n).map La)).set i (.int .i64 t)=ivs ((List.range K.n).map (putF La i t)):=by
   rw [ivs_set']
   congr 1
   refine List.ext_getElem (by simp) fun j h1 h2=>?_
   rw [List.getElem_set]
   simp only [List.getElem_map,List.getElem_range]
   split
   ·rename_i e;subst e;rw [putF_eq]
   ·rename_i e;rw [putF_ne _ _ (Ne.symm e)]
  rw [← e]
  exact (hne3 K.gl (by omega)).trans hl2
theorem MO.write (h:MO K w gd base Ds As La) {b:Nat} (hb:K.fo b) (h1:b≠K.gm) (h2:b≠K.gl) (h3:b≠gd) (h4:K.w0.heap.size≤b) (o:Nat) (u:Value):MO K (w.setCell ⟨b,o,none⟩ u) gd base Ds As La:=by
 have hne:=fun k (hk:k≠b)=>heap_set_ne w b o u k hk
 have hx:Ext (fun k=>k<base∨K.fo k) w (w.setCell ⟨b,o,none⟩ u):=Ext.set w (.inr hb) o u
 have hz:(w.setCell ⟨b,o,none⟩ u).heap.size=w.heap.size:=by simp [World.setCell]
 exact ⟨h.low.setCell (p:=⟨b,o,none⟩) h4 u,h.cf,h.sc,(hne _ (Ne.symm h1)).trans h.row,h.drow.other (hne _ (Ne.symm h3)),fun i hi=>⟨(h.at_ i hi).1.other (hne _ (Ne.symm h3)),(h.at_ i hi).2.ext hx⟩,(hne _ (Ne.symm h2)).trans h.last,h.lo,by rw [hz];exact h.hi,by rw [hz];exact h.fo⟩
theorem MO.others (h:MO K w gd base Ds As La) (hb:Below w.heap.size w w') (Fo:Nat→Prop) (hF:∀ k,Fo k→w.heap.size≤k∧k<w'.heap.size) (hK:∀ k,¬ K.fo k):MO { K with fo:=Fo } w' gd base Ds As La:=by
 have h':=h.keep hb
 refine ⟨h'.low,h'.cf,h'.sc,h'.row,h'.drow,fun i hi=>⟨(h'.at_ i hi).1,fun wx hx=>(h.at_ i hi).2 wx ⟨Nat.le_trans hb.size hx.1,fun k hk hX=>(hx.2 k (Nat.lt_of_lt_of_le hk hb.size) (fun e=>?_)).trans (hb.block k hk)⟩⟩,h'.last,h'.lo,h'.hi,fun k hk=>(hF k hk).2⟩
 rcases e with e|e
 ·exact hX (.inl e)
 ·have:=(hF k e).1
  omega
theorem MO.close (h:MO K w gd base Ds As La) (hb:Below w.heap.size w w') {g:Nat} {Es:Nat→Dom} {As':Nat→DMem} (hr:DRow w' g K.n) (hd:∀ i,i<K.n→DomsAt w' g 0 i (Es i) (As' i)∧DomOn (g+1) w' (As' i) (Es i)) (hg:w.heap.size≤g) :
  MO K (w'.setCell ⟨K.gm,12,none⟩ (.slice (some ⟨g,0,none⟩) K.n K.n)) g (g+1) Es As' La∧Ext (MX K gd) w (w'.setCell ⟨K.gm,12,none⟩ (.slice (some ⟨g,0,none⟩) K.n K.n)):=by
 have h':=h.keep hb
 obtain ⟨n1,n2,n3⟩:=h.ne
 have hh:=h.hi
 have hlo:=h.lo
 have hgl:=hr.lt
 have hr1:RowAt (w'.setCell ⟨K.gm,12,none⟩ (.slice (some ⟨g,0,none⟩) K.n K.n)) K.gm 113 (mcells K g):=rowAt_set1 h'.row 12 (.slice (some ⟨g,0,none⟩) K.n K.n)
 have hne:=fun k (hk:k≠K.gm)=>heap_set_ne w' K.gm 12 (.slice (some ⟨g,0,none⟩) K.n K.n) k hk
 have hsz:(w'.setCell ⟨K.gm,12,none⟩ (.slice (some ⟨g,0,none⟩) K.n K.n)).heap.size=w'.heap.size:=by simp [World.setCell]
 have hbl:=h'.low.setCell (p:=⟨K.gm,12,none⟩) hlo.1 (.slice (some ⟨g,0,none⟩) K.n K.n)
 generalize w'.setCell ⟨K.gm,12,none⟩ (.slice (some ⟨g,0,none⟩) K.n K.n)=w2 at *
 have hbs:=hb.size
 refine ⟨⟨hbl,h.cf,h.sc,hr1,hr.other (hne g (by omega)),fun i hi=>⟨(hd i hi).1.other (hne g (by omega)),((hd i hi).2.ext ⟨by omega,fun k hk hx=>hne k (by omega)⟩).foreign lr (fun k hk=>by have:=h.fo k hk;omega)⟩,(hne K.gl (Ne.symm n2)).trans h'.last,⟨hlo.1,hlo.2.1,by omega⟩,by omega,fun k hk=>by have:=h.fo k hk;omega⟩,⟨by omega,fun k hk hX=>(hne k (fun e=>hX (.inl e))).trans (hb.block k hk)⟩⟩
end
theorem EvO.ext {n:Nat} {w:World} {A:DMem} {D:Dom} {aK:Option Addr} {K:KT} (h:EvO n w A D aK K) {wx:World} (hs:w.heap.size≤wx.heap.size) (hk:∀ x,n≤x→x<w.heap.size→(Value.slice A.aE D.evs.length A.cE).ownBlock≠some x→wx.heap[x]? = w.heap[x]?):DomIn wx A ⟨D.jobs,D.rel,D.nxt,D.ins,D.tak,D.out,[]⟩∧CacheIn wx aK K:=by
 have:=h.2 (cutW wx w.heap.size) fun x hn he=>by
  rw [cutW_at _ _ _ hs]
  split
  ·rename_i hlt
   exact hk x hn hlt he
  ·rename_i hlt
   exact (Array.getElem?_eq_none (by omega)).symm
 exact ⟨this.1.keep (cutW_below _ _ hs),this.2.keep (cutW_below _ _ hs)⟩
theorem ext_sz {X:Nat→Prop} {w w':World} (h:Ext X w w'):w.heap.size≤w'.heap.size:=h.1
theorem row_ext {X:Nat→Prop} {w w':World} {k:Nat} {t:TypeId} {L:List Value} (h:Ext X w.drew w') (hr:RowAt w k t L) (hk:k<w.heap.size) (hx:¬ X k):RowAt w' k t L:=(h.2 k hk hx).trans hr
def closeK (C:Conf) (dn:Nat) (Ds:Nat→Dom) (k:Nat):Nat→Dom:=(List.range k).foldl (fun Ds c=>if chF C c=dn then delF C c Ds else Ds) Ds
theorem closeK_succ (C:Conf) (dn:Nat) (Ds:Nat→Dom) (k:Nat):closeK C dn Ds (k+1)=if chF C k=dn then delF C k (closeK C dn Ds k) else closeK C dn Ds k:=by
 unfold closeK
 rw [List.range_succ,List.foldl_append]
 rfl
theorem closeK_all (C:Conf) (dn:Nat) (Ds:Nat→Dom):closeK C dn Ds C.ch.length=closeF C dn Ds:=rfl
theorem closeK_ok {C:Conf} {m:Nat→Nat} {b:Int} {Ds:Nat→Dom} {dn:Nat} (hd:(dn:Int)<C.d) (h:ALL C m b Ds):∀ k,k≤C.ch.length→ALL C m b (closeK C dn Ds k)
 | 0,_=>h
 | k+1,hk=>by
  rw [closeK_succ]
  split
  ·rename_i e
   exact delF_ok (by omega) (by rw [e];exact hd) (closeK_ok hd h k (by omega))
  ·exact closeK_ok hd h k (by omega)
theorem delF_eq {C:Conf} {c f t:Nat} {Ds:Nat→Dom} (hf:chF C c=f) (ht:chT C c=t) (hne:f≠t):delF C c Ds=putF (putF Ds t (getIn (Ds t) (Ds f) c (C.ch.getD c (0,0,0)).2.2)) f (noOut (Ds f) c):=by
 unfold delF
 rw [hf,ht]
 dsimp only
 rw [putF_ne _ _ hne]
theorem del_asks {C:Conf} {m:Nat→Nat} {b:Int} {Ds:Nat→Dom} (h:ALL C m b Ds) {c f t:Nat} (hc:c<C.ch.length) (hf:(f:Int)<C.d) (ht:(t:Int)<C.d) :
  ∃ (h1:c<(Ds t).ins.length) (h2:c<(Ds f).out.length),ckR (Ds t).ins[c].1 (Ds t).ins[c].2 C.ch[c].2.2=0∧allR (Ds f).out[c] 0 255=true∧(Ds f).out[c].length≤140737488355328:=by
 obtain ⟨_,t1,_,_,t4,_⟩:=ckD_iff.1 (h t ht).ck
 obtain ⟨_,f1,_,_,_,f5⟩:=ckD_iff.1 (h f hf).ck
 have st:=ckShp_iff.1 t1
 have sf:=ckShp_iff.1 f1
 have h1:c<(Ds t).ins.length:=by omega
 have h2:c<(Ds f).out.length:=by omega
 have hi:=fe_iff.1 t4 c h1
 unfold ckIn1 at hi
 rw [show (Ds t).ins.getD c ([],0)=(Ds t).ins[c] by simp [h1],show C.ch.getD c (0,0,0)=C.ch[c] by simp [hc]] at hi
 have ho:=ckOuts_iff.1 f5 _ (List.getElem_mem h2)
 exact ⟨h1,h2,hi,ho.2,by omega⟩
set_option maxHeartbeats 4000000 in
theorem close_ok (C:Conf) (B:Mem) (b o n c:Nat) (Ds:Nat→Dom) (As:Nat→DMem) (s:Nat) (m:Nat→Nat) (bb:Int) (w:World) (hC:ConfIn w B C) (hD:DomsIn w b o n Ds As) (h0:ckC C=0) (hs:s<C.sl.length) (hn:C.d=(n:Int)) (hA:ALL C m bb Ds) (hbb:bb≤1000000000000) :
  Calls Tryz.prog 49 #[cv C B,.slice (some ⟨b,o,none⟩) n c,.int .i64 s] w fun e w'=>∃ g:Nat,e=.returned (.tuple #[.slice (some ⟨g,0,none⟩) n n,.int .i64 0])∧DRow w' g n∧(∃ As':Nat→DMem,∀ i,i<n→DomsAt w' g 0 i (closeF C (slD C s) Ds i) (As' i)∧DomOn (g+1) w' (As' i) (closeF C (slD C s) Ds i))∧w.heap.size≤g∧Below w.heap.size w w':=by
 have hn4:n≤4:=by have:=(conf_nums h0).2.2.2;omega
 have hz:∀ i,i<n→ckD C i (Ds i)=0:=fun i hi=>(hA i (by omega)).ck
 have hmk:=make33_any n (by omega)
 have q1:=below_new w (.cells (cl C B) 27)
 have HC:=hid (hC.keep q1)
 have HD:=hid (hD.keep q1)
 have HX:=hid (boxC_new w C B)
 have HB:=hid q1
 have CK:Hid (∀ wx,Below (w.alloc (.cells (cl C B) 27)).heap.size (w.alloc (.cells (cl C B) 27)) wx→Calls Tryz.prog 74 #[cv C B,.slice (some ⟨b,o,none⟩) n c,.int .i64 s] wx fun e w'=>e=.returned (.int .i64 0)∧Below wx.heap.size wx w'):=hid fun wx hbx=>checkClose_ok C B b o n c Ds As s wx (HC.out.keep hbx) (HD.out.keep hbx) h0 hs hn hn4 hz
 have HSL:=hid (hC.sl)
 have HSm:Hid (∀ i,i<n→((Ds i).jobs.length≤1000000000000∧(Ds i).rel.length≤1000000000000∧(Ds i).tak.length≤1000000000000∧(Ds i).evs.length≤1000000000000)∧(Ds i).ins.length≤1000000000000∧(Ds i).out.length≤1000000000000∧(∀ r∈(Ds i).ins,r.1.length≤1000000000000)∧(∀ r∈(Ds i).out,r.length≤1000000000000)):=hid fun i hi=>by
  obtain ⟨⟨s1,s2,s3⟩,s4,s5,s6,s7⟩:=dom_small (hz i hi)
  have:=(hA i (by omega)).ev
  exact ⟨⟨by omega,by omega,by omega,by omega⟩,by omega,by omega,fun r hr=>by have:=s6 r hr;omega,fun r hr=>by have:=s7 r hr;omega⟩
 have HSD:=hid (slD_ok h0 hs)
 have HA:=hid hA
 have HN:=hid hn
 have H0:=hid h0
 have HSS:=hid hs
 have hn4':(n:Int)≤4:=by omega
 have l7:=hC.l7
 clear q1 hC hD hz h0 hn hA hs
 obtain ⟨a5,a6,a7,a8,c5,c6,c7,c8⟩:=B
 dsimp only [cv,cl] at *
 obtain ⟨g0,g1,g2,g3,g4,g5,g6,g7,g8⟩:=HX.out
 go_enter Tryz.func49,Tryz.ntmps49
 go_wp2_with fail
 refine (CK.out _ (Below.refl _ _)).mono ?_
 rintro e w1 ⟨rfl,hb1⟩
 generalize hW:World.alloc w _=W at *
 have hWs:Hid (W.heap.size=w.heap.size+1):=hid (by rw [← hW];simp)
 clear hW g0 g1 g2 g3 g4 g5 g6 g7 g8 CK
 have HB1:=hid (btrans HB.out hb1)
 have HC1:=hid (HC.out.keep hb1)
 have HD1:=hid (HD.out.keep hb1)
 have HX1:=hid (HX.out.keep hb1)
 have hs1:Hid (w.heap.size+1≤w1.heap.size):=hid (by have:=hb1.size;have:=hWs.out;omega)
 clear HB HC HD HX hb1 hWs
 have HM:Hid (CpS w w1.heap.size n 0 (w1.alloc (.cells (madeCells #[.slice none 0 0,.slice none 0 0,.int .i64 0,.slice none 0 0,.slice none 0 0,.slice none 0 0,.slice none 0 0] (n * 7)) 46)) Ds As (fun _=>0) (fun _=>0) (fun _=>0) (fun _=>w1.heap.size+1)):=hid ⟨⟨(madeCells #[.slice none 0 0,.slice none 0 0,.int .i64 0,.slice none 0 0,.slice none 0 0,.slice none 0 0,.slice none 0 0] (n * 7)).toList,by simpa [RowAt] using heap_alloc_new w1 (.cells (madeCells #[.slice none 0 0,.slice none 0 0,.int .i64 0,.slice none 0 0,.slice none 0 0,.slice none 0 0,.slice none 0 0] (n * 7)) 46),by simp [size_madeCells]⟩,fun i hi=>by omega,fun i hi=>by omega,fun i hi=>by omega,fun i hi=>by omega,by simp,btrans HB1.out (below_new _ _),by have:=hs1.out;omega⟩
 have HQ:=hid (below_new w1 (.cells (madeCells #[.slice none 0 0,.slice none 0 0,.int .i64 0,.slice none 0 0,.slice none 0 0,.slice none 0 0,.slice none 0 0] (n * 7)) 46))
 go_wp2
 clear hmk
 generalize World.alloc w1 _=W2 at *
 go_loopw [27] (fun i wr=>∃ k:Nat,k≤n∧i=.int .i64 k∧Below w1.heap.size w1 wr∧∃ As' gI gO q bnd,CpS w w1.heap.size n k wr Ds As' gI gO q bnd) (fun i _=>n - (intOf i).toNat)
 case atStart=>exact ⟨0,Nat.zero_le _,rfl,HQ.out,_,_,_,_,_,HM.out⟩
 case round=>
  obtain ⟨k,hk,rfl,hbl,As',gI,gO,q,bnd,hcp⟩:=hrel
  by_cases hlt:k<n
  ·have hk1:(k:Int)<(n:Int):=by omega
   have hk0:(0:Int)≤(k:Int):=by omega
   obtain ⟨⟨p0,p1,p2,p3,p4,p5,p6⟩,hdi⟩:=(HD1.out.keep hbl) k hlt
   have q4:=below_new wr (.cells (dl (Ds k) (As k)) 46)
   have HCP:=hid (hcp.keep q4)
   have HD4:=hid (hdi.keep q4)
   have R4:=hid (rowAt_new2 wr wr.heap.size (dl (Ds k) (As k)).toList 46 rfl)
   have HQ4:=hid (btrans hbl q4)
   have HSK:=hid (HSm.out k hlt)
   generalize hD:Ds k=D at p0 p1 p2 p3 p4 p5 p6 R4 HD4 HSK HCP HQ4
   generalize As k=A at p0 p1 p2 p3 p4 p5 p6 R4 HD4 HSK HCP HQ4
   have HDe:=hid hD.symm
   clear hdi q4 hbl hcp hD
   obtain ⟨aJ,aR,aI,aT,aO,aE,cJ,cR,cI,cT,cO,cE⟩:=A
   dsimp only [dl] at *
   go_upto_region 8 with fail
   generalize World.alloc wr _=w4 at *
   have d0:=R4.out.cell 0 _ rfl
   have d1:=R4.out.cell 1 _ rfl
   have d2:=R4.out.cell 2 _ rfl
   have d3:=R4.out.cell 3 _ rfl
   have d4:=R4.out.cell 4 _ rfl
   have d5:=R4.out.cell 5 _ rfl
   have d6:=R4.out.cell 6 _ rfl
   clear p0 p1 p2 p3 p4 p5 p6
   go_wp2_with fail
   refine (cloneD_any D ⟨aJ,aR,aI,aT,aO,aE,cJ,cR,cI,cT,cO,cE⟩ _ HD4.out HSK.out.1 HSK.out.2.1 HSK.out.2.2.1 HSK.out.2.2.2.1 HSK.out.2.2.2.2).mono ?_
   rintro e w5 ⟨A5,gi,go,mm,pp,qq,rfl,ho5,hb5⟩
   have HN5:=hid ((HDe.out ▸ HCP.out.next (A:=A5) (gi:=gi) (go:=go) (m:=mm) (p:=pp) (q':=qq) hlt hb5 (by rw [← HDe.out];exact ho5):CpS w w1.heap.size n (k+1) (put7 w5 w1.heap.size (k * 7) (.slice A5.aJ D.jobs.length A5.cJ) (.slice A5.aR D.rel.length A5.cR) (.int .i64 D.nxt) (.slice A5.aI D.ins.length A5.cI) (.slice A5.aT D.tak.length A5.cT) (.slice A5.aO D.out.length A5.cO) (.slice A5.aE D.evs.length A5.cE)) Ds _ _ _ _ _))
   have hdr:=(HCP.out.keep hb5).row
   obtain ⟨csr,hr1,hr2⟩:=hdr
   obtain ⟨v0,y0⟩:∃ v,w5.cell? ⟨w1.heap.size,k * 7,none⟩=some v:=⟨_,hr1.cell (k * 7) csr[k * 7] (by simp)⟩
   obtain ⟨v1,y1⟩:∃ v,w5.cell? ⟨w1.heap.size,k * 7+1,none⟩=some v:=⟨_,hr1.cell (k * 7+1) csr[k * 7+1] (by simp)⟩
   obtain ⟨v2,y2⟩:∃ v,w5.cell? ⟨w1.heap.size,k * 7+2,none⟩=some v:=⟨_,hr1.cell (k * 7+2) csr[k * 7+2] (by simp)⟩
   obtain ⟨v3,y3⟩:∃ v,w5.cell? ⟨w1.heap.size,k * 7+3,none⟩=some v:=⟨_,hr1.cell (k * 7+3) csr[k * 7+3] (by simp)⟩
   obtain ⟨v4,y4⟩:∃ v,w5.cell? ⟨w1.heap.size,k * 7+4,none⟩=some v:=⟨_,hr1.cell (k * 7+4) csr[k * 7+4] (by simp)⟩
   obtain ⟨v5,y5⟩:∃ v,w5.cell? ⟨w1.heap.size,k * 7+5,none⟩=some v:=⟨_,hr1.cell (k * 7+5) csr[k * 7+5] (by simp)⟩
   obtain ⟨v6,y6⟩:∃ v,w5.cell? ⟨w1.heap.size,k * 7+6,none⟩=some v:=⟨_,hr1.cell (k * 7+6) csr[k * 7+6] (by simp)⟩
   have z0:=hr1.frozen (k * 7)
   have z1:=hr1.frozen (k * 7+1)
   have z2:=hr1.frozen (k * 7+2)
   have z3:=hr1.frozen (k * 7+3)
   have z4:=hr1.frozen (k * 7+4)
   have z5:=hr1.frozen (k * 7+5)
   have z6:=hr1.frozen (k * 7+6)
   have HQ5:=hid (btrans HQ4.out hb5)
   clear hb5 ho5 d0 d1 d2 d3 d4 d5 d6 hr1 hr2
   go_wp2
   go_roundw
   case rel=>exact ⟨k+1,by omega,by go_num,put7_below HQ5.out lr (k * 7) _ _ _ _ _ _ _,_,_,_,_,_,HN5.out⟩
   case measure=>simp [intOf];omega
  ·have hkn:k=n:=by omega
   have hkk:¬ (k:Int)<(n:Int):=by omega
   rw [hkn] at hcp
   obtain ⟨hcl,hgi⟩:=hcp.all (fun i hi=>by have:=(HSm.out i hi).2.1;omega) (fun i hi=>by have:=(HSm.out i hi).2.2.1;omega)
   have HCL:=hid hcl
   have HGI:=hid hgi
   have HDR:=hid hcp.row
   have HBL:=hid hbl
   have HLT:Hid (w1.heap.size<wr.heap.size):=hid hcp.row.lt
   obtain ⟨b5,o5,e5,s0,s1⟩:=(HC1.out.keep hbl).sl s (show s<C.sl.length from HSS.out)
   dsimp only at e5
   have hss:s<C.sl.length:=HSS.out
   have hdn:(C.sl[s]'hss).1=(slD C s:Int):=by
    have:=HSD.out.2
    rw [show C.sl.getD s (0,0)=C.sl[s]'hss by simp [hss]] at this
    exact this.symm
   rw [hdn] at s0
   have HDN:Hid ((slD C s:Int)<(n:Int)):=hid (by have:=HSD.out.1;have:=HN.out;omega)
   have HX3:=hid (HX1.out.keep hbl)
   obtain ⟨g0,g1,g2,g3,g4,g5,g6,g7,g8⟩:=HX3.out
   rw [e5] at g5
   have hs0:(0:Int)≤(s:Int):=by omega
   have hs2:(s:Int)<(C.sl.length:Int):=by have:=HSS.out;omega
   have hsl6:=(conf_cnt H0.out).1
   generalize hDE:slD C s=dn at *
   have HDE:=hid hDE
   clear hDE
   clear hcl hgi hcp hbl hlt hk hkn s1 hdn hss HM HQ HSm HSD
   obtain ⟨W3,rfl⟩:∃ x,x=wr:=⟨_,rfl⟩
   go_wp2
   clear g0 g1 g2 g3 g4 g5 g6 g7 g8 s0
   go_loopw [47] (fun i wr=>∃ j:Nat,j≤C.ch.length∧i=.int .i64 j∧ClS (fun k=>k≤w1.heap.size∨∃ j,j<n∧(k=gI j∨k=gO j)) wr w1.heap.size n (closeK C dn Ds j) As' gI gO∧DRow wr w1.heap.size n∧Below w1.heap.size w1 wr∧W3.heap.size≤wr.heap.size) (fun i _=>C.ch.length - (intOf i).toNat)
   case atStart=>exact ⟨0,Nat.zero_le _,rfl,HCL.out,HDR.out,HBL.out,Nat.le_refl _⟩
   case round=>
    obtain ⟨j,hj,rfl,hcl,hdr,hbl,hsz⟩:=hrel
    by_cases hjt:j<C.ch.length
    ·have hj1:(j:Int)<(C.ch.length:Int):=by omega
     have hj0:(0:Int)≤(j:Int):=by omega
     obtain ⟨b7,o7,e7,c0,c1,c2⟩:=(HC1.out.keep hbl).ch j hjt
     dsimp only at e7
     subst e7
     have hco:=chan_ok H0.out hjt
     obtain ⟨T,HT⟩:∃ T:Nat,Hid (C.ch[j].2.1=(T:Int)):=⟨C.ch[j].2.1.toNat,hid (by omega)⟩
     have HCT:Hid (chT C j=T):=hid (by unfold chT;rw [show C.ch.getD j (0,0,0)=C.ch[j] by simp [hjt]];have:=HT.out;omega)
     have HTn:Hid ((T:Int)<(n:Int)):=hid (by have:=HT.out;have:=HN.out;omega)
     have HSZ:Hid (C.ch.getD j (0,0,0)=C.ch[j]):=hid (by simp [hjt])
     have HCO:=hid hco
     rw [HT.out] at c1
     have HCL2:=hid hcl
     have HDR2:=hid hdr
     have HBL2:=hid hbl
     by_cases hfd:C.ch[j].1=(dn:Int)
     ·have HF:Hid (chF C j=dn):=hid (by unfold chF;rw [HSZ.out];omega)
      rw [hfd] at c0
      have HFT:Hid (dn≠T):=hid (by have:=HCO.out.2.2;have:=HT.out;omega)
      have hal:=closeK_ok (dn:=dn) (by have:=HDN.out;have:=HN.out;omega) HA.out j (by omega)
      obtain ⟨k1,k2,k3,k4,k5⟩:=del_asks hal (f:=dn) (t:=T) hjt (by have:=HDN.out;have:=HN.out;omega) (by have:=HTn.out;have:=HN.out;omega)
      have q4:=below_new wr (.cells #[.int .i64 (dn:Int),.int .i64 (T:Int),.int .i64 C.ch[j].2.2] 99)
      have HC4:=hid (hcl.keep q4)
      have HD4:=hid (hdr.keep q4)
      have HB4:=hid (hbl.trans (q4.mono hbl.size))
      have R4:=hid (rowAt_new2 wr wr.heap.size [.int .i64 (dn:Int),.int .i64 (T:Int),.int .i64 C.ch[j].2.2] 99 rfl)
      have HE:Hid (closeK C dn Ds (j+1)=putF (putF (closeK C dn Ds j) T (getIn (closeK C dn Ds j T) (closeK C dn Ds j dn) j C.ch[j].2.2)) dn (noOut (closeK C dn Ds j dn) j)):=hid (by rw [closeK_succ,if_pos HF.out,delF_eq HF.out HCT.out HFT.out,HSZ.out])
      have hs4:W3.heap.size<(wr.alloc (.cells #[.int .i64 (dn:Int),.int .i64 (T:Int),.int .i64 C.ch[j].2.2] 99)).heap.size:=by have:=(below_new wr (.cells #[.int .i64 (dn:Int),.int .i64 (T:Int),.int .i64 C.ch[j].2.2] 99)).size;simp;omega
      have hbx:wr.heap.size<(wr.alloc (.cells #[.int .i64 (dn:Int),.int .i64 (T:Int),.int .i64 C.ch[j].2.2] 99)).heap.size:=by simp
      generalize hw4:wr.alloc (.cells #[.int .i64 (dn:Int),.int .i64 (T:Int),.int .i64 C.ch[j].2.2] 99)=w4 at *
      have CX:Hid (Calls Tryz.prog 75 #[.int .i64 (j:Int),.int .i64 C.ch[j].2.2,.pointer (some ⟨w1.heap.size,dn * 7,none⟩),.pointer (some ⟨w1.heap.size,T * 7,none⟩)] w4.drew fun e w'=>e=.returned (.tuple #[])∧ClS (fun k=>k≤w1.heap.size∨∃ j,j<n∧(k=gI j∨k=gO j)) w' w1.heap.size n (closeK C dn Ds (j+1)) As' gI gO∧Ext (fun k=>k≤w1.heap.size∨∃ j,j<n∧(k=gI j∨k=gO j)) w4.drew w'∧Below w1.heap.size w4.drew w'∧w'.heap[w1.heap.size]? = w4.drew.heap[w1.heap.size]?):=hid (by
       rw [HE.out]
       refine deliver_ok _ w1.heap.size w4.drew w1.heap.size n (closeK C dn Ds j) As' gI gO (HC4.out.keep (Below.refl _ _).drew) (fun k hk hx=>?_) (fun i hi=>?_) ?_ dn T j C.ch[j].2.2 (by have:=HDN.out;omega) (by have:=HTn.out;omega) HFT.out k1 k2 k3 k4 k5
       ·have hk':w4.heap.size≤k:=hk
        rcases hx with hx|⟨i,hi,hx⟩
        ·have:=HLT.out;omega
        ·have:=HGI.out i hi
         omega
       ·have:=HGI.out i hi
        omega
       ·show w1.heap.size≤w4.heap.size
        have:=HLT.out;omega)
      have HW4:=hid hw4
      have hdn1:(dn:Int)<(n:Int):=HDN.out
      have hT1:(T:Int)<(n:Int):=HTn.out
      have hdn0:(0:Int)≤(dn:Int):=by omega
      have hT0:(0:Int)≤(T:Int):=by omega
      clear hcl hdr hbl q4 hco k1 k2 k3 k4 k5 hal hfd HE
      generalize hsz2:C.ch[j].2.2=sz at *
      clear hsz2
      go_upto_region 14 with fail
      clear c0 c1 c2 HW4
      have d0:=R4.out.cell 0 _ rfl
      have d1:=R4.out.cell 1 _ rfl
      have d2:=R4.out.cell 2 _ rfl
      go_upto_region 15 with fail
      have NXB:Hid (¬ (fun k=>k≤w1.heap.size∨∃ j,j<n∧(k=gI j∨k=gO j)) wr.heap.size):=hid (by
       rintro (hx|⟨i,hi,hx⟩)
       ·have:=HLT.out;omega
       ·have:=HGI.out i hi;omega)
      go_region_held3 (fun w'=>w'.cell? ⟨wr.heap.size,0,none⟩=some (.int .i64 (dn:Int))∧w'.cell? ⟨wr.heap.size,1,none⟩=some (.int .i64 (T:Int))∧w'.cell? ⟨wr.heap.size,2,none⟩=some (.int .i64 sz))
       (first|with_reducible exact HS5|go_keep)
       (first|(go_at_call 75;with_reducible refine Calls.mono CX.out ?_;rintro e w5 ⟨rfl,h1,h2,h3,h4⟩;have H1:=hid h1;have H2:=hid h2;have H3:=hid h3;have H4:=hid h4;have R5:=hid (row_ext h2 R4.out hbx NXB.out);have HS5:=And.intro (R5.out.cell 0 _ rfl) (And.intro (R5.out.cell 1 _ rfl) (R5.out.cell 2 _ rfl));clear h1 h2 h3 h4))
      all_goals
       clear d0 d1 d2
       have H9:Hid (W3.heap.size≤w5.heap.size):=hid (by have:=ext_sz H2.out;have h9:w4.drew.heap.size=w4.heap.size:=rfl;omega)
       go_wp2
       go_roundw
       case rel=>exact ⟨j+1,by omega,by go_num,H1.out,HD4.out.other H4.out,(HB4.out.trans (Below.refl _ _).drew).trans H3.out,H9.out⟩
       case measure=>simp [intOf];omega
     ·have HF:Hid (¬ chF C j=dn):=hid (by unfold chF;rw [HSZ.out];have:=HCO.out.1;omega)
      have HE:Hid (closeK C dn Ds (j+1)=closeK C dn Ds j):=hid (by rw [closeK_succ,if_neg HF.out])
      have hff:(C.ch[j].1 == (dn:Int))=false:=by simp [hfd]
      have q4:=below_new wr (.cells #[.int .i64 C.ch[j].1,.int .i64 (T:Int),.int .i64 C.ch[j].2.2] 99)
      have HC4:=hid (hcl.keep q4)
      have HD4:=hid (hdr.keep q4)
      have HB4:=hid (hbl.trans (q4.mono hbl.size))
      have HS4:Hid (W3.heap.size≤(wr.alloc (.cells #[.int .i64 C.ch[j].1,.int .i64 (T:Int),.int .i64 C.ch[j].2.2] 99)).heap.size):=hid (Nat.le_trans hsz q4.size)
      clear hcl hdr hbl q4 hsz hco
      generalize C.ch[j].1=x0 at *
      generalize C.ch[j].2.2=x2 at *
      go_wp2
      generalize World.alloc wr _=w4 at *
      go_roundw
      case rel=>exact ⟨j+1,by omega,by go_num,by rw [HE.out];exact HC4.out,HD4.out,HB4.out,HS4.out⟩
      case measure=>simp [intOf];omega
    ·have hje:j=C.ch.length:=by omega
     have hjj:¬ (j:Int)<(C.ch.length:Int):=by omega
     have HCL2:=hid hcl
     have HDR2:=hid hdr
     have HBL2:=hid hbl
     have HJE:=hid hje
     clear hcl hdr hbl hje
     go_wp2
     refine bodyPost_ret (v:=.tuple #[.slice (some ⟨w1.heap.size,0,none⟩) n n,.int .i64 0]) (by simp [results,Tryz.results49,go_sem]) rfl ⟨w1.heap.size,rfl,HDR2.out,⟨As',fun i hi=>?_⟩,?_,?_⟩
     ·have hc:=HCL2.out
      rw [HJE.out,closeK_all] at hc
      rw [HDE.out]
      have hg:=HGI.out i hi
      exact ⟨hc.at_ i hi,(hc.cl i hi).dom (fun k hk=>.inl (by omega)) (by omega) (by omega)⟩
     ·have:=hs1.out;omega
     ·exact btrans HB1.out HBL2.out
def EvO2 (n:Nat) (w:World) (A:DMem) (D:Dom) (aK:Option Addr) (K:KT):Prop:=w.ownsRow n 92 4 (.slice A.aE D.evs.length A.cE) D.evs.length (fE D.evs)∧∀ wx:World,w.heap.size≤wx.heap.size→(∀ x,n≤x→x<w.heap.size→(Value.slice A.aE D.evs.length A.cE).ownBlock≠some x→wx.heap[x]? = w.heap[x]?)→DomIn wx A ⟨D.jobs,D.rel,D.nxt,D.ins,D.tak,D.out,[]⟩∧CacheIn wx aK K
theorem EvO.two {n:Nat} {w:World} {A:DMem} {D:Dom} {aK:Option Addr} {K:KT} (h:EvO n w A D aK K):EvO2 n w A D aK K:=⟨h.1,fun wx hs hk=>h.ext hs hk⟩
theorem EvO2.keep {n:Nat} {w w':World} {A:DMem} {D:Dom} {aK:Option Addr} {K:KT} (h:EvO2 n w A D aK K) (hb:Below w.heap.size w w'):EvO2 n w' A D aK K:=
 ⟨owns_below h.1 hb,fun wx hs hk=>h.2 wx (Nat.le_trans hb.size hs) fun x hn hlt he=>(hk x hn (Nat.lt_of_lt_of_le hlt hb.size) he).trans (hb.block x hlt)⟩
theorem EvO2.told {n:Nat} {w w6 w7:World} {A:DMem} {D:Dom} {aK:Option Addr} {K:KT} (h:EvO2 n w A D aK K) (hs:w.heap.size≤w6.heap.size) (hk:∀ x,n≤x→x<w.heap.size→w6.heap[x]? = w.heap[x]?) (hg:w6.grownBy w7 (Value.slice A.aE D.evs.length A.cE).ownBlock) {a7:Option Addr} {c7:Nat} {E:List EvT} (ho:w7.ownsRow n 92 4 (.slice a7 E.length c7) E.length (fE E)) {w8:World} (h8:Ext (fun k=>k<n) w7 w8) :
  DomOn n w8 { A with aE:=a7,cE:=c7 } { D with evs:=E }∧∀ wx,Ext (fun k=>k<n) w8 wx→CacheIn wx aK K:=by
 have key:∀ wx,Ext (fun k=>k<n) w8 wx→DomIn wx A ⟨D.jobs,D.rel,D.nxt,D.ins,D.tak,D.out,[]⟩∧CacheIn wx aK K:=fun wx hx=>by
  have hx7:=h8.trans hx
  have hg7:=hg.size
  refine h.2 wx (by have:=hx7.1;omega) fun x hn hlt he=>?_
  rw [hx7.2 x (by omega) (by omega),hg.block x (by omega) (Ne.symm he)]
  exact hk x hn hlt
 refine ⟨fun wx hx=>?_,fun wx hx=>(key wx hx).2⟩
 have hx7:=h8.trans hx
 obtain ⟨d,_⟩:=key wx hx
 have o7:=owns_in (owns_agree ho fun x hx'=>hx7.2 x (owns_lt ho x hx') (by have:=owns_ge ho x hx';omega))
 exact ⟨d.jobs,d.rel,d.ins,d.tak,d.out,evsIn_of o7.1,d.lJ,d.lR,d.lI,d.lT,d.lO,o7.2.2⟩
def tup0:Value→Value | .tuple xs=>xs.getD 0 undef|_=>undef
def tup1:Value→Value | .tuple xs=>xs.getD 1 undef|_=>undef
theorem chain7_below {B:Nat} {a w:World} (h:Below B a w) {g:Nat} (hg:B≤g) (v0 v1 v2 v3 v4 v5 v6:Value):Below B a (((((((w.setCell ⟨g,0,none⟩ v0).setCell ⟨g,1,none⟩ v1).setCell ⟨g,2,none⟩ v2).setCell ⟨g,3,none⟩ v3).setCell ⟨g,4,none⟩ v4).setCell ⟨g,5,none⟩ v5).setCell ⟨g,6,none⟩ v6):=put7_below h hg 0 v0 v1 v2 v3 v4 v5 v6
theorem all_depL {o:Oper} {l:Array Bool} (ks:List Nat) (hdep:∀ e∈o.after,Region.binds .any e=true→l.getD e.on false=true) (hk:(ks.all fun k=>o.after.any fun e=>Region.binds .any e && e.on == k)=true):∀ i∈ks,l.getD i false=true:=
 fun i hi=>dep_of hdep i (List.all_eq_true.1 hk i hi)
theorem all_setL {ks:List Nat} {k m:Nat} {l:Array Bool} (hs:l.size=m) (hk:k<m) (h:∀ i∈ks,l.getD i false=true):∀ i∈ks++[k],(l.setIfInBounds k true).getD i false=true:=by
 intro i hi
 rcases List.mem_append.1 hi with h1|h1
 ·exact getD_set_true (h i h1)
 ·rw [List.mem_singleton.1 h1];exact getD_set_self (by omega)
theorem all_keepL {ks:List Nat} {k:Nat} {l:Array Bool} (h:∀ i∈ks,l.getD i false=true):∀ i∈ks,(l.setIfInBounds k true).getD i false=true:=fun i hi=>getD_set_true (h i hi)
def dSWb:Nat→Nat
 | 0=>52
 | 1=>53
 | 2=>54
 | 3=>55
 | 4=>56
 | 5=>57
 | 6=>58
 | 7=>59
 | 8=>60
 | 9=>61
 | 10=>62
 | 11=>63
 | 12=>64
 | 13=>65
 | 14=>66
 | 15=>67
 | 16=>68
 | 17=>69
 | 18=>70
 | 19=>71
 | 20=>51
 | 21=>72
 | 22=>73
 | 23=>74
 | _=>999
def dOWb:Nat→List Nat
 | 21=>[20,21]
 | 22=>[20,22]
 | i=>[i]
def FCWb (K:MK) (d slot nW:Nat) (fr te:Int) (b5 o5 bA oA:Nat) (aK:Option Addr) (lkK cK:Nat) (aL:Option Addr) (lL cL Br:Nat) (D1:Dom) (A1:DMem) (RD:Dom) (RK:KT) (n0:Nat) (i:Nat) (x:Nat→Value) (w:World):Prop:=
 match i with
 | 0=>x 52=.pointer (some ⟨K.gm,0,none⟩)
 | 1=>x 53=.pointer (some ⟨K.gm,0,none⟩)
 | 2=>x 54=.pointer (some ⟨K.gm,0,none⟩)
 | 3=>x 55=.agg #[.int .i64 K.C.s,.int .i64 K.C.w,.int .i64 K.C.d,.int .i64 K.C.p,.int .i64 K.C.q,.slice (some ⟨b5,o5,none⟩) K.C.sl.length K.B.c5,.slice K.B.a6 K.C.ow.length K.B.c6,.slice K.B.a7 K.C.ch.length K.B.c7,.slice K.B.a8 K.C.ta.length K.B.c8]
 | 4=>x 56=.int .i64 (d:Int)
 | 5=>x 57=.agg #[.slice A1.aJ D1.jobs.length A1.cJ,.slice A1.aR D1.rel.length A1.cR,.int .i64 D1.nxt,.slice A1.aI D1.ins.length A1.cI,.slice A1.aT D1.tak.length A1.cT,.slice A1.aO D1.out.length A1.cO,.slice A1.aE D1.evs.length A1.cE]
 | 6=>x 58=.agg #[.slice aK lkK cK]
 | 7=>x 59=.pointer (some ⟨K.gm,0,none⟩)
 | 8=>x 60=.pointer (some ⟨K.gm,0,none⟩)
 | 9=>x 61=.pointer (some ⟨K.gm,9,none⟩)
 | 10=>x 62=.pointer (some ⟨K.gm,9,none⟩)
 | 11=>x 63=.slice (some ⟨bA,oA,none⟩) K.S.acts.length K.M.cA
 | 12=>x 64=.int .i64 (d:Int)
 | 13=>x 65=.pointer (some ⟨bA,oA+d,none⟩)
 | 14=>x 66=.slice aL lL cL
 | 15=>x 67=.pointer (some ⟨nW,1,none⟩)
 | 16=>x 68=.int .i64 fr
 | 17=>x 69=.pointer (some ⟨nW,2,none⟩)
 | 18=>x 70=.int .i64 te
 | 19=>∃ (Az:DMem) (aq:Option Addr) (cq:Nat),x 71=.tuple #[.agg #[.slice Az.aJ RD.jobs.length Az.cJ,.slice Az.aR RD.rel.length Az.cR,.int .i64 RD.nxt,.slice Az.aI RD.ins.length Az.cI,.slice Az.aT RD.tak.length Az.cT,.slice Az.aO RD.out.length Az.cO,.slice Az.aE RD.evs.length Az.cE],.agg #[.slice aq (List.length RK) cq],.int .i64 0]∧∃ n1,n0≤n1∧n1≤w.heap.size∧EvO2 n1 w Az RD aq RK
 | 20=>∃ (Az:DMem) (aq:Option Addr) (cq:Nat),x 51=.tuple #[.agg #[.slice Az.aJ RD.jobs.length Az.cJ,.slice Az.aR RD.rel.length Az.cR,.int .i64 RD.nxt,.slice Az.aI RD.ins.length Az.cI,.slice Az.aT RD.tak.length Az.cT,.slice Az.aO RD.out.length Az.cO,.slice Az.aE RD.evs.length Az.cE],.agg #[.slice aq (List.length RK) cq],.int .i64 0]∧∃ n1,n0≤n1∧n1≤w.heap.size∧EvO2 n1 w Az RD aq RK
 | 21=>∃ (Az:DMem) (aq:Option Addr) (cq:Nat),x 72=.agg #[.slice Az.aJ RD.jobs.length Az.cJ,.slice Az.aR RD.rel.length Az.cR,.int .i64 RD.nxt,.slice Az.aI RD.ins.length Az.cI,.slice Az.aT RD.tak.length Az.cT,.slice Az.aO RD.out.length Az.cO,.slice Az.aE RD.evs.length Az.cE]∧x 51=.tuple #[.agg #[.slice Az.aJ RD.jobs.length Az.cJ,.slice Az.aR RD.rel.length Az.cR,.int .i64 RD.nxt,.slice Az.aI RD.ins.length Az.cI,.slice Az.aT RD.tak.length Az.cT,.slice Az.aO RD.out.length Az.cO,.slice Az.aE RD.evs.length Az.cE],.agg #[.slice aq (List.length RK) cq],.int .i64 0]
 | 22=>∃ (Az:DMem) (aq:Option Addr) (cq:Nat),x 73=.agg #[.slice aq (List.length RK) cq]∧x 51=.tuple #[.agg #[.slice Az.aJ RD.jobs.length Az.cJ,.slice Az.aR RD.rel.length Az.cR,.int .i64 RD.nxt,.slice Az.aI RD.ins.length Az.cI,.slice Az.aT RD.tak.length Az.cT,.slice Az.aO RD.out.length Az.cO,.slice Az.aE RD.evs.length Az.cE],.agg #[.slice aq (List.length RK) cq],.int .i64 0]
 | 23=>x 74=.int .i64 0
 | _=>True
def AF99 (x:Nat→Value):Act:={ tmps:=#[x 0,x 1,x 2,x 3,x 4,x 5,x 6,x 7,x 8,x 9,x 10,x 11,x 12,x 13,x 14,x 15,x 16,x 17,x 18,x 19,x 20,x 21,x 22,x 23,x 24,x 25,x 26,x 27,x 28,x 29,x 30,x 31,x 32,x 33,x 34,x 35,x 36,x 37,x 38,x 39,x 40,x 41,x 42,x 43,x 44,x 45,x 46,x 47,x 48,x 49,x 50,x 51,x 52,x 53,x 54,x 55,x 56,x 57,x 58,x 59,x 60,x 61,x 62,x 63,x 64,x 65,x 66,x 67,x 68,x 69,x 70,x 71,x 72,x 73,x 74,x 75,x 76,x 77,x 78,x 79,x 80,x 81,x 82,x 83,x 84,x 85,x 86,x 87,x 88,x 89,x 90,x 91,x 92,x 93,x 94,x 95,x 96,x 97,x 98],defers:=[] }
def BSWb (K:MK) (d slot nW:Nat) (fr te:Int) (b5 o5 bA oA:Nat) (aK:Option Addr) (lkK cK:Nat) (aL:Option Addr) (lL cL Br:Nat) (D1:Dom) (A1:DMem) (RD:Dom) (RK:KT) (x:Nat→Value):Prop:=x 0=.pointer (some ⟨K.gm,0,none⟩)∧x 1=.agg #[.int .i64 (slot:Int),.int .i64 fr,.int .i64 te]∧x 2=.agg #[.slice aK lkK cK]∧x 3=undef∧x 4=.pointer (some ⟨nW,0,none⟩)∧x 5=.pointer (some ⟨nW+1,0,none⟩)∧x 6=.pointer (some ⟨nW+1+1,0,none⟩)∧x 7=.int .i64 (d:Int)∧x 8=.pointer (some ⟨Br,0,none⟩)
theorem bsWb_upd {K:MK} {d slot nW:Nat} {fr te:Int} {b5 o5 bA oA:Nat} {aK:Option Addr} {lkK cK:Nat} {aL:Option Addr} {lL cL Br:Nat} {D1:Dom} {A1:DMem} {RD:Dom} {RK:KT} (x:Nat→Value) (s:Nat) (v:Value) (hs:0≠s∧1≠s∧2≠s∧3≠s∧4≠s∧5≠s∧6≠s∧7≠s∧8≠s) (h:BSWb K d slot nW fr te b5 o5 bA oA aK lkK cK aL lL cL Br D1 A1 RD RK x):BSWb K d slot nW fr te b5 o5 bA oA aK lkK cK aL lL cL Br D1 A1 RD RK (upd x s v):=by
 obtain ⟨q0,q1,q2,q3,q4,q5,q6,q7,q8⟩:=hs
 obtain ⟨h0,h1,h2,h3,h4,h5,h6,h7,h8⟩:=h
 exact ⟨(if_neg q0).trans h0,(if_neg q1).trans h1,(if_neg q2).trans h2,(if_neg q3).trans h3,(if_neg q4).trans h4,(if_neg q5).trans h5,(if_neg q6).trans h6,(if_neg q7).trans h7,(if_neg q8).trans h8⟩
theorem fcWb_keep {K:MK} {d slot nW:Nat} {fr te:Int} {b5 o5 bA oA:Nat} {aK:Option Addr} {lkK cK:Nat} {aL:Option Addr} {lL cL Br:Nat} {D1:Dom} {A1:DMem} {RD:Dom} {RK:KT} {n0:Nat} (i:Nat) (x x':Nat→Value) (w w':World) (hb:Below w.heap.size w w') (hx:∀ j∈dOWb i,x' (dSWb j)=x (dSWb j)) (h:FCWb K d slot nW fr te b5 o5 bA oA aK lkK cK aL lL cL Br D1 A1 RD RK n0 i x w):FCWb K d slot nW fr te b5 o5 bA oA aK lkK cK aL lL cL Br D1 A1 RD RK n0 i x' w':=by
 match i with
 | 0=>exact (hx 0 (by simp [dOWb])).trans h
 | 1=>exact (hx 1 (by simp [dOWb])).trans h
 | 2=>exact (hx 2 (by simp [dOWb])).trans h
 | 3=>exact (hx 3 (by simp [dOWb])).trans h
 | 4=>exact (hx 4 (by simp [dOWb])).trans h
 | 5=>exact (hx 5 (by simp [dOWb])).trans h
 | 6=>exact (hx 6 (by simp [dOWb])).trans h
 | 7=>exact (hx 7 (by simp [dOWb])).trans h
 | 8=>exact (hx 8 (by simp [dOWb])).trans h
 | 9=>exact (hx 9 (by simp [dOWb])).trans h
 | 10=>exact (hx 10 (by simp [dOWb])).trans h
 | 11=>exact (hx 11 (by simp [dOWb])).trans h
 | 12=>exact (hx 12 (by simp [dOWb])).trans h
 | 13=>exact (hx 13 (by simp [dOWb])).trans h
 | 14=>exact (hx 14 (by simp [dOWb])).trans h
 | 15=>exact (hx 15 (by simp [dOWb])).trans h
 | 16=>exact (hx 16 (by simp [dOWb])).trans h
 | 17=>exact (hx 17 (by simp [dOWb])).trans h
 | 18=>exact (hx 18 (by simp [dOWb])).trans h
 | 19=>
  have e:x' 71=x 71:=hx 19 (by simp [dOWb])
  obtain ⟨Az,aq,cq,h1,h2⟩:=h
  exact ⟨Az,aq,cq,e.trans h1,by obtain ⟨n1,k1,k2,k3⟩:=h2;exact ⟨n1,k1,Nat.le_trans k2 hb.size,k3.keep hb⟩⟩
 | 20=>
  have e:x' 51=x 51:=hx 20 (by simp [dOWb])
  obtain ⟨Az,aq,cq,h1,h2⟩:=h
  exact ⟨Az,aq,cq,e.trans h1,by obtain ⟨n1,k1,k2,k3⟩:=h2;exact ⟨n1,k1,Nat.le_trans k2 hb.size,k3.keep hb⟩⟩
 | 21=>
  have e:x' 72=x 72:=hx 21 (by simp [dOWb])
  obtain ⟨Az,aq,cq,h1,h2⟩:=h
  exact ⟨Az,aq,cq,e.trans h1,(hx 20 (by simp [dOWb])).trans h2⟩
 | 22=>
  have e:x' 73=x 73:=hx 22 (by simp [dOWb])
  obtain ⟨Az,aq,cq,h1,h2⟩:=h
  exact ⟨Az,aq,cq,e.trans h1,(hx 20 (by simp [dOWb])).trans h2⟩
 | 23=>exact (hx 23 (by simp [dOWb])).trans h
 | n+24=>trivial
theorem dSWb_inj:∀ i,i<24→∀ j,j<24→i≠j→dSWb i≠dSWb j:=by decide
theorem dOWb_lt:∀ i,i<24→∀ j∈dOWb i,j<24:=by decide
end Go.Proofs.YtejhccmclanlmaaGreatDoor
namespace Go.Proofs.YtejhccmclanlmaaGreatDoor
open Go.RowKit Go.Shelf
attribute [local go_sem] Oper.semAt_some
abbrev TT:=Nat×Int×Int
def encU (x:TT):Array Value:=#[.agg #[.int .i64 (x.1:Int),.int .i64 x.2.1,.int .i64 x.2.2]]
def turnAt (C:Conf) (r k:Nat):TT:=(k,(r:Int) * sumS C.sl+sumS (C.sl.take k),(r:Int) * sumS C.sl+sumS (C.sl.take k)+(C.sl.getD k (0,0)).2 - C.p)
def turnsP (C:Conf) (r k:Nat):List TT:=turnsL C r++(List.range k).map (turnAt C r)
theorem turnsP_zero (C:Conf) (r:Nat):turnsP C r 0=turnsL C r:=by simp [turnsP]
theorem turnsP_succ (C:Conf) (r k:Nat):turnsP C r (k+1)=turnsP C r k++[turnAt C r k]:=by simp [turnsP,List.range_succ]
theorem turnsP_full (C:Conf) (r:Nat):turnsP C r C.sl.length=turnsL C (r+1):=by
 unfold turnsP turnsL
 rw [List.range_succ,List.flatMap_append]
 simp only [List.flatMap_cons,List.flatMap_nil,List.append_nil]
 rfl
theorem turnsL_len (C:Conf) (r:Nat):(turnsL C r).length=r * C.sl.length:=by
 induction r with
 | zero=>simp [turnsL]
 | succ r ih=>
  rw [← turnsP_full]
  unfold turnsP
  rw [List.length_append,ih,List.length_map,List.length_range,Nat.add_mul,Nat.one_mul]
theorem turnsP_len (C:Conf) (r k:Nat):(turnsP C r k).length=r * C.sl.length+k:=by
 unfold turnsP
 rw [List.length_append,turnsL_len,List.length_map,List.length_range]
theorem turnAt_mem {C:Conf} {R r k:Nat} (hr:r<R) (hk:k<C.sl.length):turnAt C r k∈turnsL C R:=by
 unfold turnsL
 rw [List.mem_flatMap]
 exact ⟨r,List.mem_range.2 hr,List.mem_map.2 ⟨k,List.mem_range.2 hk,rfl⟩⟩
structure TM (K:MK) (Bm:Nat) (W W':World):Prop where
 bl:Below K.w0.heap.size W W'
 c0:W'.cell? ⟨Bm,0,none⟩=W.cell? ⟨Bm,0,none⟩
 cm:∀ i,i<12→W'.cell? ⟨K.gm,i,none⟩=W.cell? ⟨K.gm,i,none⟩
theorem TM.refl (K:MK) (Bm:Nat) (W:World):TM K Bm W W:=⟨Below.refl _ _,rfl,fun _ _=>rfl⟩
theorem TM.trans {K:MK} {Bm:Nat} {X Y Z:World} (h:TM K Bm X Y) (k:TM K Bm Y Z):TM K Bm X Z:=
 ⟨h.bl.trans k.bl,k.c0.trans h.c0,fun i hi=>(k.cm i hi).trans (h.cm i hi)⟩
theorem TM.below {K:MK} {Bm:Nat} {W W':World} (h0:Bm<W.heap.size) (h1:K.gm<W.heap.size) (h2:K.w0.heap.size≤W.heap.size) (hb:Below W.heap.size W W'):TM K Bm W W':=
 ⟨hb.mono h2,hb.cell h0,fun i _=>hb.cell (p:=⟨K.gm,i,none⟩) h1⟩
theorem TM.book {K:MK} {Bm:Nat} {w:World} (h0:Bm<w.heap.size) (h1:K.gm<w.heap.size) (h2:K.w0.heap.size≤w.heap.size) (W:World) (l:Nat) (o o':Obj) (hl:w.heap.size≤l) (h:W.heap[l]? = some o) (_:o.isCells=false) (_:o.isWalk=false):TM K Bm W (W.putObj l o'):=
 ⟨⟨rfl,rfl,rfl,by simp,fun k hk=>World.putObj_heap_other (by omega)⟩,cell_heap (World.putObj_heap_other (by omega)) 0,fun i _=>cell_heap (World.putObj_heap_other (by omega)) i⟩
theorem conf_sl {C:Conf} (h:ckC C=0):0<C.sl.length:=by
 have h1:=(ck_ok h).2.2.1
 unfold ckCnt at h1
 split at h1
 ·rename_i h2
  simp only [inR,Bool.and_eq_true,decide_eq_true_eq] at h2
  omega
 ·omega
theorem startV_ok {C:Conf} {r k:Nat} (h:ckC C=0) (hr:r≤8) (hk:k<C.sl.length):startV C r k=.tuple #[.int .i64 ((r:Int) * sumS C.sl+sumS (C.sl.take k)),.int .i64 0]:=by
 unfold startV ckRS startI
 rw [if_pos h,if_pos (show inR (r:Int) 0 8=true by simp [inR];omega),if_pos (show inR (k:Int) 0 ((C.sl.length:Int) - 1)=true by simp [inR];omega),if_pos rfl,Int.toNat_natCast]
set_option maxHeartbeats 8000000 in
theorem turns_in (n:Nat) (hn:1≤n) (l Bm n₀ R:Nat) (K:MK) (J Jx:List TT→World→Prop) (hgm:K.gm<n₀) (hBm:Bm<n₀) (hw0:K.w0.heap.size≤n₀) (hck:ckC K.C=0) (hR:K.S.rounds=(R:Int)) (hR8:R≤8) (hc5:K.C.sl.length≤K.B.c5) (hcf:ConfIn K.w0 K.B K.C)
  (hY:∀ pre x W,x∈turnsL K.C R→J pre W→pre.length<R * K.C.sl.length→YieldAt Fence.wide (n - 1) Tryz.prog l (encU x) W fun e W'=>
   (e=.returned (.bool true)∧J (pre++[x]) W'∧TM K Bm W W')∨(e=.returned (.bool false)∧Jx (pre++[x]) W'))
  (hJb:∀ pre W W',J pre W→Below W.heap.size W W'→J pre W')
  (W:World) (hB:W.cell? ⟨Bm,0,none⟩=some (.pointer (some ⟨K.gm,0,none⟩))) (gd:Nat) (hM:∀ i v,i<12→(mcells K gd)[i]? = some v→W.cell? ⟨K.gm,i,none⟩=some v) (hlow:Below K.w0.heap.size K.w0 W) (hsz:n₀≤W.heap.size) (h0:J [] W) :
  CallsIn Fence.wide n Tryz.prog 43 #[.func (.yield l) #[] #[],.pointer (some ⟨Bm,0,none⟩)] W fun e W'=>(∃ v,e=.returned v) ∧
   ((∃ ys,ys=turnsL K.C R∧J ys W')∨(∃ pre,(∃ r k,r≤R∧k≤K.C.sl.length∧pre=turnsP K.C r k)∧Jx pre W')):=by
 have mixed:Tryz.prog.follows Departure.mixedOrders=true:=by kernel_rfl
 have hsl6:=(conf_cnt hck).1
 obtain ⟨b5,o5,e5,-⟩:=hcf.sl 0 (conf_sl hck)
 refine callsIn_of_wp Tryz.func43 rfl trivial ?_ rfl
 simp only [Tryz.ntmps43,List.size_toArray,List.length_cons,List.length_nil,Nat.reduceAdd,Nat.reduceSub,Array.replicate_succ,Array.replicate_zero,List.push_toArray,List.append_toArray,List.nil_append,List.cons_append]
 have m11:=hM 11 _ (by decide) rfl
 have HM:=hid hM
 clear hM
 rw [hR] at m11
 have HR:=hid hR
 clear hR
 gi_wp2
 clear m11
 gi_loopw [13] (fun i wr=>∃ r:Nat,r≤R∧i=.int .i64 r∧J (turnsL K.C r) wr∧TM K Bm W wr)
  (fun i _=>R - (intOf i).toNat)
 case atStart=>exact ⟨0,Nat.zero_le _,rfl,h0,TM.refl _ _ _⟩
 case round=>
  obtain ⟨r,hr,rfl,hJr,hnx⟩:=hrel
  have HJ:=hid hJr
  have HX:=hid hnx
  by_cases hlt:r<R
  ·have hr1:(r:Int)<(R:Int):=by omega
   have hB':=hnx.c0.trans hB
   have m5:=(hnx.cm 5 (by decide)).trans (HM.out 5 _ (by decide) rfl)
   rw [e5] at m5
   clear hJr hnx
   obtain ⟨W1,rfl⟩:∃ x,x=wr:=⟨_,rfl⟩
   gi_wp2
   clear m5
   gi_loopw [22] (fun i wr=>∃ k:Nat,k≤K.C.sl.length∧i=.int .i64 k∧J (turnsP K.C r k) wr∧TM K Bm W wr)
    (fun i _=>K.C.sl.length - (intOf i).toNat)
   case atStart=>exact ⟨0,Nat.zero_le _,rfl,by rw [turnsP_zero];exact HJ.out,HX.out⟩
   case round=>
    obtain ⟨k,hk,rfl,hJk,hnk⟩:=hrel
    have HJ2:=hid hJk
    have HX2:=hid hnk
    by_cases hlk:k<K.C.sl.length
    ·have hk1:(k:Int)<(K.C.sl.length:Int):=by omega
     have hk0:(0:Int)≤(k:Int):=by omega
     have hbw:=hlow.trans hnk.bl
     obtain ⟨b5',o5',e5',s0,s1⟩:=(hcf.keep hbw).sl k hlk
     rw [e5] at e5'
     cases e5'
     have HS:=hid (startV_ok hck (show r≤8 by omega) hlk)
     have hB2:=hnk.c0.trans hB
     have hm:=fun i v hi hv=>(hnk.cm i hi).trans (HM.out i v hi hv)
     have x0:=hm 0 _ (by decide) rfl
     have x1:=hm 1 _ (by decide) rfl
     have x2:=hm 2 _ (by decide) rfl
     have x3:=hm 3 _ (by decide) rfl
     have x4:=hm 4 _ (by decide) rfl
     have x5:=hm 5 _ (by decide) rfl
     have x6:=hm 6 _ (by decide) rfl
     have x7:=hm 7 _ (by decide) rfl
     have x8:=hm 8 _ (by decide) rfl
     have hsz2:=hnk.bl.size
     have q1:=below_new wr (.cells #[.int .i64 K.C.sl[k].1,.int .i64 K.C.sl[k].2] 106)
     have R1:=rowAt_new2 wr wr.heap.size [.int .i64 K.C.sl[k].1,.int .i64 K.C.sl[k].2] 106 rfl
     have CS:=hid (start_any K.C K.B r k (wr.alloc (.cells #[.int .i64 K.C.sl[k].1,.int .i64 K.C.sl[k].2] 106)) ((hcf.keep hbw).keep q1) hc5)
     rw [HS.out] at CS
     dsimp only [cv,cl] at CS
     rw [e5] at CS
     have hst:=sum_take hck k (by omega)
     have hst2:=sum_take hck K.C.sl.length lr
     rw [List.take_length] at hst2
     have hpd:=conf_pad hck
     have hso:=slot_ok hck hlk
     rw [show K.C.sl.getD k (0,0)=K.C.sl[k] by simp [hlk]] at hso
     have hrs1:0≤(r:Int) * sumS K.C.sl:=Int.mul_nonneg (by omega) hst2.1
     have hrs2:(r:Int) * sumS K.C.sl≤8 * 6000:=Int.mul_le_mul (by omega) (by omega) hst2.1 (by omega)
     have HTA:Hid (turnAt K.C r k=(k,(r:Int) * sumS K.C.sl+sumS (K.C.sl.take k),(r:Int) * sumS K.C.sl+sumS (K.C.sl.take k)+K.C.sl[k].2 - K.C.p)):=hid (by unfold turnAt;rw [show K.C.sl.getD k (0,0)=K.C.sl[k] by simp [hlk]])
     have HMEM:=hid (turnAt_mem (C:=K.C) hlt hlk)
     have HLEN:Hid ((turnsP K.C r k).length<R * K.C.sl.length):=hid (by
      rw [turnsP_len]
      have:=Nat.mul_le_mul_right K.C.sl.length (show r+1≤R from hlt)
      rw [Nat.add_mul,Nat.one_mul] at this
      omega)
     have Q1:=hid q1
     have R1h:=hid R1
     generalize (r:Int) * sumS K.C.sl=rs at *
     generalize sumS (K.C.sl.take k)=st at *
     clear hst2 hJk hnk hm hbw q1 R1
     have hB2a:=cell_old (.cells #[.int .i64 K.C.sl[k].1,.int .i64 K.C.sl[k].2] 106) hB2
     have x0a:=cell_old (.cells #[.int .i64 K.C.sl[k].1,.int .i64 K.C.sl[k].2] 106) x0
     have x1a:=cell_old (.cells #[.int .i64 K.C.sl[k].1,.int .i64 K.C.sl[k].2] 106) x1
     have x2a:=cell_old (.cells #[.int .i64 K.C.sl[k].1,.int .i64 K.C.sl[k].2] 106) x2
     have x3a:=cell_old (.cells #[.int .i64 K.C.sl[k].1,.int .i64 K.C.sl[k].2] 106) x3
     have x4a:=cell_old (.cells #[.int .i64 K.C.sl[k].1,.int .i64 K.C.sl[k].2] 106) x4
     have x5a:=cell_old (.cells #[.int .i64 K.C.sl[k].1,.int .i64 K.C.sl[k].2] 106) x5
     have x6a:=cell_old (.cells #[.int .i64 K.C.sl[k].1,.int .i64 K.C.sl[k].2] 106) x6
     have x7a:=cell_old (.cells #[.int .i64 K.C.sl[k].1,.int .i64 K.C.sl[k].2] 106) x7
     have x8a:=cell_old (.cells #[.int .i64 K.C.sl[k].1,.int .i64 K.C.sl[k].2] 106) x8
     have hgm2:K.gm<wr.heap.size:=by omega
     have hBm2:Bm<wr.heap.size:=by omega
     gi_wp2_with fail
     refine ⟨trivial,(callsIn_wide.2 CS.out).mono ?_⟩
     rintro e w2 ⟨rfl,hb2⟩
     have hB3:=bkeep hb2 hB2a lr
     have x3c:=bkeep hb2 x3a lr
     have bx1:=(R1h.out.below hb2 lr).cell 1 _ rfl
     have Q2:=hid (btrans Q1.out hb2)
     have hw1:IntKind.i64.wrap (rs+st+K.C.sl[k].2)=rs+st+K.C.sl[k].2:=by rw [IntKind.wrap_i64];omega
     have hw2:IntKind.i64.wrap (rs+st+K.C.sl[k].2 - K.C.p)=rs+st+K.C.sl[k].2 - K.C.p:=by rw [IntKind.wrap_i64];omega
     have hq3:TM K Bm wr w2.drew:=TM.below hBm2 hgm2 (by omega) ((btrans Q1.out hb2).drew)
     have HQ3:=hid hq3
     obtain ⟨fn,tmps,assign,body,hy,hR⟩:=hY (turnsP K.C r k) (turnAt K.C r k) w2.drew HMEM.out (hJb _ _ _ HJ2.out (Q2.out.drew)) HLEN.out
     rw [HTA.out] at hy
     dsimp only [encU] at hy
     clear hB2 hB2a x0 x1 x2 x3 x4 x5 x6 x7 x8 x0a x1a x2a x3a x4a x5a x6a x7a x8a hb2 CS hq3 s0 s1
     generalize hsl:K.C.sl[k].2=sl2 at *
     generalize K.C.sl[k].1=sl1 at *
     gi_wp2
     gi_cut [52,54] from 37 (fun t u wx=>∃ r':Bool,t=.bool (!r')∧u=u54∧(r'=true→J (turnsP K.C r (k+1)) wx∧TM K Bm W wx)∧(r'=false→Jx (turnsP K.C r (k+1)) wx))
     case first=>
      gi_region_with_o (refine hR.mono ?_;intro e W3 hor;obtain ⟨r',rfl,hr'⟩:=yield_one hor;have HR3:=hid hr';clear hor hr')
      all_goals
       gi_wp2
       go_meet
       case rel=>exact ⟨r',by cases r' <;> rfl,rfl,fun e=>by rw [turnsP_succ];exact ⟨(HR3.out.1 e).1,(HX2.out.trans HQ3.out).trans (HR3.out.1 e).2⟩,fun e=>by rw [turnsP_succ];exact HR3.out.2 e⟩
     case rest=>
      obtain ⟨r',rfl,rfl,h1,h2⟩:=hcut
      have H1:=hid h1
      have H2:=hid h2
      clear h1 h2
      cases r' with
      | true=>
       gi_wp2
       go_roundw
       case rel=>exact ⟨k+1,by omega,by go_num,(H1.out (by trivial)).1,(H1.out (by trivial)).2⟩
       case measure=>simp [intOf];omega
      | false=>
       gi_wp2
       refine bodyPost_ret (results_none rfl _ _ _) rfl ?_
       refine ⟨⟨_,rfl⟩,.inr ?_⟩
       exact ⟨_,⟨r,by omega,k+1,by omega,rfl⟩,H2.out trivial⟩
    ·obtain rfl:k=K.C.sl.length:=by omega
     gi_wp2
     go_roundw
     case rel=>exact ⟨r+1,by omega,by go_num,by rw [← turnsP_full];exact HJ2.out,HX2.out⟩
     case measure=>simp [intOf];omega
  ·obtain rfl:r=R:=by omega
   gi_wp2
   go_end0
   exact ⟨⟨_,rfl⟩,.inl ⟨_,rfl,HJ.out⟩⟩
end Go.Proofs.YtejhccmclanlmaaGreatDoor
namespace Go.Proofs.YtejhccmclanlmaaGreatDoor
open Go.RowKit
def KC (w w':World):Prop:=∀ p v,w.cell? p=some v→w'.cell? p=some v
theorem IntsIn.kc {w w':World} {a:Option Addr} {ls:List Int} (h:IntsIn w a ls) (hk:KC w w'):IntsIn w' a ls:=fun i hi=>by
 obtain ⟨b,o,e,h1⟩:=h i hi
 exact ⟨b,o,e,hk _ _ h1⟩
theorem JobsIn.kc {w w':World} {a:Option Addr} {ls:List JobT} (h:JobsIn w a ls) (hk:KC w w'):JobsIn w' a ls:=fun i hi=>by
 obtain ⟨b,o,e,h1,h2,h3,h4,h5,h6⟩:=h i hi
 exact ⟨b,o,e,hk _ _ h1,hk _ _ h2,hk _ _ h3,hk _ _ h4,hk _ _ h5,hk _ _ h6⟩
theorem EvsIn.kc {w w':World} {a:Option Addr} {ls:List EvT} (h:EvsIn w a ls) (hk:KC w w'):EvsIn w' a ls:=fun i hi=>by
 obtain ⟨b,o,e,h1,h2,h3,h4⟩:=h i hi
 exact ⟨b,o,e,hk _ _ h1,hk _ _ h2,hk _ _ h3,hk _ _ h4⟩
theorem RingsIn.kc {w w':World} {a:Option Addr} {ls:List (List Int×Int)} (h:RingsIn w a ls) (hk:KC w w'):RingsIn w' a ls:=fun i hi=>by
 obtain ⟨b,o,a',c',e,h1,h2,h3,h4⟩:=h i hi
 exact ⟨b,o,a',c',e,hk _ _ h1,hk _ _ h2,h3.kc hk,h4⟩
theorem ListsIn.kc {w w':World} {a:Option Addr} {ls:List (List Int)} (h:ListsIn w a ls) (hk:KC w w'):ListsIn w' a ls:=fun i hi=>by
 obtain ⟨b,o,a',c',e,h1,h3,h4⟩:=h i hi
 exact ⟨b,o,a',c',e,hk _ _ h1,h3.kc hk,h4⟩
theorem DomIn.kc {w w':World} {A:DMem} {D:Dom} (h:DomIn w A D) (hk:KC w w'):DomIn w' A D:=
 ⟨h.jobs.kc hk,h.rel.kc hk,h.ins.kc hk,h.tak.kc hk,h.out.kc hk,h.evs.kc hk,h.lJ,h.lR,h.lI,h.lT,h.lO,h.lE⟩
def NoCells (W:World) (row:Option Nat):Prop:=∀ r,row=some r→∃ o:Obj,W.heap[r]? = some o∧o.isCells=false
theorem cell_block {w:World} {p:Addr} {v:Value} (h:w.cell? p=some v) {o:Obj} (ho:w.heap[p.block]? = some o):o.isCells=true:=by
 unfold World.cell? at h
 rw [ho] at h
 cases o <;> simp_all [Obj.isCells]
theorem kc_turn {W W':World} {row:Option Nat} (hg:W.grownBy W' row) (hr:NoCells W row):KC W W':=fun p v hv=>by
 have hlt:=World.block_lt_of_cell? _ _ hv
 have hne:some p.block≠row:=fun e=>by
  obtain ⟨o,ho,hc⟩:=hr _ e.symm
  rw [cell_block hv ho] at hc
  cases hc
 rw [World.cell?_of_block (w:=W) (a:=p) (hg.block p.block hlt hne)]
 exact hv
theorem DomP.turn {P:Nat→Prop} {W W':World} {A:DMem} {D:Dom} (h:DomP P W A D) {row:Option Nat} (hg:W.grownBy W' row) (hr:NoCells W row):DomP P W' A D:=by
 intro wx hx
 cases row with
 | none=>exact h wx ⟨Nat.le_trans hg.size hx.1,fun k hk hX=>(hx.2 k (Nat.lt_of_lt_of_le hk hg.size) hX).trans (hg.block k hk (by simp))⟩
 | some r=>
  obtain ⟨o,ho,hc⟩:=hr r rfl
  have hrl:r<W.heap.size:=(Array.getElem?_eq_some_iff.1 ho).1
  have hrx:r<wx.heap.size:=by have:=hg.size;have:=hx.1;omega
  have hy:Ext P W { wx with heap:=wx.heap.set r o hrx }:=by
   refine ⟨by show W.heap.size≤(wx.heap.set r o hrx).size;simp;have:=hg.size;have:=hx.1;omega,fun k hk hX=>?_⟩
   show (wx.heap.set r o hrx)[k]? = _
   rw [Array.getElem?_set]
   split
   ·rename_i e;rw [← e];exact ho.symm
   ·rename_i e
    exact (hx.2 k (Nat.lt_of_lt_of_le hk hg.size) hX).trans (hg.block k hk (fun e'=>e (by cases e';rfl)))
  refine (h _ hy).kc fun p v hv=>?_
  have hpr:p.block≠r:=fun e=>by
   have:=cell_block hv (o:=o) (by show (wx.heap.set r o hrx)[p.block]? = _;rw [e];simp)
   rw [this] at hc
   cases hc
  have hb:wx.heap[p.block]? = ({ wx with heap:=wx.heap.set r o hrx }:World).heap[p.block]? := by
   show _=(wx.heap.set r o hrx)[p.block]?
   rw [Array.getElem?_set,if_neg (Ne.symm hpr)]
  rw [World.cell?_of_block (w:={ wx with heap:=wx.heap.set r o hrx }) (a:=p) hb]
  exact hv
theorem row_turn {W W':World} {row:Option Nat} {g:Nat} {t:TypeId} {cs:List Value} (h:RowAt W g t cs) (hg:W.grownBy W' row) (hr:NoCells W row):RowAt W' g t cs:=by
 have hlt:g<W.heap.size:=(Array.getElem?_eq_some_iff.1 h).1
 refine (hg.block g hlt (fun e=>?_)).trans h
 obtain ⟨o,ho,hc⟩:=hr _ e.symm
 rw [show W.heap[g]? = _ from h] at ho
 cases ho
 simp [Obj.isCells] at hc
theorem MO.turn {K:MK} {W W':World} {gd base:Nat} {Ds:Nat→Dom} {As:Nat→DMem} {La:Nat→Int} (h:MO K W gd base Ds As La) {row:Option Nat} (hg:W.grownBy W' row) (hr:NoCells W row) (hlo:∀ r,row=some r→K.w0.heap.size≤r):MO K W' gd base Ds As La:=by
 obtain ⟨cs,h1,h2⟩:=h.drow
 refine ⟨h.low.grown hg h.low.size hlo,h.cf,h.sc,row_turn h.row hg hr,⟨cs,row_turn h1 hg hr,h2⟩,fun i hi=>⟨?_,(h.at_ i hi).2.turn hg hr⟩,row_turn h.last hg hr,h.lo,⟨h.hi.1,h.hi.2.1,h.hi.2.2.1,Nat.le_trans h.hi.2.2.2 hg.size⟩,fun k hk=>Nat.lt_of_lt_of_le (h.fo k hk) hg.size⟩
 have hd:=(h.at_ i hi).1
 have kc:=kc_turn hg hr
 exact ⟨kc _ _ hd.c0,kc _ _ hd.c1,kc _ _ hd.c2,kc _ _ hd.c3,kc _ _ hd.c4,kc _ _ hd.c5,kc _ _ hd.c6⟩
theorem keeps_ext {X:Nat→Prop} {W W':World} (h:Ext X W W') (hX:∀ k o,X k→W.heap[k]? = some o→o.isCells=true):KeepsOthers W W':=
 ⟨h.1,fun k o ho hc=>(h.2 k (Array.getElem?_eq_some_iff.1 ho).1 (fun hx=>by rw [hX k o hx ho] at hc;cases hc)).trans ho⟩
theorem MO.cellsX {K:MK} {W:World} {gd base:Nat} {Ds:Nat→Dom} {As:Nat→DMem} {La:Nat→Int} (h:MO K W gd base Ds As La):∀ k o,MX K gd k→W.heap[k]? = some o→o.isCells=true:=by
 intro k o hk ho
 obtain ⟨cs,h1,h2⟩:=h.drow
 rcases hk with e|e|e
 ·rw [e,show W.heap[K.gm]? = _ from h.row] at ho;cases ho;rfl
 ·rw [e,show W.heap[K.gl]? = _ from h.last] at ho;cases ho;rfl
 ·rw [e,show W.heap[gd]? = _ from h1] at ho;cases ho;rfl
theorem WaysIn.kc {w w':World} {a:Option Addr} {ls:List (Int×Bool)} (h:WaysIn w a ls) (hk:KC w w'):WaysIn w' a ls:=fun i hi=>by
 obtain ⟨b,o,e,h1,h2⟩:=h i hi
 exact ⟨b,o,e,hk _ _ h1,hk _ _ h2⟩
theorem CacheIn.kc {w w':World} {a:Option Addr} {C:KT} (h:CacheIn w a C) (hk:KC w w'):CacheIn w' a C:=fun i hi=>by
 obtain ⟨b,o,a',cap,e,h1,h2,h3⟩:=h i hi
 exact ⟨b,o,a',cap,e,hk _ _ h1,h2.kc hk,h3⟩
end Go.Proofs.YtejhccmclanlmaaGreatDoor
