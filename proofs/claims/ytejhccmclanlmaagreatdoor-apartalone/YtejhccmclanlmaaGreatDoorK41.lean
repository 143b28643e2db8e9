/- Texts joined: Ak Al. -/
import Derived.Deep.DeepCutAuto
import Derived.Deep.MidRow
import Derived.Test.YtejhccmclanlmaaGreatDoorK10
import Derived.Test.YtejhccmclanlmaaGreatDoorK14
import Derived.Test.YtejhccmclanlmaaGreatDoorK20
import Derived.Test.YtejhccmclanlmaaGreatDoorK40
set_option linter.unusedVariables false
set_option maxRecDepth 100000
namespace Go.Proofs.YtejhccmclanlmaaGreatDoor
open Go.RowKit
def Ext (X:Nat→Prop) (w wx:World):Prop:=w.heap.size≤wx.heap.size∧∀ k,k<w.heap.size→¬ X k→wx.heap[k]? = w.heap[k]?
theorem Ext.refl (X:Nat→Prop) (w:World):Ext X w w:=⟨Nat.le_refl _,fun _ _ _=>rfl⟩
theorem Ext.trans {X:Nat→Prop} {a b c:World} (h:Ext X a b) (k:Ext X b c):Ext X a c:=
 ⟨Nat.le_trans h.1 k.1,fun i hi hx=>(k.2 i (Nat.lt_of_lt_of_le hi h.1) hx).trans (h.2 i hi hx)⟩
theorem Ext.below {X:Nat→Prop} {w w':World} (h:Below w.heap.size w w'):Ext X w w':=⟨h.size,fun k hk _=>h.block k hk⟩
theorem Ext.set {X:Nat→Prop} (w:World) {g:Nat} (hg:X g) (o:Nat) (u:Value):Ext X w (w.setCell ⟨g,o,none⟩ u):=
 ⟨by simp [World.setCell],fun k hk hx=>heap_set_ne _ _ _ _ _ (fun e=>hx (e ▸ hg))⟩
theorem Ext.wider {X Y:Nat→Prop} {w w':World} (h:Ext X w w') (hxy:∀ k,X k→Y k):Ext Y w w':=⟨h.1,fun k hk hy=>h.2 k hk (fun hx=>hy (hxy k hx))⟩
def cutW (w:World) (n:Nat):World:={ w with heap:=w.heap.extract 0 n }
theorem cutW_at (w:World) (n k:Nat) (h:n≤w.heap.size):(cutW w n).heap[k]? = if k<n then w.heap[k]? else none:=by
 show (w.heap.extract 0 n)[k]? = _
 rw [Array.getElem?_extract]
 simp only [Nat.zero_add,Nat.sub_zero]
 rw [Nat.min_eq_left h]
theorem cutW_size (w:World) (n:Nat) (h:n≤w.heap.size):(cutW w n).heap.size=n:=by
 show (w.heap.extract 0 n).size=n
 simp;omega
theorem cutW_below (w:World) (n:Nat) (h:n≤w.heap.size):Below (cutW w n).heap.size (cutW w n) w:=
 ⟨rfl,rfl,rfl,by rw [cutW_size w n h];exact h,fun k hk=>by rw [cutW_size w n h] at hk;rw [cutW_at w n k h,if_pos hk]⟩
def DomOn (n:Nat) (w:World) (A:DMem) (D:Dom):Prop:=∀ wx:World,Ext (fun k=>k<n) w wx→DomIn wx A D
theorem domOn_of {n:Nat} {w:World} {A:DMem} {D:Dom} (h:∀ wx:World,(∀ x,n≤x→wx.heap[x]? = w.heap[x]?)→DomIn wx A D):DomOn n w A D:=by
 intro wx hx
 refine (h (cutW wx w.heap.size) fun x hn=>?_).keep (cutW_below _ _ hx.1)
 rw [cutW_at _ _ _ hx.1]
 split
 ·rename_i hlt
  exact hx.2 x hlt (by omega)
 ·rename_i hlt
  exact (Array.getElem?_eq_none (by omega)).symm
theorem DomOn.ext {n:Nat} {w w':World} {A:DMem} {D:Dom} (h:DomOn n w A D) (hx:Ext (fun k=>k<n) w w'):DomOn n w' A D:=fun wx hw=>h wx (hx.trans hw)
theorem DomOn.lower {n n':Nat} {w:World} {A:DMem} {D:Dom} (h:DomOn n w A D) (hn:n'≤n):DomOn n' w A D:=fun wx hw=>h wx (hw.wider fun k hk=>by omega)
structure ClD (X:Nat→Prop) (w:World) (A:DMem) (D:Dom) (gI gO:Nat):Prop where
 j:∀ wx,Ext X w wx→JobsIn wx A.aJ D.jobs
 r:∀ wx,Ext X w wx→IntsIn wx A.aR D.rel
 t:∀ wx,Ext X w wx→IntsIn wx A.aT D.tak
 e:∀ wx,Ext X w wx→EvsIn wx A.aE D.evs
 i:∃ cs,RowAt w gI 90 cs∧cs.length=D.ins.length * 2∧∀ k (h:k<D.ins.length),∃ a c,cs[k * 2]? = some (.slice a D.ins[k].1.length c)∧cs[k * 2+1]? = some (.int .i64 D.ins[k].2)∧(∀ wx,Ext X w wx→IntsIn wx a D.ins[k].1)∧D.ins[k].1.length≤c∧D.ins[k].1.length≤9223372036854775807
 o:∃ cs,RowAt w gO 23 cs∧cs.length=D.out.length∧∀ k (h:k<D.out.length),∃ a c,cs[k]? = some (.slice a D.out[k].length c)∧(∀ wx,Ext X w wx→IntsIn wx a D.out[k])∧D.out[k].length≤c∧D.out[k].length≤9223372036854775807
 aI:A.aI=some ⟨gI,0,none⟩
 aO:A.aO=some ⟨gO,0,none⟩
 xI:X gI
 xO:X gO
 lJ:D.jobs.length≤9223372036854775807
 lR:D.rel.length≤9223372036854775807
 lI:D.ins.length≤9223372036854775807
 lT:D.tak.length≤9223372036854775807
 lO:D.out.length≤9223372036854775807
 lE:D.evs.length≤9223372036854775807
theorem ClD.ext {X:Nat→Prop} {w w':World} {A:DMem} {D:Dom} {gI gO:Nat} (h:ClD X w A D gI gO) (hx:Ext X w w') (hI:w'.heap[gI]? = w.heap[gI]?) (hO:w'.heap[gO]? = w.heap[gO]?):ClD X w' A D gI gO:=by
 obtain ⟨cs,i1,i2,i3⟩:=h.i
 obtain ⟨ds,o1,o2,o3⟩:=h.o
 refine ⟨fun wx q=>h.j wx (hx.trans q),fun wx q=>h.r wx (hx.trans q),fun wx q=>h.t wx (hx.trans q),fun wx q=>h.e wx (hx.trans q),⟨cs,hI.trans i1,i2,fun k hk=>?_⟩,⟨ds,hO.trans o1,o2,fun k hk=>?_⟩,h.aI,h.aO,h.xI,h.xO,h.lJ,h.lR,h.lI,h.lT,h.lO,h.lE⟩
 ·obtain ⟨a,c,p1,p2,p3,p4⟩:=i3 k hk
  exact ⟨a,c,p1,p2,fun wx q=>p3 wx (hx.trans q),p4⟩
 ·obtain ⟨a,c,p1,p3,p4⟩:=o3 k hk
  exact ⟨a,c,p1,fun wx q=>p3 wx (hx.trans q),p4⟩
theorem ClD.ltI {X:Nat→Prop} {w:World} {A:DMem} {D:Dom} {gI gO:Nat} (h:ClD X w A D gI gO):gI<w.heap.size:=by
 obtain ⟨cs,i1,_⟩:=h.i
 exact (Array.getElem?_eq_some_iff.1 i1).1
theorem ClD.ltO {X:Nat→Prop} {w:World} {A:DMem} {D:Dom} {gI gO:Nat} (h:ClD X w A D gI gO):gO<w.heap.size:=by
 obtain ⟨cs,i1,_⟩:=h.o
 exact (Array.getElem?_eq_some_iff.1 i1).1
theorem ClD.keep {X:Nat→Prop} {w w':World} {A:DMem} {D:Dom} {gI gO:Nat} (h:ClD X w A D gI gO) (hb:Below w.heap.size w w'):ClD X w' A D gI gO:=
 h.ext (Ext.below hb) (hb.block _ h.ltI) (hb.block _ h.ltO)
theorem ClD.dom {X:Nat→Prop} {n:Nat} {w:World} {A:DMem} {D:Dom} {gI gO:Nat} (h:ClD X w A D gI gO) (hn:∀ k,k<n→X k) (hI:n≤gI) (hO:n≤gO):DomOn n w A D:=by
 intro wx hx
 have hX:Ext X w wx:=hx.wider hn
 obtain ⟨cs,i1,i2,i3⟩:=h.i
 obtain ⟨ds,o1,o2,o3⟩:=h.o
 have r1:RowAt wx gI 90 cs:=(hx.2 gI h.ltI (by omega)).trans i1
 have r2:RowAt wx gO 23 ds:=(hx.2 gO h.ltO (by omega)).trans o1
 refine ⟨h.j wx hX,h.r wx hX,?_,h.t wx hX,?_,h.e wx hX,h.lJ,h.lR,h.lI,h.lT,h.lO,h.lE⟩
 ·intro k hk
  obtain ⟨a,c,p1,p2,p3,p4⟩:=i3 k hk
  exact ⟨gI,0,a,c,h.aI,by rw [Nat.zero_add];exact r1.cell _ _ p1,by rw [Nat.zero_add];exact r1.cell _ _ p2,p3 wx hX,p4⟩
 ·intro k hk
  obtain ⟨a,c,p1,p3,p4⟩:=o3 k hk
  exact ⟨gO,0,a,c,h.aO,by rw [Nat.zero_add];exact r2.cell _ _ p1,p3 wx hX,p4⟩
theorem ClD.setIn {X:Nat→Prop} {w:World} {A:DMem} {D:Dom} {gI gO:Nat} (h:ClD X w A D gI gO) {c:Nat} (hc:c<D.ins.length) {V:List Int} {lost:Int} {a:Option Addr} {cap:Nat} (hV:∀ wx,Ext X w wx→IntsIn wx a V) (hle:V.length≤cap) (hl:V.length≤9223372036854775807) (hne:gI≠gO) :
  ClD X ((w.setCell ⟨gI,c * 2,none⟩ (.slice a V.length cap)).setCell ⟨gI,c * 2+1,none⟩ (.int .i64 lost)) A ⟨D.jobs,D.rel,D.nxt,D.ins.set c (V,lost),D.tak,D.out,D.evs⟩ gI gO:=by
 have hx:Ext X w ((w.setCell ⟨gI,c * 2,none⟩ (.slice a V.length cap)).setCell ⟨gI,c * 2+1,none⟩ (.int .i64 lost)):=(Ext.set w h.xI _ _).trans (Ext.set _ h.xI _ _)
 obtain ⟨cs,i1,i2,i3⟩:=h.i
 obtain ⟨ds,o1,o2,o3⟩:=h.o
 refine ⟨fun wx q=>h.j wx (hx.trans q),fun wx q=>h.r wx (hx.trans q),fun wx q=>h.t wx (hx.trans q),fun wx q=>h.e wx (hx.trans q),⟨_,rowAt_set1 (rowAt_set1 i1 _ _) _ _,by simp [i2],fun k hk=>?_⟩,⟨ds,?_,o2,fun k hk=>?_⟩,h.aI,h.aO,h.xI,h.xO,h.lJ,h.lR,by simp;exact h.lI,h.lT,h.lO,h.lE⟩
 ·simp only [List.length_set] at hk
  by_cases e:k=c
  ·subst e
   refine ⟨a,cap,?_,?_,fun wx q=>?_,?_⟩
   ·rw [List.getElem?_set_ne (by omega),List.getElem?_set_self (by omega)]
    simp
   ·rw [List.getElem?_set_self (by simp;omega)]
    simp
   ·simpa using hV wx (hx.trans q)
   ·simpa using ⟨hle,hl⟩
  ·obtain ⟨a',c',p1,p2,p3,p4⟩:=i3 k hk
   refine ⟨a',c',?_,?_,fun wx q=>?_,?_⟩
   ·rw [List.getElem?_set_ne (by omega),List.getElem?_set_ne (by omega),p1]
    simp [List.getElem_set_ne (Ne.symm e)]
   ·rw [List.getElem?_set_ne (by omega),List.getElem?_set_ne (by omega),p2]
    simp [List.getElem_set_ne (Ne.symm e)]
   ·simpa [List.getElem_set_ne (Ne.symm e)] using p3 wx (hx.trans q)
   ·simpa [List.getElem_set_ne (Ne.symm e)] using p4
 ·show (World.heap _)[gO]? = _
  rw [heap_set_ne _ _ _ _ _ (Ne.symm hne),heap_set_ne _ _ _ _ _ (Ne.symm hne)]
  exact o1
 ·obtain ⟨a',c',p1,p3,p4⟩:=o3 k hk
  exact ⟨a',c',p1,fun wx q=>p3 wx (hx.trans q),p4⟩
theorem ClD.setOut {X:Nat→Prop} {w:World} {A:DMem} {D:Dom} {gI gO:Nat} (h:ClD X w A D gI gO) {c:Nat} (hne:gI≠gO) :
  ClD X (w.setCell ⟨gO,c,none⟩ (.slice none 0 0)) A (noOut D c) gI gO:=by
 have hx:Ext X w (w.setCell ⟨gO,c,none⟩ (.slice none 0 0)):=Ext.set w h.xO _ _
 obtain ⟨cs,i1,i2,i3⟩:=h.i
 obtain ⟨ds,o1,o2,o3⟩:=h.o
 refine ⟨fun wx q=>h.j wx (hx.trans q),fun wx q=>h.r wx (hx.trans q),fun wx q=>h.t wx (hx.trans q),fun wx q=>h.e wx (hx.trans q),⟨cs,?_,i2,fun k hk=>?_⟩,⟨_,rowAt_set1 o1 _ _,by simp [o2,noOut],fun k hk=>?_⟩,h.aI,h.aO,h.xI,h.xO,h.lJ,h.lR,h.lI,h.lT,by simp [noOut];exact h.lO,h.lE⟩
 ·show (World.heap _)[gI]? = _
  rw [heap_set_ne _ _ _ _ _ hne]
  exact i1
 ·obtain ⟨a',c',p1,p2,p3,p4⟩:=i3 k hk
  exact ⟨a',c',p1,p2,fun wx q=>p3 wx (hx.trans q),p4⟩
 ·simp only [noOut,List.length_set] at hk ⊢
  by_cases e:k=c
  ·subst e
   refine ⟨none,0,?_,fun wx q=>?_,?_⟩
   ·rw [List.getElem?_set_self (by omega)]
    simp
   ·intro i hi;simp at hi
   ·simp
  ·obtain ⟨a',c',p1,p3,p4⟩:=o3 k hk
   refine ⟨a',c',?_,fun wx q=>?_,?_⟩
   ·rw [List.getElem?_set_ne (by omega),p1]
    simp [List.getElem_set_ne (Ne.symm e)]
   ·simpa [List.getElem_set_ne (Ne.symm e)] using p3 wx (hx.trans q)
   ·simpa [List.getElem_set_ne (Ne.symm e)] using p4
theorem ClD.of {X:Nat→Prop} {base:Nat} {w:World} {A:DMem} {D:Dom} {gI gO m p q:Nat} (h:DomOwn base w A D gI gO m p q) (hI:D.ins.length≤9223372036854775807) (hO:D.out.length≤9223372036854775807) (xI:X gI) (xO:X gO) (hX:∀ k,base≤k→k<q→k≠gI→k≠gO→¬ X k):ClD X w A D gI gO:=by
 have hmp:=h.mp
 obtain ⟨cs,v,i1,i2,i3,B,i4,i5,i6,i7⟩:=h.i
 obtain ⟨ds,u,o1,o2,o3,E,o4,o5,o6,o7⟩:=h.o
 have nb:∀ {e sz n:Nat} {v:Value} {xs:List Value},w.ownsRow base e sz v n xs→(∀ x,v.ownBlock=some x→x<m)→e≠90→e≠23→∀ wx,Ext X w wx→wx.ownsRow base e sz v n xs:=by
  intro e sz n v xs ho hm h1 h2 wx hx
  refine owns_agree ho fun k hk=>hx.2 k (owns_lt ho k hk) (hX k (owns_ge ho k hk) (by have:=hm k hk;omega) (owns_ne2 ho i1 h1 k hk) (owns_ne2 ho o1 h2 k hk))
 have lt:=h.lt
 refine ⟨fun wx hx=>jobsIn_of (owns_in (nb h.j (fun x hx=>lt x (.inl hx)) (by decide) (by decide) wx hx)).1,fun wx hx=>intsIn_of (owns_in (nb h.r (fun x hx=>lt x (.inr (.inl hx))) (by decide) (by decide) wx hx)).1,fun wx hx=>intsIn_of (owns_in (nb h.t (fun x hx=>lt x (.inr (.inr (.inl hx)))) (by decide) (by decide) wx hx)).1,fun wx hx=>evsIn_of (owns_in (nb h.e (fun x hx=>lt x (.inr (.inr (.inr hx)))) (by decide) (by decide) wx hx)).1,⟨cs,i1,i2,fun k hk=>?_⟩,⟨ds,o1,o2,fun k hk=>?_⟩,h.aI,h.aO,xI,xO,(owns_in h.j).2.2,(owns_in h.r).2.2,hI,(owns_in h.t).2.2,hO,(owns_in h.e).2.2⟩
 ·obtain ⟨c0,c1⟩:=i3 k hk
  obtain ⟨o,hu⟩:=i4 k hk
  have e:D.ins.getD k ([],0)=D.ins[k]:=by simp [hk]
  simp only [e] at o c1
  obtain ⟨a,c,ev,hc,hm,hI,_⟩:=owns_cells o
  have b1:=mono_le i5 0 k (by omega) (by omega)
  have b2:=mono_le i5 (k+1) D.ins.length (by omega) (by omega)
  have bI:=h.bI
  have bO:=h.bO
  refine ⟨a,c,by rw [c0,ev],c1,fun wx hx=>?_,hc,by simp only [maxLen] at hm;omega⟩
  rw [ev] at o hu
  exact intsIn_of (owns_in (owns_agree o fun x hx'=>hx.2 x (owns_lt o x hx') (hX x (by have:=owns_ge o x hx';omega) (by have:=hu x hx';omega) (by have:=owns_ge o x hx';omega) (by have:=owns_ge o x hx';omega)))).1
 ·have c0:=o3 k hk
  obtain ⟨o,hu⟩:=o4 k hk
  have e:D.out.getD k []=D.out[k]:=by simp [hk]
  simp only [e] at o
  obtain ⟨a,c,ev,hc,hm,hI,_⟩:=owns_cells o
  have b1:=mono_le o5 0 k (by omega) (by omega)
  have b2:=mono_le o5 (k+1) D.out.length (by omega) (by omega)
  have bI:=h.bI
  have bO:=h.bO
  refine ⟨a,c,by rw [c0,ev],fun wx hx=>?_,hc,by simp only [maxLen] at hm;omega⟩
  rw [ev] at o hu
  exact intsIn_of (owns_in (owns_agree o fun x hx'=>hx.2 x (owns_lt o x hx') (hX x (by have:=owns_ge o x hx';omega) (by have:=hu x hx';omega) (by have:=owns_ge o x hx';omega) (by have:=owns_ge o x hx';omega)))).1
structure ClS (X:Nat→Prop) (w:World) (gA n:Nat) (Ds:Nat→Dom) (As:Nat→DMem) (gI gO:Nat→Nat):Prop where
 at_:∀ i,i<n→DomsAt w gA 0 i (Ds i) (As i)
 cl:∀ i,i<n→ClD X w (As i) (Ds i) (gI i) (gO i)
 nI:∀ i j,i<n→j<n→i≠j→gI i≠gI j∧gO i≠gO j
 nA:∀ i,i<n→gA≠gI i∧gA≠gO i
 nIO:∀ i j,i<n→j<n→gI i≠gO j
theorem ClS.keep {X:Nat→Prop} {w w':World} {gA n:Nat} {Ds:Nat→Dom} {As:Nat→DMem} {gI gO:Nat→Nat} (h:ClS X w gA n Ds As gI gO) (hb:Below w.heap.size w w'):ClS X w' gA n Ds As gI gO:=
 ⟨fun i hi=>(h.at_ i hi).keep hb,fun i hi=>(h.cl i hi).keep hb,h.nI,h.nA,h.nIO⟩
theorem DomsAt.other {w:World} {b o i:Nat} {D:Dom} {A:DMem} (h:DomsAt w b o i D A) {w':World} (hk:w'.heap[b]? = w.heap[b]?):DomsAt w' b o i D A:=by
 have e:∀ k,w'.cell? ⟨b,k,none⟩=w.cell? ⟨b,k,none⟩:=fun k=>World.cell?_of_block (w:=w) (a:=⟨b,k,none⟩) hk
 exact ⟨by rw [e];exact h.c0,by rw [e];exact h.c1,by rw [e];exact h.c2,by rw [e];exact h.c3,by rw [e];exact h.c4,by rw [e];exact h.c5,by rw [e];exact h.c6⟩
theorem DomsAt.like {w:World} {b o i:Nat} {D E:Dom} {A:DMem} (h:DomsAt w b o i D A) (h0:E.jobs=D.jobs) (h1:E.rel=D.rel) (h2:E.nxt=D.nxt) (h3:E.ins.length=D.ins.length) (h4:E.tak=D.tak) (h5:E.out.length=D.out.length) (h6:E.evs=D.evs):DomsAt w b o i E A:=
 ⟨by rw [h0];exact h.c0,by rw [h1];exact h.c1,by rw [h2];exact h.c2,by rw [h3];exact h.c3,by rw [h4];exact h.c4,by rw [h5];exact h.c5,by rw [h6];exact h.c6⟩
theorem ClS.deliver {X:Nat→Prop} {w:World} {gA n:Nat} {Ds:Nat→Dom} {As:Nat→DMem} {gI gO:Nat→Nat} (h:ClS X w gA n Ds As gI gO) {f t c:Nat} (hf:f<n) (ht:t<n) (hft:f≠t) (hc:c<(Ds t).ins.length) {V:List Int} {lost:Int} {a:Option Addr} {cap:Nat} (hV:∀ wx,Ext X w wx→IntsIn wx a V) (hle:V.length≤cap) (hl:V.length≤9223372036854775807) :
  ClS X (((w.setCell ⟨gI t,c * 2,none⟩ (.slice a V.length cap)).setCell ⟨gI t,c * 2+1,none⟩ (.int .i64 lost)).setCell ⟨gO f,c,none⟩ (.slice none 0 0)) gA n (putF (putF Ds t ⟨(Ds t).jobs,(Ds t).rel,(Ds t).nxt,(Ds t).ins.set c (V,lost),(Ds t).tak,(Ds t).out,(Ds t).evs⟩) f (noOut (Ds f) c)) As gI gO∧Ext X w (((w.setCell ⟨gI t,c * 2,none⟩ (.slice a V.length cap)).setCell ⟨gI t,c * 2+1,none⟩ (.int .i64 lost)).setCell ⟨gO f,c,none⟩ (.slice none 0 0))∧(((w.setCell ⟨gI t,c * 2,none⟩ (.slice a V.length cap)).setCell ⟨gI t,c * 2+1,none⟩ (.int .i64 lost)).setCell ⟨gO f,c,none⟩ (.slice none 0 0)).heap[gA]? = w.heap[gA]? := by
 have xI:=(h.cl t ht).xI
 have xO:=(h.cl f hf).xO
 have hT:=(h.cl t ht).setIn hc hV hle hl (h.nIO t t ht ht) (lost:=lost)
 have x1:Ext X w ((w.setCell ⟨gI t,c * 2,none⟩ (.slice a V.length cap)).setCell ⟨gI t,c * 2+1,none⟩ (.int .i64 lost)):=(Ext.set w xI _ _).trans (Ext.set _ xI _ _)
 have k1:∀ k,k≠gI t→((w.setCell ⟨gI t,c * 2,none⟩ (.slice a V.length cap)).setCell ⟨gI t,c * 2+1,none⟩ (.int .i64 lost)).heap[k]? = w.heap[k]? := fun k hk=>by
  rw [heap_set_ne _ _ _ _ _ hk,heap_set_ne _ _ _ _ _ hk]
 generalize (w.setCell ⟨gI t,c * 2,none⟩ (.slice a V.length cap)).setCell ⟨gI t,c * 2+1,none⟩ (.int .i64 lost)=w1 at *
 have x2:Ext X w1 (w1.setCell ⟨gO f,c,none⟩ (.slice none 0 0)):=Ext.set _ xO _ _
 have k2:∀ k,k≠gO f→(w1.setCell ⟨gO f,c,none⟩ (.slice none 0 0)).heap[k]? = w1.heap[k]? := fun k hk=>heap_set_ne _ _ _ _ _ hk
 have hF:ClD X w1 (As f) (Ds f) (gI f) (gO f):=(h.cl f hf).ext x1 (k1 _ (h.nI f t hf ht hft).1) (k1 _ (Ne.symm (h.nIO t f ht hf)))
 have hF2:=hF.setOut (c:=c) (h.nIO f f hf hf)
 generalize hw2:w1.setCell ⟨gO f,c,none⟩ (.slice none 0 0)=w2 at *
 have kA:w2.heap[gA]? = w.heap[gA]? := (k2 gA (h.nA f hf).2).trans (k1 gA (h.nA t ht).1)
 refine ⟨⟨fun i hi=>?_,fun i hi=>?_,h.nI,h.nA,h.nIO⟩,x1.trans x2,kA⟩
 ·have:=(h.at_ i hi).other kA
  by_cases e:i=f
  ·subst e
   rw [putF_eq]
   exact this.like rfl rfl rfl rfl rfl (by simp [noOut]) rfl
  ·rw [putF_ne _ _ e]
   by_cases e':i=t
   ·subst e'
    rw [putF_eq]
    exact this.like rfl rfl rfl (by simp) rfl rfl rfl
   ·rw [putF_ne _ _ e']
    exact this
 ·by_cases e:i=f
  ·subst e
   rw [putF_eq]
   exact hF2
  ·rw [putF_ne _ _ e]
   by_cases e':i=t
   ·subst e'
    rw [putF_eq]
    exact hT.ext x2 (k2 _ (h.nIO i f hi hf)) (k2 _ (h.nI i f hi hf e).2)
   ·rw [putF_ne _ _ e']
    exact (h.cl i hi).ext (x1.trans x2) ((k2 _ (h.nIO i f hi hf)).trans (k1 _ (h.nI i t hi ht e').1)) ((k2 _ (h.nI i f hi hf e).2).trans (k1 _ (Ne.symm (h.nIO t i ht hi))))
theorem ints_ext {X:Nat→Prop} {n0:Nat} {w:World} {v:Value} {L:List Int} (h:w.ownsRow n0 3 1 v L.length (ivs L)) (hX:∀ k,n0≤k→¬ X k):∃ a c,v=.slice a L.length c∧(∀ wx,Ext X w wx→IntsIn wx a L)∧L.length≤c∧L.length≤9223372036854775807:=by
 obtain ⟨a,c,ev,hc,hm,_⟩:=owns_cells h
 refine ⟨a,c,ev,fun wx hx=>?_,hc,by simp only [maxLen] at hm;omega⟩
 rw [ev] at h
 exact intsIn_of (owns_in (owns_agree h fun x hx'=>hx.2 x (owns_lt h x hx') (hX x (owns_ge h x hx')))).1
def ordM (md:Region.Mode) (ops:Array Oper):Bool:=(List.range ops.size).all fun i=>((ops[i]?).map (·.after.all fun e=>!(Region.binds md e) || decide (e.on<i))).getD true
theorem ordM_spec {md:Region.Mode} {ops:Array Oper} (h:ordM md ops=true) {i:Nat} {o:Oper} (ho:ops[i]? = some o):∀ e∈o.after,Region.binds md e=true→e.on<i:=by
 intro e he hb
 have hi:i<ops.size:=(Array.getElem?_eq_some_iff.1 ho).1
 have:=List.all_eq_true.1 h i (List.mem_range.2 hi)
 rw [ho] at this
 simp only [Option.map_some,Option.getD_some] at this
 have:=Array.all_eq_true_iff_forall_mem.1 this e he
 rw [hb] at this
 simpa using this
theorem all_listedM {md:Region.Mode} {ops:Array Oper} {l:Array Bool} (hord:ordM md ops=true) (hsz:l.size=ops.size) (hr:Region.ready md ops l=[]):∀ i,i<ops.size→l.getD i false=true:=by
 intro i
 induction i using Nat.strongRecOn with
 | ind i ih=>
  intro hi
  cases hl:l.getD i false with
  | true=>rfl
  | false=>
   exfalso
   have hlt:i<l.size:=by omega
   have h1:l.getD i true=false:=by simpa [Array.getD_eq_getD_getElem?,hlt] using hl
   obtain ⟨o,ho⟩:∃ o,ops[i]? = some o:=⟨_,Array.getElem?_eq_getElem hi⟩
   have:i∈Region.ready md ops l:=mem_ready.2 ⟨h1,o,ho,fun e he hb=>ih e.on (ordM_spec hord ho e he hb) (by have:=ordM_spec hord ho e he hb;omega)⟩
   rw [hr] at this
   cases this
theorem wpAny_invM {P:Program} {md:Region.Mode} {ops:Array Oper} {Q:Exit→Act→World→Prop} (R:Array Bool→Act→World→Prop) (hord:ordM md ops=true)
  (hstep:∀ (l:Array Bool) (a:Act) (w:World) (i:Nat) (o:Oper),R l a w→ops[i]? = some o→l.getD i false=false→(∀ e∈o.after,Region.binds md e=true→l.getD e.on false=true)→∀ K':Act→World→Prop,Shut (∀ a w,R (l.setIfInBounds i true) a w→K' a w)→if Region.wanted o (yielded ops a.tmps)=true then Oper.wp P o a w K' Q else K' (a.put o.dst undef) w)
  (hend:∀ (l:Array Bool) (a:Act) (w:World),R l a w→(∀ i,i<ops.size→l.getD i false=true)→Q .normal a w) :
  ∀ (fuel:Nat) (l:Array Bool) (a:Act) (w:World),l.size=ops.size→l.toList.countP (fun b=>!b)≤fuel→R l a w→wpAny P md ops Q fuel l a w:=by
 intro fuel
 induction fuel with
 | zero=>
  intro l a w hsz hc hR
  have hr:Region.ready md ops l=[]:=by
   apply List.eq_nil_iff_forall_not_mem.2
   intro i hi
   obtain ⟨h0,o,ho,_⟩:=mem_ready.1 hi
   have hlt:i<l.size:=by have:=(Array.getElem?_eq_some_iff.1 ho).1;omega
   have hz:l.toList.countP (fun b=>!b)=0:=by omega
   have:=List.countP_eq_zero.1 hz l[i] (by simp)
   simp [Array.getD_eq_getD_getElem?,hlt] at h0
   simp [h0] at this
  exact ⟨hr,hend l a w hR (all_listedM hord hsz hr)⟩
 | succ fuel ih=>
  intro l a w hsz hc hR
  refine ⟨fun hr=>hend l a w hR (all_listedM hord hsz hr),fun i hi=>?_⟩
  obtain ⟨h0,o,ho,hall⟩:=mem_ready.1 hi
  have hlt:i<l.size:=by have:=(Array.getElem?_eq_some_iff.1 ho).1;omega
  have h0':l[i]=false:=by simpa [Array.getD_eq_getD_getElem?,hlt] using h0
  have h00:l.getD i false=false:=by simp [Array.getD_eq_getD_getElem?,hlt,h0']
  refine wpOp_step ho (fun K' hK=>hstep l a w i o hR ho h00 hall K' (fun a' w' h'=>hK a' w' (ih _ a' w' (by simpa using hsz) ?_ h')))
  have:=count_set l.toList i (by simp [hlt,h0'])
  rw [Array.toList_setIfInBounds]
  omega
theorem ex_frame {AF:(Nat→Value)→Act} {P:(Nat→Value)→Prop} (a:Act) (h:a=AF (fun i=>a.tmps.getD i undef)) (hp:P (fun i=>a.tmps.getD i undef)):∃ x,a=AF x∧P x:=⟨_,h,hp⟩
theorem all_depX {o:Oper} {l:Array Bool} (late:List Nat) (n:Nat) (hdep:∀ e∈o.after,Region.binds .any e=true→l.getD e.on false=true) (hk:((List.range n).all fun k=>late.contains k || o.after.any fun e=>Region.binds .any e && e.on == k)=true):∀ i,i<n→i ∉ late→l.getD i false=true:=by
 intro i hi hn
 have:=List.all_eq_true.1 hk i (List.mem_range.2 hi)
 rw [Bool.or_eq_true] at this
 rcases this with h|h
 ·exact absurd (List.contains_iff_mem.1 h) hn
 ·exact dep_of hdep i h
theorem all_setX {late:List Nat} {k m:Nat} {l:Array Bool} (hs:l.size=m) (hk:k<m) (h:∀ i,i<k→i ∉ late→l.getD i false=true):∀ i,i<k+1→i ∉ late→(l.setIfInBounds k true).getD i false=true:=by
 intro i hi hn
 by_cases e:i=k
 ·subst e;exact getD_set_self (by omega)
 ·exact getD_set_true (h i (by omega) hn)
def dSDl:Nat→Nat
 | 0=>9
 | 1=>10
 | 2=>11
 | 3=>12
 | 4=>13
 | 5=>14
 | 6=>15
 | 7=>16
 | 8=>17
 | 9=>18
 | 10=>19
 | 11=>20
 | 12=>21
 | 13=>22
 | 14=>23
 | 15=>24
 | 16=>25
 | 17=>26
 | 18=>27
 | 19=>28
 | 20=>29
 | 21=>8
 | 22=>30
 | 23=>31
 | 24=>32
 | _=>999
def dODl:Nat→List Nat:=fun i=>[i]
def FCDl (gA f t c:Nat) (size:Int) (gI gO:Nat→Nat) (iL cI oL cO:Nat) (a:Option Addr) (ll cp:Nat) (lv:Int) (b:Option Addr) (lo cq:Nat) (rv:List Int) (rL:Int) (n0:Nat) (i:Nat) (x:Nat→Value) (w:World):Prop:=
 match i with
 | 0=>x 9=.pointer (some ⟨gA,t * 7,none⟩)
 | 1=>x 10=.pointer (some ⟨gA,t * 7,none⟩)
 | 2=>x 11=.pointer (some ⟨gA,t * 7+3,none⟩)
 | 3=>x 12=.slice (some ⟨gI t,0,none⟩) iL cI
 | 4=>x 13=.int .i64 (c:Int)
 | 5=>x 14=.pointer (some ⟨gA,t * 7,none⟩)
 | 6=>x 15=.pointer (some ⟨gA,t * 7,none⟩)
 | 7=>x 16=.pointer (some ⟨gA,t * 7+3,none⟩)
 | 8=>x 17=.slice (some ⟨gI t,0,none⟩) iL cI
 | 9=>x 18=.int .i64 (c:Int)
 | 10=>x 19=.pointer (some ⟨gI t,c * 2,none⟩)
 | 11=>x 20=.agg #[.slice a ll cp,.int .i64 lv]
 | 12=>x 21=.int .i64 size
 | 13=>x 22=.pointer (some ⟨gA,f * 7,none⟩)
 | 14=>x 23=.pointer (some ⟨gA,f * 7,none⟩)
 | 15=>x 24=.pointer (some ⟨gA,f * 7+5,none⟩)
 | 16=>x 25=.slice (some ⟨gO f,0,none⟩) oL cO
 | 17=>x 26=.int .i64 (c:Int)
 | 18=>x 27=.pointer (some ⟨gO f,c,none⟩)
 | 19=>x 28=.slice b lo cq
 | 20=>∃ va vc,x 29=.tuple #[.agg #[.slice va rv.length vc,.int .i64 rL],.int .i64 0]∧w.ownsRow n0 3 1 (.slice va rv.length vc) rv.length (ivs rv)
 | 21=>∃ va vc,x 8=.tuple #[.agg #[.slice va rv.length vc,.int .i64 rL],.int .i64 0]∧w.ownsRow n0 3 1 (.slice va rv.length vc) rv.length (ivs rv)
 | 22=>∃ va vc,x 30=.agg #[.slice va rv.length vc,.int .i64 rL]∧w.ownsRow n0 3 1 (.slice va rv.length vc) rv.length (ivs rv)
 | 23=>x 31=.int .i64 0
 | 24=>x 32=.pointer (some ⟨gI t,c * 2,none⟩)
 | _=>True
def AF39 (x:Nat→Value):Act:={ tmps:=#[x 0,x 1,x 2,x 3,x 4,x 5,x 6,x 7,x 8,x 9,x 10,x 11,x 12,x 13,x 14,x 15,x 16,x 17,x 18,x 19,x 20,x 21,x 22,x 23,x 24,x 25,x 26,x 27,x 28,x 29,x 30,x 31,x 32,x 33,x 34,x 35,x 36,x 37,x 38],defers:=[] }
def BSDl (gA f t c:Nat) (size:Int) (gI gO:Nat→Nat) (iL cI oL cO:Nat) (a:Option Addr) (ll cp:Nat) (lv:Int) (b:Option Addr) (lo cq:Nat) (rv:List Int) (rL:Int) (x:Nat→Value):Prop:=x 0=.int .i64 (c:Int)∧x 1=.int .i64 size∧x 2=.pointer (some ⟨gA,f * 7,none⟩)∧x 3=.pointer (some ⟨gA,t * 7,none⟩)∧x 4=undef∧x 5=undef∧x 6=undef∧x 7=undef
theorem bsDl_upd {gA f t c:Nat} {size:Int} {gI gO:Nat→Nat} {iL cI oL cO:Nat} {a:Option Addr} {ll cp:Nat} {lv:Int} {b:Option Addr} {lo cq:Nat} {rv:List Int} {rL:Int} (x:Nat→Value) (s:Nat) (v:Value) (hs:0≠s∧1≠s∧2≠s∧3≠s∧4≠s∧5≠s∧6≠s∧7≠s) (h:BSDl gA f t c size gI gO iL cI oL cO a ll cp lv b lo cq rv rL x):BSDl gA f t c size gI gO iL cI oL cO a ll cp lv b lo cq rv rL (upd x s v):=by
 obtain ⟨q0,q1,q2,q3,q4,q5,q6,q7⟩:=hs
 obtain ⟨h0,h1,h2,h3,h4,h5,h6,h7⟩:=h
 exact ⟨(if_neg q0).trans h0,(if_neg q1).trans h1,(if_neg q2).trans h2,(if_neg q3).trans h3,(if_neg q4).trans h4,(if_neg q5).trans h5,(if_neg q6).trans h6,(if_neg q7).trans h7⟩
theorem fcDl_keep {gA f t c:Nat} {size:Int} {gI gO:Nat→Nat} {iL cI oL cO:Nat} {a:Option Addr} {ll cp:Nat} {lv:Int} {b:Option Addr} {lo cq:Nat} {rv:List Int} {rL:Int} {n0:Nat} (i:Nat) (x x':Nat→Value) (w w':World) (hb:Below w.heap.size w w') (hx:∀ j∈dODl i,x' (dSDl j)=x (dSDl j)) (h:FCDl gA f t c size gI gO iL cI oL cO a ll cp lv b lo cq rv rL n0 i x w):FCDl gA f t c size gI gO iL cI oL cO a ll cp lv b lo cq rv rL n0 i x' w':=by
 match i with
 | 0=>exact (hx 0 (by simp [dODl])).trans h
 | 1=>exact (hx 1 (by simp [dODl])).trans h
 | 2=>exact (hx 2 (by simp [dODl])).trans h
 | 3=>exact (hx 3 (by simp [dODl])).trans h
 | 4=>exact (hx 4 (by simp [dODl])).trans h
 | 5=>exact (hx 5 (by simp [dODl])).trans h
 | 6=>exact (hx 6 (by simp [dODl])).trans h
 | 7=>exact (hx 7 (by simp [dODl])).trans h
 | 8=>exact (hx 8 (by simp [dODl])).trans h
 | 9=>exact (hx 9 (by simp [dODl])).trans h
 | 10=>exact (hx 10 (by simp [dODl])).trans h
 | 11=>exact (hx 11 (by simp [dODl])).trans h
 | 12=>exact (hx 12 (by simp [dODl])).trans h
 | 13=>exact (hx 13 (by simp [dODl])).trans h
 | 14=>exact (hx 14 (by simp [dODl])).trans h
 | 15=>exact (hx 15 (by simp [dODl])).trans h
 | 16=>exact (hx 16 (by simp [dODl])).trans h
 | 17=>exact (hx 17 (by simp [dODl])).trans h
 | 18=>exact (hx 18 (by simp [dODl])).trans h
 | 19=>exact (hx 19 (by simp [dODl])).trans h
 | 20=>
  have e:x' 29=x 29:=hx 20 (by simp [dODl])
  obtain ⟨va,vc,h1,h2⟩:=h
  exact ⟨va,vc,e.trans h1,owns_below h2 hb⟩
 | 21=>
  have e:x' 8=x 8:=hx 21 (by simp [dODl])
  obtain ⟨va,vc,h1,h2⟩:=h
  exact ⟨va,vc,e.trans h1,owns_below h2 hb⟩
 | 22=>
  have e:x' 30=x 30:=hx 22 (by simp [dODl])
  obtain ⟨va,vc,h1,h2⟩:=h
  exact ⟨va,vc,e.trans h1,owns_below h2 hb⟩
 | 23=>exact (hx 23 (by simp [dODl])).trans h
 | 24=>exact (hx 24 (by simp [dODl])).trans h
 | n+25=>trivial
theorem dSDl_inj:∀ i,i<25→∀ j,j<25→i≠j→dSDl i≠dSDl j:=by decide
theorem dODl_lt:∀ i,i<25→∀ j∈dODl i,j<25:=by decide
set_option maxHeartbeats 2000000 in
theorem deliver_ok (X:Nat→Prop) (n0:Nat) (w:World) (gA n:Nat) (Ds:Nat→Dom) (As:Nat→DMem) (gI gO:Nat→Nat) (h:ClS X w gA n Ds As gI gO) (hX:∀ k,w.heap.size≤k→¬ X k) (hlo:∀ i,i<n→n0≤gI i∧n0≤gO i) (hn0:n0≤w.heap.size) (f t c:Nat) (size:Int) (hf:f<n) (ht:t<n) (hft:f≠t) (hc:c<(Ds t).ins.length) (hc':c<(Ds f).out.length)
  (h0:ckR (Ds t).ins[c].1 (Ds t).ins[c].2 size=0) (h1:allR (Ds f).out[c] 0 255=true) (hm:(Ds f).out[c].length≤140737488355328) :
  Calls Tryz.prog 75 #[.int .i64 c,.int .i64 size,.pointer (some ⟨gA,f * 7,none⟩),.pointer (some ⟨gA,t * 7,none⟩)] w fun e w'=>e=.returned (.tuple #[])∧ClS X w' gA n (putF (putF Ds t (getIn (Ds t) (Ds f) c size)) f (noOut (Ds f) c)) As gI gO∧Ext X w w'∧Below n0 w w'∧w'.heap[gA]? = w.heap[gA]? := by
 have hlI:=(hlo t ht).1
 have hlO:=(hlo f hf).2
 obtain ⟨cs,i1,i2,i3⟩:=(h.cl t ht).i
 obtain ⟨ds,o1,o2,o3⟩:=(h.cl f hf).o
 obtain ⟨a,cp,p1,p2,p3,p4,p5⟩:=i3 c hc
 obtain ⟨b,cq,q1,q2,q3,q4⟩:=o3 c hc'
 have t3:=(h.at_ t ht).c3
 have f5:=(h.at_ f hf).c5
 rw [(h.cl t ht).aI,Nat.zero_add] at t3
 rw [(h.cl f hf).aO,Nat.zero_add] at f5
 have hAl:gA<w.heap.size:=World.block_lt_of_cell? _ _ t3
 have r0:=i1.cell _ _ p1
 have r1:=i1.cell _ _ p2
 have s0:=o1.cell _ _ q1
 obtain ⟨⟨z1,z2⟩,z3,z4,z5,z6⟩:=ckR_ok h0
 obtain ⟨R,HR⟩:∃ R:Nat,Hid (size=(((Ds t).ins[c].1.length+R:Nat):Int)):=⟨(size - (Ds t).ins[c].1.length).toNat,hid (by omega)⟩
 have HG:Hid (getIn (Ds t) (Ds f) c size=⟨(Ds t).jobs,(Ds t).rel,(Ds t).nxt,(Ds t).ins.set c (comV (Ds t).ins[c].1 (Ds f).out[c] R (Ds f).out[c].length,comL (Ds t).ins[c].2 R (Ds f).out[c].length),(Ds t).tak,(Ds t).out,(Ds t).evs⟩):=by
  refine hid ?_
  unfold getIn
  rw [show (Ds t).ins.getD c ([],0)=(Ds t).ins[c] by simp [hc],show (Ds f).out.getD c []=(Ds f).out[c] by simp [hc'],show size.toNat - (Ds t).ins[c].1.length=R by have:=HR.out;omega]
 have CX:Hid (∀ wx,Below w.heap.size w wx→Calls Tryz.prog 106 #[.agg #[.slice a (Ds t).ins[c].1.length cp,.int .i64 (Ds t).ins[c].2],.int .i64 size,.slice b (Ds f).out[c].length cq] wx fun e w'=>∃ v,e=.returned (.tuple #[.agg #[v,.int .i64 (comL (Ds t).ins[c].2 R (Ds f).out[c].length)],.int .i64 0])∧w'.ownsRow wx.heap.size 3 1 v (comV (Ds t).ins[c].1 (Ds f).out[c] R (Ds f).out[c].length).length (ivs (comV (Ds t).ins[c].1 (Ds f).out[c] R (Ds f).out[c].length))∧Below wx.heap.size wx w'):=
  hid fun wx hbx=>commit_ok a (Ds t).ins[c].1 cp (Ds t).ins[c].2 size b (Ds f).out[c] cq wx (p3 wx (Ext.below hbx)) p5 (q2 wx (Ext.below hbx)) hm q3 h0 h1 R HR.out
 have hcI:(c:Int)<((Ds t).ins.length:Int):=by omega
 have hcO:(c:Int)<((Ds f).out.length:Int):=by omega
 have lI:=(h.cl t ht).lI
 have lO:=(h.cl f hf).lO
 have hne:=h.nIO t f ht hf
 have hnA:=(h.nA t ht).1
 have hnB:=(h.nA f hf).2
 generalize (Ds t).ins[c].1.length=ll at *
 generalize (Ds t).ins[c].2=lv at *
 generalize comV (Ds t).ins[c].1 (Ds f).out[c] R (Ds f).out[c].length=rv at *
 generalize comL lv R (Ds f).out[c].length=rL at *
 generalize (Ds f).out[c].length=lo at *
 have HH:=hid h
 have HX:=hid hX
 have HN:=hid hn0
 have HF:=hid (And.intro hft hc)
 have HS:Hid (∀ w',Below w.heap.size w w'→w'.cell? ⟨gA,t * 7+3,none⟩=some (.slice (some ⟨gI t,0,none⟩) (Ds t).ins.length (As t).cI)∧w'.cell? ⟨gA,f * 7+5,none⟩=some (.slice (some ⟨gO f,0,none⟩) (Ds f).out.length (As f).cO)∧w'.cell? ⟨gI t,c * 2,none⟩=some (.slice a ll cp)∧w'.cell? ⟨gI t,c * 2+1,none⟩=some (.int .i64 lv)∧w'.cell? ⟨gO f,c,none⟩=some (.slice b lo cq)):=hid fun w' hb'=>⟨bkeep hb' t3 lr,bkeep hb' f5 lr,bkeep hb' r0 lr,bkeep hb' r1 lr,bkeep hb' s0 lr⟩
 have HI:=hid i1
 have HO:=hid o1
 have hbz:Below w.heap.size w w.drew:=(Below.refl _ _).drew
 clear h hX hn0 hlo i1 i2 i3 o1 o2 o3 p1 p2 p3 p4 p5 q1 q2 q3 q4 z1 z2 z3 z4 z5 z6 h0 h1 hm hft hc hc'
 go_enter Tryz.func75,Tryz.ntmps75
 go_upto_region 0 with fail
 go_cut [] (fun wx=>∃ wy v,Below w.heap.size w wy∧wy.ownsRow w.heap.size 3 1 v rv.length (ivs rv)∧wx=(wy.setCell ⟨gI t,c * 2,none⟩ v).setCell ⟨gI t,c * 2+1,none⟩ (.int .i64 rL))
 case first=>
  refine wp_region_any (by kernel_rfl) ?_
  change wpAny _ _ _ _ _ _ _ (World.drew _)
  refine wpAny_invM (fun lB aB w'=>∃ x,aB=AF39 x∧BSDl gA f t c size gI gO (Ds t).ins.length (As t).cI (Ds f).out.length (As f).cO a ll cp lv b lo cq rv rL x∧(RPg (FCDl gA f t c size gI gO (Ds t).ins.length (As t).cI (Ds f).out.length (As f).cO a ll cp lv b lo cq rv rL w.heap.size) dODl 25 26 w.drew lB x w'∨((∀ i,i<26→i ∉ ([23]:List Nat)→lB.getD i false=true)∧lB.size=26∧(∃ va vc,x 8=.tuple #[.agg #[.slice va rv.length vc,.int .i64 rL],.int .i64 0])∧∃ wy va vc,Below w.heap.size w wy∧wy.ownsRow w.heap.size 3 1 (.slice va rv.length vc) rv.length (ivs rv)∧w'=(wy.setCell ⟨gI t,c * 2,none⟩ (.slice va rv.length vc)).setCell ⟨gI t,c * 2+1,none⟩ (.int .i64 rL)))) (by kernel_rfl) ?step ?fin _ _ _ _ rfl (by decide) ?start
  case start=>exact ex_frame _ rfl ⟨⟨rfl,rfl,rfl,rfl,rfl,rfl,rfl,rfl⟩,.inl ⟨rfl,Below.refl _ _,fun i hi=>by simp [Array.getD_eq_getD_getElem?,Array.getElem?_replicate];split <;> simp,fun i h=>absurd h (by simp [Array.getD_eq_getD_getElem?,Array.getElem?_replicate];split <;> simp),fun i h=>absurd h (by simp [Array.getD_eq_getD_getElem?,Array.getElem?_replicate];split <;> simp)⟩⟩
  case step=>
   intro lB aB w2 iB oB h ho hl hdep K' hK
   have hi:iB<26:=by
    have:=(Array.getElem?_eq_some_iff.1 ho).1
    simpa using this
   obtain ⟨x,rfl,hbs,h⟩:=h
   have hcs:iB=0∨iB=1∨iB=2∨iB=3∨iB=4∨iB=5∨iB=6∨iB=7∨iB=8∨iB=9∨iB=10∨iB=11∨iB=12∨iB=13∨iB=14∨iB=15∨iB=16∨iB=17∨iB=18∨iB=19∨iB=20∨iB=21∨iB=22∨iB=23∨iB=24∨iB=25:=by omega
   rcases hcs with rfl|rfl|rfl|rfl|rfl|rfl|rfl|rfl|rfl|rfl|rfl|rfl|rfl|rfl|rfl|rfl|rfl|rfl|rfl|rfl|rfl|rfl|rfl|rfl|rfl|rfl
   ·simp only [List.getElem?_toArray,List.getElem?_cons_zero,Option.some.injEq] at ho
    subst ho
    rcases h with h|⟨hall,hlsz,hdone⟩
    case inr=>rw [hall 0 (by decide) (by decide)] at hl;cases hl
    have hbq:=hbs
    obtain ⟨b0,b1,b2,b3,b4,b5,b6,b7⟩:=hbq
    clear hdep
    simp only [AF39,b0,b1,b2,b3,b4,b5,b6,b7]
    go_simp
    exact hK.out _ _ ⟨upd x 9 (.pointer (some ⟨gA,t * 7,none⟩)),(by simp only [AF39,upd,reduceIte,Nat.reduceEqDiff,b0,b1,b2,b3,b4,b5,b6,b7]),bsDl_upd _ _ _ (by decide) hbs,.inl (rpg_next fcDl_keep dSDl_inj dODl_lt h 0 _ (by decide) hl (Below.refl _ _) rfl (fun j hj hne=>absurd hj (by simp [dODl,hne])))⟩
   ·simp only [List.getElem?_toArray,List.getElem?_cons_zero,List.getElem?_cons_succ,Option.some.injEq] at ho
    subst ho
    rcases h with h|⟨hall,hlsz,hdone⟩
    case inr=>rw [hall 1 (by decide) (by decide)] at hl;cases hl
    have hbq:=hbs
    obtain ⟨b0,b1,b2,b3,b4,b5,b6,b7⟩:=hbq
    have hd0:=dep_of hdep 0 (by kernel_rfl)
    have f0:x 9=.pointer (some ⟨gA,t * 7,none⟩):=h.fc 0 hd0
    clear hdep
    simp only [AF39,b0,b1,b2,b3,b4,b5,b6,b7,f0]
    go_simp
    exact hK.out _ _ ⟨upd x 10 (.pointer (some ⟨gA,t * 7,none⟩)),(by simp only [AF39,upd,reduceIte,Nat.reduceEqDiff,b0,b1,b2,b3,b4,b5,b6,b7,f0]),bsDl_upd _ _ _ (by decide) hbs,.inl (rpg_next fcDl_keep dSDl_inj dODl_lt h 1 _ (by decide) hl (Below.refl _ _) rfl (fun j hj hne=>absurd hj (by simp [dODl,hne])))⟩
   ·simp only [List.getElem?_toArray,List.getElem?_cons_zero,List.getElem?_cons_succ,Option.some.injEq] at ho
    subst ho
    rcases h with h|⟨hall,hlsz,hdone⟩
    case inr=>rw [hall 2 (by decide) (by decide)] at hl;cases hl
    have hbq:=hbs
    obtain ⟨b0,b1,b2,b3,b4,b5,b6,b7⟩:=hbq
    have hd1:=dep_of hdep 1 (by kernel_rfl)
    have f1:x 10=.pointer (some ⟨gA,t * 7,none⟩):=h.fc 1 hd1
    clear hdep
    simp only [AF39,b0,b1,b2,b3,b4,b5,b6,b7,f1]
    go_simp
    exact hK.out _ _ ⟨upd x 11 (.pointer (some ⟨gA,t * 7+3,none⟩)),(by simp only [AF39,upd,reduceIte,Nat.reduceEqDiff,b0,b1,b2,b3,b4,b5,b6,b7,f1]),bsDl_upd _ _ _ (by decide) hbs,.inl (rpg_next fcDl_keep dSDl_inj dODl_lt h 2 _ (by decide) hl (Below.refl _ _) rfl (fun j hj hne=>absurd hj (by simp [dODl,hne])))⟩
   ·simp only [List.getElem?_toArray,List.getElem?_cons_zero,List.getElem?_cons_succ,Option.some.injEq] at ho
    subst ho
    rcases h with h|⟨hall,hlsz,hdone⟩
    case inr=>rw [hall 3 (by decide) (by decide)] at hl;cases hl
    have hbq:=hbs
    obtain ⟨b0,b1,b2,b3,b4,b5,b6,b7⟩:=hbq
    have hd2:=dep_of hdep 2 (by kernel_rfl)
    have f2:x 11=.pointer (some ⟨gA,t * 7+3,none⟩):=h.fc 2 hd2
    clear hdep
    obtain ⟨y1,y2,y3,y4,y5⟩:=HS.out _ (btrans hbz h.b)
    simp only [AF39,b0,b1,b2,b3,b4,b5,b6,b7,f2]
    go_simp
    exact hK.out _ _ ⟨upd x 12 (.slice (some ⟨gI t,0,none⟩) (Ds t).ins.length (As t).cI),(by simp only [AF39,upd,reduceIte,Nat.reduceEqDiff,b0,b1,b2,b3,b4,b5,b6,b7,f2]),bsDl_upd _ _ _ (by decide) hbs,.inl (rpg_next fcDl_keep dSDl_inj dODl_lt h 3 _ (by decide) hl (Below.refl _ _) rfl (fun j hj hne=>absurd hj (by simp [dODl,hne])))⟩
   ·simp only [List.getElem?_toArray,List.getElem?_cons_zero,List.getElem?_cons_succ,Option.some.injEq] at ho
    subst ho
    rcases h with h|⟨hall,hlsz,hdone⟩
    case inr=>rw [hall 4 (by decide) (by decide)] at hl;cases hl
    have hbq:=hbs
    obtain ⟨b0,b1,b2,b3,b4,b5,b6,b7⟩:=hbq
    clear hdep
    simp only [AF39,b0,b1,b2,b3,b4,b5,b6,b7]
    go_simp
    exact hK.out _ _ ⟨upd x 13 (.int .i64 (c:Int)),(by simp only [AF39,upd,reduceIte,Nat.reduceEqDiff,b0,b1,b2,b3,b4,b5,b6,b7]),bsDl_upd _ _ _ (by decide) hbs,.inl (rpg_next fcDl_keep dSDl_inj dODl_lt h 4 _ (by decide) hl (Below.refl _ _) rfl (fun j hj hne=>absurd hj (by simp [dODl,hne])))⟩
   ·simp only [List.getElem?_toArray,List.getElem?_cons_zero,List.getElem?_cons_succ,Option.some.injEq] at ho
    subst ho
    rcases h with h|⟨hall,hlsz,hdone⟩
    case inr=>rw [hall 5 (by decide) (by decide)] at hl;cases hl
    have hbq:=hbs
    obtain ⟨b0,b1,b2,b3,b4,b5,b6,b7⟩:=hbq
    clear hdep
    simp only [AF39,b0,b1,b2,b3,b4,b5,b6,b7]
    go_simp
    exact hK.out _ _ ⟨upd x 14 (.pointer (some ⟨gA,t * 7,none⟩)),(by simp only [AF39,upd,reduceIte,Nat.reduceEqDiff,b0,b1,b2,b3,b4,b5,b6,b7]),bsDl_upd _ _ _ (by decide) hbs,.inl (rpg_next fcDl_keep dSDl_inj dODl_lt h 5 _ (by decide) hl (Below.refl _ _) rfl (fun j hj hne=>absurd hj (by simp [dODl,hne])))⟩
   ·simp only [List.getElem?_toArray,List.getElem?_cons_zero,List.getElem?_cons_succ,Option.some.injEq] at ho
    subst ho
    rcases h with h|⟨hall,hlsz,hdone⟩
    case inr=>rw [hall 6 (by decide) (by decide)] at hl;cases hl
    have hbq:=hbs
    obtain ⟨b0,b1,b2,b3,b4,b5,b6,b7⟩:=hbq
    have hd5:=dep_of hdep 5 (by kernel_rfl)
    have f5:x 14=.pointer (some ⟨gA,t * 7,none⟩):=h.fc 5 hd5
    clear hdep
    simp only [AF39,b0,b1,b2,b3,b4,b5,b6,b7,f5]
    go_simp
    exact hK.out _ _ ⟨upd x 15 (.pointer (some ⟨gA,t * 7,none⟩)),(by simp only [AF39,upd,reduceIte,Nat.reduceEqDiff,b0,b1,b2,b3,b4,b5,b6,b7,f5]),bsDl_upd _ _ _ (by decide) hbs,.inl (rpg_next fcDl_keep dSDl_inj dODl_lt h 6 _ (by decide) hl (Below.refl _ _) rfl (fun j hj hne=>absurd hj (by simp [dODl,hne])))⟩
   ·simp only [List.getElem?_toArray,List.getElem?_cons_zero,List.getElem?_cons_succ,Option.some.injEq] at ho
    subst ho
    rcases h with h|⟨hall,hlsz,hdone⟩
    case inr=>rw [hall 7 (by decide) (by decide)] at hl;cases hl
    have hbq:=hbs
    obtain ⟨b0,b1,b2,b3,b4,b5,b6,b7⟩:=hbq
    have hd6:=dep_of hdep 6 (by kernel_rfl)
    have f6:x 15=.pointer (some ⟨gA,t * 7,none⟩):=h.fc 6 hd6
    clear hdep
    simp only [AF39,b0,b1,b2,b3,b4,b5,b6,b7,f6]
    go_simp
    exact hK.out _ _ ⟨upd x 16 (.pointer (some ⟨gA,t * 7+3,none⟩)),(by simp only [AF39,upd,reduceIte,Nat.reduceEqDiff,b0,b1,b2,b3,b4,b5,b6,b7,f6]),bsDl_upd _ _ _ (by decide) hbs,.inl (rpg_next fcDl_keep dSDl_inj dODl_lt h 7 _ (by decide) hl (Below.refl _ _) rfl (fun j hj hne=>absurd hj (by simp [dODl,hne])))⟩
   ·simp only [List.getElem?_toArray,List.getElem?_cons_zero,List.getElem?_cons_succ,Option.some.injEq] at ho
    subst ho
    rcases h with h|⟨hall,hlsz,hdone⟩
    case inr=>rw [hall 8 (by decide) (by decide)] at hl;cases hl
    have hbq:=hbs
    obtain ⟨b0,b1,b2,b3,b4,b5,b6,b7⟩:=hbq
    have hd7:=dep_of hdep 7 (by kernel_rfl)
    have f7:x 16=.pointer (some ⟨gA,t * 7+3,none⟩):=h.fc 7 hd7
    clear hdep
    obtain ⟨y1,y2,y3,y4,y5⟩:=HS.out _ (btrans hbz h.b)
    simp only [AF39,b0,b1,b2,b3,b4,b5,b6,b7,f7]
    go_simp
    exact hK.out _ _ ⟨upd x 17 (.slice (some ⟨gI t,0,none⟩) (Ds t).ins.length (As t).cI),(by simp only [AF39,upd,reduceIte,Nat.reduceEqDiff,b0,b1,b2,b3,b4,b5,b6,b7,f7]),bsDl_upd _ _ _ (by decide) hbs,.inl (rpg_next fcDl_keep dSDl_inj dODl_lt h 8 _ (by decide) hl (Below.refl _ _) rfl (fun j hj hne=>absurd hj (by simp [dODl,hne])))⟩
   ·simp only [List.getElem?_toArray,List.getElem?_cons_zero,List.getElem?_cons_succ,Option.some.injEq] at ho
    subst ho
    rcases h with h|⟨hall,hlsz,hdone⟩
    case inr=>rw [hall 9 (by decide) (by decide)] at hl;cases hl
    have hbq:=hbs
    obtain ⟨b0,b1,b2,b3,b4,b5,b6,b7⟩:=hbq
    clear hdep
    simp only [AF39,b0,b1,b2,b3,b4,b5,b6,b7]
    go_simp
    exact hK.out _ _ ⟨upd x 18 (.int .i64 (c:Int)),(by simp only [AF39,upd,reduceIte,Nat.reduceEqDiff,b0,b1,b2,b3,b4,b5,b6,b7]),bsDl_upd _ _ _ (by decide) hbs,.inl (rpg_next fcDl_keep dSDl_inj dODl_lt h 9 _ (by decide) hl (Below.refl _ _) rfl (fun j hj hne=>absurd hj (by simp [dODl,hne])))⟩
   ·simp only [List.getElem?_toArray,List.getElem?_cons_zero,List.getElem?_cons_succ,Option.some.injEq] at ho
    subst ho
    rcases h with h|⟨hall,hlsz,hdone⟩
    case inr=>rw [hall 10 (by decide) (by decide)] at hl;cases hl
    have hbq:=hbs
    obtain ⟨b0,b1,b2,b3,b4,b5,b6,b7⟩:=hbq
    have hd8:=dep_of hdep 8 (by kernel_rfl)
    have f8:x 17=.slice (some ⟨gI t,0,none⟩) (Ds t).ins.length (As t).cI:=h.fc 8 hd8
    have hd9:=dep_of hdep 9 (by kernel_rfl)
    have f9:x 18=.int .i64 (c:Int):=h.fc 9 hd9
    clear hdep
    simp only [AF39,b0,b1,b2,b3,b4,b5,b6,b7,f8,f9]
    go_simp
    exact hK.out _ _ ⟨upd x 19 (.pointer (some ⟨gI t,c * 2,none⟩)),(by simp only [AF39,upd,reduceIte,Nat.reduceEqDiff,b0,b1,b2,b3,b4,b5,b6,b7,f8,f9]),bsDl_upd _ _ _ (by decide) hbs,.inl (rpg_next fcDl_keep dSDl_inj dODl_lt h 10 _ (by decide) hl (Below.refl _ _) rfl (fun j hj hne=>absurd hj (by simp [dODl,hne])))⟩
   ·simp only [List.getElem?_toArray,List.getElem?_cons_zero,List.getElem?_cons_succ,Option.some.injEq] at ho
    subst ho
    rcases h with h|⟨hall,hlsz,hdone⟩
    case inr=>rw [hall 11 (by decide) (by decide)] at hl;cases hl
    have hbq:=hbs
    obtain ⟨b0,b1,b2,b3,b4,b5,b6,b7⟩:=hbq
    have hd10:=dep_of hdep 10 (by kernel_rfl)
    have f10:x 19=.pointer (some ⟨gI t,c * 2,none⟩):=h.fc 10 hd10
    clear hdep
    obtain ⟨y1,y2,y3,y4,y5⟩:=HS.out _ (btrans hbz h.b)
    have HT:∀ j u,[Value.slice a ll cp,.int .i64 lv][j]? = some u→w2.cell? ⟨gI t,c * 2+j,none⟩=some u:=fun j u hu=>by
     match j,hu with
     | 0,hu=>cases hu;exact y3
     | 1,hu=>cases hu;exact y4
    simp only [AF39,b0,b1,b2,b3,b4,b5,b6,b7,f10]
    refine step_wanted (by rfl) ?_
    refine wp_load_mid 90 _ rfl (gI t) (c * 2) (by rfl) [.slice a ll cp,.int .i64 lv] _ (HT) Tryz.underlying90 rfl (by kernel_rfl) ?_
    refine hK.out _ _ ⟨upd x 20 (.agg #[.slice a ll cp,.int .i64 lv]),?_,bsDl_upd _ _ _ (by decide) hbs,.inl (rpg_next fcDl_keep dSDl_inj dODl_lt h 11 _ (by decide) hl (Below.refl _ _) rfl (fun j hj hne=>absurd hj (by simp [dODl,hne])))⟩
    simp only [Act.put,List.setIfInBounds_toArray,List.set_cons_zero,List.set_cons_succ,AF39,upd,reduceIte,Nat.reduceEqDiff,b0,b1,b2,b3,b4,b5,b6,b7,f10]
   ·simp only [List.getElem?_toArray,List.getElem?_cons_zero,List.getElem?_cons_succ,Option.some.injEq] at ho
    subst ho
    rcases h with h|⟨hall,hlsz,hdone⟩
    case inr=>rw [hall 12 (by decide) (by decide)] at hl;cases hl
    have hbq:=hbs
    obtain ⟨b0,b1,b2,b3,b4,b5,b6,b7⟩:=hbq
    clear hdep
    simp only [AF39,b0,b1,b2,b3,b4,b5,b6,b7]
    go_simp
    exact hK.out _ _ ⟨upd x 21 (.int .i64 size),(by simp only [AF39,upd,reduceIte,Nat.reduceEqDiff,b0,b1,b2,b3,b4,b5,b6,b7]),bsDl_upd _ _ _ (by decide) hbs,.inl (rpg_next fcDl_keep dSDl_inj dODl_lt h 12 _ (by decide) hl (Below.refl _ _) rfl (fun j hj hne=>absurd hj (by simp [dODl,hne])))⟩
   ·simp only [List.getElem?_toArray,List.getElem?_cons_zero,List.getElem?_cons_succ,Option.some.injEq] at ho
    subst ho
    rcases h with h|⟨hall,hlsz,hdone⟩
    case inr=>rw [hall 13 (by decide) (by decide)] at hl;cases hl
    have hbq:=hbs
    obtain ⟨b0,b1,b2,b3,b4,b5,b6,b7⟩:=hbq
    clear hdep
    simp only [AF39,b0,b1,b2,b3,b4,b5,b6,b7]
    go_simp
    exact hK.out _ _ ⟨upd x 22 (.pointer (some ⟨gA,f * 7,none⟩)),(by simp only [AF39,upd,reduceIte,Nat.reduceEqDiff,b0,b1,b2,b3,b4,b5,b6,b7]),bsDl_upd _ _ _ (by decide) hbs,.inl (rpg_next fcDl_keep dSDl_inj dODl_lt h 13 _ (by decide) hl (Below.refl _ _) rfl (fun j hj hne=>absurd hj (by simp [dODl,hne])))⟩
   ·simp only [List.getElem?_toArray,List.getElem?_cons_zero,List.getElem?_cons_succ,Option.some.injEq] at ho
    subst ho
    rcases h with h|⟨hall,hlsz,hdone⟩
    case inr=>rw [hall 14 (by decide) (by decide)] at hl;cases hl
    have hbq:=hbs
    obtain ⟨b0,b1,b2,b3,b4,b5,b6,b7⟩:=hbq
    have hd13:=dep_of hdep 13 (by kernel_rfl)
    have f13:x 22=.pointer (some ⟨gA,f * 7,none⟩):=h.fc 13 hd13
    clear hdep
    simp only [AF39,b0,b1,b2,b3,b4,b5,b6,b7,f13]
    go_simp
    exact hK.out _ _ ⟨upd x 23 (.pointer (some ⟨gA,f * 7,none⟩)),(by simp only [AF39,upd,reduceIte,Nat.reduceEqDiff,b0,b1,b2,b3,b4,b5,b6,b7,f13]),bsDl_upd _ _ _ (by decide) hbs,.inl (rpg_next fcDl_keep dSDl_inj dODl_lt h 14 _ (by decide) hl (Below.refl _ _) rfl (fun j hj hne=>absurd hj (by simp [dODl,hne])))⟩
   ·simp only [List.getElem?_toArray,List.getElem?_cons_zero,List.getElem?_cons_succ,Option.some.injEq] at ho
    subst ho
    rcases h with h|⟨hall,hlsz,hdone⟩
    case inr=>rw [hall 15 (by decide) (by decide)] at hl;cases hl
    have hbq:=hbs
    obtain ⟨b0,b1,b2,b3,b4,b5,b6,b7⟩:=hbq
    have hd14:=dep_of hdep 14 (by kernel_rfl)
    have f14:x 23=.pointer (some ⟨gA,f * 7,none⟩):=h.fc 14 hd14
    clear hdep
    simp only [AF39,b0,b1,b2,b3,b4,b5,b6,b7,f14]
    go_simp
    exact hK.out _ _ ⟨upd x 24 (.pointer (some ⟨gA,f * 7+5,none⟩)),(by simp only [AF39,upd,reduceIte,Nat.reduceEqDiff,b0,b1,b2,b3,b4,b5,b6,b7,f14]),bsDl_upd _ _ _ (by decide) hbs,.inl (rpg_next fcDl_keep dSDl_inj dODl_lt h 15 _ (by decide) hl (Below.refl _ _) rfl (fun j hj hne=>absurd hj (by simp [dODl,hne])))⟩
   ·simp only [List.getElem?_toArray,List.getElem?_cons_zero,List.getElem?_cons_succ,Option.some.injEq] at ho
    subst ho
    rcases h with h|⟨hall,hlsz,hdone⟩
    case inr=>rw [hall 16 (by decide) (by decide)] at hl;cases hl
    have hbq:=hbs
    obtain ⟨b0,b1,b2,b3,b4,b5,b6,b7⟩:=hbq
    have hd15:=dep_of hdep 15 (by kernel_rfl)
    have f15:x 24=.pointer (some ⟨gA,f * 7+5,none⟩):=h.fc 15 hd15
    clear hdep
    obtain ⟨y1,y2,y3,y4,y5⟩:=HS.out _ (btrans hbz h.b)
    simp only [AF39,b0,b1,b2,b3,b4,b5,b6,b7,f15]
    go_simp
    exact hK.out _ _ ⟨upd x 25 (.slice (some ⟨gO f,0,none⟩) (Ds f).out.length (As f).cO),(by simp only [AF39,upd,reduceIte,Nat.reduceEqDiff,b0,b1,b2,b3,b4,b5,b6,b7,f15]),bsDl_upd _ _ _ (by decide) hbs,.inl (rpg_next fcDl_keep dSDl_inj dODl_lt h 16 _ (by decide) hl (Below.refl _ _) rfl (fun j hj hne=>absurd hj (by simp [dODl,hne])))⟩
   ·simp only [List.getElem?_toArray,List.getElem?_cons_zero,List.getElem?_cons_succ,Option.some.injEq] at ho
    subst ho
    rcases h with h|⟨hall,hlsz,hdone⟩
    case inr=>rw [hall 17 (by decide) (by decide)] at hl;cases hl
    have hbq:=hbs
    obtain ⟨b0,b1,b2,b3,b4,b5,b6,b7⟩:=hbq
    clear hdep
    simp only [AF39,b0,b1,b2,b3,b4,b5,b6,b7]
    go_simp
    exact hK.out _ _ ⟨upd x 26 (.int .i64 (c:Int)),(by simp only [AF39,upd,reduceIte,Nat.reduceEqDiff,b0,b1,b2,b3,b4,b5,b6,b7]),bsDl_upd _ _ _ (by decide) hbs,.inl (rpg_next fcDl_keep dSDl_inj dODl_lt h 17 _ (by decide) hl (Below.refl _ _) rfl (fun j hj hne=>absurd hj (by simp [dODl,hne])))⟩
   ·simp only [List.getElem?_toArray,List.getElem?_cons_zero,List.getElem?_cons_succ,Option.some.injEq] at ho
    subst ho
    rcases h with h|⟨hall,hlsz,hdone⟩
    case inr=>rw [hall 18 (by decide) (by decide)] at hl;cases hl
    have hbq:=hbs
    obtain ⟨b0,b1,b2,b3,b4,b5,b6,b7⟩:=hbq
    have hd16:=dep_of hdep 16 (by kernel_rfl)
    have f16:x 25=.slice (some ⟨gO f,0,none⟩) (Ds f).out.length (As f).cO:=h.fc 16 hd16
    have hd17:=dep_of hdep 17 (by kernel_rfl)
    have f17:x 26=.int .i64 (c:Int):=h.fc 17 hd17
    clear hdep
    simp only [AF39,b0,b1,b2,b3,b4,b5,b6,b7,f16,f17]
    go_simp
    exact hK.out _ _ ⟨upd x 27 (.pointer (some ⟨gO f,c,none⟩)),(by simp only [AF39,upd,reduceIte,Nat.reduceEqDiff,b0,b1,b2,b3,b4,b5,b6,b7,f16,f17]),bsDl_upd _ _ _ (by decide) hbs,.inl (rpg_next fcDl_keep dSDl_inj dODl_lt h 18 _ (by decide) hl (Below.refl _ _) rfl (fun j hj hne=>absurd hj (by simp [dODl,hne])))⟩
   ·simp only [List.getElem?_toArray,List.getElem?_cons_zero,List.getElem?_cons_succ,Option.some.injEq] at ho
    subst ho
    rcases h with h|⟨hall,hlsz,hdone⟩
    case inr=>rw [hall 19 (by decide) (by decide)] at hl;cases hl
    have hbq:=hbs
    obtain ⟨b0,b1,b2,b3,b4,b5,b6,b7⟩:=hbq
    have hd18:=dep_of hdep 18 (by kernel_rfl)
    have f18:x 27=.pointer (some ⟨gO f,c,none⟩):=h.fc 18 hd18
    clear hdep
    obtain ⟨y1,y2,y3,y4,y5⟩:=HS.out _ (btrans hbz h.b)
    simp only [AF39,b0,b1,b2,b3,b4,b5,b6,b7,f18]
    go_simp
    exact hK.out _ _ ⟨upd x 28 (.slice b lo cq),(by simp only [AF39,upd,reduceIte,Nat.reduceEqDiff,b0,b1,b2,b3,b4,b5,b6,b7,f18]),bsDl_upd _ _ _ (by decide) hbs,.inl (rpg_next fcDl_keep dSDl_inj dODl_lt h 19 _ (by decide) hl (Below.refl _ _) rfl (fun j hj hne=>absurd hj (by simp [dODl,hne])))⟩
   ·simp only [List.getElem?_toArray,List.getElem?_cons_zero,List.getElem?_cons_succ,Option.some.injEq] at ho
    subst ho
    rcases h with h|⟨hall,hlsz,hdone⟩
    case inr=>rw [hall 20 (by decide) (by decide)] at hl;cases hl
    have hbq:=hbs
    obtain ⟨b0,b1,b2,b3,b4,b5,b6,b7⟩:=hbq
    have hd11:=dep_of hdep 11 (by kernel_rfl)
    have f11:x 20=.agg #[.slice a ll cp,.int .i64 lv]:=h.fc 11 hd11
    have hd12:=dep_of hdep 12 (by kernel_rfl)
    have f12:x 21=.int .i64 size:=h.fc 12 hd12
    have hd19:=dep_of hdep 19 (by kernel_rfl)
    have f19:x 28=.slice b lo cq:=h.fc 19 hd19
    clear hdep
    have hsz:=h.b.size
    simp only [AF39,b0,b1,b2,b3,b4,b5,b6,b7,f11,f12,f19]
    go_simp
    refine Calls.mono (CX.out _ (btrans hbz h.b)) ?_
    rintro e w3 ⟨v,rfl,ho2,hb2⟩
    obtain ⟨va,vc,rfl,_⟩:=owns_cells ho2
    exact hK.out _ _ ⟨upd x 29 (.tuple #[.agg #[.slice va rv.length vc,.int .i64 rL],.int .i64 0]),(by simp only [AF39,upd,reduceIte,Nat.reduceEqDiff,b0,b1,b2,b3,b4,b5,b6,b7,f11,f12,f19]),bsDl_upd _ _ _ (by decide) hbs,.inl (rpg_next fcDl_keep dSDl_inj dODl_lt h 20 _ (by decide) hl hb2 ⟨va,vc,rfl,ownsx_mono ho2 hsz⟩ (fun j hj hne=>absurd hj (by simp [dODl,hne])))⟩
   ·simp only [List.getElem?_toArray,List.getElem?_cons_zero,List.getElem?_cons_succ,Option.some.injEq] at ho
    subst ho
    rcases h with h|⟨hall,hlsz,hdone⟩
    case inr=>rw [hall 21 (by decide) (by decide)] at hl;cases hl
    have hbq:=hbs
    obtain ⟨b0,b1,b2,b3,b4,b5,b6,b7⟩:=hbq
    have hd20:=dep_of hdep 20 (by kernel_rfl)
    obtain ⟨va20,vc20,f20,e20⟩:=h.fc 20 hd20
    clear hdep
    simp only [AF39,b0,b1,b2,b3,b4,b5,b6,b7,f20]
    go_simp
    exact hK.out _ _ ⟨upd x 8 (.tuple #[.agg #[.slice va20 rv.length vc20,.int .i64 rL],.int .i64 0]),(by simp only [AF39,upd,reduceIte,Nat.reduceEqDiff,b0,b1,b2,b3,b4,b5,b6,b7,f20]),bsDl_upd _ _ _ (by decide) hbs,.inl (rpg_next fcDl_keep dSDl_inj dODl_lt h 21 _ (by decide) hl (Below.refl _ _) ⟨va20,vc20,rfl,e20⟩ (fun j hj hne=>absurd hj (by simp [dODl,hne])))⟩
   ·simp only [List.getElem?_toArray,List.getElem?_cons_zero,List.getElem?_cons_succ,Option.some.injEq] at ho
    subst ho
    rcases h with h|⟨hall,hlsz,hdone⟩
    case inr=>rw [hall 22 (by decide) (by decide)] at hl;cases hl
    have hbq:=hbs
    obtain ⟨b0,b1,b2,b3,b4,b5,b6,b7⟩:=hbq
    have hd21:=dep_of hdep 21 (by kernel_rfl)
    obtain ⟨va21,vc21,f21,e21⟩:=h.fc 21 hd21
    clear hdep
    simp only [AF39,b0,b1,b2,b3,b4,b5,b6,b7,f21]
    go_simp
    exact hK.out _ _ ⟨upd x 30 (.agg #[.slice va21 rv.length vc21,.int .i64 rL]),(by simp only [AF39,upd,reduceIte,Nat.reduceEqDiff,b0,b1,b2,b3,b4,b5,b6,b7,f21]),bsDl_upd _ _ _ (by decide) hbs,.inl (rpg_next fcDl_keep dSDl_inj dODl_lt h 22 _ (by decide) hl (Below.refl _ _) ⟨va21,vc21,rfl,e21⟩ (fun j hj hne=>absurd hj (by simp [dODl,hne])))⟩
   ·simp only [List.getElem?_toArray,List.getElem?_cons_zero,List.getElem?_cons_succ,Option.some.injEq] at ho
    subst ho
    rcases h with h|⟨hall,hlsz,hdone⟩
    case inr=>
     obtain ⟨⟨va21,vc21,f21⟩,hrest⟩:=hdone
     have hbq:=hbs
     obtain ⟨b0,b1,b2,b3,b4,b5,b6,b7⟩:=hbq
     clear hdep
     simp only [AF39,b0,b1,b2,b3,b4,b5,b6,b7,f21]
     go_simp
     exact hK.out _ _ ⟨upd x 31 (.int .i64 0),(by simp only [AF39,upd,reduceIte,Nat.reduceEqDiff,b0,b1,b2,b3,b4,b5,b6,b7,f21]),bsDl_upd _ _ _ (by decide) hbs,.inr ⟨fun j hj hn=>getD_set_true (hall j hj hn),by rw [Array.size_setIfInBounds];exact hlsz,⟨va21,vc21,f21⟩,hrest⟩⟩
    have hbq:=hbs
    obtain ⟨b0,b1,b2,b3,b4,b5,b6,b7⟩:=hbq
    have hd21:=dep_of hdep 21 (by kernel_rfl)
    obtain ⟨va21,vc21,f21,e21⟩:=h.fc 21 hd21
    clear hdep
    simp only [AF39,b0,b1,b2,b3,b4,b5,b6,b7,f21]
    go_simp
    exact hK.out _ _ ⟨upd x 31 (.int .i64 0),(by simp only [AF39,upd,reduceIte,Nat.reduceEqDiff,b0,b1,b2,b3,b4,b5,b6,b7,f21]),bsDl_upd _ _ _ (by decide) hbs,.inl (rpg_next fcDl_keep dSDl_inj dODl_lt h 23 _ (by decide) hl (Below.refl _ _) rfl (fun j hj hne=>absurd hj (by simp [dODl,hne])))⟩
   ·simp only [List.getElem?_toArray,List.getElem?_cons_zero,List.getElem?_cons_succ,Option.some.injEq] at ho
    subst ho
    rcases h with h|⟨hall,hlsz,hdone⟩
    case inr=>rw [hall 24 (by decide) (by decide)] at hl;cases hl
    have hbq:=hbs
    obtain ⟨b0,b1,b2,b3,b4,b5,b6,b7⟩:=hbq
    have hd3:=dep_of hdep 3 (by kernel_rfl)
    have f3:x 12=.slice (some ⟨gI t,0,none⟩) (Ds t).ins.length (As t).cI:=h.fc 3 hd3
    have hd4:=dep_of hdep 4 (by kernel_rfl)
    have f4:x 13=.int .i64 (c:Int):=h.fc 4 hd4
    clear hdep
    simp only [AF39,b0,b1,b2,b3,b4,b5,b6,b7,f3,f4]
    go_simp
    exact hK.out _ _ ⟨upd x 32 (.pointer (some ⟨gI t,c * 2,none⟩)),(by simp only [AF39,upd,reduceIte,Nat.reduceEqDiff,b0,b1,b2,b3,b4,b5,b6,b7,f3,f4]),bsDl_upd _ _ _ (by decide) hbs,.inl (rpg_next fcDl_keep dSDl_inj dODl_lt h 24 _ (by decide) hl (Below.refl _ _) rfl (fun j hj hne=>absurd hj (by simp [dODl,hne])))⟩
   ·simp only [List.getElem?_toArray,List.getElem?_cons_zero,List.getElem?_cons_succ,Option.some.injEq] at ho
    subst ho
    rcases h with h|⟨hall,hlsz,hdone⟩
    case inr=>rw [hall 25 (by decide) (by decide)] at hl;cases hl
    have hbq:=hbs
    obtain ⟨b0,b1,b2,b3,b4,b5,b6,b7⟩:=hbq
    have hd24:=dep_of hdep 24 (by kernel_rfl)
    have f24:x 32=.pointer (some ⟨gI t,c * 2,none⟩):=h.fc 24 hd24
    have hd22:=dep_of hdep 22 (by kernel_rfl)
    obtain ⟨va22,vc22,f22,e22⟩:=h.fc 22 hd22
    have HALL:Hid (∀ j,j<26→j ∉ ([23]:List Nat)→(lB.setIfInBounds 25 true).getD j false=true):=hid (all_setX h.sz (by decide) (all_depX [23] 25 hdep (by kernel_rfl)))
    have hd21:=dep_of hdep 21 (by kernel_rfl)
    obtain ⟨va21,vc21,f21,-⟩:=h.fc 21 hd21
    have F21:=hid f21
    have HH2:=hid h
    have F24:=hid f24
    have F22:=hid f22
    have hB2:=btrans hbz h.b
    obtain ⟨y1,y2,y3,y4,y5⟩:=HS.out _ hB2
    have hrow:=HI.out.below hB2 lr
    have hth:w2.there (gI t) (c * 2) 2:=fun j hj=>by
     match j,hj with
     | 0,_=>exact ⟨by rw [Nat.add_zero,y3];rfl,hrow.frozen _⟩
     | 1,_=>exact ⟨by rw [y4];rfl,hrow.frozen _⟩
    clear y1 y2 y3 y4 y5 hrow
    simp only [AF39,b0,b1,b2,b3,b4,b5,b6,b7,f24,f22]
    refine step_wanted (by rfl) ?_
    refine wp_store_mid 90 _ _ rfl (gI t) (c * 2) #[.slice va22 rv.length vc22,.int .i64 rL] (by rfl) (by rfl) hth (by kernel_rfl) (by kernel_rfl) ?_
    refine hK.out _ _ ⟨x,?_,hbs,.inr ⟨HALL.out,by rw [Array.size_setIfInBounds];exact HH2.out.sz,⟨va21,vc21,F21.out⟩,w2,va22,vc22,hB2,e22,rfl⟩⟩
    clear f21
    simp only [Act.put,AF39,F24.out,F22.out,b0,b1,b2,b3,b4,b5,b6,b7]
  case fin=>
   rintro lB aB w2 ⟨x,rfl,hbs,h|⟨_,_,_,wy,va,vc,hB,hO,rfl⟩⟩ hall
   ·have:=hall 25 (by decide)
    rw [h.un 25 (by decide)] at this
    cases this
   have HB2:=hid hB
   have HO2:=hid hO
   obtain ⟨b0,b1,b2,b3,b4,b5,b6,b7⟩:=hbs
   clear hB hO
   simp only [AF39,b0,b1,b2,b3,b4,b5,b6,b7]
   clear b0 b1 b2 b3 b4 b5 b6 b7
   go_wp2
   go_meet
   case rel=>exact ⟨wy,_,HB2.out,HO2.out,rfl⟩
 case rest=>
  obtain ⟨wy,v,hB,hO,rfl⟩:=hcut
  obtain ⟨va,vc,rfl,hV,hV1,hV2⟩:=ints_ext hO HX.out
  have HD:=hid ((HH.out.keep hB).deliver hf ht HF.out.1 HF.out.2 (lost:=rL) hV hV1 hV2)
  have f5':=(HS.out _ hB).2.1
  have s0':=(HS.out _ hB).2.2.2.2
  have k0:=(HO.out.below hB lr).frozen c
  have HB:=hid hB
  clear hB hO hV hV1 hV2 HS CX hbz t3 f5 r0 r1 s0
  go_wp2
  go_end0
  refine ⟨rfl,?_,(Ext.below HB.out).trans HD.out.2.1,?_,HD.out.2.2.trans (HB.out.block gA hAl)⟩
  ·rw [HG.out]
   exact HD.out.1
  ·exact (((HB.out.mono HN.out).setCell (p:=⟨gI t,c * 2,none⟩) hlI _).setCell (p:=⟨gI t,c * 2+1,none⟩) hlI _).setCell (p:=⟨gO f,c,none⟩) hlO _
end Go.Proofs.YtejhccmclanlmaaGreatDoor
