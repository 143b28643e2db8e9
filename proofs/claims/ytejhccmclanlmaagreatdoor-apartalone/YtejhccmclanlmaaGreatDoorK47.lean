/- Texts joined: Bb. -/
import Derived.Test.YtejhccmclanlmaaGreatDoorK45
set_option linter.unusedVariables false
set_option maxRecDepth 100000
namespace Go.Proofs.YtejhccmclanlmaaGreatDoor
open Go.RowKit
structure NM (K:MK) (w:World) (gd base k:Nat) (D:Dom) (As:Nat→DMem):Prop where
 low:Below K.w0.heap.size K.w0 w
 row:RowAt w K.gm 113 (mcells K gd)
 drow:DRow w gd K.n
 at_:∀ i,i<k→DomsAt w gd 0 i D (As i)∧DomOn base w (As i) D
 last:RowAt w K.gl 3 (ivs ((List.range K.n).map fun _=>0))
 lo:K.w0.heap.size≤K.gm∧K.w0.heap.size≤K.gl∧K.w0.heap.size≤gd
 hi:K.gm<base∧K.gl<base∧gd<base∧base≤w.heap.size
theorem NM.keep {K:MK} {w w':World} {gd base k:Nat} {D:Dom} {As:Nat→DMem} (h:NM K w gd base k D As) (hb:Below w.heap.size w w'):NM K w' gd base k D As:=
 ⟨h.low.trans (hb.mono h.low.size),h.row.below hb lr,h.drow.keep hb,fun i hi=>⟨(h.at_ i hi).1.keep hb,(h.at_ i hi).2.ext (Ext.below hb)⟩,h.last.below hb lr,h.lo,⟨h.hi.1,h.hi.2.1,h.hi.2.2.1,Nat.le_trans h.hi.2.2.2 hb.size⟩⟩
theorem NM.next {K:MK} {w w':World} {gd base k:Nat} {D:Dom} {As:Nat→DMem} (h:NM K w gd base k D As) (hk:k<K.n) (hb:Below w.heap.size w w') {A:DMem} (hD:DomOn w.heap.size w' A D) :
  NM K (put7 w' gd (k * 7) (.slice A.aJ D.jobs.length A.cJ) (.slice A.aR D.rel.length A.cR) (.int .i64 D.nxt) (.slice A.aI D.ins.length A.cI) (.slice A.aT D.tak.length A.cT) (.slice A.aO D.out.length A.cO) (.slice A.aE D.evs.length A.cE)) gd base (k+1) D (putF As k A):=by
 have h':=h.keep hb
 obtain ⟨csr,hr1,-⟩:=h.drow
 have n1:K.gm≠gd:=row_ne h.row hr1 (by decide)
 have n3:gd≠K.gl:=row_ne hr1 h.last (by decide)
 have hp:=put7_at h'.drow hk D A
 have hne:=put7_ne w' gd (k * 7) (.slice A.aJ D.jobs.length A.cJ) (.slice A.aR D.rel.length A.cR) (.int .i64 D.nxt) (.slice A.aI D.ins.length A.cI) (.slice A.aT D.tak.length A.cT) (.slice A.aO D.out.length A.cO) (.slice A.aE D.evs.length A.cE)
 have hsz:=put7_size w' gd (k * 7) (.slice A.aJ D.jobs.length A.cJ) (.slice A.aR D.rel.length A.cR) (.int .i64 D.nxt) (.slice A.aI D.ins.length A.cI) (.slice A.aT D.tak.length A.cT) (.slice A.aO D.out.length A.cO) (.slice A.aE D.evs.length A.cE)
 have hbl:=put7_below h'.low h.lo.2.2 (k * 7) (.slice A.aJ D.jobs.length A.cJ) (.slice A.aR D.rel.length A.cR) (.int .i64 D.nxt) (.slice A.aI D.ins.length A.cI) (.slice A.aT D.tak.length A.cT) (.slice A.aO D.out.length A.cO) (.slice A.aE D.evs.length A.cE)
 generalize put7 w' gd (k * 7) (.slice A.aJ D.jobs.length A.cJ) (.slice A.aR D.rel.length A.cR) (.int .i64 D.nxt) (.slice A.aI D.ins.length A.cI) (.slice A.aT D.tak.length A.cT) (.slice A.aO D.out.length A.cO) (.slice A.aE D.evs.length A.cE)=w2 at *
 have hh:=h.hi
 have hws:=hb.size
 have hx:Ext (fun k=>k<base) w' w2:=⟨by omega,fun x hx hX=>hne x (by omega)⟩
 refine ⟨hbl,(hne _ n1).trans h'.row,hp.1,fun i hi=>?_,(hne _ (Ne.symm n3)).trans h'.last,h.lo,by omega⟩
 by_cases e:i=k
 ·subst e
  rw [putF_eq]
  exact ⟨hp.2.1,(hD.lower hh.2.2.2).ext hx⟩
 ·rw [putF_ne _ _ e]
  exact ⟨hp.2.2 i _ _ e (h'.at_ i (by omega)).1,(h'.at_ i (by omega)).2.ext hx⟩
theorem nm_start1 (C:Conf) (a5 a6 a7 a8:Option Addr) (c5 c6 c7 c8:Nat) (S:ScrT) (aA aR:Option Addr) (cA cR:Nat) (n:Nat) (w W:World) (hn:C.d=(n:Int)) (hb:Below w.heap.size w W) (D:Dom) (As:Nat→DMem) :
  NM ⟨C,⟨a5,a6,a7,a8,c5,c6,c7,c8⟩,S,⟨aA,aR,cA,cR⟩,w,W.heap.size+1+1,W.heap.size+1,n,fun _=>False⟩ ((((W.alloc (.cells (madeCells #[.slice none 0 0,.slice none 0 0,.int .i64 0,.slice none 0 0,.slice none 0 0,.slice none 0 0,.slice none 0 0] (n * 7)) 46)).alloc (.cells (madeCells #[.int .i64 0] n) 3)).alloc (.cells #[.int .i64 C.s,.int .i64 C.w,.int .i64 (n:Int),.int .i64 C.p,.int .i64 C.q,.slice a5 C.sl.length c5,.slice a6 C.ow.length c6,.slice a7 C.ch.length c7,.slice a8 C.ta.length c8,.slice aA S.acts.length cA,.slice aR S.arr.length cR,.int .i64 S.rounds,.slice (some ⟨W.heap.size,0,none⟩) n n,.slice (some ⟨W.heap.size+1,0,none⟩) n n] 113))).drew (W.heap.size) ((((W.alloc (.cells (madeCells #[.slice none 0 0,.slice none 0 0,.int .i64 0,.slice none 0 0,.slice none 0 0,.slice none 0 0,.slice none 0 0] (n * 7)) 46)).alloc (.cells (madeCells #[.int .i64 0] n) 3)).alloc (.cells #[.int .i64 C.s,.int .i64 C.w,.int .i64 (n:Int),.int .i64 C.p,.int .i64 C.q,.slice a5 C.sl.length c5,.slice a6 C.ow.length c6,.slice a7 C.ch.length c7,.slice a8 C.ta.length c8,.slice aA S.acts.length cA,.slice aR S.arr.length cR,.int .i64 S.rounds,.slice (some ⟨W.heap.size,0,none⟩) n n,.slice (some ⟨W.heap.size+1,0,none⟩) n n] 113))).drew.heap.size 0 D As∧Below W.heap.size W ((((W.alloc (.cells (madeCells #[.slice none 0 0,.slice none 0 0,.int .i64 0,.slice none 0 0,.slice none 0 0,.slice none 0 0,.slice none 0 0] (n * 7)) 46)).alloc (.cells (madeCells #[.int .i64 0] n) 3)).alloc (.cells #[.int .i64 C.s,.int .i64 C.w,.int .i64 (n:Int),.int .i64 C.p,.int .i64 C.q,.slice a5 C.sl.length c5,.slice a6 C.ow.length c6,.slice a7 C.ch.length c7,.slice a8 C.ta.length c8,.slice aA S.acts.length cA,.slice aR S.arr.length cR,.int .i64 S.rounds,.slice (some ⟨W.heap.size,0,none⟩) n n,.slice (some ⟨W.heap.size+1,0,none⟩) n n] 113))).drew:=by
 have q1:=below_new W (.cells (madeCells #[.slice none 0 0,.slice none 0 0,.int .i64 0,.slice none 0 0,.slice none 0 0,.slice none 0 0,.slice none 0 0] (n * 7)) 46)
 have q2:=below_new (W.alloc (.cells (madeCells #[.slice none 0 0,.slice none 0 0,.int .i64 0,.slice none 0 0,.slice none 0 0,.slice none 0 0,.slice none 0 0] (n * 7)) 46)) (.cells (madeCells #[.int .i64 0] n) 3)
 have q3:=below_new ((W.alloc (.cells (madeCells #[.slice none 0 0,.slice none 0 0,.int .i64 0,.slice none 0 0,.slice none 0 0,.slice none 0 0,.slice none 0 0] (n * 7)) 46)).alloc (.cells (madeCells #[.int .i64 0] n) 3)) (.cells #[.int .i64 C.s,.int .i64 C.w,.int .i64 (n:Int),.int .i64 C.p,.int .i64 C.q,.slice a5 C.sl.length c5,.slice a6 C.ow.length c6,.slice a7 C.ch.length c7,.slice a8 C.ta.length c8,.slice aA S.acts.length cA,.slice aR S.arr.length cR,.int .i64 S.rounds,.slice (some ⟨W.heap.size,0,none⟩) n n,.slice (some ⟨W.heap.size+1,0,none⟩) n n] 113)
 have q:=btrans q1 (btrans q2 q3)
 have d1:DRow (W.alloc (.cells (madeCells #[.slice none 0 0,.slice none 0 0,.int .i64 0,.slice none 0 0,.slice none 0 0,.slice none 0 0,.slice none 0 0] (n * 7)) 46)) W.heap.size n:=⟨(madeCells #[.slice none 0 0,.slice none 0 0,.int .i64 0,.slice none 0 0,.slice none 0 0,.slice none 0 0,.slice none 0 0] (n * 7)).toList,by simpa [RowAt] using heap_alloc_new W (.cells (madeCells #[.slice none 0 0,.slice none 0 0,.int .i64 0,.slice none 0 0,.slice none 0 0,.slice none 0 0,.slice none 0 0] (n * 7)) 46),by simp [size_madeCells]⟩
 have l1:RowAt ((W.alloc (.cells (madeCells #[.slice none 0 0,.slice none 0 0,.int .i64 0,.slice none 0 0,.slice none 0 0,.slice none 0 0,.slice none 0 0] (n * 7)) 46)).alloc (.cells (madeCells #[.int .i64 0] n) 3)) (W.heap.size+1) 3 (ivs (List.replicate n 0)):=by
  have:=made_row (W.alloc (.cells (madeCells #[.slice none 0 0,.slice none 0 0,.int .i64 0,.slice none 0 0,.slice none 0 0,.slice none 0 0,.slice none 0 0] (n * 7)) 46)) n
  rw [show (W.alloc (.cells (madeCells #[.slice none 0 0,.slice none 0 0,.int .i64 0,.slice none 0 0,.slice none 0 0,.slice none 0 0,.slice none 0 0] (n * 7)) 46)).heap.size=W.heap.size+1 by simp] at this
  exact this
 have d3:=(d1.keep q2).keep q3
 have l3:=l1.below q3 lr
 have r3:RowAt (((W.alloc (.cells (madeCells #[.slice none 0 0,.slice none 0 0,.int .i64 0,.slice none 0 0,.slice none 0 0,.slice none 0 0,.slice none 0 0] (n * 7)) 46)).alloc (.cells (madeCells #[.int .i64 0] n) 3)).alloc (.cells #[.int .i64 C.s,.int .i64 C.w,.int .i64 (n:Int),.int .i64 C.p,.int .i64 C.q,.slice a5 C.sl.length c5,.slice a6 C.ow.length c6,.slice a7 C.ch.length c7,.slice a8 C.ta.length c8,.slice aA S.acts.length cA,.slice aR S.arr.length cR,.int .i64 S.rounds,.slice (some ⟨W.heap.size,0,none⟩) n n,.slice (some ⟨W.heap.size+1,0,none⟩) n n] 113)) (W.heap.size+1+1) 113 [.int .i64 C.s,.int .i64 C.w,.int .i64 (n:Int),.int .i64 C.p,.int .i64 C.q,.slice a5 C.sl.length c5,.slice a6 C.ow.length c6,.slice a7 C.ch.length c7,.slice a8 C.ta.length c8,.slice aA S.acts.length cA,.slice aR S.arr.length cR,.int .i64 S.rounds,.slice (some ⟨W.heap.size,0,none⟩) n n,.slice (some ⟨W.heap.size+1,0,none⟩) n n]:=rowAt_new2 ((W.alloc (.cells (madeCells #[.slice none 0 0,.slice none 0 0,.int .i64 0,.slice none 0 0,.slice none 0 0,.slice none 0 0,.slice none 0 0] (n * 7)) 46)).alloc (.cells (madeCells #[.int .i64 0] n) 3)) (W.heap.size+1+1) [.int .i64 C.s,.int .i64 C.w,.int .i64 (n:Int),.int .i64 C.p,.int .i64 C.q,.slice a5 C.sl.length c5,.slice a6 C.ow.length c6,.slice a7 C.ch.length c7,.slice a8 C.ta.length c8,.slice aA S.acts.length cA,.slice aR S.arr.length cR,.int .i64 S.rounds,.slice (some ⟨W.heap.size,0,none⟩) n n,.slice (some ⟨W.heap.size+1,0,none⟩) n n] 113 (by simp)
 have hs:=hb.size
 have hz:(((W.alloc (.cells (madeCells #[.slice none 0 0,.slice none 0 0,.int .i64 0,.slice none 0 0,.slice none 0 0,.slice none 0 0,.slice none 0 0] (n * 7)) 46)).alloc (.cells (madeCells #[.int .i64 0] n) 3)).alloc (.cells #[.int .i64 C.s,.int .i64 C.w,.int .i64 (n:Int),.int .i64 C.p,.int .i64 C.q,.slice a5 C.sl.length c5,.slice a6 C.ow.length c6,.slice a7 C.ch.length c7,.slice a8 C.ta.length c8,.slice aA S.acts.length cA,.slice aR S.arr.length cR,.int .i64 S.rounds,.slice (some ⟨W.heap.size,0,none⟩) n n,.slice (some ⟨W.heap.size+1,0,none⟩) n n] 113)).drew.heap.size=W.heap.size+3:=by show (((W.alloc (.cells (madeCells #[.slice none 0 0,.slice none 0 0,.int .i64 0,.slice none 0 0,.slice none 0 0,.slice none 0 0,.slice none 0 0] (n * 7)) 46)).alloc (.cells (madeCells #[.int .i64 0] n) 3)).alloc (.cells #[.int .i64 C.s,.int .i64 C.w,.int .i64 (n:Int),.int .i64 C.p,.int .i64 C.q,.slice a5 C.sl.length c5,.slice a6 C.ow.length c6,.slice a7 C.ch.length c7,.slice a8 C.ta.length c8,.slice aA S.acts.length cA,.slice aR S.arr.length cR,.int .i64 S.rounds,.slice (some ⟨W.heap.size,0,none⟩) n n,.slice (some ⟨W.heap.size+1,0,none⟩) n n] 113)).heap.size=_;simp
 refine ⟨⟨(btrans hb q).drew,?_,d3.keep (Below.refl _ _).drew,fun i hi=>by omega,?_,⟨by show w.heap.size≤W.heap.size+1+1;omega,by show w.heap.size≤W.heap.size+1;omega,by show w.heap.size≤W.heap.size;omega⟩,?_⟩,q.drew⟩
 ·show RowAt _ (W.heap.size+1+1) 113 [.int .i64 C.s,.int .i64 C.w,.int .i64 C.d,.int .i64 C.p,.int .i64 C.q,.slice a5 C.sl.length c5,.slice a6 C.ow.length c6,.slice a7 C.ch.length c7,.slice a8 C.ta.length c8,.slice aA S.acts.length cA,.slice aR S.arr.length cR,.int .i64 S.rounds,.slice (some ⟨W.heap.size,0,none⟩) n n,.slice (some ⟨W.heap.size+1,0,none⟩) n n]
  rw [hn]
  exact r3.drew
 ·show RowAt _ (W.heap.size+1) 3 (ivs ((List.range n).map fun _=>0))
  rw [show (List.range n).map (fun _=>(0:Int))=List.replicate n 0 by rw [List.map_const',List.length_range]]
  exact l3.drew
 ·rw [hz]
  show W.heap.size+1+1<_∧W.heap.size+1<_∧W.heap.size<_∧_
  omega
theorem nm_start2 (C:Conf) (a5 a6 a7 a8:Option Addr) (c5 c6 c7 c8:Nat) (S:ScrT) (aA aR:Option Addr) (cA cR:Nat) (n:Nat) (w W:World) (hn:C.d=(n:Int)) (hb:Below w.heap.size w W) (D:Dom) (As:Nat→DMem) :
  NM ⟨C,⟨a5,a6,a7,a8,c5,c6,c7,c8⟩,S,⟨aA,aR,cA,cR⟩,w,W.heap.size+1+1,W.heap.size,n,fun _=>False⟩ ((((W.alloc (.cells (madeCells #[.int .i64 0] n) 3)).alloc (.cells (madeCells #[.slice none 0 0,.slice none 0 0,.int .i64 0,.slice none 0 0,.slice none 0 0,.slice none 0 0,.slice none 0 0] (n * 7)) 46)).alloc (.cells #[.int .i64 C.s,.int .i64 C.w,.int .i64 (n:Int),.int .i64 C.p,.int .i64 C.q,.slice a5 C.sl.length c5,.slice a6 C.ow.length c6,.slice a7 C.ch.length c7,.slice a8 C.ta.length c8,.slice aA S.acts.length cA,.slice aR S.arr.length cR,.int .i64 S.rounds,.slice (some ⟨W.heap.size+1,0,none⟩) n n,.slice (some ⟨W.heap.size,0,none⟩) n n] 113))).drew (W.heap.size+1) ((((W.alloc (.cells (madeCells #[.int .i64 0] n) 3)).alloc (.cells (madeCells #[.slice none 0 0,.slice none 0 0,.int .i64 0,.slice none 0 0,.slice none 0 0,.slice none 0 0,.slice none 0 0] (n * 7)) 46)).alloc (.cells #[.int .i64 C.s,.int .i64 C.w,.int .i64 (n:Int),.int .i64 C.p,.int .i64 C.q,.slice a5 C.sl.length c5,.slice a6 C.ow.length c6,.slice a7 C.ch.length c7,.slice a8 C.ta.length c8,.slice aA S.acts.length cA,.slice aR S.arr.length cR,.int .i64 S.rounds,.slice (some ⟨W.heap.size+1,0,none⟩) n n,.slice (some ⟨W.heap.size,0,none⟩) n n] 113))).drew.heap.size 0 D As∧Below W.heap.size W ((((W.alloc (.cells (madeCells #[.int .i64 0] n) 3)).alloc (.cells (madeCells #[.slice none 0 0,.slice none 0 0,.int .i64 0,.slice none 0 0,.slice none 0 0,.slice none 0 0,.slice none 0 0] (n * 7)) 46)).alloc (.cells #[.int .i64 C.s,.int .i64 C.w,.int .i64 (n:Int),.int .i64 C.p,.int .i64 C.q,.slice a5 C.sl.length c5,.slice a6 C.ow.length c6,.slice a7 C.ch.length c7,.slice a8 C.ta.length c8,.slice aA S.acts.length cA,.slice aR S.arr.length cR,.int .i64 S.rounds,.slice (some ⟨W.heap.size+1,0,none⟩) n n,.slice (some ⟨W.heap.size,0,none⟩) n n] 113))).drew:=by
 have q1:=below_new W (.cells (madeCells #[.int .i64 0] n) 3)
 have q2:=below_new (W.alloc (.cells (madeCells #[.int .i64 0] n) 3)) (.cells (madeCells #[.slice none 0 0,.slice none 0 0,.int .i64 0,.slice none 0 0,.slice none 0 0,.slice none 0 0,.slice none 0 0] (n * 7)) 46)
 have q3:=below_new ((W.alloc (.cells (madeCells #[.int .i64 0] n) 3)).alloc (.cells (madeCells #[.slice none 0 0,.slice none 0 0,.int .i64 0,.slice none 0 0,.slice none 0 0,.slice none 0 0,.slice none 0 0] (n * 7)) 46)) (.cells #[.int .i64 C.s,.int .i64 C.w,.int .i64 (n:Int),.int .i64 C.p,.int .i64 C.q,.slice a5 C.sl.length c5,.slice a6 C.ow.length c6,.slice a7 C.ch.length c7,.slice a8 C.ta.length c8,.slice aA S.acts.length cA,.slice aR S.arr.length cR,.int .i64 S.rounds,.slice (some ⟨W.heap.size+1,0,none⟩) n n,.slice (some ⟨W.heap.size,0,none⟩) n n] 113)
 have q:=btrans q1 (btrans q2 q3)
 have d1:DRow ((W.alloc (.cells (madeCells #[.int .i64 0] n) 3)).alloc (.cells (madeCells #[.slice none 0 0,.slice none 0 0,.int .i64 0,.slice none 0 0,.slice none 0 0,.slice none 0 0,.slice none 0 0] (n * 7)) 46)) (W.heap.size+1) n:=⟨(madeCells #[.slice none 0 0,.slice none 0 0,.int .i64 0,.slice none 0 0,.slice none 0 0,.slice none 0 0,.slice none 0 0] (n * 7)).toList,by have:=heap_alloc_new (W.alloc (.cells (madeCells #[.int .i64 0] n) 3)) (.cells (madeCells #[.slice none 0 0,.slice none 0 0,.int .i64 0,.slice none 0 0,.slice none 0 0,.slice none 0 0,.slice none 0 0] (n * 7)) 46);rw [show (W.alloc (.cells (madeCells #[.int .i64 0] n) 3)).heap.size=W.heap.size+1 by simp] at this;simpa [RowAt] using this,by simp [size_madeCells]⟩
 have l1:=made_row W n
 have d3:=d1.keep q3
 have l3:=(l1.below q2 lr).below q3 lr
 have r3:RowAt (((W.alloc (.cells (madeCells #[.int .i64 0] n) 3)).alloc (.cells (madeCells #[.slice none 0 0,.slice none 0 0,.int .i64 0,.slice none 0 0,.slice none 0 0,.slice none 0 0,.slice none 0 0] (n * 7)) 46)).alloc (.cells #[.int .i64 C.s,.int .i64 C.w,.int .i64 (n:Int),.int .i64 C.p,.int .i64 C.q,.slice a5 C.sl.length c5,.slice a6 C.ow.length c6,.slice a7 C.ch.length c7,.slice a8 C.ta.length c8,.slice aA S.acts.length cA,.slice aR S.arr.length cR,.int .i64 S.rounds,.slice (some ⟨W.heap.size+1,0,none⟩) n n,.slice (some ⟨W.heap.size,0,none⟩) n n] 113)) (W.heap.size+1+1) 113 [.int .i64 C.s,.int .i64 C.w,.int .i64 (n:Int),.int .i64 C.p,.int .i64 C.q,.slice a5 C.sl.length c5,.slice a6 C.ow.length c6,.slice a7 C.ch.length c7,.slice a8 C.ta.length c8,.slice aA S.acts.length cA,.slice aR S.arr.length cR,.int .i64 S.rounds,.slice (some ⟨W.heap.size+1,0,none⟩) n n,.slice (some ⟨W.heap.size,0,none⟩) n n]:=rowAt_new2 ((W.alloc (.cells (madeCells #[.int .i64 0] n) 3)).alloc (.cells (madeCells #[.slice none 0 0,.slice none 0 0,.int .i64 0,.slice none 0 0,.slice none 0 0,.slice none 0 0,.slice none 0 0] (n * 7)) 46)) (W.heap.size+1+1) [.int .i64 C.s,.int .i64 C.w,.int .i64 (n:Int),.int .i64 C.p,.int .i64 C.q,.slice a5 C.sl.length c5,.slice a6 C.ow.length c6,.slice a7 C.ch.length c7,.slice a8 C.ta.length c8,.slice aA S.acts.length cA,.slice aR S.arr.length cR,.int .i64 S.rounds,.slice (some ⟨W.heap.size+1,0,none⟩) n n,.slice (some ⟨W.heap.size,0,none⟩) n n] 113 (by simp)
 have hs:=hb.size
 have hz:(((W.alloc (.cells (madeCells #[.int .i64 0] n) 3)).alloc (.cells (madeCells #[.slice none 0 0,.slice none 0 0,.int .i64 0,.slice none 0 0,.slice none 0 0,.slice none 0 0,.slice none 0 0] (n * 7)) 46)).alloc (.cells #[.int .i64 C.s,.int .i64 C.w,.int .i64 (n:Int),.int .i64 C.p,.int .i64 C.q,.slice a5 C.sl.length c5,.slice a6 C.ow.length c6,.slice a7 C.ch.length c7,.slice a8 C.ta.length c8,.slice aA S.acts.length cA,.slice aR S.arr.length cR,.int .i64 S.rounds,.slice (some ⟨W.heap.size+1,0,none⟩) n n,.slice (some ⟨W.heap.size,0,none⟩) n n] 113)).drew.heap.size=W.heap.size+3:=by show (((W.alloc (.cells (madeCells #[.int .i64 0] n) 3)).alloc (.cells (madeCells #[.slice none 0 0,.slice none 0 0,.int .i64 0,.slice none 0 0,.slice none 0 0,.slice none 0 0,.slice none 0 0] (n * 7)) 46)).alloc (.cells #[.int .i64 C.s,.int .i64 C.w,.int .i64 (n:Int),.int .i64 C.p,.int .i64 C.q,.slice a5 C.sl.length c5,.slice a6 C.ow.length c6,.slice a7 C.ch.length c7,.slice a8 C.ta.length c8,.slice aA S.acts.length cA,.slice aR S.arr.length cR,.int .i64 S.rounds,.slice (some ⟨W.heap.size+1,0,none⟩) n n,.slice (some ⟨W.heap.size,0,none⟩) n n] 113)).heap.size=_;simp
 refine ⟨⟨(btrans hb q).drew,?_,d3.keep (Below.refl _ _).drew,fun i hi=>by omega,?_,⟨by show w.heap.size≤W.heap.size+1+1;omega,by show w.heap.size≤W.heap.size;omega,by show w.heap.size≤W.heap.size+1;omega⟩,?_⟩,q.drew⟩
 ·show RowAt _ (W.heap.size+1+1) 113 [.int .i64 C.s,.int .i64 C.w,.int .i64 C.d,.int .i64 C.p,.int .i64 C.q,.slice a5 C.sl.length c5,.slice a6 C.ow.length c6,.slice a7 C.ch.length c7,.slice a8 C.ta.length c8,.slice aA S.acts.length cA,.slice aR S.arr.length cR,.int .i64 S.rounds,.slice (some ⟨W.heap.size+1,0,none⟩) n n,.slice (some ⟨W.heap.size,0,none⟩) n n]
  rw [hn]
  exact r3.drew
 ·show RowAt _ (W.heap.size) 3 (ivs ((List.range n).map fun _=>0))
  rw [show (List.range n).map (fun _=>(0:Int))=List.replicate n 0 by rw [List.map_const',List.length_range]]
  exact l3.drew
 ·rw [hz]
  show W.heap.size+1+1<_∧W.heap.size<_∧W.heap.size+1<_∧_
  omega
def NewOut (C:Conf) (B:Mem) (S:ScrT) (M:SMem) (n:Nat) (w w':World) (gm:Nat):Prop:=∃ gl gd base As,MO ⟨C,B,S,M,w,gm,gl,n,fun _=>False⟩ w' gd base (fun _=>newD C) As (fun _=>0)
set_option maxHeartbeats 4000000 in
theorem newM_ok (C:Conf) (B:Mem) (S:ScrT) (M:SMem) (n:Nat) (w:World) (hC:ConfIn w B C) (hS:ScrIn w M S) (h0:ckC C=0) (hn:C.d=(n:Int)) :
  Calls Tryz.prog 20 #[cv C B,sv S M] w fun e w'=>∃ gm:Nat,e=.returned (.pointer (some ⟨gm,0,none⟩))∧NewOut C B S M n w w' gm:=by
 have hn4:n≤4:=by have:=(conf_nums h0).2.2.2;omega
 have hmk33:=make33_any n (by omega)
 have hmk23:=make23_any n (by omega)
 have HCC:=hid hC
 have HSS:=hid hS
 have H0:=hid h0
 have HNn:=hid hn
 have q1:=below_new w (.cells (cl C B) 27)
 have q2:=below_new (w.alloc (.cells (cl C B) 27)) (.cells (sl S M) 31)
 have hX0:=(rowAt_new2 w w.heap.size (cl C B).toList 27 rfl).below q2 lr
 have hX1:=rowAt_new2 (w.alloc (.cells (cl C B) 27)) (w.heap.size+1) (sl S M).toList 31 (by simp)
 have HB2:=hid (btrans q1 q2)
 have hsz2:Hid (((w.alloc (.cells (cl C B) 27)).alloc (.cells (sl S M) 31)).heap.size=w.heap.size+2):=hid (by simp)
 have HCN:Hid (∀ wx,Below w.heap.size w wx→∀ k:Nat,k<n→Calls Tryz.prog 41 #[cv C B,.int .i64 (k:Int)] wx fun e w'=>∃ A,e=.returned (.tuple #[dv (newD C) A,.int .i64 0])∧(∀ wy:World,(∀ x,wx.heap.size≤x→wy.heap[x]? = w'.heap[x]?)→DomIn wy A (newD C))∧Below wx.heap.size wx w'):=hid fun wx hb k hk=>newD_any C B k wx (hC.keep hb) h0 (by simp [inR];omega)
 obtain ⟨a5,a6,a7,a8,c5,c6,c7,c8⟩:=B
 obtain ⟨aA,aR,cA,cR⟩:=M
 dsimp only [cv,cl,sv,sl] at *
 rw [hn] at hX0 hX1 HB2 hsz2 HCN ⊢
 clear hn hC hS h0 q1 q2
 have HX0:=hid hX0
 have HX1:=hid hX1
 have g0:=hX0.cell 0 _ rfl
 have g1:=hX0.cell 1 _ rfl
 have g2:=hX0.cell 2 _ rfl
 have g3:=hX0.cell 3 _ rfl
 have g4:=hX0.cell 4 _ rfl
 have g5:=hX0.cell 5 _ rfl
 have g6:=hX0.cell 6 _ rfl
 have g7:=hX0.cell 7 _ rfl
 have g8:=hX0.cell 8 _ rfl
 have s0:=hX1.cell 0 _ rfl
 have s1:=hX1.cell 1 _ rfl
 have s2:=hX1.cell 2 _ rfl
 clear hX0 hX1
 go_enter Tryz.func20,Tryz.ntmps20
 go_upto_region 1 with fail
 generalize World.alloc (World.alloc w _) _=W at *
 have g0a:=fun o=>cell_old o g0
 have g0b:=fun o o'=>cell_old o' (cell_old o g0)
 have g1a:=fun o=>cell_old o g1
 have g1b:=fun o o'=>cell_old o' (cell_old o g1)
 have g2a:=fun o=>cell_old o g2
 have g2b:=fun o o'=>cell_old o' (cell_old o g2)
 have g3a:=fun o=>cell_old o g3
 have g3b:=fun o o'=>cell_old o' (cell_old o g3)
 have g4a:=fun o=>cell_old o g4
 have g4b:=fun o o'=>cell_old o' (cell_old o g4)
 have g5a:=fun o=>cell_old o g5
 have g5b:=fun o o'=>cell_old o' (cell_old o g5)
 have g6a:=fun o=>cell_old o g6
 have g6b:=fun o o'=>cell_old o' (cell_old o g6)
 have g7a:=fun o=>cell_old o g7
 have g7b:=fun o o'=>cell_old o' (cell_old o g7)
 have g8a:=fun o=>cell_old o g8
 have g8b:=fun o o'=>cell_old o' (cell_old o g8)
 have s0a:=fun o=>cell_old o s0
 have s0b:=fun o o'=>cell_old o' (cell_old o s0)
 have s1a:=fun o=>cell_old o s1
 have s1b:=fun o o'=>cell_old o' (cell_old o s1)
 have s2a:=fun o=>cell_old o s2
 have s2b:=fun o o'=>cell_old o' (cell_old o s2)
 go_cut [5] (fun t wx=>∃ gm gl gd:Nat,t=.pointer (some ⟨gm,0,none⟩)∧NM ⟨C,⟨a5,a6,a7,a8,c5,c6,c7,c8⟩,S,⟨aA,aR,cA,cR⟩,w,gm,gl,n,fun _=>False⟩ wx gd wx.heap.size 0 (newD C) (fun _=>⟨none,none,none,none,none,none,0,0,0,0,0,0⟩)∧Below W.heap.size W wx∧W.heap.size≤gd)
 case first=>
  go_region
  all_goals
   go_wp2
   go_meet
   first
    | exact ⟨_,_,_,rfl,(nm_start1 C a5 a6 a7 a8 c5 c6 c7 c8 S aA aR cA cR n w W HNn.out HB2.out _ _).1,(nm_start1 C a5 a6 a7 a8 c5 c6 c7 c8 S aA aR cA cR n w W HNn.out HB2.out (newD C) (fun _=>⟨none,none,none,none,none,none,0,0,0,0,0,0⟩)).2,Nat.le_refl _⟩
    | exact ⟨_,_,_,rfl,(nm_start2 C a5 a6 a7 a8 c5 c6 c7 c8 S aA aR cA cR n w W HNn.out HB2.out _ _).1,(nm_start2 C a5 a6 a7 a8 c5 c6 c7 c8 S aA aR cA cR n w W HNn.out HB2.out (newD C) (fun _=>⟨none,none,none,none,none,none,0,0,0,0,0,0⟩)).2,Nat.le_succ _⟩
 case rest=>
  obtain ⟨gm,gl,gd,rfl,hnm,hbW,hgdW⟩:=hcut
  have HGD:=hid hgdW
  clear hgdW
  have HNM:=hid hnm
  have HBW:=hid hbW
  have m12:=hnm.row.cell 12 _ rfl
  dsimp only at m12
  clear hnm hbW hmk33 hmk23 g0a g0b g0 g1a g1b g1 g2a g2b g2 g3a g3b g3 g4a g4b g4 g5a g5b g5 g6a g6b g6 g7a g7b g7 g8a g8b g8 s0a s0b s0 s1a s1b s1 s2a s2b s2
  go_wp2
  clear m12
  go_loopw [22] (fun i wr=>∃ k:Nat,k≤n∧i=.int .i64 k∧∃ As,NM ⟨C,⟨a5,a6,a7,a8,c5,c6,c7,c8⟩,S,⟨aA,aR,cA,cR⟩,w,gm,gl,n,fun _=>False⟩ wr gd wc.heap.size k (newD C) As∧Below W.heap.size W wr) (fun i _=>n - (intOf i).toNat)
  case atStart=>exact ⟨0,Nat.zero_le _,rfl,_,HNM.out,HBW.out⟩
  case round=>
   obtain ⟨k,hk,rfl,As,hnm,hbw⟩:=hrel
   by_cases hlt:k<n
   ·have hk1:(k:Int)<(n:Int):=by omega
    have hk0:(0:Int)≤(k:Int):=by omega
    have HN2:=hid hnm
    have HB3:=hid hbw
    have HS:Hid (∀ w',Below wr.heap.size wr w'→w'.cell? ⟨w.heap.size,0,none⟩=some (.int .i64 C.s)∧w'.cell? ⟨w.heap.size,1,none⟩=some (.int .i64 C.w)∧w'.cell? ⟨w.heap.size,2,none⟩=some (.int .i64 (n:Int))∧w'.cell? ⟨w.heap.size,3,none⟩=some (.int .i64 C.p)∧w'.cell? ⟨w.heap.size,4,none⟩=some (.int .i64 C.q)∧w'.cell? ⟨w.heap.size,5,none⟩=some (.slice a5 C.sl.length c5)∧w'.cell? ⟨w.heap.size,6,none⟩=some (.slice a6 C.ow.length c6)∧w'.cell? ⟨w.heap.size,7,none⟩=some (.slice a7 C.ch.length c7)∧w'.cell? ⟨w.heap.size,8,none⟩=some (.slice a8 C.ta.length c8)∧w'.cell? ⟨gm,12,none⟩=some (.slice (some ⟨gd,0,none⟩) n n)):=hid fun w' hb=>by
     have g:=fun i v hv=>(HX0.out.below (btrans HB3.out hb) lr).cell i v hv
     have hm:=(HN2.out.row.below hb lr).cell 12 _ rfl
     exact ⟨g 0 _ rfl,g 1 _ rfl,g 2 _ rfl,g 3 _ rfl,g 4 _ rfl,g 5 _ rfl,g 6 _ rfl,g 7 _ rfl,g 8 _ rfl,hm⟩
    obtain ⟨csr,hr1,hr2⟩:=hnm.drow
    have hgm:gm≠gd:=row_ne hnm.row hr1 (by decide)
    have hlo:=hnm.lo
    have CN:=hid (fun wx hb=>HCN.out wx (btrans (btrans HB2.out HB3.out) hb) k hlt)
    generalize hND:newD C=ND at *
    clear hND
    obtain ⟨v0,c0⟩:∃ v,(∀ w',Below wr.heap.size wr w'→w'.cell? ⟨gd,k * 7,none⟩=some v):=⟨_,fun w' hb=>(hr1.below hb lr).cell (k * 7) csr[k * 7] (by simp)⟩
    obtain ⟨v1,c1⟩:∃ v,(∀ w',Below wr.heap.size wr w'→w'.cell? ⟨gd,k * 7+1,none⟩=some v):=⟨_,fun w' hb=>(hr1.below hb lr).cell (k * 7+1) csr[k * 7+1] (by simp)⟩
    obtain ⟨v2,c2⟩:∃ v,(∀ w',Below wr.heap.size wr w'→w'.cell? ⟨gd,k * 7+2,none⟩=some v):=⟨_,fun w' hb=>(hr1.below hb lr).cell (k * 7+2) csr[k * 7+2] (by simp)⟩
    obtain ⟨v3,c3⟩:∃ v,(∀ w',Below wr.heap.size wr w'→w'.cell? ⟨gd,k * 7+3,none⟩=some v):=⟨_,fun w' hb=>(hr1.below hb lr).cell (k * 7+3) csr[k * 7+3] (by simp)⟩
    obtain ⟨v4,c4⟩:∃ v,(∀ w',Below wr.heap.size wr w'→w'.cell? ⟨gd,k * 7+4,none⟩=some v):=⟨_,fun w' hb=>(hr1.below hb lr).cell (k * 7+4) csr[k * 7+4] (by simp)⟩
    obtain ⟨v5,c5⟩:∃ v,(∀ w',Below wr.heap.size wr w'→w'.cell? ⟨gd,k * 7+5,none⟩=some v):=⟨_,fun w' hb=>(hr1.below hb lr).cell (k * 7+5) csr[k * 7+5] (by simp)⟩
    obtain ⟨v6,c6⟩:∃ v,(∀ w',Below wr.heap.size wr w'→w'.cell? ⟨gd,k * 7+6,none⟩=some v):=⟨_,fun w' hb=>(hr1.below hb lr).cell (k * 7+6) csr[k * 7+6] (by simp)⟩
    have HC0:=hid c0
    have HC1:=hid c1
    have HC2:=hid c2
    have HC3:=hid c3
    have HC4:=hid c4
    have HC5:=hid c5
    have HC6:=hid c6
    have HR1:=hid hr1
    have e1:¬ gd=gm:=Ne.symm hgm
    have e2:¬ gd=w.heap.size:=by have:=hsz2.out;have:=HGD.out;omega
    have hbz:Below wr.heap.size wr wr.drew:=(Below.refl _ _).drew
    obtain ⟨g0,g1,g2,g3,g4,g5,g6,g7,g8,m12⟩:=HS.out _ (Below.refl _ _)
    clear hnm hbw hr1 hr2 c0 c1 c2 c3 c4 c5 c6 hlo hgm
    go_upto_region 5 with fail
    go_region_held3 (fun w'=>w'.cell? ⟨w.heap.size,0,none⟩=some (.int .i64 C.s)∧w'.cell? ⟨w.heap.size,1,none⟩=some (.int .i64 C.w)∧w'.cell? ⟨w.heap.size,2,none⟩=some (.int .i64 (n:Int))∧w'.cell? ⟨w.heap.size,3,none⟩=some (.int .i64 C.p)∧w'.cell? ⟨w.heap.size,4,none⟩=some (.int .i64 C.q)∧w'.cell? ⟨w.heap.size,5,none⟩=some (.slice a5 C.sl.length c5)∧w'.cell? ⟨w.heap.size,6,none⟩=some (.slice a6 C.ow.length c6)∧w'.cell? ⟨w.heap.size,7,none⟩=some (.slice a7 C.ch.length c7)∧w'.cell? ⟨w.heap.size,8,none⟩=some (.slice a8 C.ta.length c8)∧w'.cell? ⟨gm,12,none⟩=some (.slice (some ⟨gd,0,none⟩) n n))
     (first|with_reducible exact HS.out _ hB2|with_reducible exact HS.out _ hbz|go_keep)
     (first
      | (go_at_call 41;with_reducible refine Calls.mono (CN.out _ hbz) ?_;rintro e w2 ⟨A,rfl,hd2,hb2⟩;obtain ⟨jJ,jR,jI,jT,jO,jE,kJ,kR,kI,kT,kO,kE⟩:=A;have hB2:=btrans hbz hb2;have HD2:=hid hd2;have HB2x:=hid hb2;have y0:=HC0.out _ hB2;have y1:=HC1.out _ hB2;have y2:=HC2.out _ hB2;have y3:=HC3.out _ hB2;have y4:=HC4.out _ hB2;have y5:=HC5.out _ hB2;have y6:=HC6.out _ hB2;have RR:=hid (HR1.out.below hB2 lr);have z0:=RR.out.frozen (k * 7);have z1:=RR.out.frozen (k * 7+1);have z2:=RR.out.frozen (k * 7+2);have z3:=RR.out.frozen (k * 7+3);have z4:=RR.out.frozen (k * 7+4);have z5:=RR.out.frozen (k * 7+5);have z6:=RR.out.frozen (k * 7+6);clear hd2 hb2))
    all_goals
     have HE:=hid (HN2.out.next hlt hB2 (A:=⟨jJ,jR,jI,jT,jO,jE,kJ,kR,kI,kT,kO,kE⟩) (domOn_of HD2.out))
     have HF:=hid (put7_below (HB3.out.trans (hB2.mono HB3.out.size)) (g:=gd) (B:=W.heap.size) HGD.out (k * 7) (.slice jJ ND.jobs.length kJ) (.slice jR ND.rel.length kR) (.int .i64 ND.nxt) (.slice jI ND.ins.length kI) (.slice jT ND.tak.length kT) (.slice jO ND.out.length kO) (.slice jE ND.evs.length kE))
     go_wp2
     go_roundw
     case rel=>exact ⟨k+1,by omega,by go_num,_,HE.out,HF.out⟩
     case measure=>simp [intOf];omega
   ·have hkn:k=n:=by omega
    have hkk:¬ (k:Int)<(n:Int):=by omega
    rw [hkn] at hnm
    have HF:Hid (NewOut C ⟨a5,a6,a7,a8,c5,c6,c7,c8⟩ S ⟨aA,aR,cA,cR⟩ n w wr gm):=hid ⟨gl,gd,wc.heap.size,As,hnm.low,HCC.out,HSS.out,hnm.row,hnm.drow,fun i hi=>⟨(hnm.at_ i hi).1,(hnm.at_ i hi).2.foreign lr (fun k hk=>hk.elim)⟩,hnm.last,hnm.lo,hnm.hi,fun k hk=>hk.elim⟩
    clear hnm hbw
    go_wp2
    go_ret
    exact ⟨gm,rfl,HF.out⟩
end Go.Proofs.YtejhccmclanlmaaGreatDoor
