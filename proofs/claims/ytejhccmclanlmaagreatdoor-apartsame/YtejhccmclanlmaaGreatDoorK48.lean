/- Texts joined: Bd. -/
import Derived.Test.YtejhccmclanlmaaGreatDoorK45
set_option linter.unusedVariables false
set_option maxRecDepth 100000
namespace Go.Proofs.YtejhccmclanlmaaGreatDoor
open Go.RowKit
structure CLX (n:Nat) (Es:Nat→Dom) (n0:Nat) (w:World) (g:Nat):Prop where
 row:DRow w g n
 doms:∃ As':Nat→DMem,∀ i,i<n→DomsAt w g 0 i (Es i) (As' i)∧DomOn (g+1) w (As' i) (Es i)
 ge:n0≤g
theorem CLX.keep {n:Nat} {Es:Nat→Dom} {n0:Nat} {w w':World} {g:Nat} (h:CLX n Es n0 w g) (hb:Below w.heap.size w w'):CLX n Es n0 w' g:=by
 obtain ⟨As',hd⟩:=h.doms
 exact ⟨h.row.keep hb,⟨As',fun i hi=>⟨(hd i hi).1.keep hb,(hd i hi).2.ext (Ext.below hb)⟩⟩,h.ge⟩
def dSCm:Nat→Nat
 | 0=>5
 | 1=>6
 | 2=>7
 | 3=>8
 | 4=>9
 | 5=>10
 | 6=>11
 | 7=>12
 | 8=>13
 | 9=>14
 | 10=>15
 | 11=>16
 | 12=>4
 | 13=>17
 | 14=>18
 | 15=>19
 | 16=>20
 | _=>999
def dOCm:Nat→List Nat
 | 16=>[15,16]
 | i=>[i]
def FCCm (K:MK) (gd slot nW:Nat) (fr te:Int) (Es:Nat→Dom) (n0:Nat) (i:Nat) (x:Nat→Value) (w:World):Prop:=
 match i with
 | 0=>x 5=.pointer (some ⟨K.gm,0,none⟩)
 | 1=>x 6=.pointer (some ⟨K.gm,0,none⟩)
 | 2=>x 7=.pointer (some ⟨K.gm,0,none⟩)
 | 3=>x 8=.pointer (some ⟨K.gm,0,none⟩)
 | 4=>x 9=.agg #[.int .i64 K.C.s,.int .i64 K.C.w,.int .i64 K.C.d,.int .i64 K.C.p,.int .i64 K.C.q,.slice K.B.a5 K.C.sl.length K.B.c5,.slice K.B.a6 K.C.ow.length K.B.c6,.slice K.B.a7 K.C.ch.length K.B.c7,.slice K.B.a8 K.C.ta.length K.B.c8]
 | 5=>x 10=.pointer (some ⟨K.gm,0,none⟩)
 | 6=>x 11=.pointer (some ⟨K.gm,0,none⟩)
 | 7=>x 12=.pointer (some ⟨K.gm,12,none⟩)
 | 8=>x 13=.slice (some ⟨gd,0,none⟩) K.n K.n
 | 9=>x 14=.pointer (some ⟨nW,0,none⟩)
 | 10=>x 15=.int .i64 (slot:Int)
 | 11=>∃ (gq:Nat),x 16=.tuple #[.slice (some ⟨gq,0,none⟩) K.n K.n,.int .i64 0]∧CLX K.n Es n0 w gq
 | 12=>∃ (gq:Nat),x 4=.tuple #[.slice (some ⟨gq,0,none⟩) K.n K.n,.int .i64 0]∧CLX K.n Es n0 w gq
 | 13=>∃ (gq:Nat),x 17=.slice (some ⟨gq,0,none⟩) K.n K.n∧CLX K.n Es n0 w gq
 | 14=>x 18=.int .i64 0
 | 15=>x 19=.pointer (some ⟨K.gm,0,none⟩)
 | 16=>x 20=.pointer (some ⟨K.gm,12,none⟩)
 | _=>True
def AF21 (x:Nat→Value):Act:={ tmps:=#[x 0,x 1,x 2,x 3,x 4,x 5,x 6,x 7,x 8,x 9,x 10,x 11,x 12,x 13,x 14,x 15,x 16,x 17,x 18,x 19,x 20],defers:=[] }
def BSCm (K:MK) (gd slot nW:Nat) (fr te:Int) (Es:Nat→Dom) (x:Nat→Value):Prop:=x 0=.pointer (some ⟨K.gm,0,none⟩)∧x 1=.agg #[.int .i64 (slot:Int),.int .i64 fr,.int .i64 te]∧x 2=undef∧x 3=.pointer (some ⟨nW,0,none⟩)
theorem bsCm_upd {K:MK} {gd slot nW:Nat} {fr te:Int} {Es:Nat→Dom} (x:Nat→Value) (s:Nat) (v:Value) (hs:0≠s∧1≠s∧2≠s∧3≠s) (h:BSCm K gd slot nW fr te Es x):BSCm K gd slot nW fr te Es (upd x s v):=by
 obtain ⟨q0,q1,q2,q3⟩:=hs
 obtain ⟨h0,h1,h2,h3⟩:=h
 exact ⟨(if_neg q0).trans h0,(if_neg q1).trans h1,(if_neg q2).trans h2,(if_neg q3).trans h3⟩
theorem fcCm_keep {K:MK} {gd slot nW:Nat} {fr te:Int} {Es:Nat→Dom} {n0:Nat} (i:Nat) (x x':Nat→Value) (w w':World) (hb:Below w.heap.size w w') (hx:∀ j∈dOCm i,x' (dSCm j)=x (dSCm j)) (h:FCCm K gd slot nW fr te Es n0 i x w):FCCm K gd slot nW fr te Es n0 i x' w':=by
 match i with
 | 0=>exact (hx 0 (by simp [dOCm])).trans h
 | 1=>exact (hx 1 (by simp [dOCm])).trans h
 | 2=>exact (hx 2 (by simp [dOCm])).trans h
 | 3=>exact (hx 3 (by simp [dOCm])).trans h
 | 4=>exact (hx 4 (by simp [dOCm])).trans h
 | 5=>exact (hx 5 (by simp [dOCm])).trans h
 | 6=>exact (hx 6 (by simp [dOCm])).trans h
 | 7=>exact (hx 7 (by simp [dOCm])).trans h
 | 8=>exact (hx 8 (by simp [dOCm])).trans h
 | 9=>exact (hx 9 (by simp [dOCm])).trans h
 | 10=>exact (hx 10 (by simp [dOCm])).trans h
 | 11=>
  have e:x' 16=x 16:=hx 11 (by simp [dOCm])
  obtain ⟨gq,h1,h2⟩:=h
  exact ⟨gq,e.trans h1,h2.keep hb⟩
 | 12=>
  have e:x' 4=x 4:=hx 12 (by simp [dOCm])
  obtain ⟨gq,h1,h2⟩:=h
  exact ⟨gq,e.trans h1,h2.keep hb⟩
 | 13=>
  have e:x' 17=x 17:=hx 13 (by simp [dOCm])
  obtain ⟨gq,h1,h2⟩:=h
  exact ⟨gq,e.trans h1,h2.keep hb⟩
 | 14=>exact (hx 14 (by simp [dOCm])).trans h
 | 15=>exact (hx 15 (by simp [dOCm])).trans h
 | 16=>exact (hx 16 (by simp [dOCm])).trans h
 | n+17=>trivial
theorem dSCm_inj:∀ i,i<17→∀ j,j<17→i≠j→dSCm i≠dSCm j:=by decide
theorem dOCm_lt:∀ i,i<17→∀ j∈dOCm i,j<17:=by decide
set_option maxHeartbeats 4000000 in
theorem closeM_ok (K:MK) (w:World) (gd base:Nat) (Ds:Nat→Dom) (As:Nat→DMem) (La:Nat→Int) (slot:Nat) (fr te:Int) (m:Nat→Nat) (bb:Int) (h:MO K w gd base Ds As La) (hs:slot<K.C.sl.length) (h0:ckC K.C=0) (hn:K.C.d=(K.n:Int)) (hA:ALL K.C m bb Ds) (hbb:bb≤1000000000000) :
  Calls Tryz.prog 25 #[.pointer (some ⟨K.gm,0,none⟩),.agg #[.int .i64 slot,.int .i64 fr,.int .i64 te]] w fun e w'=>e=.returned (.tuple #[])∧∃ g:Nat,(∃ As',MO K w' g (g+1) (closeF K.C (slD K.C slot) Ds) As' La)∧Ext (MX K gd) w w'∧w.heap.size≤g:=by
 have q1:=below_new w (.cells #[.int .i64 (slot:Int),.int .i64 fr,.int .i64 te] 79)
 have hrow:=h.row.below q1 lr
 have R1:=rowAt_new2 w w.heap.size [.int .i64 (slot:Int),.int .i64 fr,.int .i64 te] 79 rfl
 have HH:=hid h
 have CX0:Hid (∀ wx,Below w.heap.size w wx→Calls Tryz.prog 49 #[.agg #[.int .i64 K.C.s,.int .i64 K.C.w,.int .i64 K.C.d,.int .i64 K.C.p,.int .i64 K.C.q,.slice K.B.a5 K.C.sl.length K.B.c5,.slice K.B.a6 K.C.ow.length K.B.c6,.slice K.B.a7 K.C.ch.length K.B.c7,.slice K.B.a8 K.C.ta.length K.B.c8],.slice (some ⟨gd,0,none⟩) K.n K.n,.int .i64 (slot:Int)] wx fun e w'=>∃ g:Nat,e=.returned (.tuple #[.slice (some ⟨g,0,none⟩) K.n K.n,.int .i64 0])∧DRow w' g K.n∧(∃ As':Nat→DMem,∀ i,i<K.n→DomsAt w' g 0 i (closeF K.C (slD K.C slot) Ds i) (As' i)∧DomOn (g+1) w' (As' i) (closeF K.C (slD K.C slot) Ds i))∧wx.heap.size≤g∧Below wx.heap.size wx w'):=hid fun wx hb=>
  close_ok K.C K.B gd 0 K.n K.n Ds As slot m bb wx (h.keep hb).conf (fun i hi=>⟨((h.keep hb).at_ i hi).1,((h.keep hb).at_ i hi).2.dom⟩) h0 hs hn hA hbb
 have hwW:Below w.heap.size w (w.alloc (.cells #[.int .i64 (slot:Int),.int .i64 fr,.int .i64 te] 79)):=q1
 generalize hW:w.alloc (.cells #[.int .i64 (slot:Int),.int .i64 fr,.int .i64 te] 79)=W at *
 have HRM:=hid hrow
 have HR1:=hid R1
 have HS:Hid (∀ w',Below W.heap.size W w'→w'.cell? ⟨K.gm,0,none⟩=some (.int .i64 K.C.s)∧w'.cell? ⟨K.gm,1,none⟩=some (.int .i64 K.C.w)∧w'.cell? ⟨K.gm,2,none⟩=some (.int .i64 K.C.d)∧w'.cell? ⟨K.gm,3,none⟩=some (.int .i64 K.C.p)∧w'.cell? ⟨K.gm,4,none⟩=some (.int .i64 K.C.q)∧w'.cell? ⟨K.gm,5,none⟩=some (.slice K.B.a5 K.C.sl.length K.B.c5)∧w'.cell? ⟨K.gm,6,none⟩=some (.slice K.B.a6 K.C.ow.length K.B.c6)∧w'.cell? ⟨K.gm,7,none⟩=some (.slice K.B.a7 K.C.ch.length K.B.c7)∧w'.cell? ⟨K.gm,8,none⟩=some (.slice K.B.a8 K.C.ta.length K.B.c8)∧w'.cell? ⟨K.gm,12,none⟩=some (.slice (some ⟨gd,0,none⟩) K.n K.n)∧w'.cell? ⟨w.heap.size,0,none⟩=some (.int .i64 (slot:Int))):=hid fun w' hb=>by
  have g:=fun i v hv=>(HRM.out.below hb lr).cell i v hv
  exact ⟨g 0 _ rfl,g 1 _ rfl,g 2 _ rfl,g 3 _ rfl,g 4 _ rfl,g 5 _ rfl,g 6 _ rfl,g 7 _ rfl,g 8 _ rfl,g 12 _ rfl,(HR1.out.below hb lr).cell 0 _ rfl⟩
 have CX:Hid (∀ wx,Below W.heap.size W wx→Calls Tryz.prog 49 #[.agg #[.int .i64 K.C.s,.int .i64 K.C.w,.int .i64 K.C.d,.int .i64 K.C.p,.int .i64 K.C.q,.slice K.B.a5 K.C.sl.length K.B.c5,.slice K.B.a6 K.C.ow.length K.B.c6,.slice K.B.a7 K.C.ch.length K.B.c7,.slice K.B.a8 K.C.ta.length K.B.c8],.slice (some ⟨gd,0,none⟩) K.n K.n,.int .i64 (slot:Int)] wx fun e w'=>∃ g:Nat,e=.returned (.tuple #[.slice (some ⟨g,0,none⟩) K.n K.n,.int .i64 0])∧DRow w' g K.n∧(∃ As':Nat→DMem,∀ i,i<K.n→DomsAt w' g 0 i (closeF K.C (slD K.C slot) Ds i) (As' i)∧DomOn (g+1) w' (As' i) (closeF K.C (slD K.C slot) Ds i))∧wx.heap.size≤g∧Below wx.heap.size wx w'):=hid fun wx hb=>CX0.out wx (btrans hwW hb)
 have HW:=hid hW
 clear q1 hrow R1 h hA h0 hn hs CX0 hW
 go_enter Tryz.func25,Tryz.ntmps25
 go_upto_region 1 with fail
 have HWw:=HW.out
 simp only [HWw]
 clear HWw HW
 have hbz:Below W.heap.size W W.drew:=(Below.refl _ _).drew
 obtain ⟨Wd,hWd⟩:∃ x,x=W.drew:=⟨_,rfl⟩
 have hbz':=hbz
 rw [← hWd] at hbz
 have HWd:=hid hWd
 refine wp_region_any (by kernel_rfl) ?_
 change wpAny _ _ _ _ _ _ _ (World.drew _)
 rw [show World.drew W=Wd from HWd.out.symm]
 clear HWd hWd hbz'
 refine wpAny_invM (fun lB aB w'=>∃ x,aB=AF21 x∧BSCm K gd slot w.heap.size fr te (closeF K.C (slD K.C slot) Ds) x∧(RPg (FCCm K gd slot w.heap.size fr te (closeF K.C (slD K.C slot) Ds) Wd.heap.size) dOCm 17 18 Wd lB x w'∨((∀ i∈([0,1,2,3,4,5,6,7,8,9,10,11,12,13,15,16,17]:List Nat),lB.getD i false=true)∧lB.size=18∧(∃ gq:Nat,x 4=.tuple #[.slice (some ⟨gq,0,none⟩) K.n K.n,.int .i64 0])∧∃ (wy:World) (gq:Nat),Below W.heap.size W wy∧CLX K.n (closeF K.C (slD K.C slot) Ds) Wd.heap.size wy gq∧w'=wy.setCell ⟨K.gm,12,none⟩ (.slice (some ⟨gq,0,none⟩) K.n K.n)))) (by kernel_rfl) ?step ?fin _ _ _ _ rfl (by decide) ?start
 case start=>exact ex_frame _ rfl ⟨⟨rfl,rfl,rfl,rfl⟩,.inl ⟨rfl,Below.refl _ _,fun i hi=>by simp [Array.getD_eq_getD_getElem?,Array.getElem?_replicate];split <;> simp,fun i h=>absurd h (by simp [Array.getD_eq_getD_getElem?,Array.getElem?_replicate];split <;> simp),fun i h=>absurd h (by simp [Array.getD_eq_getD_getElem?,Array.getElem?_replicate];split <;> simp)⟩⟩
 case step=>
  intro lB aB w2 iB oB h ho hl hdep K' hK
  have hi:iB<18:=by
   have:=(Array.getElem?_eq_some_iff.1 ho).1
   simpa using this
  obtain ⟨x,rfl,hbs,h⟩:=h
  have hcs:iB=0∨iB=1∨iB=2∨iB=3∨iB=4∨iB=5∨iB=6∨iB=7∨iB=8∨iB=9∨iB=10∨iB=11∨iB=12∨iB=13∨iB=14∨iB=15∨iB=16∨iB=17:=by omega
  rcases hcs with rfl|rfl|rfl|rfl|rfl|rfl|rfl|rfl|rfl|rfl|rfl|rfl|rfl|rfl|rfl|rfl|rfl|rfl
  ·simp only [List.getElem?_toArray,List.getElem?_cons_zero,Option.some.injEq] at ho
   subst ho
   rcases h with h|⟨hall,hlsz,hdone⟩
   ·have hbq:=hbs
    obtain ⟨bz0,bz1,bz2,bz3⟩:=hbq
    clear hdep
    simp only [AF21,bz0,bz1,bz2,bz3]
    go_simp
    exact hK.out _ _ ⟨upd x 5 (.pointer (some ⟨K.gm,0,none⟩)),(by simp only [AF21,upd,reduceIte,Nat.reduceEqDiff,bz0,bz1,bz2,bz3]),bsCm_upd _ _ _ (by decide) hbs,.inl (rpg_next fcCm_keep dSCm_inj dOCm_lt h 0 _ (by decide) hl (Below.refl _ _) rfl (fun j hj hne=>absurd hj (by simp [dOCm,hne])))⟩
   ·rw [hall 0 (by decide)] at hl;cases hl
  ·simp only [List.getElem?_toArray,List.getElem?_cons_zero,List.getElem?_cons_succ,Option.some.injEq] at ho
   subst ho
   rcases h with h|⟨hall,hlsz,hdone⟩
   ·have hbq:=hbs
    obtain ⟨bz0,bz1,bz2,bz3⟩:=hbq
    clear hdep
    simp only [AF21,bz0,bz1,bz2,bz3]
    go_simp
    exact hK.out _ _ ⟨upd x 6 (.pointer (some ⟨K.gm,0,none⟩)),(by simp only [AF21,upd,reduceIte,Nat.reduceEqDiff,bz0,bz1,bz2,bz3]),bsCm_upd _ _ _ (by decide) hbs,.inl (rpg_next fcCm_keep dSCm_inj dOCm_lt h 1 _ (by decide) hl (Below.refl _ _) rfl (fun j hj hne=>absurd hj (by simp [dOCm,hne])))⟩
   ·rw [hall 1 (by decide)] at hl;cases hl
  ·simp only [List.getElem?_toArray,List.getElem?_cons_zero,List.getElem?_cons_succ,Option.some.injEq] at ho
   subst ho
   rcases h with h|⟨hall,hlsz,hdone⟩
   ·have hbq:=hbs
    obtain ⟨bz0,bz1,bz2,bz3⟩:=hbq
    have hd1:=dep_of hdep 1 (by kernel_rfl)
    have f1:x 6=.pointer (some ⟨K.gm,0,none⟩):=h.fc 1 hd1
    clear hdep
    simp only [AF21,bz0,bz1,bz2,bz3,f1]
    go_simp
    exact hK.out _ _ ⟨upd x 7 (.pointer (some ⟨K.gm,0,none⟩)),(by simp only [AF21,upd,reduceIte,Nat.reduceEqDiff,bz0,bz1,bz2,bz3,f1]),bsCm_upd _ _ _ (by decide) hbs,.inl (rpg_next fcCm_keep dSCm_inj dOCm_lt h 2 _ (by decide) hl (Below.refl _ _) rfl (fun j hj hne=>absurd hj (by simp [dOCm,hne])))⟩
   ·rw [hall 2 (by decide)] at hl;cases hl
  ·simp only [List.getElem?_toArray,List.getElem?_cons_zero,List.getElem?_cons_succ,Option.some.injEq] at ho
   subst ho
   rcases h with h|⟨hall,hlsz,hdone⟩
   ·have hbq:=hbs
    obtain ⟨bz0,bz1,bz2,bz3⟩:=hbq
    have hd2:=dep_of hdep 2 (by kernel_rfl)
    have f2:x 7=.pointer (some ⟨K.gm,0,none⟩):=h.fc 2 hd2
    clear hdep
    simp only [AF21,bz0,bz1,bz2,bz3,f2]
    go_simp
    exact hK.out _ _ ⟨upd x 8 (.pointer (some ⟨K.gm,0,none⟩)),(by simp only [AF21,upd,reduceIte,Nat.reduceEqDiff,bz0,bz1,bz2,bz3,f2]),bsCm_upd _ _ _ (by decide) hbs,.inl (rpg_next fcCm_keep dSCm_inj dOCm_lt h 3 _ (by decide) hl (Below.refl _ _) rfl (fun j hj hne=>absurd hj (by simp [dOCm,hne])))⟩
   ·rw [hall 3 (by decide)] at hl;cases hl
  ·simp only [List.getElem?_toArray,List.getElem?_cons_zero,List.getElem?_cons_succ,Option.some.injEq] at ho
   subst ho
   rcases h with h|⟨hall,hlsz,hdone⟩
   ·have hbq:=hbs
    obtain ⟨bz0,bz1,bz2,bz3⟩:=hbq
    have hd3:=dep_of hdep 3 (by kernel_rfl)
    have f3:x 8=.pointer (some ⟨K.gm,0,none⟩):=h.fc 3 hd3
    clear hdep
    obtain ⟨m0,m1,m2,m3,m4,m5,m6,m7,m8,m12,t0⟩:=HS.out _ (btrans hbz h.b)
    have HT:∀ j u,[.int .i64 K.C.s,.int .i64 K.C.w,.int .i64 K.C.d,.int .i64 K.C.p,.int .i64 K.C.q,.slice K.B.a5 K.C.sl.length K.B.c5,.slice K.B.a6 K.C.ow.length K.B.c6,.slice K.B.a7 K.C.ch.length K.B.c7,.slice K.B.a8 K.C.ta.length K.B.c8][j]? = some u→w2.cell? ⟨K.gm,0+j,none⟩=some u:=fun j u hu=>by
     match j,hu with
     | 0,hu=>cases hu;exact m0
     | 1,hu=>cases hu;exact m1
     | 2,hu=>cases hu;exact m2
     | 3,hu=>cases hu;exact m3
     | 4,hu=>cases hu;exact m4
     | 5,hu=>cases hu;exact m5
     | 6,hu=>cases hu;exact m6
     | 7,hu=>cases hu;exact m7
     | 8,hu=>cases hu;exact m8
    simp only [AF21,bz0,bz1,bz2,bz3,f3]
    refine step_wanted (by rfl) ?_
    refine wp_load_mid 27 _ rfl (K.gm) (0) (by rfl) [.int .i64 K.C.s,.int .i64 K.C.w,.int .i64 K.C.d,.int .i64 K.C.p,.int .i64 K.C.q,.slice K.B.a5 K.C.sl.length K.B.c5,.slice K.B.a6 K.C.ow.length K.B.c6,.slice K.B.a7 K.C.ch.length K.B.c7,.slice K.B.a8 K.C.ta.length K.B.c8] _ (HT) Tryz.underlying27 rfl (by kernel_rfl) ?_
    refine hK.out _ _ ⟨upd x 9 (.agg #[.int .i64 K.C.s,.int .i64 K.C.w,.int .i64 K.C.d,.int .i64 K.C.p,.int .i64 K.C.q,.slice K.B.a5 K.C.sl.length K.B.c5,.slice K.B.a6 K.C.ow.length K.B.c6,.slice K.B.a7 K.C.ch.length K.B.c7,.slice K.B.a8 K.C.ta.length K.B.c8]),?_,bsCm_upd _ _ _ (by decide) hbs,.inl (rpg_next fcCm_keep dSCm_inj dOCm_lt h 4 _ (by decide) hl (Below.refl _ _) rfl (fun j hj hne=>absurd hj (by simp [dOCm,hne])))⟩
    simp only [Act.put,List.setIfInBounds_toArray,List.set_cons_zero,List.set_cons_succ,AF21,upd,reduceIte,Nat.reduceEqDiff,bz0,bz1,bz2,bz3,f3]
   ·rw [hall 4 (by decide)] at hl;cases hl
  ·simp only [List.getElem?_toArray,List.getElem?_cons_zero,List.getElem?_cons_succ,Option.some.injEq] at ho
   subst ho
   rcases h with h|⟨hall,hlsz,hdone⟩
   ·have hbq:=hbs
    obtain ⟨bz0,bz1,bz2,bz3⟩:=hbq
    clear hdep
    simp only [AF21,bz0,bz1,bz2,bz3]
    go_simp
    exact hK.out _ _ ⟨upd x 10 (.pointer (some ⟨K.gm,0,none⟩)),(by simp only [AF21,upd,reduceIte,Nat.reduceEqDiff,bz0,bz1,bz2,bz3]),bsCm_upd _ _ _ (by decide) hbs,.inl (rpg_next fcCm_keep dSCm_inj dOCm_lt h 5 _ (by decide) hl (Below.refl _ _) rfl (fun j hj hne=>absurd hj (by simp [dOCm,hne])))⟩
   ·rw [hall 5 (by decide)] at hl;cases hl
  ·simp only [List.getElem?_toArray,List.getElem?_cons_zero,List.getElem?_cons_succ,Option.some.injEq] at ho
   subst ho
   rcases h with h|⟨hall,hlsz,hdone⟩
   ·have hbq:=hbs
    obtain ⟨bz0,bz1,bz2,bz3⟩:=hbq
    have hd5:=dep_of hdep 5 (by kernel_rfl)
    have f5:x 10=.pointer (some ⟨K.gm,0,none⟩):=h.fc 5 hd5
    clear hdep
    simp only [AF21,bz0,bz1,bz2,bz3,f5]
    go_simp
    exact hK.out _ _ ⟨upd x 11 (.pointer (some ⟨K.gm,0,none⟩)),(by simp only [AF21,upd,reduceIte,Nat.reduceEqDiff,bz0,bz1,bz2,bz3,f5]),bsCm_upd _ _ _ (by decide) hbs,.inl (rpg_next fcCm_keep dSCm_inj dOCm_lt h 6 _ (by decide) hl (Below.refl _ _) rfl (fun j hj hne=>absurd hj (by simp [dOCm,hne])))⟩
   ·rw [hall 6 (by decide)] at hl;cases hl
  ·simp only [List.getElem?_toArray,List.getElem?_cons_zero,List.getElem?_cons_succ,Option.some.injEq] at ho
   subst ho
   rcases h with h|⟨hall,hlsz,hdone⟩
   ·have hbq:=hbs
    obtain ⟨bz0,bz1,bz2,bz3⟩:=hbq
    have hd6:=dep_of hdep 6 (by kernel_rfl)
    have f6:x 11=.pointer (some ⟨K.gm,0,none⟩):=h.fc 6 hd6
    clear hdep
    simp only [AF21,bz0,bz1,bz2,bz3,f6]
    go_simp
    exact hK.out _ _ ⟨upd x 12 (.pointer (some ⟨K.gm,12,none⟩)),(by simp only [AF21,upd,reduceIte,Nat.reduceEqDiff,bz0,bz1,bz2,bz3,f6]),bsCm_upd _ _ _ (by decide) hbs,.inl (rpg_next fcCm_keep dSCm_inj dOCm_lt h 7 _ (by decide) hl (Below.refl _ _) rfl (fun j hj hne=>absurd hj (by simp [dOCm,hne])))⟩
   ·rw [hall 7 (by decide)] at hl;cases hl
  ·simp only [List.getElem?_toArray,List.getElem?_cons_zero,List.getElem?_cons_succ,Option.some.injEq] at ho
   subst ho
   rcases h with h|⟨hall,hlsz,hdone⟩
   ·have hbq:=hbs
    obtain ⟨bz0,bz1,bz2,bz3⟩:=hbq
    have hd7:=dep_of hdep 7 (by kernel_rfl)
    have f7:x 12=.pointer (some ⟨K.gm,12,none⟩):=h.fc 7 hd7
    clear hdep
    obtain ⟨m0,m1,m2,m3,m4,m5,m6,m7,m8,m12,t0⟩:=HS.out _ (btrans hbz h.b)
    simp only [AF21,bz0,bz1,bz2,bz3,f7]
    go_simp
    exact hK.out _ _ ⟨upd x 13 (.slice (some ⟨gd,0,none⟩) K.n K.n),(by simp only [AF21,upd,reduceIte,Nat.reduceEqDiff,bz0,bz1,bz2,bz3,f7]),bsCm_upd _ _ _ (by decide) hbs,.inl (rpg_next fcCm_keep dSCm_inj dOCm_lt h 8 _ (by decide) hl (Below.refl _ _) rfl (fun j hj hne=>absurd hj (by simp [dOCm,hne])))⟩
   ·rw [hall 8 (by decide)] at hl;cases hl
  ·simp only [List.getElem?_toArray,List.getElem?_cons_zero,List.getElem?_cons_succ,Option.some.injEq] at ho
   subst ho
   rcases h with h|⟨hall,hlsz,hdone⟩
   ·have hbq:=hbs
    obtain ⟨bz0,bz1,bz2,bz3⟩:=hbq
    clear hdep
    simp only [AF21,bz0,bz1,bz2,bz3]
    go_simp
    exact hK.out _ _ ⟨upd x 14 (.pointer (some ⟨w.heap.size,0,none⟩)),(by simp only [AF21,upd,reduceIte,Nat.reduceEqDiff,bz0,bz1,bz2,bz3]),bsCm_upd _ _ _ (by decide) hbs,.inl (rpg_next fcCm_keep dSCm_inj dOCm_lt h 9 _ (by decide) hl (Below.refl _ _) rfl (fun j hj hne=>absurd hj (by simp [dOCm,hne])))⟩
   ·rw [hall 9 (by decide)] at hl;cases hl
  ·simp only [List.getElem?_toArray,List.getElem?_cons_zero,List.getElem?_cons_succ,Option.some.injEq] at ho
   subst ho
   rcases h with h|⟨hall,hlsz,hdone⟩
   ·have hbq:=hbs
    obtain ⟨bz0,bz1,bz2,bz3⟩:=hbq
    have hd9:=dep_of hdep 9 (by kernel_rfl)
    have f9:x 14=.pointer (some ⟨w.heap.size,0,none⟩):=h.fc 9 hd9
    clear hdep
    obtain ⟨m0,m1,m2,m3,m4,m5,m6,m7,m8,m12,t0⟩:=HS.out _ (btrans hbz h.b)
    simp only [AF21,bz0,bz1,bz2,bz3,f9]
    go_simp
    exact hK.out _ _ ⟨upd x 15 (.int .i64 (slot:Int)),(by simp only [AF21,upd,reduceIte,Nat.reduceEqDiff,bz0,bz1,bz2,bz3,f9]),bsCm_upd _ _ _ (by decide) hbs,.inl (rpg_next fcCm_keep dSCm_inj dOCm_lt h 10 _ (by decide) hl (Below.refl _ _) rfl (fun j hj hne=>absurd hj (by simp [dOCm,hne])))⟩
   ·rw [hall 10 (by decide)] at hl;cases hl
  ·simp only [List.getElem?_toArray,List.getElem?_cons_zero,List.getElem?_cons_succ,Option.some.injEq] at ho
   subst ho
   rcases h with h|⟨hall,hlsz,hdone⟩
   ·have hbq:=hbs
    obtain ⟨bz0,bz1,bz2,bz3⟩:=hbq
    have hd4:=dep_of hdep 4 (by kernel_rfl)
    have f4:x 9=.agg #[.int .i64 K.C.s,.int .i64 K.C.w,.int .i64 K.C.d,.int .i64 K.C.p,.int .i64 K.C.q,.slice K.B.a5 K.C.sl.length K.B.c5,.slice K.B.a6 K.C.ow.length K.B.c6,.slice K.B.a7 K.C.ch.length K.B.c7,.slice K.B.a8 K.C.ta.length K.B.c8]:=h.fc 4 hd4
    have hd8:=dep_of hdep 8 (by kernel_rfl)
    have f8:x 13=.slice (some ⟨gd,0,none⟩) K.n K.n:=h.fc 8 hd8
    have hd10:=dep_of hdep 10 (by kernel_rfl)
    have f10:x 15=.int .i64 (slot:Int):=h.fc 10 hd10
    clear hdep
    have hsz:=h.b.size
    simp only [AF21,bz0,bz1,bz2,bz3,f4,f8,f10]
    go_simp
    refine Calls.mono (CX.out _ (btrans hbz h.b)) ?_
    rintro e w3 ⟨gq,rfl,hr3,hd3,hg3,hb3⟩
    exact hK.out _ _ ⟨upd x 16 (.tuple #[.slice (some ⟨gq,0,none⟩) K.n K.n,.int .i64 0]),(by simp only [AF21,upd,reduceIte,Nat.reduceEqDiff,bz0,bz1,bz2,bz3,f4,f8,f10]),bsCm_upd _ _ _ (by decide) hbs,.inl (rpg_next fcCm_keep dSCm_inj dOCm_lt h 11 _ (by decide) hl hb3 ⟨gq,rfl,⟨hr3,hd3,Nat.le_trans hsz hg3⟩⟩ (fun j hj hne=>absurd hj (by simp [dOCm,hne])))⟩
   ·rw [hall 11 (by decide)] at hl;cases hl
  ·simp only [List.getElem?_toArray,List.getElem?_cons_zero,List.getElem?_cons_succ,Option.some.injEq] at ho
   subst ho
   rcases h with h|⟨hall,hlsz,hdone⟩
   ·have hbq:=hbs
    obtain ⟨bz0,bz1,bz2,bz3⟩:=hbq
    have hd11:=dep_of hdep 11 (by kernel_rfl)
    obtain ⟨gq11,f11,e11⟩:=h.fc 11 hd11
    clear hdep
    simp only [AF21,bz0,bz1,bz2,bz3,f11]
    go_simp
    exact hK.out _ _ ⟨upd x 4 (.tuple #[.slice (some ⟨gq11,0,none⟩) K.n K.n,.int .i64 0]),(by simp only [AF21,upd,reduceIte,Nat.reduceEqDiff,bz0,bz1,bz2,bz3,f11]),bsCm_upd _ _ _ (by decide) hbs,.inl (rpg_next fcCm_keep dSCm_inj dOCm_lt h 12 _ (by decide) hl (Below.refl _ _) ⟨gq11,rfl,e11⟩ (fun j hj hne=>absurd hj (by simp [dOCm,hne])))⟩
   ·rw [hall 12 (by decide)] at hl;cases hl
  ·simp only [List.getElem?_toArray,List.getElem?_cons_zero,List.getElem?_cons_succ,Option.some.injEq] at ho
   subst ho
   rcases h with h|⟨hall,hlsz,hdone⟩
   ·have hbq:=hbs
    obtain ⟨bz0,bz1,bz2,bz3⟩:=hbq
    have hd12:=dep_of hdep 12 (by kernel_rfl)
    obtain ⟨gq12,f12,e12⟩:=h.fc 12 hd12
    clear hdep
    simp only [AF21,bz0,bz1,bz2,bz3,f12]
    go_simp
    exact hK.out _ _ ⟨upd x 17 (.slice (some ⟨gq12,0,none⟩) K.n K.n),(by simp only [AF21,upd,reduceIte,Nat.reduceEqDiff,bz0,bz1,bz2,bz3,f12]),bsCm_upd _ _ _ (by decide) hbs,.inl (rpg_next fcCm_keep dSCm_inj dOCm_lt h 13 _ (by decide) hl (Below.refl _ _) ⟨gq12,rfl,e12⟩ (fun j hj hne=>absurd hj (by simp [dOCm,hne])))⟩
   ·rw [hall 13 (by decide)] at hl;cases hl
  ·simp only [List.getElem?_toArray,List.getElem?_cons_zero,List.getElem?_cons_succ,Option.some.injEq] at ho
   subst ho
   rcases h with h|⟨hall,hlsz,hdone⟩
   ·have hbq:=hbs
    obtain ⟨bz0,bz1,bz2,bz3⟩:=hbq
    have hd12:=dep_of hdep 12 (by kernel_rfl)
    obtain ⟨gq12,f12,e12⟩:=h.fc 12 hd12
    clear hdep
    simp only [AF21,bz0,bz1,bz2,bz3,f12]
    go_simp
    exact hK.out _ _ ⟨upd x 18 (.int .i64 0),(by simp only [AF21,upd,reduceIte,Nat.reduceEqDiff,bz0,bz1,bz2,bz3,f12]),bsCm_upd _ _ _ (by decide) hbs,.inl (rpg_next fcCm_keep dSCm_inj dOCm_lt h 14 _ (by decide) hl (Below.refl _ _) rfl (fun j hj hne=>absurd hj (by simp [dOCm,hne])))⟩
   ·obtain ⟨⟨gq,f12⟩,hrest⟩:=hdone
    have hbq:=hbs
    obtain ⟨bz0,bz1,bz2,bz3⟩:=hbq
    have HRST:=hid hrest
    clear hdep hrest
    simp only [AF21,bz0,bz1,bz2,bz3,f12]
    go_simp
    exact hK.out _ _ ⟨upd x 18 (.int .i64 0),(by simp only [AF21,upd,reduceIte,Nat.reduceEqDiff,bz0,bz1,bz2,bz3,f12]),bsCm_upd _ _ _ (by decide) hbs,.inr ⟨all_keepL hall,by rw [Array.size_setIfInBounds];exact hlsz,⟨gq,f12⟩,HRST.out⟩⟩
  ·simp only [List.getElem?_toArray,List.getElem?_cons_zero,List.getElem?_cons_succ,Option.some.injEq] at ho
   subst ho
   rcases h with h|⟨hall,hlsz,hdone⟩
   ·have hbq:=hbs
    obtain ⟨bz0,bz1,bz2,bz3⟩:=hbq
    have hd0:=dep_of hdep 0 (by kernel_rfl)
    have f0:x 5=.pointer (some ⟨K.gm,0,none⟩):=h.fc 0 hd0
    clear hdep
    simp only [AF21,bz0,bz1,bz2,bz3,f0]
    go_simp
    exact hK.out _ _ ⟨upd x 19 (.pointer (some ⟨K.gm,0,none⟩)),(by simp only [AF21,upd,reduceIte,Nat.reduceEqDiff,bz0,bz1,bz2,bz3,f0]),bsCm_upd _ _ _ (by decide) hbs,.inl (rpg_next fcCm_keep dSCm_inj dOCm_lt h 15 _ (by decide) hl (Below.refl _ _) rfl (fun j hj hne=>absurd hj (by simp [dOCm,hne])))⟩
   ·rw [hall 15 (by decide)] at hl;cases hl
  ·simp only [List.getElem?_toArray,List.getElem?_cons_zero,List.getElem?_cons_succ,Option.some.injEq] at ho
   subst ho
   rcases h with h|⟨hall,hlsz,hdone⟩
   ·have hbq:=hbs
    obtain ⟨bz0,bz1,bz2,bz3⟩:=hbq
    have hd15:=dep_of hdep 15 (by kernel_rfl)
    have f15:x 19=.pointer (some ⟨K.gm,0,none⟩):=h.fc 15 hd15
    clear hdep
    simp only [AF21,bz0,bz1,bz2,bz3,f15]
    go_simp
    exact hK.out _ _ ⟨upd x 20 (.pointer (some ⟨K.gm,12,none⟩)),(by simp only [AF21,upd,reduceIte,Nat.reduceEqDiff,bz0,bz1,bz2,bz3,f15]),bsCm_upd _ _ _ (by decide) hbs,.inl (rpg_next fcCm_keep dSCm_inj dOCm_lt h 16 _ (by decide) hl (Below.refl _ _) rfl (fun j hj hne=>by
      simp only [dOCm,List.mem_cons,List.not_mem_nil,or_false] at hj
      rcases hj with rfl|rfl
      ·exact hd15
      ·exact absurd rfl hne))⟩
   ·rw [hall 16 (by decide)] at hl;cases hl
  ·simp only [List.getElem?_toArray,List.getElem?_cons_zero,List.getElem?_cons_succ,Option.some.injEq] at ho
   subst ho
   rcases h with h|⟨hall,hlsz,hdone⟩
   ·have hbq:=hbs
    obtain ⟨bz0,bz1,bz2,bz3⟩:=hbq
    have hd16:=dep_of hdep 16 (by kernel_rfl)
    have f16:x 20=.pointer (some ⟨K.gm,12,none⟩):=h.fc 16 hd16
    have hd13:=dep_of hdep 13 (by kernel_rfl)
    obtain ⟨gq13,f13,e13⟩:=h.fc 13 hd13
    have hl15:=h.cl 16 hd16 15 (by simp [dOCm])
    have HALL:=hid (all_setL (k:=17) (m:=18) (ks:=[0,1,2,3,4,5,6,7,8,9,10,11,12,13,15,16]) h.sz (by decide) (fun i hi=>by
     by_cases e:i=15
     ·subst e;exact hl15
     ·exact all_depL [0,1,2,3,4,5,6,7,8,9,10,11,12,13,16] hdep (by kernel_rfl) i (by simp only [List.mem_cons,List.not_mem_nil,or_false] at hi ⊢;omega)))
    have hd12:=dep_of hdep 12 (by kernel_rfl)
    obtain ⟨gq12,f12,-⟩:=h.fc 12 hd12
    have F12:=hid f12
    have HSZ0:=hid h.sz
    have E13:=hid e13
    have hB2:=btrans hbz h.b
    have HB2:=hid hB2
    have F16:=hid f16
    have F13:=hid f13
    obtain ⟨m0,m1,m2,m3,m4,m5,m6,m7,m8,m12,t0⟩:=HS.out _ hB2
    have zf:=(HRM.out.below hB2 lr).frozen 12
    clear f12 hdep e13 hB2 m0 m1 m2 m3 m4 m5 m6 m7 m8 t0
    simp only [AF21,bz0,bz1,bz2,bz3,f16,f13]
    go_simp
    refine hK.out _ _ ⟨x,?_,hbs,.inr ⟨HALL.out,by rw [Array.size_setIfInBounds];exact HSZ0.out,⟨gq12,F12.out⟩,w2,gq13,HB2.out,E13.out,rfl⟩⟩
    simp only [AF21,F16.out,F13.out,bz0,bz1,bz2,bz3]
   ·rw [hall 17 (by decide)] at hl;cases hl
 case fin=>
  rintro lB aB w2 ⟨x,rfl,hbs,h|⟨_,_,_,wy,gq,hB,hX,rfl⟩⟩ hall
  ·have:=hall 17 (by decide)
   rw [h.un 17 (by decide)] at this
   cases this
  have HX:=hid hX
  have HB:=hid hB
  clear hbs hB hX
  simp only [AF21]
  go_wp2
  go_end0
  obtain ⟨hr,⟨As',hd⟩,hg⟩:=HX.out
  have hg':W.heap.size≤gq:=Nat.le_trans hbz.size hg
  have hwsz:=hwW.size
  have hc:=HH.out.close (btrans hwW HB.out) hr hd (Nat.le_trans hwsz hg')
  exact ⟨rfl,gq,⟨As',hc.1⟩,hc.2,Nat.le_trans hwsz hg'⟩
theorem domsM_ok (K:MK) (w:World) (gd base:Nat) (Ds:Nat→Dom) (As:Nat→DMem) (La:Nat→Int) (h:MO K w gd base Ds As La) :
  Calls Tryz.prog 26 #[.pointer (some ⟨K.gm,0,none⟩)] w fun e w'=>e=.returned (.slice (some ⟨gd,0,none⟩) K.n K.n)∧Below w.heap.size w w':=by
 have c:=h.row.cell 12 _ rfl
 clear h
 go_enter Tryz.func26,Tryz.ntmps26
 go_wp2
 go_ret
 exact ⟨rfl,Below.refl _ _⟩
end Go.Proofs.YtejhccmclanlmaaGreatDoor
