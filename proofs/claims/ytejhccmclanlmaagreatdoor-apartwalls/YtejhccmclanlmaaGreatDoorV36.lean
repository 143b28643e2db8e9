/- Bd -/
import Derived.Test.YtejhccmclanlmaaGreatDoorV33
set_option linter.all false
set_option maxRecDepth 100000
set_option maxHeartbeats 8000000
namespace Go.Proofs.YtejhccmclanlmaaGreatDoor
open Go.RowKit Go.Proofs.Tryz
variable {fr te:Int} {K:MK} {gd n0 nW slot:Nat}
structure CLX (n:Nat) (Es:Nat→Dom) (n0:Nat) (w:World) (g:Nat):Prop where
 row:Zhz w g n
 doms:∃ As':Nat→Yk,∀ i,i<n→Qx w g 0 i (Es i) (As' i)∧Zax (g+1) w (As' i) (Es i)
 ge:n0≤g
theorem CLX.keep {n:Nat} {Es:Nat→Dom} {w w':World} {g:Nat} (h:CLX n Es n0 w g) (hb:Below w.heap.size w w'):CLX n Es n0 w' g:=by
 obtain ⟨a0,hd⟩:=h.doms;exact ⟨h.row.keep hb,⟨a0,fun i hi=>⟨(hd i hi).1.keep hb,(hd i hi).2.ext (Ext.below hb)⟩⟩,h.ge⟩
def Zzh:Nat→Nat
 | 0=>5
 | 1=>6
 | 2=>7
 | 3=>8
 | 4=>9
 | 5=>10
 | 6=>11
 | 7=>12
 | 8=>13
 | 9=>14
 | 10=>15
 | 11=>16
 | 12=>4
 | 13=>17
 | 14=>18
 | 15=>19
 | 16=>20
 | _=>999
def Zcj:Nat→List Nat
 | 16=>[15,16]
 | i=>[i]
def Zzp (K:MK) (gd slot nW:Nat) (fr te:Int) (Es:Nat→Dom) (n0:Nat) (i:Nat) (x:Nat→Value) (w:World):Prop:=
 match i with
 | 0=>x 5=.pointer (some ⟨K.gm,0,none⟩)
 | 1=>x 6=.pointer (some ⟨K.gm,0,none⟩)
 | 2=>x 7=.pointer (some ⟨K.gm,0,none⟩)
 | 3=>x 8=.pointer (some ⟨K.gm,0,none⟩)
 | 4=>x 9=.agg #[.int .i64 K.C.s,.int .i64 K.C.w,.int .i64 K.C.d,.int .i64 K.C.p,.int .i64 K.C.q,.slice K.B.a5 K.C.sl.length K.B.c5,.slice K.B.a6 K.C.ow.length K.B.c6,.slice K.B.a7 K.C.ch.length K.B.c7,.slice K.B.a8 K.C.ta.length K.B.c8]
 | 5=>x 10=.pointer (some ⟨K.gm,0,none⟩)
 | 6=>x 11=.pointer (some ⟨K.gm,0,none⟩)
 | 7=>x 12=.pointer (some ⟨K.gm,12,none⟩)
 | 8=>x 13=.slice (some ⟨gd,0,none⟩) K.n K.n
 | 9=>x 14=.pointer (some ⟨nW,0,none⟩)
 | 10=>x 15=.int .i64 (slot:Int)
 | 11=>∃ (gq:Nat),x 16=.tuple #[.slice (some ⟨gq,0,none⟩) K.n K.n,.int .i64 0]∧CLX K.n Es n0 w gq
 | 12=>∃ (gq:Nat),x 4=.tuple #[.slice (some ⟨gq,0,none⟩) K.n K.n,.int .i64 0]∧CLX K.n Es n0 w gq
 | 13=>∃ (gq:Nat),x 17=.slice (some ⟨gq,0,none⟩) K.n K.n∧CLX K.n Es n0 w gq
 | 14=>x 18=.int .i64 0
 | 15=>x 19=.pointer (some ⟨K.gm,0,none⟩)
 | 16=>x 20=.pointer (some ⟨K.gm,12,none⟩)
 | _=>True
def Zb3 (x:Nat→Value):Act:={tmps:=#[x 0,x 1,x 2,x 3,x 4,x 5,x 6,x 7,x 8,x 9,x 10,x 11,x 12,x 13,x 14,x 15,x 16,x 17,x 18,x 19,x 20],defers:=[]}
def Zzw (K:MK) (gd slot nW:Nat) (fr te:Int) (Es:Nat→Dom) (x:Nat→Value):Prop:=x 0=.pointer (some ⟨K.gm,0,none⟩)∧x 1=.agg #[.int .i64 (slot:Int),.int .i64 fr,.int .i64 te]∧x 2=undef∧x 3=.pointer (some ⟨nW,0,none⟩)
theorem Qf {Es:Nat→Dom} (x:Nat→Value) (s:Nat) (v:Value) (hs:0≠s∧1≠s∧2≠s∧3≠s) (h:Zzw K gd slot nW fr te Es x):Zzw K gd slot nW fr te Es (upd x s v):=by
 obtain ⟨q0,q1,q2,q3⟩:=hs;obtain ⟨h0,h1,h2,h3⟩:=h;exact ⟨(if_neg q0).trans h0,(if_neg q1).trans h1,(if_neg q2).trans h2,(if_neg q3).trans h3⟩
theorem Y3 {Es:Nat→Dom} (i:Nat) (x x':Nat→Value) (w w':World) (hb:Below w.heap.size w w') (hx:∀ j∈Zcj i,x' (Zzh j)=x (Zzh j)) (h:Zzp K gd slot nW fr te Es n0 i x w):Zzp K gd slot nW fr te Es n0 i x' w':=by
 match i with
 | 0=>exact (hx 0 (by simp [Zcj])).trans h
 | 1=>exact (hx 1 (by simp [Zcj])).trans h
 | 2=>exact (hx 2 (by simp [Zcj])).trans h
 | 3=>exact (hx 3 (by simp [Zcj])).trans h
 | 4=>exact (hx 4 (by simp [Zcj])).trans h
 | 5=>exact (hx 5 (by simp [Zcj])).trans h
 | 6=>exact (hx 6 (by simp [Zcj])).trans h
 | 7=>exact (hx 7 (by simp [Zcj])).trans h
 | 8=>exact (hx 8 (by simp [Zcj])).trans h
 | 9=>exact (hx 9 (by simp [Zcj])).trans h
 | 10=>exact (hx 10 (by simp [Zcj])).trans h
 | 11=>
  have e:x' 16=x 16:=hx 11 (by simp [Zcj]);obtain ⟨gq,h1,h2⟩:=h;exact ⟨gq,e.trans h1,h2.keep hb⟩
 | 12=>
  have e:x' 4=x 4:=hx 12 (by simp [Zcj]);obtain ⟨gq,h1,h2⟩:=h;exact ⟨gq,e.trans h1,h2.keep hb⟩
 | 13=>
  have e:x' 17=x 17:=hx 13 (by simp [Zcj]);obtain ⟨gq,h1,h2⟩:=h;exact ⟨gq,e.trans h1,h2.keep hb⟩
 | 14=>exact (hx 14 (by simp [Zcj])).trans h
 | 15=>exact (hx 15 (by simp [Zcj])).trans h
 | 16=>exact (hx 16 (by simp [Zcj])).trans h
 | n+17=>trivial
theorem Qi:∀ i,i<17→∀ j,j<17→i≠j→Zzh i≠Zzh j:=by decide
theorem Jd:∀ i,i<17→∀ j∈Zcj i,j<17:=by decide
theorem Zkw (K:MK) (w:World) (gd base:Nat) (Ds:Nat→Dom) (As:Nat→Yk) (La:Nat→Int) (slot:Nat) (fr te:Int) (m:Nat→Nat) (bb:Int) (h:MO K w gd base Ds As La) (hs:slot<K.C.sl.length) (h0:ckC K.C=0) (hn:K.C.d=(K.n:Int)) (hA:ALL K.C m bb Ds) (hbb:bb≤1000000000000):
  Calls prog 25 #[.pointer (some ⟨K.gm,0,none⟩),.agg #[.int .i64 slot,.int .i64 fr,.int .i64 te]] w fun e w'=>e=.returned (.tuple #[])∧∃ g:Nat,(∃ As',MO K w' g (g+1) (J4 K.C (slD K.C slot) Ds) As' La)∧Ext (MX K gd) w w'∧w.heap.size≤g:=by
 have q1:=Za w (.cells #[.int .i64 (slot:Int),.int .i64 fr,.int .i64 te] 79);have aj:=h.row.below q1 lr;have R1:=Zc w w.heap.size [.int .i64 (slot:Int),.int .i64 fr,.int .i64 te] 79 rfl;have HH:=hid h;have b5:Hid (∀ wx,Below w.heap.size w wx→Calls prog 49 #[.agg #[.int .i64 K.C.s,.int .i64 K.C.w,.int .i64 K.C.d,.int .i64 K.C.p,.int .i64 K.C.q,.slice K.B.a5 K.C.sl.length K.B.c5,.slice K.B.a6 K.C.ow.length K.B.c6,.slice K.B.a7 K.C.ch.length K.B.c7,.slice K.B.a8 K.C.ta.length K.B.c8],.slice (some ⟨gd,0,none⟩) K.n K.n,.int .i64 (slot:Int)] wx fun e w'=>∃ g:Nat,e=.returned (.tuple #[.slice (some ⟨g,0,none⟩) K.n K.n,.int .i64 0])∧Zhz w' g K.n∧(∃ As':Nat→Yk,∀ i,i<K.n→Qx w' g 0 i (J4 K.C (slD K.C slot) Ds i) (As' i)∧Zax (g+1) w' (As' i) (J4 K.C (slD K.C slot) Ds i))∧wx.heap.size≤g∧Below wx.heap.size wx w'):=hid fun wx hb=>
  Zuu K.C K.B gd 0 K.n K.n Ds As slot m bb wx (h.keep hb).conf (fun i hi=>⟨((h.keep hb).at_ i hi).1,((h.keep hb).at_ i hi).2.dom⟩) h0 hs hn hA hbb
 have ap:Below w.heap.size w (w.alloc (.cells #[.int .i64 (slot:Int),.int .i64 fr,.int .i64 te] 79)):=q1;generalize hW:w.alloc (.cells #[.int .i64 (slot:Int),.int .i64 fr,.int .i64 te] 79)=W at *
 have b6:=hid aj;have bi:=hid R1;have HS:Hid (∀ w',Below W.heap.size W w'→w'.cell? ⟨K.gm,0,none⟩=some (.int .i64 K.C.s)∧w'.cell? ⟨K.gm,1,none⟩=some (.int .i64 K.C.w)∧w'.cell? ⟨K.gm,2,none⟩=some (.int .i64 K.C.d)∧w'.cell? ⟨K.gm,3,none⟩=some (.int .i64 K.C.p)∧w'.cell? ⟨K.gm,4,none⟩=some (.int .i64 K.C.q)∧w'.cell? ⟨K.gm,5,none⟩=some (.slice K.B.a5 K.C.sl.length K.B.c5)∧w'.cell? ⟨K.gm,6,none⟩=some (.slice K.B.a6 K.C.ow.length K.B.c6)∧w'.cell? ⟨K.gm,7,none⟩=some (.slice K.B.a7 K.C.ch.length K.B.c7)∧w'.cell? ⟨K.gm,8,none⟩=some (.slice K.B.a8 K.C.ta.length K.B.c8)∧w'.cell? ⟨K.gm,12,none⟩=some (.slice (some ⟨gd,0,none⟩) K.n K.n)∧w'.cell? ⟨w.heap.size,0,none⟩=some (.int .i64 (slot:Int))):=hid fun w' hb=>by
  have g:=fun i v hv=>(b6.out.below hb lr).cell i v hv
  exact ⟨g 0 _ rfl,g 1 _ rfl,g 2 _ rfl,g 3 _ rfl,g 4 _ rfl,g 5 _ rfl,g 6 _ rfl,g 7 _ rfl,g 8 _ rfl,g 12 _ rfl,(bi.out.below hb lr).cell 0 _ rfl⟩
 have CX:Hid (∀ wx,Below W.heap.size W wx→Calls prog 49 #[.agg #[.int .i64 K.C.s,.int .i64 K.C.w,.int .i64 K.C.d,.int .i64 K.C.p,.int .i64 K.C.q,.slice K.B.a5 K.C.sl.length K.B.c5,.slice K.B.a6 K.C.ow.length K.B.c6,.slice K.B.a7 K.C.ch.length K.B.c7,.slice K.B.a8 K.C.ta.length K.B.c8],.slice (some ⟨gd,0,none⟩) K.n K.n,.int .i64 (slot:Int)] wx fun e w'=>∃ g:Nat,e=.returned (.tuple #[.slice (some ⟨g,0,none⟩) K.n K.n,.int .i64 0])∧Zhz w' g K.n∧(∃ As':Nat→Yk,∀ i,i<K.n→Qx w' g 0 i (J4 K.C (slD K.C slot) Ds i) (As' i)∧Zax (g+1) w' (As' i) (J4 K.C (slD K.C slot) Ds i))∧wx.heap.size≤g∧Below wx.heap.size wx w'):=hid fun wx hb=>b5.out wx (Zb ap hb)
 have HW:=hid hW;clear q1 aj R1 h hA h0 hn hs b5 hW;go_enter func25,ntmps25;go_upto_region 1 with fail;have b7:=HW.out;simp only [b7];clear b7 HW;have ah:Below W.heap.size W W.drew:=br.drew;obtain ⟨Wd,aq⟩:∃ x,x=W.drew:=⟨_,rfl⟩
 have ar:=ah;rw [← aq] at ah;have b8:=hid aq;refine wp_region_any (by kernel_rfl) ?_;change wpAny _ _ _ _ _ _ _ (World.drew _);rw [show World.drew W=Wd from b8.out.symm];clear b8 aq ar;refine Zfg (fun lB aB w'=>∃ x,aB=Zb3 x∧Zzw K gd slot w.heap.size fr te (J4 K.C (slD K.C slot) Ds) x∧(RPg (Zzp K gd slot w.heap.size fr te (J4 K.C (slD K.C slot) Ds) Wd.heap.size) Zcj 17 18 Wd lB x w'∨((∀ i∈([0,1,2,3,4,5,6,7,8,9,10,11,12,13,15,16,17]:List Nat),lB.getD i false=true)∧lB.size=18∧(∃ gq:Nat,x 4=.tuple #[.slice (some ⟨gq,0,none⟩) K.n K.n,.int .i64 0])∧∃ (wy:World) (gq:Nat),Below W.heap.size W wy∧CLX K.n (J4 K.C (slD K.C slot) Ds) Wd.heap.size wy gq∧w'=wy.setCell ⟨K.gm,12,none⟩ (.slice (some ⟨gq,0,none⟩) K.n K.n)))) (by kernel_rfl) ?step ?fin _ _ _ _ rfl (by decide) ?start
 case start=>exact Zj9 _ rfl ⟨⟨rfl,rfl,rfl,rfl⟩,.inl ⟨rfl,br,fun i hi=>by simp [Array.getD_eq_getD_getElem?,Array.getElem?_replicate];split<;>simp,fun i h=>absurd h (by simp [Array.getD_eq_getD_getElem?,Array.getElem?_replicate];split<;>simp),fun i h=>absurd h (by simp [Array.getD_eq_getD_getElem?,Array.getElem?_replicate];split<;>simp)⟩⟩
 case step=>
  intro lB aB w2 iB oB h ho hl a0 K' hK;have hi:iB<18:=by
   have:=(Array.getElem?_eq_some_iff.1 ho).1
   simpa using this
  obtain ⟨x,rfl,ab,h⟩:=h;have bj:iB=0∨iB=1∨iB=2∨iB=3∨iB=4∨iB=5∨iB=6∨iB=7∨iB=8∨iB=9∨iB=10∨iB=11∨iB=12∨iB=13∨iB=14∨iB=15∨iB=16∨iB=17:=by omega
  rcases bj with rfl|rfl|rfl|rfl|rfl|rfl|rfl|rfl|rfl|rfl|rfl|rfl|rfl|rfl|rfl|rfl|rfl|rfl
  ·simp only [xJ1,xJ2,xJ4] at ho
   subst ho;rcases h with h|⟨a1,ac,a2⟩
   ·have ad:=ab
    obtain ⟨a3,a4,a9,aa⟩:=ad;clear a0;simp only [Zb3,a3,a4,a9,aa];go_simp;exact hK.out _ _ ⟨upd x 5 (.pointer (some ⟨K.gm,0,none⟩)),(by simp only [Zb3,upd,reduceIte,Nat.reduceEqDiff,a3,a4,a9,aa]),Qf _ _ _ (by decide) ab,.inl (Zj Y3 Qi Jd h 0 _ (by decide) hl br rfl (fun j hj hne=>absurd hj (by simp [Zcj,hne])))⟩
   ·rw [a1 0 (by decide)] at hl;cases hl
  ·simp only [xJ1,xJ2,xJ3,xJ4] at ho
   subst ho;rcases h with h|⟨a1,ac,a2⟩
   ·have ad:=ab
    obtain ⟨a3,a4,a9,aa⟩:=ad;clear a0;simp only [Zb3,a3,a4,a9,aa];go_simp;exact hK.out _ _ ⟨upd x 6 (.pointer (some ⟨K.gm,0,none⟩)),(by simp only [Zb3,upd,reduceIte,Nat.reduceEqDiff,a3,a4,a9,aa]),Qf _ _ _ (by decide) ab,.inl (Zj Y3 Qi Jd h 1 _ (by decide) hl br rfl (fun j hj hne=>absurd hj (by simp [Zcj,hne])))⟩
   ·rw [a1 1 (by decide)] at hl;cases hl
  ·simp only [xJ1,xJ2,xJ3,xJ4] at ho
   subst ho;rcases h with h|⟨a1,ac,a2⟩
   ·have ad:=ab
    obtain ⟨a3,a4,a9,aa⟩:=ad;have bk:=Zn a0 1 (by kernel_rfl);have f1:x 6=.pointer (some ⟨K.gm,0,none⟩):=h.fc 1 bk;clear a0;simp only [Zb3,a3,a4,a9,aa,f1];go_simp;exact hK.out _ _ ⟨upd x 7 (.pointer (some ⟨K.gm,0,none⟩)),(by simp only [Zb3,upd,reduceIte,Nat.reduceEqDiff,a3,a4,a9,aa,f1]),Qf _ _ _ (by decide) ab,.inl (Zj Y3 Qi Jd h 2 _ (by decide) hl br rfl (fun j hj hne=>absurd hj (by simp [Zcj,hne])))⟩
   ·rw [a1 2 (by decide)] at hl;cases hl
  ·simp only [xJ1,xJ2,xJ3,xJ4] at ho
   subst ho;rcases h with h|⟨a1,ac,a2⟩
   ·have ad:=ab
    obtain ⟨a3,a4,a9,aa⟩:=ad;have bm:=Zn a0 2 (by kernel_rfl);have f2:x 7=.pointer (some ⟨K.gm,0,none⟩):=h.fc 2 bm;clear a0;simp only [Zb3,a3,a4,a9,aa,f2];go_simp;exact hK.out _ _ ⟨upd x 8 (.pointer (some ⟨K.gm,0,none⟩)),(by simp only [Zb3,upd,reduceIte,Nat.reduceEqDiff,a3,a4,a9,aa,f2]),Qf _ _ _ (by decide) ab,.inl (Zj Y3 Qi Jd h 3 _ (by decide) hl br rfl (fun j hj hne=>absurd hj (by simp [Zcj,hne])))⟩
   ·rw [a1 3 (by decide)] at hl;cases hl
  ·simp only [xJ1,xJ2,xJ3,xJ4] at ho
   subst ho;rcases h with h|⟨a1,ac,a2⟩
   ·have ad:=ab
    obtain ⟨a3,a4,a9,aa⟩:=ad;have au:=Zn a0 3 (by kernel_rfl);have f3:x 8=.pointer (some ⟨K.gm,0,none⟩):=h.fc 3 au;clear a0;obtain ⟨m0,m1,m2,m3,m4,m5,m6,m7,m8,aw,t0⟩:=HS.out _ (Zb ah h.b);have HT:∀ j u,[.int .i64 K.C.s,.int .i64 K.C.w,.int .i64 K.C.d,.int .i64 K.C.p,.int .i64 K.C.q,.slice K.B.a5 K.C.sl.length K.B.c5,.slice K.B.a6 K.C.ow.length K.B.c6,.slice K.B.a7 K.C.ch.length K.B.c7,.slice K.B.a8 K.C.ta.length K.B.c8][j]? = some u→w2.cell? ⟨K.gm,0+j,none⟩=some u:=fun j u hu=>by
     match j,hu with
     | 0,hu=>cases hu;exact m0
     | 1,hu=>cases hu;exact m1
     | 2,hu=>cases hu;exact m2
     | 3,hu=>cases hu;exact m3
     | 4,hu=>cases hu;exact m4
     | 5,hu=>cases hu;exact m5
     | 6,hu=>cases hu;exact m6
     | 7,hu=>cases hu;exact m7
     | 8,hu=>cases hu;exact m8
    simp only [Zb3,a3,a4,a9,aa,f3];refine Yw (by rfl) ?_;refine wp_load_mid 27 _ rfl (K.gm) (0) (by rfl) [.int .i64 K.C.s,.int .i64 K.C.w,.int .i64 K.C.d,.int .i64 K.C.p,.int .i64 K.C.q,.slice K.B.a5 K.C.sl.length K.B.c5,.slice K.B.a6 K.C.ow.length K.B.c6,.slice K.B.a7 K.C.ch.length K.B.c7,.slice K.B.a8 K.C.ta.length K.B.c8] _ (HT) underlying27 rfl (by kernel_rfl) ?_;refine hK.out _ _ ⟨upd x 9 (.agg #[.int .i64 K.C.s,.int .i64 K.C.w,.int .i64 K.C.d,.int .i64 K.C.p,.int .i64 K.C.q,.slice K.B.a5 K.C.sl.length K.B.c5,.slice K.B.a6 K.C.ow.length K.B.c6,.slice K.B.a7 K.C.ch.length K.B.c7,.slice K.B.a8 K.C.ta.length K.B.c8]),?_,Qf _ _ _ (by decide) ab,.inl (Zj Y3 Qi Jd h 4 _ (by decide) hl br rfl (fun j hj hne=>absurd hj (by simp [Zcj,hne])))⟩;simp only [Act.put,List.setIfInBounds_toArray,List.set_cons_zero,List.set_cons_succ,Zb3,upd,reduceIte,Nat.reduceEqDiff,a3,a4,a9,aa,f3]
   ·rw [a1 4 (by decide)] at hl;cases hl
  ·simp only [xJ1,xJ2,xJ3,xJ4] at ho
   subst ho;rcases h with h|⟨a1,ac,a2⟩
   ·have ad:=ab
    obtain ⟨a3,a4,a9,aa⟩:=ad;clear a0;simp only [Zb3,a3,a4,a9,aa];go_simp;exact hK.out _ _ ⟨upd x 10 (.pointer (some ⟨K.gm,0,none⟩)),(by simp only [Zb3,upd,reduceIte,Nat.reduceEqDiff,a3,a4,a9,aa]),Qf _ _ _ (by decide) ab,.inl (Zj Y3 Qi Jd h 5 _ (by decide) hl br rfl (fun j hj hne=>absurd hj (by simp [Zcj,hne])))⟩
   ·rw [a1 5 (by decide)] at hl;cases hl
  ·simp only [xJ1,xJ2,xJ3,xJ4] at ho
   subst ho;rcases h with h|⟨a1,ac,a2⟩
   ·have ad:=ab
    obtain ⟨a3,a4,a9,aa⟩:=ad;have bn:=Zn a0 5 (by kernel_rfl);have f5:x 10=.pointer (some ⟨K.gm,0,none⟩):=h.fc 5 bn;clear a0;simp only [Zb3,a3,a4,a9,aa,f5];go_simp;exact hK.out _ _ ⟨upd x 11 (.pointer (some ⟨K.gm,0,none⟩)),(by simp only [Zb3,upd,reduceIte,Nat.reduceEqDiff,a3,a4,a9,aa,f5]),Qf _ _ _ (by decide) ab,.inl (Zj Y3 Qi Jd h 6 _ (by decide) hl br rfl (fun j hj hne=>absurd hj (by simp [Zcj,hne])))⟩
   ·rw [a1 6 (by decide)] at hl;cases hl
  ·simp only [xJ1,xJ2,xJ3,xJ4] at ho
   subst ho;rcases h with h|⟨a1,ac,a2⟩
   ·have ad:=ab
    obtain ⟨a3,a4,a9,aa⟩:=ad;have bo:=Zn a0 6 (by kernel_rfl);have f6:x 11=.pointer (some ⟨K.gm,0,none⟩):=h.fc 6 bo;clear a0;simp only [Zb3,a3,a4,a9,aa,f6];go_simp;exact hK.out _ _ ⟨upd x 12 (.pointer (some ⟨K.gm,12,none⟩)),(by simp only [Zb3,upd,reduceIte,Nat.reduceEqDiff,a3,a4,a9,aa,f6]),Qf _ _ _ (by decide) ab,.inl (Zj Y3 Qi Jd h 7 _ (by decide) hl br rfl (fun j hj hne=>absurd hj (by simp [Zcj,hne])))⟩
   ·rw [a1 7 (by decide)] at hl;cases hl
  ·simp only [xJ1,xJ2,xJ3,xJ4] at ho
   subst ho;rcases h with h|⟨a1,ac,a2⟩
   ·have ad:=ab
    obtain ⟨a3,a4,a9,aa⟩:=ad;have bp:=Zn a0 7 (by kernel_rfl);have f7:x 12=.pointer (some ⟨K.gm,12,none⟩):=h.fc 7 bp;clear a0;obtain ⟨m0,m1,m2,m3,m4,m5,m6,m7,m8,aw,t0⟩:=HS.out _ (Zb ah h.b);simp only [Zb3,a3,a4,a9,aa,f7];go_simp;exact hK.out _ _ ⟨upd x 13 (.slice (some ⟨gd,0,none⟩) K.n K.n),(by simp only [Zb3,upd,reduceIte,Nat.reduceEqDiff,a3,a4,a9,aa,f7]),Qf _ _ _ (by decide) ab,.inl (Zj Y3 Qi Jd h 8 _ (by decide) hl br rfl (fun j hj hne=>absurd hj (by simp [Zcj,hne])))⟩
   ·rw [a1 8 (by decide)] at hl;cases hl
  ·simp only [xJ1,xJ2,xJ3,xJ4] at ho
   subst ho;rcases h with h|⟨a1,ac,a2⟩
   ·have ad:=ab
    obtain ⟨a3,a4,a9,aa⟩:=ad;clear a0;simp only [Zb3,a3,a4,a9,aa];go_simp;exact hK.out _ _ ⟨upd x 14 (.pointer (some ⟨w.heap.size,0,none⟩)),(by simp only [Zb3,upd,reduceIte,Nat.reduceEqDiff,a3,a4,a9,aa]),Qf _ _ _ (by decide) ab,.inl (Zj Y3 Qi Jd h 9 _ (by decide) hl br rfl (fun j hj hne=>absurd hj (by simp [Zcj,hne])))⟩
   ·rw [a1 9 (by decide)] at hl;cases hl
  ·simp only [xJ1,xJ2,xJ3,xJ4] at ho
   subst ho;rcases h with h|⟨a1,ac,a2⟩
   ·have ad:=ab
    obtain ⟨a3,a4,a9,aa⟩:=ad;have bq:=Zn a0 9 (by kernel_rfl);have f9:x 14=.pointer (some ⟨w.heap.size,0,none⟩):=h.fc 9 bq;clear a0;obtain ⟨m0,m1,m2,m3,m4,m5,m6,m7,m8,aw,t0⟩:=HS.out _ (Zb ah h.b);simp only [Zb3,a3,a4,a9,aa,f9];go_simp;exact hK.out _ _ ⟨upd x 15 (.int .i64 (slot:Int)),(by simp only [Zb3,upd,reduceIte,Nat.reduceEqDiff,a3,a4,a9,aa,f9]),Qf _ _ _ (by decide) ab,.inl (Zj Y3 Qi Jd h 10 _ (by decide) hl br rfl (fun j hj hne=>absurd hj (by simp [Zcj,hne])))⟩
   ·rw [a1 10 (by decide)] at hl;cases hl
  ·simp only [xJ1,xJ2,xJ3,xJ4] at ho
   subst ho;rcases h with h|⟨a1,ac,a2⟩
   ·have ad:=ab
    obtain ⟨a3,a4,a9,aa⟩:=ad;have bs:=Zn a0 4 (by kernel_rfl);have f4:x 9=.agg #[.int .i64 K.C.s,.int .i64 K.C.w,.int .i64 K.C.d,.int .i64 K.C.p,.int .i64 K.C.q,.slice K.B.a5 K.C.sl.length K.B.c5,.slice K.B.a6 K.C.ow.length K.B.c6,.slice K.B.a7 K.C.ch.length K.B.c7,.slice K.B.a8 K.C.ta.length K.B.c8]:=h.fc 4 bs;have bt:=Zn a0 8 (by kernel_rfl);have f8:x 13=.slice (some ⟨gd,0,none⟩) K.n K.n:=h.fc 8 bt;have ax:=Zn a0 10 (by kernel_rfl);have b9:x 15=.int .i64 (slot:Int):=h.fc 10 ax;clear a0;have bu:=h.b.size;simp only [Zb3,a3,a4,a9,aa,f4,f8,b9];go_simp;refine Calls.mono (CX.out _ (Zb ah h.b)) ?_;rintro e w3 ⟨gq,rfl,bv,au,bw,bx⟩;exact hK.out _ _ ⟨upd x 16 (.tuple #[.slice (some ⟨gq,0,none⟩) K.n K.n,.int .i64 0]),(by simp only [Zb3,upd,reduceIte,Nat.reduceEqDiff,a3,a4,a9,aa,f4,f8,b9]),Qf _ _ _ (by decide) ab,.inl (Zj Y3 Qi Jd h 11 _ (by decide) hl bx ⟨gq,rfl,⟨bv,au,Nat.le_trans bu bw⟩⟩ (fun j hj hne=>absurd hj (by simp [Zcj,hne])))⟩
   ·rw [a1 11 (by decide)] at hl;cases hl
  ·simp only [xJ1,xJ2,xJ3,xJ4] at ho
   subst ho;rcases h with h|⟨a1,ac,a2⟩
   ·have ad:=ab
    obtain ⟨a3,a4,a9,aa⟩:=ad;have ay:=Zn a0 11 (by kernel_rfl);obtain ⟨ak,ba,bz⟩:=h.fc 11 ay;clear a0;simp only [Zb3,a3,a4,a9,aa,ba];go_simp;exact hK.out _ _ ⟨upd x 4 (.tuple #[.slice (some ⟨ak,0,none⟩) K.n K.n,.int .i64 0]),(by simp only [Zb3,upd,reduceIte,Nat.reduceEqDiff,a3,a4,a9,aa,ba]),Qf _ _ _ (by decide) ab,.inl (Zj Y3 Qi Jd h 12 _ (by decide) hl br ⟨ak,rfl,bz⟩ (fun j hj hne=>absurd hj (by simp [Zcj,hne])))⟩
   ·rw [a1 12 (by decide)] at hl;cases hl
  ·simp only [xJ1,xJ2,xJ3,xJ4] at ho
   subst ho;rcases h with h|⟨a1,ac,a2⟩
   ·have ad:=ab
    obtain ⟨a3,a4,a9,aa⟩:=ad;have af:=Zn a0 12 (by kernel_rfl);obtain ⟨ag,ae,bc⟩:=h.fc 12 af;clear a0;simp only [Zb3,a3,a4,a9,aa,ae];go_simp;exact hK.out _ _ ⟨upd x 17 (.slice (some ⟨ag,0,none⟩) K.n K.n),(by simp only [Zb3,upd,reduceIte,Nat.reduceEqDiff,a3,a4,a9,aa,ae]),Qf _ _ _ (by decide) ab,.inl (Zj Y3 Qi Jd h 13 _ (by decide) hl br ⟨ag,rfl,bc⟩ (fun j hj hne=>absurd hj (by simp [Zcj,hne])))⟩
   ·rw [a1 13 (by decide)] at hl;cases hl
  ·simp only [xJ1,xJ2,xJ3,xJ4] at ho
   subst ho;rcases h with h|⟨a1,ac,a2⟩
   ·have ad:=ab
    obtain ⟨a3,a4,a9,aa⟩:=ad;have af:=Zn a0 12 (by kernel_rfl);obtain ⟨ag,ae,bc⟩:=h.fc 12 af;clear a0;simp only [Zb3,a3,a4,a9,aa,ae];go_simp;exact hK.out _ _ ⟨upd x 18 (.int .i64 0),(by simp only [Zb3,upd,reduceIte,Nat.reduceEqDiff,a3,a4,a9,aa,ae]),Qf _ _ _ (by decide) ab,.inl (Zj Y3 Qi Jd h 14 _ (by decide) hl br rfl (fun j hj hne=>absurd hj (by simp [Zcj,hne])))⟩
   ·obtain ⟨⟨gq,ae⟩,ai⟩:=a2
    have ad:=ab;obtain ⟨a3,a4,a9,aa⟩:=ad;have az:=hid ai;clear a0 ai;simp only [Zb3,a3,a4,a9,aa,ae];go_simp;exact hK.out _ _ ⟨upd x 18 (.int .i64 0),(by simp only [Zb3,upd,reduceIte,Nat.reduceEqDiff,a3,a4,a9,aa,ae]),Qf _ _ _ (by decide) ab,.inr ⟨Zel a1,by rw [Array.size_setIfInBounds];exact ac,⟨gq,ae⟩,az.out⟩⟩
  ·simp only [xJ1,xJ2,xJ3,xJ4] at ho
   subst ho;rcases h with h|⟨a1,ac,a2⟩
   ·have ad:=ab
    obtain ⟨a3,a4,a9,aa⟩:=ad;have c0:=Zn a0 0 (by kernel_rfl);have f0:x 5=.pointer (some ⟨K.gm,0,none⟩):=h.fc 0 c0;clear a0;simp only [Zb3,a3,a4,a9,aa,f0];go_simp;exact hK.out _ _ ⟨upd x 19 (.pointer (some ⟨K.gm,0,none⟩)),(by simp only [Zb3,upd,reduceIte,Nat.reduceEqDiff,a3,a4,a9,aa,f0]),Qf _ _ _ (by decide) ab,.inl (Zj Y3 Qi Jd h 15 _ (by decide) hl br rfl (fun j hj hne=>absurd hj (by simp [Zcj,hne])))⟩
   ·rw [a1 15 (by decide)] at hl;cases hl
  ·simp only [xJ1,xJ2,xJ3,xJ4] at ho
   subst ho;rcases h with h|⟨a1,ac,a2⟩
   ·have ad:=ab
    obtain ⟨a3,a4,a9,aa⟩:=ad;have al:=Zn a0 15 (by kernel_rfl);have bd:x 19=.pointer (some ⟨K.gm,0,none⟩):=h.fc 15 al;clear a0;simp only [Zb3,a3,a4,a9,aa,bd];go_simp;exact hK.out _ _ ⟨upd x 20 (.pointer (some ⟨K.gm,12,none⟩)),(by simp only [Zb3,upd,reduceIte,Nat.reduceEqDiff,a3,a4,a9,aa,bd]),Qf _ _ _ (by decide) ab,.inl (Zj Y3 Qi Jd h 16 _ (by decide) hl br rfl (fun j hj hne=>by
      simp only [Zcj,List.mem_cons,List.not_mem_nil,or_false] at hj;rcases hj with rfl|rfl
      ·exact al
      ·exact absurd rfl hne))⟩
   ·rw [a1 16 (by decide)] at hl;cases hl
  ·simp only [xJ1,xJ2,xJ3,xJ4] at ho
   subst ho;rcases h with h|⟨a1,ac,a2⟩
   ·have ad:=ab
    obtain ⟨a3,a4,a9,aa⟩:=ad;have am:=Zn a0 16 (by kernel_rfl);have be:x 20=.pointer (some ⟨K.gm,12,none⟩):=h.fc 16 am;have b0:=Zn a0 13 (by kernel_rfl);obtain ⟨b1,bf,bg⟩:=h.fc 13 b0;have b2:=h.cl 16 am 15 (by simp [Zcj]);have b3:=hid (Zof (k:=17) (m:=18) (ks:=[0,1,2,3,4,5,6,7,8,9,10,11,12,13,15,16]) h.sz (by decide) (fun i hi=>by
     by_cases e:i=15
     ·subst e;exact b2
     ·exact Zn0 [0,1,2,3,4,5,6,7,8,9,10,11,12,13,16] a0 (by kernel_rfl) i (by simp only [List.mem_cons,List.not_mem_nil,or_false] at hi ⊢;omega)))
    have af:=Zn a0 12 (by kernel_rfl);obtain ⟨ag,ae,-⟩:=h.fc 12 af;have c1:=hid ae;have b4:=hid h.sz;have c2:=hid bg;have ao:=Zb ah h.b;have c3:=hid ao;have c4:=hid be;have c9:=hid bf;obtain ⟨m0,m1,m2,m3,m4,m5,m6,m7,m8,aw,t0⟩:=HS.out _ ao;have zf:=(b6.out.below ao lr).frozen 12;clear ae a0 bg ao m0 m1 m2 m3 m4 m5 m6 m7 m8 t0;simp only [Zb3,a3,a4,a9,aa,be,bf];go_simp;refine hK.out _ _ ⟨x,?_,ab,.inr ⟨b3.out,by rw [Array.size_setIfInBounds];exact b4.out,⟨ag,c1.out⟩,w2,b1,c3.out,c2.out,rfl⟩⟩;simp only [Zb3,c4.out,c9.out,a3,a4,a9,aa]
   ·rw [a1 17 (by decide)] at hl;cases hl
 case fin=>
  rintro lB aB w2 ⟨x,rfl,ab,h|⟨_,_,_,wy,gq,hB,hX,rfl⟩⟩ a1
  ·have:=a1 17 (by decide)
   rw [h.un 17 (by decide)] at this;cases this
  have HX:=hid hX;have HB:=hid hB;clear ab hB hX;simp only [Zb3];go_wp2;go_end0;obtain ⟨hr,⟨As',hd⟩,hg⟩:=HX.out;have bh:W.heap.size≤gq:=Nat.le_trans ah.size hg;have an:=ap.size;have hc:=HH.out.close (Zb ap HB) hr hd (Nat.le_trans an bh);exact ⟨rfl,gq,⟨As',hc.1⟩,hc.2,Nat.le_trans an bh⟩
theorem Zon (K:MK) (w:World) (gd base:Nat) (Ds:Nat→Dom) (As:Nat→Yk) (La:Nat→Int) (h:MO K w gd base Ds As La):
  Calls prog 26 #[.pointer (some ⟨K.gm,0,none⟩)] w (RB (.slice (some ⟨gd,0,none⟩) K.n K.n) w):=by
 have c:=h.row.cell 12 _ rfl;clear h;go_enter func26,ntmps26;go_wp2;go_ret;exact ⟨rfl,br⟩
end Go.Proofs.YtejhccmclanlmaaGreatDoor
