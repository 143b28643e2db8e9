/- Hv -/
import Derived.Lib.AppendIntMem
import Derived.Lib.LaidTab
import Derived.Test.YtejhccmclanlmaaGreatDoorV18
import Derived.Test.YtejhccmclanlmaaGreatDoorV40
import Derived.Test.YtejhccmclanlmaaGreatDoorV41
set_option linter.all false
set_option maxRecDepth 100000
set_option maxHeartbeats 8000000
namespace Go.Proofs.YtejhccmclanlmaaGreatDoor
open Go.RowKit Go.Proofs.Tryz
variable {rd:Int} {xs:List Value} {AR:List Zar} {cap g n vc vd:Nat} {va vb:Option Addr} {W3 W8 w w6 w8 wr:World}
theorem Zj6 {w':World} {name:String} {k:IntKind} {zs:List Int} (h:Lib.TabIs prog w name k zs) (hb:Below w.heap.size w w'):Lib.TabIs prog w' name k zs:=by
 unfold Lib.TabIs World.var? at h ⊢
 cases hg:prog.globalNamed name with
 | none=>rw [hg] at h;cases h
 | some g=>
  rw [hg] at h;simp only [Option.bind_some] at h ⊢;have a0:g<w.heap.size:=by
   rcases Nat.lt_or_ge g w.heap.size with h'|h'
   ·exact h'
   ·rw [Array.getElem?_eq_none h'] at h
    cases h
  rw [hb.block g a0];exact h
theorem Zit {n:Int} (h:Lib.TabIs Tryz.prog w "internal/strconv.uint64pow10" .u64 Lib.pow10Tab) (hn:R64 n):Zfn w n:=fun wx hb=>(Tryz.strconv_Itoa n hn.1 hn.2 wx (Zj6 h hb)).mono (by
 rintro e w' ⟨rfl,k,os,rfl⟩;exact ⟨rfl,Lib.below_grow _ _ lr k os⟩)
theorem Zzq {x:EvT} (h:EvB x):∀ k∈evN x,R64 k:=by
 obtain ⟨h1,h2,h3,h4⟩:=h;intro k hk;simp only [evN,List.mem_cons,List.not_mem_nil,or_false] at hk;rcases hk with rfl|rfl|rfl|rfl
 ·exact h1
 ·exact h2
 ·exact h3
 ·exact h4
structure Zu6 (w6:World) (LL:Nat→List Qg) (rd:Int) (j:Nat) (wr:World) (va:Option Addr) (vc:Nat) (xs:List Value):Prop where
 row:Zf wr w6.heap.size 31 [.slice va j vc,.slice none 0 0,.int .i64 rd]
 own:wr.ownsRow (w6.heap.size+1) 56 1 (.slice va j vc) j xs
 mix:∀ k,k<j→∃ a' c',xs[k]? = some (.slice a' (LL k).length c')∧Yn w6 a' (LL k)∧(LL k).length≤c'∧(LL k).length≤9223372036854775807
 bel:Below w6.heap.size w6 wr
theorem Zu6.push {LL:Nat→List Qg} {j:Nat} {a':Option Addr} {c':Nat} (h:Zu6 w6 LL rd j wr va vc xs) (q:Below wr.heap.size wr W8) (hg:W8.grownBy w8 (Value.slice va j vc).ownBlock) (ho:w8.ownsRow (w6.heap.size+1) 56 1 (.slice (some ⟨g,0,none⟩) (j+1) cap) (j+1) (xs++[.slice a' (LL j).length c'])) (hu:Yn w6 a' (LL j)∧(LL j).length≤c'∧(LL j).length≤9223372036854775807):
  Zu6 w6 LL rd (j+1) (w8.setCell ⟨w6.heap.size,0,none⟩ (.slice (some ⟨g,0,none⟩) (j+1) cap)) (some ⟨g,0,none⟩) cap (xs++[.slice a' (LL j).length c']):=by
 have a3:=h.row.lt;have a0:∀ k,(Value.slice va j vc).ownBlock=some k→w6.heap.size+1≤k:=fun k hk=>Zv h.own k hk
 have a1:xs.length=j:=by have:=h.own.1;omega
 have r8:Zf w8 w6.heap.size 31 [.slice va j vc,.slice none 0 0,.int .i64 rd]:=(hg.block w6.heap.size (by have:=q.size;omega) (fun e=>by have:=a0 _ e.symm;omega)).trans (h.row.below q lr);refine ⟨Ze r8 0 _,Zi ho fun x hx=>Zd _ _ _ _ x (by have:=Zv ho x hx;omega),fun k hk=>?_,?_⟩
 ·by_cases e:k=j
  ·subst e
   exact ⟨a',c',by rw [List.getElem?_append_right (by omega),a1,Nat.sub_self];rfl,hu⟩
  ·obtain ⟨a2,c2,h1,h2⟩:=h.mix k (by omega)
   exact ⟨a2,c2,by rw [List.getElem?_append_left (by omega)];exact h1,h2⟩
 ·have hb:=Zb h.bel q
  exact (hb.grown hg hb.size (fun k hk=>by have:=a0 k hk;omega)).setCell (p:=⟨w6.heap.size,0,none⟩) lr _
theorem Zu6.acts {wx:World} {LL:Nat→List Qg} (h:Zu6 w6 LL rd n wr va vc xs) (hw:Below w6.heap.size w6 wx) (hag:∀ x,x<wr.heap.size→x≠w6.heap.size→wx.heap[x]? = wr.heap[x]?):Zfk wx va ((List.range n).map LL):=by
 have ho:wx.ownsRow (w6.heap.size+1) 56 1 (.slice va n vc) n xs:=Zi h.own fun x hx=>hag x (Zt h.own x hx) (by have:=Zv h.own x hx;omega)
 obtain ⟨a2,c2,e,_,_,a0,a3⟩:=Zu ho;intro i hi;have a1:i<n:=by simpa using hi
 obtain ⟨a',c',h1,h2,h3,h4⟩:=h.mix i a1;simp only [Value.slice.injEq,true_and] at e;obtain ⟨rfl,rfl⟩:=e;obtain ⟨b,o,rfl,hc⟩:=a0 (fun e=>by rw [e] at h1;cases h1);rw [show ((List.range n).map LL)[i]=LL i by simp];exact ⟨b,o,a',c',rfl,hc i _ h1,h2.keep hw,h3,h4⟩
structure Zl7 (w6 W3:World) (va:Option Addr) (n vc:Nat) (rd:Int) (AR:List Zar) (wr:World) (vb:Option Addr) (vd:Nat):Prop where
 row:Zf wr w6.heap.size 31 [.slice va n vc,.slice vb AR.length vd,.int .i64 rd]
 own:wr.ownsRow W3.heap.size 58 2 (.slice vb AR.length vd) AR.length (fR AR)
 ag:∀ x,x<W3.heap.size→x≠w6.heap.size→wr.heap[x]? = W3.heap[x]?
 bel:Below w6.heap.size w6 wr
 sz:W3.heap.size≤wr.heap.size
theorem Zl7.push {x:Zar} (h:Zl7 w6 W3 va n vc rd AR wr vb vd) (h6:w6.heap.size<W3.heap.size) (q:Below wr.heap.size wr W8) (hg:W8.grownBy w8 (Value.slice vb AR.length vd).ownBlock) (ho:w8.ownsRow W3.heap.size 58 2 (.slice (some ⟨g,0,none⟩) (AR.length+1) cap) (AR.length+1) (fR AR++fR [x])):
  Zl7 w6 W3 va n vc rd (AR++[x]) (w8.setCell ⟨w6.heap.size,1,none⟩ (.slice (some ⟨g,0,none⟩) (AR.length+1) cap)) (some ⟨g,0,none⟩) cap:=by
 have a1:=h.row.lt;have a2:=h.sz;have a0:∀ k,(Value.slice vb AR.length vd).ownBlock=some k→W3.heap.size≤k:=fun k hk=>Zv h.own k hk
 have r8:Zf w8 w6.heap.size 31 [.slice va n vc,.slice vb AR.length vd,.int .i64 rd]:=(hg.block w6.heap.size (by have:=q.size;omega) (fun e=>by have:=a0 _ e.symm;omega)).trans (h.row.below q lr);have hl:(AR++[x]).length=AR.length+1:=by simp
 rw [← Zvj] at ho;refine ⟨by rw [hl];exact Ze r8 1 _,by rw [hl];exact Zi ho fun y hy=>Zd _ _ _ _ y (by have:=Zv ho y hy;omega),fun y h1 h2=>?_,?_,?_⟩
 ·exact (Zd _ _ _ _ y h2).trans ((hg.block y (by have:=q.size;omega) (fun e=>by have:=a0 _ e.symm;omega)).trans ((q.block y (by omega)).trans (h.ag y h1 h2)))
 ·have hb:=Zb h.bel q
  exact (hb.grown hg hb.size (fun k hk=>by have:=a0 k hk;omega)).setCell (p:=⟨w6.heap.size,1,none⟩) lr _
 ·have h1:=hg.size
  have h2:=q.size;have h3:(w8.setCell ⟨w6.heap.size,1,none⟩ (.slice (some ⟨g,0,none⟩) (AR.length+1) cap)).heap.size=w8.heap.size:=by simp [World.setCell]
  omega
theorem Zl7.drawn (h:Zl7 w6 W3 va n vc rd AR wr vb vd) (k:Nat):Zl7 w6 W3 va n vc rd AR (wr.drewN k) vb vd:=⟨h.row,h.own,h.ag,below_drewN h.bel k,h.sz⟩
theorem Zqn (C:Zm) (B:Mem) (S:Zcm) (M:Zg0) (T:Zcm) (N:Zg0) (dn:Int) (w:World) (hC:Z1 w B C) (hS:Q8 w M S) (hT:Q8 w N T) (hc5:C.sl.length≤B.c5) (htab:Lib.TabIs Tryz.prog w "internal/strconv.uint64pow10" .u64 Lib.pow10Tab):
  Calls prog 5 #[cv C B,sv S M,sv T N,.int .i64 dn] w fun e w'=>e=.returned (.bool true)∧Below w.heap.size w w':=by
 have q1:=Za w (.cells (cl C B) 27);have q2:=Za (w.alloc (.cells (cl C B) 27)) (.cells (sl S M) 31);have q3:=Za ((w.alloc (.cells (cl C B) 27)).alloc (.cells (sl S M) 31)) (.cells (sl T N) 31);have HC0:=hid (((hC.keep q1).keep q2).keep q3);have HS0:=hid (((hS.keep q1).keep q2).keep q3);have HT0:=hid (((hT.keep q1).keep q2).keep q3);have HB0:=hid (Zb q1 (Zb q2 q3));have X00:=hid (((Zc w w.heap.size (cl C B).toList 27 rfl).below q2 lr).below q3 lr);have X01:=hid ((Zc (w.alloc (.cells (cl C B) 27)) (w.heap.size+1) (sl S M).toList 31 (by simp)).below q3 lr);have X02:=hid (Zc ((w.alloc (.cells (cl C B) 27)).alloc (.cells (sl S M) 31)) (w.heap.size+1+1) (sl T N).toList 31 (by simp));have HC5:=hid hc5;have HTAB:=hid htab;clear q1 q2 q3 hC hS hT hc5 htab;obtain ⟨a5,a6,a7,a8,c5,c6,c7,c8⟩:=B;obtain ⟨aA,aR,cA,cR⟩:=M;obtain ⟨LL,RR,rd⟩:=S;obtain ⟨bA,bR,dA,dR⟩:=N;obtain ⟨MM,QQ,re⟩:=T;dsimp only [cv,cl,sv,sl] at *
 go_enter func5,ntmps5;go_wp2_with fail;refine (Zgx _).mono ?_;rintro e w1 ⟨rfl,hb1⟩;generalize World.alloc (World.alloc (World.alloc w _) _) _=W at *
 have HB1:=hid (Zb HB0 hb1);have HC1:=hid (HC0.out.keep hb1);have HS1:=hid (HS0.out.keep hb1);have HT1:=hid (HT0.out.keep hb1);have X10:=hid (X00.out.below hb1 lr);have X11:=hid (X01.out.below hb1 lr);have X12:=hid (X02.out.below hb1 lr);clear hb1 HB0 HC0 HS0 HT0 X00 X01 X02;go_wp2_with fail;refine (Zh3 _).mono ?_;rintro e w2 ⟨rfl,hb2⟩;have HB2:=hid (Zb HB1 hb2);have HC2:=hid (HC1.out.keep hb2);have HS2:=hid (HS1.out.keep hb2);have HT2:=hid (HT1.out.keep hb2);have X20:=hid (X10.out.below hb2 lr);have X21:=hid (X11.out.below hb2 lr);have X22:=hid (X12.out.below hb2 lr);clear hb2 HB1 HC1 HS1 HT1 X10 X11 X12;go_wp2_with fail;refine (Zj3 _).mono ?_;rintro e w3 ⟨rfl,hb3⟩;have HB3:=hid (Zb HB2 hb3);have HC3:=hid (HC2.out.keep hb3);have HS3:=hid (HS2.out.keep hb3);have HT3:=hid (HT2.out.keep hb3);have X30:=hid (X20.out.below hb3 lr);have X31:=hid (X21.out.below hb3 lr);have X32:=hid (X22.out.below hb3 lr);clear hb3 HB2 HC2 HS2 HT2 X20 X21 X22;obtain ⟨g0,g1,g2,g3,g4,g5,g6,g7,g8⟩:=X30.out.q9 rfl rfl rfl rfl rfl rfl rfl rfl rfl;obtain ⟨s0,s1,s2⟩:=X31.out.q3 rfl rfl rfl;obtain ⟨t0,t1,t2⟩:=X32.out.q3 rfl rfl rfl;by_cases h0:ckC C=0
 case neg=>
  have CR:=hid (Zsb C ⟨a5,a6,a7,a8,c5,c6,c7,c8⟩ w3 HC3 h0);dsimp only [cv,cl,sv,sl] at CR;go_wp2_with fail;refine CR.out.mono ?_;rintro e w4 ⟨rfl,hb4⟩;have HB4:=hid (Zb HB3 hb4);obtain ⟨q,HQ⟩:∃ q,Hid (q=ckC C):=⟨_,hid rfl⟩
  rw [← HQ.out];have hq0:¬ q=0:=by rw [HQ.out];exact h0
  clear hb4 CR h0 g0 g1 g2 g3 g4 g5 g6 g7 g8 s0 s1 s2 t0 t1 t2 HB3 HC3 HS3 HT3 X30 X31 X32;go_wp2;go_ret;exact ⟨rfl,HB4.out⟩
 have HCF:=hid h0;obtain ⟨n,HN⟩:∃ n:Nat,Hid (C.d=(n:Int)):=⟨C.d.toNat,hid (by have:=(Y1 h0).2.2.1;omega)⟩
 have hn4:n≤4:=by have:=(Y1 h0).2.2.2;have:=HN.out;omega
 clear h0;have CR:=hid (Zjk C ⟨a5,a6,a7,a8,c5,c6,c7,c8⟩ w3 HC3 HCF n HN);dsimp only [cv,cl,sv,sl] at CR;go_wp2_with fail;refine CR.out.mono ?_;rintro e w4 ⟨r,rfl,hmat,hr4,hb4⟩;have HMAT:=hid hmat;have HB4:=hid (Zb HB3 hb4);have HC4:=hid (HC3.out.keep hb4);have HS4:=hid (HS3.out.keep hb4);have HT4:=hid (HT3.out.keep hb4);have X40:=hid (X30.out.below hb4 lr);have X41:=hid (X31.out.below hb4 lr);have X42:=hid (X32.out.below hb4 lr);clear hb4 hmat CR g0 g1 g2 g3 g4 g5 g6 g7 g8 s0 s1 s2 t0 t1 t2 HB3 HC3 HS3 HT3 X30 X31 X32;obtain ⟨g0,g1,g2,g3,g4,g5,g6,g7,g8⟩:=X40.out.q9 rfl rfl rfl rfl rfl rfl rfl rfl rfl;obtain ⟨s0,s1,s2⟩:=X41.out.q3 rfl rfl rfl;obtain ⟨t0,t1,t2⟩:=X42.out.q3 rfl rfl rfl;have CK5:=hid (Jv C ⟨a5,a6,a7,a8,c5,c6,c7,c8⟩ ⟨LL,RR,rd⟩ ⟨aA,aR,cA,cR⟩ w4 HC4 HS4);dsimp only [cv,cl,sv,sl] at CK5;go_wp2_with fail;refine CK5.out.mono ?_;rintro e w5 ⟨rfl,hb5⟩;have HB5:=hid (Zb HB4 hb5);have HC5:=hid (HC4.out.keep hb5);have HS5:=hid (HS4.out.keep hb5);have HT5:=hid (HT4.out.keep hb5);have X50:=hid (X40.out.below hb5 lr);have X51:=hid (X41.out.below hb5 lr);have X52:=hid (X42.out.below hb5 lr);by_cases h0:Qo C ⟨LL,RR,rd⟩=0
 case neg=>
  obtain ⟨q,HQ⟩:∃ q,Hid (q=Qo C ⟨LL,RR,rd⟩):=⟨_,hid rfl⟩
  rw [← HQ.out];have hq0:¬ q=0:=by rw [HQ.out];exact h0
  clear hb5 CK5 h0 g0 g1 g2 g3 g4 g5 g6 g7 g8 s0 s1 s2 t0 t1 t2 HB4 HC4 HS4 HT4 X40 X41 X42;go_wp2;go_ret;exact ⟨rfl,HB5.out⟩
 have HSC:=hid h0;have HLS:Hid (LL.length=n):=hid (by have:=(Zbm h0).2.1;have:=HN.out;dsimp only at *;omega);rw [h0];have HMAT5:=hid (HMAT.out.below hb5);clear h0 hb5 CK5 g0 g1 g2 g3 g4 g5 g6 g7 g8 s0 s1 s2 t0 t1 t2 HB4 HC4 HS4 HT4 X40 X41 X42 HMAT;obtain ⟨g0,g1,g2,g3,g4,g5,g6,g7,g8⟩:=X50.out.q9 rfl rfl rfl rfl rfl rfl rfl rfl rfl;obtain ⟨s0,s1,s2⟩:=X51.out.q3 rfl rfl rfl;obtain ⟨t0,t1,t2⟩:=X52.out.q3 rfl rfl rfl;have CK6:=hid (Jv C ⟨a5,a6,a7,a8,c5,c6,c7,c8⟩ ⟨MM,QQ,re⟩ ⟨bA,bR,dA,dR⟩ w5 HC5 HT5);dsimp only [cv,cl,sv,sl] at CK6;go_wp2_with fail;refine CK6.out.mono ?_;rintro e w6 ⟨rfl,hb6⟩;have HB6:=hid (Zb HB5 hb6);have HC6:=hid (HC5.out.keep hb6);have HS6:=hid (HS5.out.keep hb6);have HT6:=hid (HT5.out.keep hb6);have X60:=hid (X50.out.below hb6 lr);have X61:=hid (X51.out.below hb6 lr);have X62:=hid (X52.out.below hb6 lr);by_cases h0:Qo C ⟨MM,QQ,re⟩=0
 case neg=>
  obtain ⟨q,HQ⟩:∃ q,Hid (q=Qo C ⟨MM,QQ,re⟩):=⟨_,hid rfl⟩
  rw [← HQ.out];have hq0:¬ q=0:=by rw [HQ.out];exact h0
  clear hb6 CK6 h0 g0 g1 g2 g3 g4 g5 g6 g7 g8 s0 s1 s2 t0 t1 t2 HB5 HC5 HS5 HT5 X50 X51 X52 HMAT5;go_wp2;go_ret;exact ⟨rfl,HB6.out⟩
 have HTC:=hid h0;have HLT:Hid (MM.length=n):=hid (by have:=(Zbm h0).2.1;have:=HN.out;dsimp only at *;omega);rw [h0];clear h0;by_cases hdd:0≤dn∧dn<C.d
 case neg=>
  clear hb6 CK6 g0 g1 g2 g3 g4 g5 g6 g7 g8 s0 s1 s2 t0 t1 t2 HB5 HC5 HS5 HT5 X50 X51 X52 HMAT5;have g2:=X60.out.cell 2 _ rfl;by_cases h0:dn<0
  ·clear hdd
   go_wp2;go_ret;exact ⟨rfl,HB6.out⟩
  ·have h1:C.d≤dn:=by omega
   have h0':0≤dn:=by omega
   clear hdd;go_wp2;go_ret;exact ⟨rfl,HB6.out⟩
 obtain ⟨dom,rfl⟩:∃ d:Nat,dn=(d:Int):=⟨dn.toNat,by omega⟩
 have HD:=hid hdd.2;clear hdd;have HMAT6:=hid (HMAT5.out.below hb6);clear hb6 CK6 g0 g1 g2 g3 g4 g5 g6 g7 g8 s0 s1 s2 t0 t1 t2 HB5 HC5 HS5 HT5 X50 X51 X52 HMAT5;have g2:=X60.out.cell 2 _ rfl;have s2:=X61.out.cell 2 _ rfl;have hlt:(dom:Int)<C.d:=HD.out;have hnl:¬ C.d≤(dom:Int):=by omega
 have hd0:(0:Int)≤(dom:Int):=by omega
 have hdn:dom<n:=by have:=HN.out;omega
 have hd1:(dom:Int)<(n:Int):=by omega
 have HM0:Hid (Zu6 w6 (Zmz C n dom ⟨LL,RR,rd⟩ ⟨MM,QQ,re⟩) rd 0 (w6.alloc (.cells #[.slice none 0 0,.slice none 0 0,.int .i64 rd] 31)) none 0 []):=hid ⟨Zc w6 w6.heap.size [.slice none 0 0,.slice none 0 0,.int .i64 rd] 31 rfl,World.ownsRow_nil _ _ _ _,fun k hk=>absurd hk (by omega),Za _ _⟩;go_wp2;clear g2 s2 hlt hnl;go_loopw [12] (fun i wr=>∃ j:Nat,j≤n∧i=.int .i64 j∧∃ va vc xs,Zu6 w6 (Zmz C n dom ⟨LL,RR,rd⟩ ⟨MM,QQ,re⟩) rd j wr va vc xs) (fun i _=>n-(intOf i).toNat)
 case atStart=>exact ⟨0,zl,rfl,none,0,[],HM0.out⟩
 case round=>
  obtain ⟨j,hj,rfl,va,vc,xs,hmi⟩:=hrel;have g2:=(X60.out.below hmi.bel lr).cell 2 _ rfl;by_cases hjt:j<n
  ·have hjd:(j:Int)<C.d:=by have:=HN.out;omega
   have hj1:(j:Int)<(n:Int):=by omega
   have hj0:(0:Int)≤(j:Int):=by omega
   have HJ2:Hid (j+1≤n):=hid hjt;obtain ⟨m1,m2⟩:=(HMAT6.out.below hmi.bel).at_ hjt hdn;change wr.cell? ⟨r+1+j,dom,none⟩=some (.bool (rbF C n dom j)) at m2
   cases hrb:rbF C n dom j with
   | true=>
    rw [hrb] at m2;obtain ⟨b,o,a',c',e9,p0,p1,p2,p3⟩:=HS6.out.acts j (show j<LL.length by have:=HLS.out;omega);dsimp only at e9;subst e9;have hjl:(j:Int)<(LL.length:Int):=by have:=HLS.out;omega
    have HEQ:Hid (Zmz C n dom ⟨LL,RR,rd⟩ ⟨MM,QQ,re⟩ j=LL[j]'(by have:=HLS.out;omega)):=hid (by unfold Zmz;rw [hrb];simp [show j<LL.length by have:=HLS.out;omega]);have p0':=Zg hmi.bel p0 lr;have x0:=(X61.out.below hmi.bel lr).cell 0 _ rfl;have o0:=hmi.row.cell 0 _ rfl;have HU:Hid (Yn w6 a' (LL[j]'(by have:=HLS.out;omega))∧(LL[j]'(by have:=HLS.out;omega)).length≤c'∧(LL[j]'(by have:=HLS.out;omega)).length≤9223372036854775807):=hid ⟨p1,p2,p3⟩;generalize LL[j]'(by have:=HLS.out;omega)=V at *
    have q8:=Za wr (.cells #[.slice a' V.length c'] 56);have RE:Hid (Zf (wr.alloc (.cells #[.slice a' V.length c'] 56)).drew wr.heap.size 56 [.slice a' V.length c']):=hid (Zc wr wr.heap.size [.slice a' V.length c'] 56 rfl);have HOW:Hid ((wr.alloc (.cells #[.slice a' V.length c'] 56)).drew.ownsRow (w6.heap.size+1) 56 1 (.slice va j vc) j xs):=hid (Zy hmi.own q8.drew);have HRW:Hid (Zf (wr.alloc (.cells #[.slice a' V.length c'] 56)).drew w6.heap.size 31 [.slice va j vc,.slice none 0 0,.int .i64 rd]):=hid (hmi.row.below q8.drew lr);have HLT9:Hid (w6.heap.size+1≤(wr.alloc (.cells #[.slice a' V.length c'] 56)).drew.heap.size):=hid (by have:=hmi.row.lt;have:=q8.size;simp;omega);have o0':=Zl (.cells #[.slice a' V.length c'] 56) o0;have x0':=Zl (.cells #[.slice a' V.length c'] 56) x0;have p0'':=Zl (.cells #[.slice a' V.length c'] 56) p0';have HMI:=hid hmi;clear p0 p1 p2 p3 q8 hmi hrb;go_wp2;go_region_law (first
     | (refine Zak (by rfl) _ _ 28 56 (by rfl) _ 1 24 underlying28 Tryz.info56x rfl (by omega) (w6.heap.size+1) (.slice va j vc) j xs (by rfl) HOW.out wr.heap.size 1 1 [.slice a' V.length c'] (by rfl) rfl (fun j u hu=>RE.out.cell j u hu) (by simp [Value.oneCell']) (by omega) (by simp [maxLen];omega) (by omega) HLT9.out ?_;intro g cap w8 hown8 hgrow8 hat8;have r8:Zf w8 w6.heap.size 31 _:=(hgrow8.block w6.heap.size (by have:=HLT9.out;omega) (fun e=>by have:=Zv HOW.out _ e.symm;omega)).trans HRW.out;have e0:=r8.cell 0 _ rfl;have f0:=r8.frozen 0;have HO8:=hid hown8;have HG8:=hid hgrow8;clear hown8 hgrow8 r8 hat8))
    all_goals
     have HE:Hid (Zu6 w6 (Zmz C n dom ⟨LL,RR,rd⟩ ⟨MM,QQ,re⟩) rd (j+1) (w8.setCell ⟨w6.heap.size,0,none⟩ (.slice (some ⟨g,0,none⟩) (j+1) cap)) (some ⟨g,0,none⟩) cap (xs++[.slice a' V.length c'])):=by
      have h1:=HO8.out;have h2:=HU.out;rw [← HEQ.out] at h1 h2 ⊢;exact hid (HMI.out.push (Za wr (.cells #[.slice a' V.length c'] 56)).drew HG8 h1 h2)
     clear HO8 HG8 o0 o0' x0 x0' p0' p0'' e0 f0;go_wp2;go_roundw
     case rel=>exact ⟨j+1,HJ2.out,by go_num,_,_,_,HE.out⟩
     case measure=>(simp [intOf];omega)
   | false=>
    rw [hrb] at m2;obtain ⟨b,o,a',c',e9,p0,p1,p2,p3⟩:=HT6.out.acts j (show j<MM.length by have:=HLT.out;omega);dsimp only at e9;subst e9;have hjl:(j:Int)<(MM.length:Int):=by have:=HLT.out;omega
    have HEQ:Hid (Zmz C n dom ⟨LL,RR,rd⟩ ⟨MM,QQ,re⟩ j=MM[j]'(by have:=HLT.out;omega)):=hid (by unfold Zmz;rw [hrb];simp [show j<MM.length by have:=HLT.out;omega]);have p0':=Zg hmi.bel p0 lr;have x0:=(X62.out.below hmi.bel lr).cell 0 _ rfl;have o0:=hmi.row.cell 0 _ rfl;have HU:Hid (Yn w6 a' (MM[j]'(by have:=HLT.out;omega))∧(MM[j]'(by have:=HLT.out;omega)).length≤c'∧(MM[j]'(by have:=HLT.out;omega)).length≤9223372036854775807):=hid ⟨p1,p2,p3⟩;generalize MM[j]'(by have:=HLT.out;omega)=V at *
    have q8:=Za wr (.cells #[.slice a' V.length c'] 56);have RE:Hid (Zf (wr.alloc (.cells #[.slice a' V.length c'] 56)).drew wr.heap.size 56 [.slice a' V.length c']):=hid (Zc wr wr.heap.size [.slice a' V.length c'] 56 rfl);have HOW:Hid ((wr.alloc (.cells #[.slice a' V.length c'] 56)).drew.ownsRow (w6.heap.size+1) 56 1 (.slice va j vc) j xs):=hid (Zy hmi.own q8.drew);have HRW:Hid (Zf (wr.alloc (.cells #[.slice a' V.length c'] 56)).drew w6.heap.size 31 [.slice va j vc,.slice none 0 0,.int .i64 rd]):=hid (hmi.row.below q8.drew lr);have HLT9:Hid (w6.heap.size+1≤(wr.alloc (.cells #[.slice a' V.length c'] 56)).drew.heap.size):=hid (by have:=hmi.row.lt;have:=q8.size;simp;omega);have o0':=Zl (.cells #[.slice a' V.length c'] 56) o0;have x0':=Zl (.cells #[.slice a' V.length c'] 56) x0;have p0'':=Zl (.cells #[.slice a' V.length c'] 56) p0';have HMI:=hid hmi;clear p0 p1 p2 p3 q8 hmi hrb;go_wp2;go_region_law (first
     | (refine Zak (by rfl) _ _ 28 56 (by rfl) _ 1 24 underlying28 Tryz.info56x rfl (by omega) (w6.heap.size+1) (.slice va j vc) j xs (by rfl) HOW.out wr.heap.size 1 1 [.slice a' V.length c'] (by rfl) rfl (fun j u hu=>RE.out.cell j u hu) (by simp [Value.oneCell']) (by omega) (by simp [maxLen];omega) (by omega) HLT9.out ?_;intro g cap w8 hown8 hgrow8 hat8;have r8:Zf w8 w6.heap.size 31 _:=(hgrow8.block w6.heap.size (by have:=HLT9.out;omega) (fun e=>by have:=Zv HOW.out _ e.symm;omega)).trans HRW.out;have e0:=r8.cell 0 _ rfl;have f0:=r8.frozen 0;have HO8:=hid hown8;have HG8:=hid hgrow8;clear hown8 hgrow8 r8 hat8))
    all_goals
     have HE:Hid (Zu6 w6 (Zmz C n dom ⟨LL,RR,rd⟩ ⟨MM,QQ,re⟩) rd (j+1) (w8.setCell ⟨w6.heap.size,0,none⟩ (.slice (some ⟨g,0,none⟩) (j+1) cap)) (some ⟨g,0,none⟩) cap (xs++[.slice a' V.length c'])):=by
      have h1:=HO8.out;have h2:=HU.out;rw [← HEQ.out] at h1 h2 ⊢;exact hid (HMI.out.push (Za wr (.cells #[.slice a' V.length c'] 56)).drew HG8 h1 h2)
     clear HO8 HG8 o0 o0' x0 x0' p0' p0'' e0 f0;go_wp2;go_roundw
     case rel=>exact ⟨j+1,HJ2.out,by go_num,_,_,_,HE.out⟩
     case measure=>(simp [intOf];omega)
  ·have hjn:j=n:=by omega
   have hjd:¬ (j:Int)<C.d:=by have:=HN.out;omega
   rw [hjn] at hmi;have HMI:=hid hmi;have hW6:w6.heap.size<wr.heap.size:=hmi.row.lt;have s1:=(X61.out.below hmi.bel lr).cell 1 _ rfl;have HA0:Hid (Zl7 w6 wr va n vc rd [] wr none 0):=hid ⟨hmi.row,World.ownsRow_nil _ _ _ _,fun _ _ _=>rfl,hmi.bel,lr⟩;have HARS:=hid (Zbm HSC).2.2.1;have HART:=hid (Zbm HTC).2.2.1;dsimp only at HARS HART;clear hmi hjt;obtain ⟨W3,rfl⟩:∃ x,x=wr:=⟨_,rfl⟩
   go_wp2;clear s1 g2 hjd;go_loopw [13] (fun i wr=>∃ j2:Nat,j2≤RR.length∧i=.int .i64 j2∧∃ vb vd,Zl7 w6 W3 va n vc rd ((RR.take j2).filter (fun a=>rbF C n dom (J8 C a))) wr vb vd) (fun i _=>RR.length-(intOf i).toNat)
   case atStart=>exact ⟨0,zl,rfl,none,0,HA0.out⟩
   case round=>
    obtain ⟨j2,hj2,rfl,vb,vd,hai⟩:=hrel;have s1:=(X61.out.below hai.bel lr).cell 1 _ rfl;by_cases hjt2:j2<RR.length
    ·
     have hj1:(j2:Int)<(RR.length:Int):=by omega
     have hj0:(0:Int)≤(j2:Int):=by omega
     have hli:=Zjd HARS.out HCF.out hjt2;obtain ⟨ln,HLN⟩:∃ ln:Nat,Hid (RR[j2].2=(ln:Int)):=⟨RR[j2].2.toNat,hid (by have:=hli.1;omega)⟩
     have hln:ln<C.ow.length:=by have:=HLN.out;have:=hli.2.1;omega
     have how:=Zsp HCF.out hln;obtain ⟨on,HON⟩:∃ on:Nat,Hid (C.ow[ln]=(on:Int)):=⟨C.ow[ln].toNat,hid (by omega)⟩
     have hon:on<n:=by have:=HON.out;have:=HN.out;omega
     have HOA:Hid (J8 C RR[j2]=on):=hid (by
      unfold J8;rw [HLN.out,Int.toNat_natCast,show C.ow.getD ln 0=C.ow[ln] by simp [hln],HON.out,Int.toNat_natCast])
     obtain ⟨m1,m2⟩:=(HMAT6.out.below hai.bel).at_ hon hdn;change wr.cell? ⟨r+1+on,dom,none⟩=some (.bool (rbF C n dom on)) at m2;obtain ⟨b9,o9,e9,p0,p1⟩:=(HS6.out.keep hai.bel).arr j2 hjt2;dsimp only at e9;subst e9;rw [HLN.out] at p1;have r6:=(X60.out.below hai.bel lr).cell 6 _ rfl;obtain ⟨b6,o6,e6,ow6⟩:=(HC6.out.keep hai.bel).ow ln hln;dsimp only at e6;subst e6;rw [HON.out] at ow6;have hln1:(ln:Int)<(C.ow.length:Int):=by omega
     have hln0:(0:Int)≤(ln:Int):=by omega
     have hon1:(on:Int)<(n:Int):=by omega
     have hon0:(0:Int)≤(on:Int):=by omega
     have HARe:Hid (RR[j2]=(RR[j2].1,(ln:Int))):=hid (by rw [← HLN.out]);have o1:=hai.row.cell 1 _ rfl;have hl40:RR.length≤40:=Zb1 HARS.out;have HAI:=hid hai;have HTK:Hid (((RR.take (j2+1)).filter (fun a=>rbF C n dom (J8 C a)))=((RR.take j2).filter (fun a=>rbF C n dom (J8 C a)))++(if rbF C n dom on then [RR[j2]] else [])):=hid (by
      rw [List.take_succ_eq_append_getElem hjt2,List.filter_append];congr 1;simp only [List.filter_cons,List.filter_nil];rw [HOA.out])
     have h40:Hid (((RR.take j2).filter (fun a=>rbF C n dom (J8 C a))).length≤40):=hid (by
      have h2:=List.length_filter_le (fun a=>rbF C n dom (J8 C a)) (RR.take j2);have h3:(RR.take j2).length≤j2:=by simp;omega
      omega)
     have HJ2:Hid (j2+1≤RR.length):=hid hjt2;clear hli how hai;generalize hA1:RR[j2].1=at1 at *
     clear hA1
     cases hrb:rbF C n dom on with
     | true=>
      rw [hrb] at m2;have HE:Hid (((RR.take (j2+1)).filter (fun a=>rbF C n dom (J8 C a)))=((RR.take j2).filter (fun a=>rbF C n dom (J8 C a)))++[(at1,(ln:Int))]):=hid (by rw [HTK.out,hrb];simp only [if_true];rw [HARe.out]);generalize ((RR.take j2).filter (fun a=>rbF C n dom (J8 C a)))=AR at *
      clear hrb;go_wp2;go_quiet (fail)
      go_wp2;have q8:Below wr.heap.size wr ((wr.drewN (nq+1)).alloc (.cells #[.int .i64 at1,.int .i64 (ln:Int)] 58)):=(below_drewN br (nq+1)).alloc lr _;have RE:Hid (Zf ((wr.drewN (nq+1)).alloc (.cells #[.int .i64 at1,.int .i64 (ln:Int)] 58)) wr.heap.size 58 [.int .i64 at1,.int .i64 (ln:Int)]):=hid (Zc (wr.drewN (nq+1)) wr.heap.size [.int .i64 at1,.int .i64 (ln:Int)] 58 rfl);have HOW:Hid (((wr.drewN (nq+1)).alloc (.cells #[.int .i64 at1,.int .i64 (ln:Int)] 58)).ownsRow W3.heap.size 58 2 (.slice vb AR.length vd) AR.length (fR AR)):=hid (Zy HAI.out.own q8);have HRW:Hid (Zf ((wr.drewN (nq+1)).alloc (.cells #[.int .i64 at1,.int .i64 (ln:Int)] 58)) w6.heap.size 31 [.slice va n vc,.slice vb AR.length vd,.int .i64 rd]):=hid (HAI.out.row.below q8 lr);have HLT9:Hid (W3.heap.size≤((wr.drewN (nq+1)).alloc (.cells #[.int .i64 at1,.int .i64 (ln:Int)] 58)).heap.size):=hid (Nat.le_trans HAI.out.sz q8.size);have o1':=Zg q8 o1 lr;have s1':=Zg q8 s1 lr;have p0':=Zg q8 p0 lr;have p1':=Zg q8 p1 lr;have HQ8:=hid q8;clear q8;go_region_law (first
       | (refine Zak (by rfl) _ _ 29 58 (by rfl) _ 2 16 underlying29 Tryz.info58x rfl (by omega) W3.heap.size (.slice vb AR.length vd) AR.length (fR AR) (by rfl) HOW.out wr.heap.size 1 1 (fR [(at1,(ln:Int))]) (by rfl) rfl (fun j u hu=>RE.out.cell j u hu) (Zrq _) (by omega) (by have:=h40.out;simp [maxLen];omega) (by have:=h40.out;omega) HLT9.out ?_;intro g cap w8 hown8 hgrow8 hat8;have r8:Zf w8 w6.heap.size 31 _:=(hgrow8.block w6.heap.size (by have:=HLT9.out;omega) (fun e=>by have:=Zv HOW.out _ e.symm;omega)).trans HRW.out;have e0:=r8.cell 1 _ rfl;have f0:=r8.frozen 1;have HO8:=hid hown8;have HG8:=hid hgrow8;clear hown8 hgrow8 r8 hat8))
      all_goals
       have HE2:Hid (Zl7 w6 W3 va n vc rd (AR++[(at1,(ln:Int))]) (w8.setCell ⟨w6.heap.size,1,none⟩ (.slice (some ⟨g,0,none⟩) (AR.length+1) cap)) (some ⟨g,0,none⟩) cap):=hid (HAI.out.push hW6 HQ8 HG8 HO8);rw [← HE.out] at HE2;clear HO8 HG8 o1 o1' s1 s1' p0 p0' p1 p1' e0 f0;go_wp2;go_roundw
       case rel=>exact ⟨j2+1,HJ2.out,by go_num,_,_,HE2.out⟩
       case measure=>(simp [intOf];omega)
     | false=>
      rw [hrb] at m2;have HE:Hid (((RR.take (j2+1)).filter (fun a=>rbF C n dom (J8 C a)))=((RR.take j2).filter (fun a=>rbF C n dom (J8 C a)))):=hid (by rw [HTK.out,hrb];simp);have HE2:Hid (Zl7 w6 W3 va n vc rd ((RR.take (j2+1)).filter (fun a=>rbF C n dom (J8 C a))) wr vb vd):=hid (by rw [HE.out];exact HAI.out);clear hrb;go_wp2;go_quiet (fail)
      go_wp2;go_roundw
      case rel=>exact ⟨j2+1,HJ2.out,by go_num,vb,vd,HE2.out.drawn nq⟩
      case measure=>(simp [intOf];omega)
    ·have hjn2:j2=RR.length:=by omega
     rw [hjn2,List.take_length] at hai;have HKA:Hid (RR.filter (fun a=>rbF C n dom (J8 C a))=Zhw C n dom ⟨LL,RR,rd⟩):=hid rfl;have hk40:(RR.filter (fun a=>rbF C n dom (J8 C a))).length≤40:=Nat.le_trans (List.length_filter_le _ _) (Zb1 HARS);generalize RR.filter (fun a=>rbF C n dom (J8 C a))=KA at *
     have t1:=(X62.out.below hai.bel lr).cell 1 _ rfl;have HA4:Hid (Zl7 w6 W3 va n vc rd (KA++[]) wr vb vd):=hid (by rw [List.append_nil];exact hai);clear hai;obtain ⟨W4,rfl⟩:∃ x,x=wr:=⟨_,rfl⟩
     go_wp2;clear s1 t1 hjt2;go_loopw [14] (fun i wr=>∃ j2:Nat,j2≤QQ.length∧i=.int .i64 j2∧∃ vb vd,Zl7 w6 W3 va n vc rd (KA++Zby (rbF C n dom) C KA.length (QQ.take j2)) wr vb vd) (fun i _=>QQ.length-(intOf i).toNat)
     case atStart=>exact ⟨0,zl,rfl,vb,vd,HA4.out⟩
     case round=>
      clear HA4 hj2 hjn2;obtain ⟨j2,hj2,rfl,vb,vd,hai⟩:=hrel;have s1:=(X62.out.below hai.bel lr).cell 1 _ rfl;by_cases hjt2:j2<QQ.length
      ·
       have hj1:(j2:Int)<(QQ.length:Int):=by omega
       have hj0:(0:Int)≤(j2:Int):=by omega
       have hli:=Zjd HART.out HCF.out hjt2;obtain ⟨ln,HLN⟩:∃ ln:Nat,Hid (QQ[j2].2=(ln:Int)):=⟨QQ[j2].2.toNat,hid (by have:=hli.1;omega)⟩
       have hln:ln<C.ow.length:=by have:=HLN.out;have:=hli.2.1;omega
       have how:=Zsp HCF.out hln;obtain ⟨on,HON⟩:∃ on:Nat,Hid (C.ow[ln]=(on:Int)):=⟨C.ow[ln].toNat,hid (by omega)⟩
       have hon:on<n:=by have:=HON.out;have:=HN.out;omega
       have HOA:Hid (J8 C QQ[j2]=on):=hid (by
        unfold J8;rw [HLN.out,Int.toNat_natCast,show C.ow.getD ln 0=C.ow[ln] by simp [hln],HON.out,Int.toNat_natCast])
       obtain ⟨m1,m2⟩:=(HMAT6.out.below hai.bel).at_ hon hdn;change wr.cell? ⟨r+1+on,dom,none⟩=some (.bool (rbF C n dom on)) at m2;obtain ⟨b9,o9,e9,p0,p1⟩:=(HT6.out.keep hai.bel).arr j2 hjt2;dsimp only at e9;subst e9;rw [HLN.out] at p1;have r6:=(X60.out.below hai.bel lr).cell 6 _ rfl;obtain ⟨b6,o6,e6,ow6⟩:=(HC6.out.keep hai.bel).ow ln hln;dsimp only at e6;subst e6;rw [HON.out] at ow6;have hln1:(ln:Int)<(C.ow.length:Int):=by omega
       have hln0:(0:Int)≤(ln:Int):=by omega
       have hon1:(on:Int)<(n:Int):=by omega
       have hon0:(0:Int)≤(on:Int):=by omega
       have HARe:Hid (QQ[j2]=(QQ[j2].1,(ln:Int))):=hid (by rw [← HLN.out]);have o1:=hai.row.cell 1 _ rfl;have hl40:QQ.length≤40:=Zb1 HART.out;have HAI:=hid hai;have HTK:Hid (Zby (rbF C n dom) C KA.length (QQ.take (j2+1))=Zjs (rbF C n dom) C KA.length (Zby (rbF C n dom) C KA.length (QQ.take j2)) QQ[j2]):=hid (by rw [List.take_succ_eq_append_getElem hjt2,Zpa]);have h40:Hid ((KA++Zby (rbF C n dom) C KA.length (QQ.take j2)).length≤40):=hid (by
        rw [List.length_append];exact (Zi7 (rb:=rbF C n dom) (C:=C) (P:=fun _=>True) hk40 (QQ.take j2) (fun _ _=>trivial)).2)
       generalize Zby (rbF C n dom) C KA.length (QQ.take j2)=RA at *
       have HJ2:Hid (j2+1≤QQ.length):=hid hjt2;clear hli how hai;generalize hA1:QQ[j2].1=at1 at *
       clear hA1
       cases hrb:rbF C n dom on with
       | true=>
        rw [hrb] at m2;have HE:Hid (Zby (rbF C n dom) C KA.length (QQ.take (j2+1))=RA):=hid (by rw [HTK.out];unfold Zjs;rw [HOA.out,hrb];simp);have HE2:Hid (Zl7 w6 W3 va n vc rd (KA++Zby (rbF C n dom) C KA.length (QQ.take (j2+1))) wr vb vd):=hid (by rw [HE.out];exact HAI.out);clear hrb;go_wp2;go_quiet (fail)
        go_wp2;go_roundw
        case rel=>exact ⟨j2+1,HJ2.out,by go_num,vb,vd,HE2.out.drawn nq⟩
        case measure=>(simp [intOf];omega)
       | false=>
        rw [hrb] at m2;by_cases hl9:(KA++RA).length<40
        ·have HE:Hid (KA++Zby (rbF C n dom) C KA.length (QQ.take (j2+1))=(KA++RA)++[(at1,(ln:Int))]):=hid (by rw [HTK.out];unfold Zjs;rw [HOA.out,hrb,if_pos ⟨rfl,by rw [List.length_append] at hl9;exact hl9⟩,HARe.out,List.append_assoc])
         clear hrb HTK;generalize KA++RA=AR at *
         have hl8:(AR.length:Int)<40:=by omega
         go_wp2;go_quiet (fail)
         go_wp2;have q8:Below wr.heap.size wr ((wr.drewN (nq+1)).alloc (.cells #[.int .i64 at1,.int .i64 (ln:Int)] 58)):=(below_drewN br (nq+1)).alloc lr _;have RE:Hid (Zf ((wr.drewN (nq+1)).alloc (.cells #[.int .i64 at1,.int .i64 (ln:Int)] 58)) wr.heap.size 58 [.int .i64 at1,.int .i64 (ln:Int)]):=hid (Zc (wr.drewN (nq+1)) wr.heap.size [.int .i64 at1,.int .i64 (ln:Int)] 58 rfl);have HOW:Hid (((wr.drewN (nq+1)).alloc (.cells #[.int .i64 at1,.int .i64 (ln:Int)] 58)).ownsRow W3.heap.size 58 2 (.slice vb AR.length vd) AR.length (fR AR)):=hid (Zy HAI.out.own q8);have HRW:Hid (Zf ((wr.drewN (nq+1)).alloc (.cells #[.int .i64 at1,.int .i64 (ln:Int)] 58)) w6.heap.size 31 [.slice va n vc,.slice vb AR.length vd,.int .i64 rd]):=hid (HAI.out.row.below q8 lr);have HLT9:Hid (W3.heap.size≤((wr.drewN (nq+1)).alloc (.cells #[.int .i64 at1,.int .i64 (ln:Int)] 58)).heap.size):=hid (Nat.le_trans HAI.out.sz q8.size);have o1':=Zg q8 o1 lr;have s1':=Zg q8 s1 lr;have p0':=Zg q8 p0 lr;have p1':=Zg q8 p1 lr;have HQ8:=hid q8;clear q8;go_region_law (first
          | (refine Zak (by rfl) _ _ 29 58 (by rfl) _ 2 16 underlying29 Tryz.info58x rfl (by omega) W3.heap.size (.slice vb AR.length vd) AR.length (fR AR) (by rfl) HOW.out wr.heap.size 1 1 (fR [(at1,(ln:Int))]) (by rfl) rfl (fun j u hu=>RE.out.cell j u hu) (Zrq _) (by omega) (by have:=h40.out;simp [maxLen];omega) (by have:=h40.out;omega) HLT9.out ?_;intro g cap w8 hown8 hgrow8 hat8;have r8:Zf w8 w6.heap.size 31 _:=(hgrow8.block w6.heap.size (by have:=HLT9.out;omega) (fun e=>by have:=Zv HOW.out _ e.symm;omega)).trans HRW.out;have e0:=r8.cell 1 _ rfl;have f0:=r8.frozen 1;have HO8:=hid hown8;have HG8:=hid hgrow8;clear hown8 hgrow8 r8 hat8))
         all_goals
          have HE2:Hid (Zl7 w6 W3 va n vc rd (AR++[(at1,(ln:Int))]) (w8.setCell ⟨w6.heap.size,1,none⟩ (.slice (some ⟨g,0,none⟩) (AR.length+1) cap)) (some ⟨g,0,none⟩) cap):=hid (HAI.out.push hW6 HQ8 HG8 HO8);rw [← HE.out] at HE2;clear HO8 HG8 o1 o1' s1 s1' p0 p0' p1 p1' e0 f0;go_wp2;go_roundw
          case rel=>exact ⟨j2+1,HJ2.out,by go_num,_,_,HE2.out⟩
          case measure=>(simp [intOf];omega)
        ·have HE:Hid (KA++Zby (rbF C n dom) C KA.length (QQ.take (j2+1))=KA++RA):=hid (by rw [HTK.out];unfold Zjs;rw [if_neg (fun h=>hl9 (by rw [List.length_append];exact h.2))])
         have HE2:Hid (Zl7 w6 W3 va n vc rd (KA++Zby (rbF C n dom) C KA.length (QQ.take (j2+1))) wr vb vd):=hid (by rw [HE.out];exact HAI.out);clear hrb HTK HE;generalize KA++RA=AR at *
         have hl8:¬ (AR.length:Int)<40:=by omega
         go_wp2;go_quiet (fail)
         go_wp2;go_roundw
         case rel=>exact ⟨j2+1,HJ2.out,by go_num,vb,vd,HE2.out.drawn nq⟩
         case measure=>(simp [intOf];omega)
      ·have hjn3:j2=QQ.length:=by omega
       rw [hjn3,List.take_length] at hai;have HAI5:=hid hai;have HX:∃ X:Zcm,Hid (X=Zxh C n dom ⟨LL,RR,rd⟩ ⟨MM,QQ,re⟩):=⟨_,hid rfl⟩
       obtain ⟨X,HXE⟩:=HX;have HARE:Hid (KA++Zby (rbF C n dom) C KA.length QQ=X.arr):=hid (by rw [HXE.out,HKA.out];rfl);have HXR:Hid (Zf wr w6.heap.size 31 [.slice va X.acts.length vc,.slice vb X.arr.length vd,.int .i64 X.rounds]):=hid (by
        rw [← HARE.out,HXE.out];show Zf wr w6.heap.size 31 [.slice va ((List.range n).map _).length vc,_,_]
        rw [List.length_map,List.length_range];exact hai.row)
       have HXS:Hid (Q8 wr ⟨va,vb,vc,vd⟩ X):=hid (by
        have h1:=Zz hai.own;refine ⟨?_,?_,?_,?_⟩
        ·rw [HXE.out]
         exact HMI.out.acts hai.bel hai.ag
        ·rw [← HARE.out]
         exact Zh4 h1.1
        ·rw [HXE.out]
         show ((List.range n).map _).length≤_
         rw [List.length_map,List.length_range];omega
        ·rw [← HARE.out]
         exact h1.2.2)
       have HXC:Hid (Qo C X=0):=hid (by rw [HXE.out];exact Zqz dom HSC.out HTC.out HN.out);have HXM:Hid ((J9 C (ps X)).1 dom=(J9 C (ps ⟨LL,RR,rd⟩)).1 dom):=hid (by rw [HXE.out];exact Zup HCF.out HN.out hdn HLS.out HARS.out HART.out);have HB7:=hid (Zb HB6 hai.bel);have HC7:=hid (HC6.out.keep hai.bel);have HS7:=hid (HS6.out.keep hai.bel);have X70:=hid (X60.out.below hai.bel lr);have X71:=hid (X61.out.below hai.bel lr);have HEV:=hid (Zwx (Zbm HSC).1);have HLE:Hid (((J9 C (ps ⟨LL,RR,rd⟩)).1 dom).evs.length≤1000000000):=hid (HEV.out.2 dom HD);have HEB:Hid (∀ x∈((J9 C (ps ⟨LL,RR,rd⟩)).1 dom).evs,∀ k∈evN x,R64 k):=hid fun x hx k hk=>Zzq (HEV.out.1 dom x hx) k hk
       have s1:=X71.out.cell 1 _ rfl;have hq9:¬ (QQ.length:Int)<(QQ.length:Int):=by omega
       have q1:=(X62.out.below hai.bel lr).cell 1 _ rfl;rw [hjn3];clear hai s1 hjt2 HAI5 HARE HXE HEV HC6 HS6 HT6 X60 X61 HB6 HMAT6 HMI HA0 HM0 hj2 hjn3;obtain ⟨w7,rfl⟩:∃ x,x=wr:=⟨_,rfl⟩
       obtain ⟨g0,g1,g2,g3,g4,g5,g6,g7,g8⟩:=X70.out.q9 rfl rfl rfl rfl rfl rfl rfl rfl rfl;obtain ⟨s0,s1,s2⟩:=X71.out.q3 rfl rfl rfl;have CE:=hid (Zdd C ⟨a5,a6,a7,a8,c5,c6,c7,c8⟩ ⟨LL,RR,rd⟩ ⟨aA,aR,cA,cR⟩ w7 HC7 HS7 HSC HC5);dsimp only [cv,cl,sv,sl] at CE;go_wp2_with fail;refine CE.out.mono ?_;rintro e w8 ⟨gd,n1,rfl,hout,hb8⟩;obtain ⟨hn1,As,hds⟩:=hout;have HN1:Hid (n1=n):=hid (by have:=HN.out;omega);have HDS:=hid hds;have XR7:=HXR;have XS7:=HXS;have HB8:=hid (Zb HB7 hb8);have HC8:=hid (HC7.out.keep hb8);have HS8:=hid (HS7.out.keep hb8);have X80:=hid (X70.out.below hb8 lr);have X81:=hid (X71.out.below hb8 lr);have XR8:=hid (XR7.out.below hb8 lr);have XS8:=hid (XS7.out.keep hb8);clear hb8 hn1 hds CE HXR HXS g0 g1 g2 g3 g4 g5 g6 g7 g8 s0 s1 s2 q1 HB7 HC7 HS7 X70 X71 XR7 XS7;obtain ⟨g0,g1,g2,g3,g4,g5,g6,g7,g8⟩:=X80.out.q9 rfl rfl rfl rfl rfl rfl rfl rfl rfl;obtain ⟨x0,x1,x2⟩:=XR8.out.q3 rfl rfl rfl;have CE2:=hid (Zdd C ⟨a5,a6,a7,a8,c5,c6,c7,c8⟩ X ⟨va,vb,vc,vd⟩ w8 HC8 XS8.out HXC HC5);dsimp only [cv,cl,sv,sl] at CE2;go_wp2_with fail;refine CE2.out.mono ?_;rintro e w9 ⟨gd2,n2,rfl,hout,hb9⟩;obtain ⟨hn2,As2,hds2⟩:=hout;have HN2:Hid (n2=n):=hid (by have:=HN.out;omega);have HDS2:=hid hds2;have HDS9:=hid (HDS.out.keep hb9);have HB9:=hid (Zb HB8 hb9);have HC9:=hid (HC8.out.keep hb9);have HS9:=hid (HS8.out.keep hb9);have X90:=hid (X80.out.below hb9 lr);have X91:=hid (X81.out.below hb9 lr);have XR9:=hid (XR8.out.below hb9 lr);have XS9:=hid (XS8.out.keep hb9);clear hb9 hn2 hds2 CE2 HDS g0 g1 g2 g3 g4 g5 g6 g7 g8 x0 x1 x2 HB8 HC8 HS8 X80 X81 XR8 XS8;obtain ⟨g0,g1,g2,g3,g4,g5,g6,g7,g8⟩:=X90.out.q9 rfl rfl rfl rfl rfl rfl rfl rfl rfl;obtain ⟨s0,s1,s2⟩:=X91.out.q3 rfl rfl rfl;have CT:=hid (Zi3 C ⟨a5,a6,a7,a8,c5,c6,c7,c8⟩ ⟨LL,RR,rd⟩ ⟨aA,aR,cA,cR⟩ dom w9 HC9 HS9 HSC HC5 HD HLE (fun x hx k hk=>Zit (Zj6 HTAB HB9) (HEB.out x hx k hk)) (fun x hx=>Zjx fun k hk=>HEB.out x hx k hk));dsimp only [cv,cl,sv,sl] at CT;go_wp2_with fail;refine CT.out.mono ?_;rintro e w10 ⟨rfl,hb10⟩;have HDS10:=hid (HDS9.out.keep hb10);have HDS20:=hid (HDS2.out.keep hb10);have HB10:=hid (Zb HB9 hb10);have HC10:=hid (HC9.out.keep hb10);have HS10:=hid (HS9.out.keep hb10);have X100:=hid (X90.out.below hb10 lr);have X101:=hid (X91.out.below hb10 lr);have XR10:=hid (XR9.out.below hb10 lr);have XS10:=hid (XS9.out.keep hb10);clear hb10 CT HDS9 HDS2 g0 g1 g2 g3 g4 g5 g6 g7 g8 s0 s1 s2 HB9 HC9 HS9 X90 X91 XR9 XS9;obtain ⟨g0,g1,g2,g3,g4,g5,g6,g7,g8⟩:=X100.out.q9 rfl rfl rfl rfl rfl rfl rfl rfl rfl;obtain ⟨x0,x1,x2⟩:=XR10.out.q3 rfl rfl rfl;have CT2:=hid (Zi3 C ⟨a5,a6,a7,a8,c5,c6,c7,c8⟩ X ⟨va,vb,vc,vd⟩ dom w10 HC10.out XS10.out HXC.out HC5.out HD.out (by rw [HXM.out];exact HLE.out) (fun x hx k hk=>Zit (Zj6 HTAB.out HB10.out) (HEB.out x (by rw [← HXM.out];exact hx) k hk)) (fun x hx=>Zjx fun k hk=>HEB.out x (by rw [← HXM.out];exact hx) k hk));dsimp only [cv,cl,sv,sl] at CT2;rw [HXM.out] at CT2;go_wp2_with fail;refine CT2.out.mono ?_;rintro e w11 ⟨rfl,hb11⟩;have hdn1:dom<n1:=by have:=HN1.out;omega
       have hdn2:dom<n2:=by have:=HN2.out;omega
       obtain ⟨hp,hdi⟩:=(HDS10.out.keep hb11) dom hdn1;obtain ⟨hp2,hdi2⟩:=(HDS20.out.keep hb11) dom hdn2;rw [HXM.out] at hp2 hdi2;have HB11:=hid (Zb HB10 hb11);have HDI:=hid hdi;have HDI2:=hid hdi2;clear hb11 CT2 HDS10 HDS20 g0 g1 g2 g3 g4 g5 g6 g7 g8 x0 x1 x2 HB10 HC10 HS10 X100 X101 XR10 XS10 hdi hdi2;generalize (J9 C (ps ⟨LL,RR,rd⟩)).1 dom=E at *
       generalize Jk E.evs=TR at *
       generalize As dom=A1 at *
       generalize As2 dom=A2 at *
       have hbz:Below w11.heap.size w11 w11.drew:=br.drew;have CD:Hid (∀ wx,Below w11.heap.size w11 wx→Calls prog 12 #[dv E A1,dv E A2] wx fun e w'=>e=.returned (.bool true)∧Below wx.heap.size wx w'):=hid fun wx hb=>Zcy E A1 A2 wx (HDI.out.keep hb) (HDI2.out.keep hb)
       obtain ⟨aJ1,aR1,aI1,aT1,aO1,aE1,cJ1,cR1,cI1,cT1,cO1,cE1⟩:=A1;obtain ⟨aJ2,aR2,aI2,aT2,aO2,aE2,cJ2,cR2,cI2,cT2,cO2,cE2⟩:=A2;obtain ⟨d0,d1,d2,d3,d4,d5,d6⟩:=hp;obtain ⟨e0,e1,e2,e3,e4,e5,e6⟩:=hp2;dsimp only [dv,dl] at *
       simp only [Nat.zero_add] at d0 d1 d2 d3 d4 d5 d6 e0 e1 e2 e3 e4 e5 e6;have hdm1:(dom:Int)<(n1:Int):=by omega
       have hdm2:(dom:Int)<(n2:Int):=by omega
       have HK:Hid (∀ w',Below w11.heap.size w11 w'→w'.cell? ⟨gd,dom*7,none⟩=some (.slice aJ1 E.jobs.length cJ1)∧w'.cell? ⟨gd,dom*7+1,none⟩=some (.slice aR1 E.rel.length cR1)∧w'.cell? ⟨gd,dom*7+2,none⟩=some (.int .i64 E.nxt)∧w'.cell? ⟨gd,dom*7+3,none⟩=some (.slice aI1 E.ins.length cI1)∧w'.cell? ⟨gd,dom*7+4,none⟩=some (.slice aT1 E.tak.length cT1)∧w'.cell? ⟨gd,dom*7+5,none⟩=some (.slice aO1 E.out.length cO1)∧w'.cell? ⟨gd,dom*7+6,none⟩=some (.slice aE1 E.evs.length cE1)∧w'.cell? ⟨gd2,dom*7,none⟩=some (.slice aJ2 E.jobs.length cJ2)∧w'.cell? ⟨gd2,dom*7+1,none⟩=some (.slice aR2 E.rel.length cR2)∧w'.cell? ⟨gd2,dom*7+2,none⟩=some (.int .i64 E.nxt)∧w'.cell? ⟨gd2,dom*7+3,none⟩=some (.slice aI2 E.ins.length cI2)∧w'.cell? ⟨gd2,dom*7+4,none⟩=some (.slice aT2 E.tak.length cT2)∧w'.cell? ⟨gd2,dom*7+5,none⟩=some (.slice aO2 E.out.length cO2)∧w'.cell? ⟨gd2,dom*7+6,none⟩=some (.slice aE2 E.evs.length cE2)):=hid fun w' hb=>⟨Zg hb d0 lr,Zg hb d1 lr,Zg hb d2 lr,Zg hb d3 lr,Zg hb d4 lr,Zg hb d5 lr,Zg hb d6 lr,Zg hb e0 lr,Zg hb e1 lr,Zg hb e2 lr,Zg hb e3 lr,Zg hb e4 lr,Zg hb e5 lr,Zg hb e6 lr⟩
       clear hd1 hdn hdn1 hdn2 hn4;go_upto_region 27 with fail;go_region_held3 (fun w'=>w'.cell? ⟨gd,dom*7,none⟩=some (.slice aJ1 E.jobs.length cJ1)∧w'.cell? ⟨gd,dom*7+1,none⟩=some (.slice aR1 E.rel.length cR1)∧w'.cell? ⟨gd,dom*7+2,none⟩=some (.int .i64 E.nxt)∧w'.cell? ⟨gd,dom*7+3,none⟩=some (.slice aI1 E.ins.length cI1)∧w'.cell? ⟨gd,dom*7+4,none⟩=some (.slice aT1 E.tak.length cT1)∧w'.cell? ⟨gd,dom*7+5,none⟩=some (.slice aO1 E.out.length cO1)∧w'.cell? ⟨gd,dom*7+6,none⟩=some (.slice aE1 E.evs.length cE1)∧w'.cell? ⟨gd2,dom*7,none⟩=some (.slice aJ2 E.jobs.length cJ2)∧w'.cell? ⟨gd2,dom*7+1,none⟩=some (.slice aR2 E.rel.length cR2)∧w'.cell? ⟨gd2,dom*7+2,none⟩=some (.int .i64 E.nxt)∧w'.cell? ⟨gd2,dom*7+3,none⟩=some (.slice aI2 E.ins.length cI2)∧w'.cell? ⟨gd2,dom*7+4,none⟩=some (.slice aT2 E.tak.length cT2)∧w'.cell? ⟨gd2,dom*7+5,none⟩=some (.slice aO2 E.out.length cO2)∧w'.cell? ⟨gd2,dom*7+6,none⟩=some (.slice aE2 E.evs.length cE2))
        (first|with_reducible exact HK.out _ hB12|with_reducible exact HK.out _ hbz|go_keep)
        (first
         | (go_at_call 12;with_reducible refine Calls.mono (CD.out _ hbz) ?_;rintro e w12 ⟨rfl,hb12⟩;have hB12:=Zb hbz hb12))
       have HB12:=hid (Zb HB11 hB12);clear HK hB12;go_wp2;go_ret;exact ⟨rfl,HB12.out⟩
end Go.Proofs.YtejhccmclanlmaaGreatDoor
