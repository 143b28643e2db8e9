/- Yj Yk Yl -/
import Derived.Test.YtejhccmclanlmaaGreatDoorV12
set_option linter.all false
set_option maxRecDepth 100000
set_option maxHeartbeats 8000000
namespace Go.Proofs.YtejhccmclanlmaaGreatDoor
open Go.RowKit Go.Proofs.Tryz
def tk (C:Zm) (i:Nat):Int×Int×Int×Int:=C.ta.getD i (0,0,0,0)
def Y0 (C:Zm) (D:Dom) (k:Nat):Int:=wrap64 ((tk C k).2.1*D.rel.getD k 0)
def Zbv (C:Zm) (j:J6):Int:=wrap64 (j.2.2.1+(tk C j.1.toNat).2.2.2)
theorem Zc5 (kb:Nat) (D:Dom) (A:Yk) (C:Zm) (B:Mem) (dn:Int) (j:J6) (w:World) (hK:Jf w kb D A C B dn) (h0:0≤j.1) (h1:j.1<C.ta.length):
  Calls prog 175 #[.pointer (some ⟨kb,0,none⟩),jv j] w fun e w'=>e=.returned (.int .i64 (Zbv C j))∧Below w.heap.size w w':=by
 obtain ⟨j0,j1,j2,j3,j4,j5⟩:=j;dsimp only [jv] at *
 have q1:=Za w (.cells #[.int .i64 j0,.int .i64 j1,.int .i64 j2,.int .i64 j3,.bool j4,.bool j5] 87);have a0:=hK.keep q1;have HB:=hid q1;obtain ⟨k,rfl⟩:∃ k:Nat,j0=k:=⟨j0.toNat,by omega⟩
 have a1:k<C.ta.length:=by omega
 have c:=a0.row.cell 15 _ rfl;obtain ⟨b,o,e,p0,p1,p2,p3⟩:=a0.con.ta k a1;rw [e] at c;have HE:Hid (Zbv C ((k:Int),j1,j2,j3,j4,j5)=wrap64 (j2+C.ta[k].2.2.2)):=hid (by simp [Zbv,tk,a1]);clear q1 hK a0 p0 p1 p2 e;generalize C.ta[k].2.2.2=z at *
 go_enter func175,ntmps175;go_wp2;go_quiet (fail)
 go_wp2;go_ret;exact ⟨Zh HE.out.symm,below_drewN HB _⟩
theorem Zgs (kb:Nat) (D:Dom) (A:Yk) (C:Zm) (B:Mem) (dn:Int) (k:Nat) (w:World) (hK:Jf w kb D A C B dn) (hlt:k<C.ta.length) (hlr:k<D.rel.length):
  Calls prog 154 #[.pointer (some ⟨kb,0,none⟩),.int .i64 (k:Int)] w fun e w'=>e=.returned (.int .i64 (Y0 C D k))∧Below w.heap.size w w':=by
 have c:=hK.row.cell 15 _ rfl;have c1:=hK.row.cell 1 _ rfl;obtain ⟨b,o,e,p0,p1,p2,p3⟩:=hK.con.ta k hlt;obtain ⟨b',o',e',p⟩:=hK.dom.rel k hlr;rw [e] at c;rw [e'] at c1;have h1:(k:Int)<C.ta.length:=by omega
 have h2:(k:Int)<D.rel.length:=by omega
 have h0:(0:Int)≤k:=by omega
 have HE:Hid (Y0 C D k=wrap64 (C.ta[k].2.1*D.rel[k])):=hid (by simp [Y0,tk,hlt,hlr]);clear hK p0 p2 p3 e e';generalize C.ta[k].2.1=z at *
 generalize D.rel[k]=y at *
 go_enter func154,ntmps154;go_wp2;go_quiet (fail)
 go_wp2;go_ret;exact ⟨Zh HE.out.symm,below_drewN br _⟩
def Ztx (a b:Int):Int:=if a<b then -1 else if a=b then 0 else 1
theorem Zmk (a b:Int) (w:World):
  Calls prog 194 #[.int .i64 a,.int .i64 b] w fun e w'=>e=.returned (.int .i64 (Ztx a b))∧Below w.heap.size w w':=by
 go_enter func194,ntmps194;go_wp2
 all_goals
  go_ret;exact ⟨Zh (by unfold Ztx;(repeat' split)<;>omega),br⟩
def orI (a b c:Int):Int:=if a≠0 then a else if b≠0 then b else c
theorem Zxz (a b c:Int) (bb:Nat) (w:World) (h:Zf w bb 3 [.int .i64 a,.int .i64 b,.int .i64 c]):
  Calls prog 193 #[.slice (some ⟨bb,0,none⟩) 3 3] w fun e w'=>e=.returned (.int .i64 (orI a b c))∧Below w.heap.size w w':=by
 obtain ⟨c0,c1,c2⟩:=h.q3 rfl rfl rfl;clear h;go_enter func193,ntmps193;go_wp2;go_loopw [8] (fun i wr=>∃ k:Nat,k≤3∧i=.int .i64 k∧wr=w∧(0<k→a=0)∧(1<k→b=0)∧(2<k→c=0)) (fun i _=>3-(intOf i).toNat)
 case atStart=>exact ⟨0,zl,rfl,rfl,by omega,by omega,by omega⟩
 case round=>
  obtain ⟨k,hk,rfl,rfl,n0,n1,n2⟩:=hrel;have N0:=hid n0;have N1:=hid n1;have N2:=hid n2;clear n0 n1 n2;have a1:k=0∨k=1∨k=2∨k=3:=by omega
  rcases a1 with rfl|rfl|rfl|rfl
  ·by_cases hx:a=0
   ·have HX:=hid hx
    have a0:(a != 0)=false:=by simp [hx]
    clear hx;go_wp2;go_roundw
    case rel=>exact ⟨1,by omega,by go_num,trivial,fun _=>HX.out,fun h=>absurd h (by omega),fun h=>absurd h (by omega)⟩
    case measure=>simp [intOf]
   ·have HX:=hid hx
    have a0:(a != 0)=true:=by simp [hx]
    clear hx;go_wp2;go_ret;exact ⟨Zh (by unfold orI;have h0:=N0.out;have h1:=N1.out;have hx:=HX.out;(repeat' split)<;>omega),br⟩
  ·by_cases hx:b=0
   ·have HX:=hid hx
    have a0:(b != 0)=false:=by simp [hx]
    clear hx;go_wp2;go_roundw
    case rel=>exact ⟨2,by omega,by go_num,trivial,fun h=>N0.out (by omega),fun _=>HX.out,fun h=>absurd h (by omega)⟩
    case measure=>simp [intOf]
   ·have HX:=hid hx
    have a0:(b != 0)=true:=by simp [hx]
    clear hx;go_wp2;go_ret;exact ⟨Zh (by unfold orI;have h0:=N0.out;have h1:=N1.out;have hx:=HX.out;(repeat' split)<;>omega),br⟩
  ·by_cases hx:c=0
   ·have HX:=hid hx
    have a0:(c != 0)=false:=by simp [hx]
    clear hx;go_wp2;go_roundw
    case rel=>exact ⟨3,by omega,by go_num,trivial,fun h=>N0.out (by omega),fun h=>N1.out (by omega),fun _=>HX.out⟩
    case measure=>simp [intOf]
   ·have HX:=hid hx
    have a0:(c != 0)=true:=by simp [hx]
    clear hx;go_wp2;go_ret;exact ⟨Zh (by unfold orI;have h0:=N0.out;have h1:=N1.out;have hx:=HX.out;(repeat' split)<;>omega),br⟩
  ·go_wp2
   go_ret;exact ⟨Zh (by unfold orI;have h0:=N0.out;have h1:=N1.out;have h2:=N2.out;(repeat' split)<;>omega),br⟩
def Jo (C:Zm) (x y:J6):Bool:=decide (orI (Ztx (Zbv C x) (Zbv C y)) (Ztx x.1 y.1) (Ztx x.2.1 y.2.1)<0)
theorem Zqq (kb:Nat) (D:Dom) (A:Yk) (C:Zm) (B:Mem) (dn:Int) (x y:J6) (w:World) (hK:Jf w kb D A C B dn) (hx0:0≤x.1) (hx1:x.1<C.ta.length) (hy0:0≤y.1) (hy1:y.1<C.ta.length):
  Calls prog 189 #[.pointer (some ⟨kb,0,none⟩),jv x,jv y] w fun e w'=>e=.returned (.bool (Jo C x y))∧Below w.heap.size w w':=by
 obtain ⟨x0,x1,x2,x3,x4,x5⟩:=x;obtain ⟨y0,y1,y2,y3,y4,y5⟩:=y;dsimp only at *
 have q1:=Za w (.cells #[.int .i64 x0,.int .i64 x1,.int .i64 x2,.int .i64 x3,.bool x4,.bool x5] 87);have q2:=Za (w.alloc (.cells #[.int .i64 x0,.int .i64 x1,.int .i64 x2,.int .i64 x3,.bool x4,.bool x5] 87)) (.cells #[.int .i64 y0,.int .i64 y1,.int .i64 y2,.int .i64 y3,.bool y4,.bool y5] 87);have HK:=hid ((hK.keep q1).keep q2);have HB:=hid (Zb q1 q2);have HX:=hid ((Zc w w.heap.size [.int .i64 x0,.int .i64 x1,.int .i64 x2,.int .i64 x3,.bool x4,.bool x5] 87 rfl).below q2 lr);have HY:=hid (Zc (w.alloc (.cells #[.int .i64 x0,.int .i64 x1,.int .i64 x2,.int .i64 x3,.bool x4,.bool x5] 87)) (w.heap.size+1) [.int .i64 y0,.int .i64 y1,.int .i64 y2,.int .i64 y3,.bool y4,.bool y5] 87 (by simp));have HE:Hid (Jo C (x0,x1,x2,x3,x4,x5) (y0,y1,y2,y3,y4,y5)=decide (orI (Ztx (Zbv C (x0,x1,x2,x3,x4,x5)) (Zbv C (y0,y1,y2,y3,y4,y5))) (Ztx x0 y0) (Ztx x1 y1)<0)):=hid rfl;clear q1 q2 hK;dsimp only [jv] at *
 go_enter func189,ntmps189;go_wp2_with fail;generalize hW:World.alloc (World.alloc w _) _=W at *
 clear hW;have CX:Hid (∀ wx,Below W.heap.size W wx→Calls prog 175 #[.pointer (some ⟨kb,0,none⟩),.agg #[.int .i64 x0,.int .i64 x1,.int .i64 x2,.int .i64 x3,.bool x4,.bool x5]] wx fun e w'=>e=.returned (.int .i64 (Zbv C (x0,x1,x2,x3,x4,x5)))∧Below wx.heap.size wx w'):=hid fun wx h=>Zc5 kb D A C B dn (x0,x1,x2,x3,x4,x5) wx (HK.out.keep h) hx0 hx1
 have CY:Hid (∀ wx,Below W.heap.size W wx→Calls prog 175 #[.pointer (some ⟨kb,0,none⟩),.agg #[.int .i64 y0,.int .i64 y1,.int .i64 y2,.int .i64 y3,.bool y4,.bool y5]] wx fun e w'=>e=.returned (.int .i64 (Zbv C (y0,y1,y2,y3,y4,y5)))∧Below wx.heap.size wx w'):=hid fun wx h=>Zc5 kb D A C B dn (y0,y1,y2,y3,y4,y5) wx (HK.out.keep h) hy0 hy1
 generalize Zbv C (x0,x1,x2,x3,x4,x5)=dx at *
 generalize Zbv C (y0,y1,y2,y3,y4,y5)=dy at *
 have HS:Hid (∀ w',Below W.heap.size W w'→w'.cell? ⟨w.heap.size,0,none⟩=some (.int .i64 x0)∧w'.cell? ⟨w.heap.size,1,none⟩=some (.int .i64 x1)∧w'.cell? ⟨w.heap.size,2,none⟩=some (.int .i64 x2)∧w'.cell? ⟨w.heap.size,3,none⟩=some (.int .i64 x3)∧w'.cell? ⟨w.heap.size,4,none⟩=some (.bool x4)∧w'.cell? ⟨w.heap.size,5,none⟩=some (.bool x5)∧w'.cell? ⟨w.heap.size+1,0,none⟩=some (.int .i64 y0)∧w'.cell? ⟨w.heap.size+1,1,none⟩=some (.int .i64 y1)∧w'.cell? ⟨w.heap.size+1,2,none⟩=some (.int .i64 y2)∧w'.cell? ⟨w.heap.size+1,3,none⟩=some (.int .i64 y3)∧w'.cell? ⟨w.heap.size+1,4,none⟩=some (.bool y4)∧w'.cell? ⟨w.heap.size+1,5,none⟩=some (.bool y5)):=hid fun w' h=>⟨Zg h (HX.out.cell 0 _ rfl) lr,Zg h (HX.out.cell 1 _ rfl) lr,Zg h (HX.out.cell 2 _ rfl) lr,Zg h (HX.out.cell 3 _ rfl) lr,Zg h (HX.out.cell 4 _ rfl) lr,Zg h (HX.out.cell 5 _ rfl) lr,Zg h (HY.out.cell 0 _ rfl) lr,Zg h (HY.out.cell 1 _ rfl) lr,Zg h (HY.out.cell 2 _ rfl) lr,Zg h (HY.out.cell 3 _ rfl) lr,Zg h (HY.out.cell 4 _ rfl) lr,Zg h (HY.out.cell 5 _ rfl) lr⟩
 have hB:Below W.heap.size W W.drew:=br.drew;clear HK HX HY hx0 hx1 hy0 hy1;go_region_held3 (fun w'=>w'.cell? ⟨w.heap.size,0,none⟩=some (.int .i64 x0)∧w'.cell? ⟨w.heap.size,1,none⟩=some (.int .i64 x1)∧w'.cell? ⟨w.heap.size,2,none⟩=some (.int .i64 x2)∧w'.cell? ⟨w.heap.size,3,none⟩=some (.int .i64 x3)∧w'.cell? ⟨w.heap.size,4,none⟩=some (.bool x4)∧w'.cell? ⟨w.heap.size,5,none⟩=some (.bool x5)∧w'.cell? ⟨w.heap.size+1,0,none⟩=some (.int .i64 y0)∧w'.cell? ⟨w.heap.size+1,1,none⟩=some (.int .i64 y1)∧w'.cell? ⟨w.heap.size+1,2,none⟩=some (.int .i64 y2)∧w'.cell? ⟨w.heap.size+1,3,none⟩=some (.int .i64 y3)∧w'.cell? ⟨w.heap.size+1,4,none⟩=some (.bool y4)∧w'.cell? ⟨w.heap.size+1,5,none⟩=some (.bool y5))
  (first|exact HS.out _ hB|exact HS.out _ (hB.alloc hB.size _)|go_keep)
  (first
   | (go_at_call 175;with_reducible refine Calls.mono (CX.out _ hB) ?_;rintro e w3 ⟨rfl,a0⟩;have hB:=Zb hB a0)
   | (go_at_call 175;with_reducible refine Calls.mono (CY.out _ hB) ?_;rintro e w3 ⟨rfl,a0⟩;have hB:=Zb hB a0)
   | (go_at_call 194;refine (Zmk _ _ _).mono ?_;rintro e w3 ⟨rfl,a0⟩;have hB:=Zb hB a0)
   | (go_at_call 193;refine Calls.mono (Zxz _ _ _ _ _ (by exact Zc _ _ [_,_,_] 3 rfl)) ?_;rintro e w3 ⟨rfl,a0⟩;have hB:=Zb (hB.alloc hB.size _) a0))
 have HF:=hid hB;clear hB HS CX CY;go_wp2;go_ret;exact ⟨Yh HE.out.symm,Zb HB HF⟩
def Zs7 {α:Type} (p:α→Bool) (l:List α):Int:=
 match l.findIdx? p with
 | some k=>k
 | none=>-1
theorem Zqh {α:Type} (p:α→Bool) (l:List α) (k:Nat) (h:k<l.length) (he:p l[k]=true) (hno:∀ j (hj:j<l.length),j<k→p l[j]=false):Zs7 p l=k:=by
 have:l.findIdx? p=some k:=List.findIdx?_eq_some_iff_getElem.2 ⟨h,he,fun j hj=>by simp [hno j (by omega) hj]⟩
 simp [Zs7,this]
theorem Zlv {α:Type} (p:α→Bool) (l:List α) (hno:∀ j (hj:j<l.length),p l[j]=false):Zs7 p l=-1:=by
 have:l.findIdx? p=none:=List.findIdx?_eq_none_iff.2 fun x hx=>by
  obtain ⟨j,hj,rfl⟩:=List.getElem_of_mem hx;exact hno j hj
 simp [Zs7,this]
theorem Zth {α:Type} (p:α→Bool) (l:List α):0≤Zs7 p l↔l.any p=true:=by
 unfold Zs7
 cases h:l.findIdx? p with
 | none=>simp [List.findIdx?_eq_none_iff] at h;simp;exact h
 | some k=>
  obtain ⟨hk,he,_⟩:=List.findIdx?_eq_some_iff_getElem.1 h;simp only [List.any_eq_true];exact ⟨fun _=>⟨_,List.getElem_mem hk,he⟩,fun _=>by omega⟩
def Zo3 (C:Zm) (J:List J6) (y:J6):Bool:=J.any fun x=>Jo C x y
def J0 (C:Zm) (J:List J6):Int:=Zs7 (fun y=>!Zo3 C J y) J
def Zd0 (C:Zm) (J:List J6):Prop:=∀ i (h:i<J.length),0≤J[i].1∧J[i].1<C.ta.length
theorem Znm (kb cb jb:Nat) (D:Dom) (A:Yk) (C:Zm) (B:Mem) (dn:Int) (x y:J6) (w:World) (hK:Jf w kb D A C B dn) (hc:w.cell? ⟨cb,0,none⟩=some (.pointer (some ⟨kb,0,none⟩))) (hy:Zf w jb 87 [.int .i64 y.1,.int .i64 y.2.1,.int .i64 y.2.2.1,.int .i64 y.2.2.2.1,.bool y.2.2.2.2.1,.bool y.2.2.2.2.2])
  (hx0:0≤x.1) (hx1:x.1<C.ta.length) (hy0:0≤y.1) (hy1:y.1<C.ta.length) :
  Calls prog 188 #[jv x,.pointer (some ⟨cb,0,none⟩),.pointer (some ⟨jb,0,none⟩)] w fun e w'=>e=.returned (.bool (Jo C x y))∧Below w.heap.size w w':=by
 obtain ⟨x0,x1,x2,x3,x4,x5⟩:=x;obtain ⟨y0,y1,y2,y3,y4,y5⟩:=y;dsimp only [jv] at *
 have q1:=Za w (.cells #[.int .i64 x0,.int .i64 x1,.int .i64 x2,.int .i64 x3,.bool x4,.bool x5] 87);have HK:=hid (hK.keep q1);have HB:=hid q1;have a2:=Zg q1 hc lr;have a0:=hy.below q1 lr;obtain ⟨d0,d1,d2,d3,d4,d5⟩:=a0.q6 rfl rfl rfl rfl rfl rfl;clear hc hy a0 q1 hK;go_enter func188,ntmps188;go_wp2_with fail;refine (Zqq kb D A C B dn (x0,x1,x2,x3,x4,x5) (y0,y1,y2,y3,y4,y5) _ HK hx0 hx1 hy0 hy1).mono ?_;rintro e w1 ⟨rfl,a1⟩;generalize hq:Jo C (x0,x1,x2,x3,x4,x5) (y0,y1,y2,y3,y4,y5)=q at *
 have HQ:=hid hq;clear hq;go_wp2;go_ret;exact ⟨Yh HQ.out.symm,Zb HB a1⟩
theorem Zkm (kb cb jb:Nat) (D:Dom) (A:Yk) (C:Zm) (B:Mem) (dn:Int) (y:J6) (w:World) (hK:Jf w kb D A C B dn) (hc:w.cell? ⟨cb,0,none⟩=some (.pointer (some ⟨kb,0,none⟩))) (hy:Zf w jb 87 [.int .i64 y.1,.int .i64 y.2.1,.int .i64 y.2.2.1,.int .i64 y.2.2.2.1,.bool y.2.2.2.2.1,.bool y.2.2.2.2.2])
  (hJ:Zd0 C D.jobs) (hy0:0≤y.1) (hy1:y.1<C.ta.length) :
  Calls prog 185 #[.slice A.aJ D.jobs.length A.cJ,.func (.func 188) #[] #[.pointer (some ⟨cb,0,none⟩),.pointer (some ⟨jb,0,none⟩)]] w (RB (.int .i64 (Zs7 (fun x=>Jo C x y) D.jobs)) w):=by
 have HK:=hid hK;have HC:=hid hc;have HY:=hid hy;have hl:=hK.dom.lJ;have hw:=hK.dom.jobs;clear hK hc hy;go_enter func185,ntmps185;go_wp2;go_loopw [8] (fun i wr=>∃ k:Nat,k≤D.jobs.length∧i=.int .i64 k∧Below w.heap.size w wr∧∀ j (hj:j<D.jobs.length),j<k→Jo C D.jobs[j] y=false) (fun i _=>D.jobs.length-(intOf i).toNat)
 case atStart=>exact ⟨0,zl,rfl,br,by omega⟩
 case round=>
  obtain ⟨k,hk,rfl,a0,a2⟩:=hrel;have a1:=hid a2;clear a2;by_cases hlt:k<D.jobs.length
  ·obtain ⟨b',o',e',c0,c1,c2,c3,c4,c5⟩:=hw k hlt
   have hj:=hJ k hlt;rw [e'];replace c0:=Zg a0 c0 lr;replace c1:=Zg a0 c1 lr;replace c2:=Zg a0 c2 lr;replace c3:=Zg a0 c3 lr;replace c4:=Zg a0 c4 lr;replace c5:=Zg a0 c5 lr;go_wp2_with fail;refine (Znm kb cb jb D A C B dn D.jobs[k] y _ (HK.out.keep a0) (Zg a0 HC lr) (HY.out.below a0 lr) hj.1 hj.2 hy0 hy1).mono ?_;rintro e w' ⟨rfl,a3⟩
   cases hx:Jo C D.jobs[k] y with
   | true=>
    have HX:=hid (Zqh (fun x=>Jo C x y) D.jobs k hlt hx a1.out);clear hx;go_wp2;go_ret;exact ⟨Zh HX.out.symm,Zb a0 a3⟩
   | false=>
    have HX:=hid hx;clear hx;go_wp2;go_roundw
    case rel=>
     refine ⟨k+1,by omega,by go_num,Zb a0 a3,fun j hj hlt2=>?_⟩;by_cases e:j=k
     ·subst e;exact HX.out
     ·exact a1.out j hj (by omega)
    case measure=>simp [intOf];omega
  ·go_wp2
   go_ret;exact ⟨Zh (Zlv _ _ (fun j hj=>a1.out j hj (by omega))).symm,a0⟩
theorem Zf6 (kb cb jb:Nat) (D:Dom) (A:Yk) (C:Zm) (B:Mem) (dn:Int) (y:J6) (w:World) (hK:Jf w kb D A C B dn) (hc:w.cell? ⟨cb,0,none⟩=some (.pointer (some ⟨kb,0,none⟩))) (hy:Zf w jb 87 [.int .i64 y.1,.int .i64 y.2.1,.int .i64 y.2.2.1,.int .i64 y.2.2.2.1,.bool y.2.2.2.2.1,.bool y.2.2.2.2.2])
  (hJ:Zd0 C D.jobs) (hy0:0≤y.1) (hy1:y.1<C.ta.length) :
  Calls prog 187 #[.slice A.aJ D.jobs.length A.cJ,.func (.func 188) #[] #[.pointer (some ⟨cb,0,none⟩),.pointer (some ⟨jb,0,none⟩)]] w fun e w'=>e=.returned (.bool (Zo3 C D.jobs y))∧Below w.heap.size w w':=by
 have HK:=hid hK;have HC:=hid hc;have HY:=hid hy;clear hK hc hy;go_enter func187,ntmps187;go_wp2_with fail;refine (Zkm kb cb jb D A C B dn y _ HK HC HY hJ hy0 hy1).mono ?_;rintro e w' ⟨rfl,hb⟩;have HR:=hid (Zth (fun x=>Jo C x y) D.jobs);generalize Zs7 (fun x=>Jo C x y) D.jobs=r at *
 go_wp2;go_ret;exact ⟨Yh (by rw [Bool.eq_iff_iff];simpa [Zo3] using HR.out),hb⟩
theorem Zo4 (kb cb:Nat) (D:Dom) (A:Yk) (C:Zm) (B:Mem) (dn:Int) (y:J6) (w:World) (hK:Jf w kb D A C B dn) (hc:w.cell? ⟨cb,0,none⟩=some (.pointer (some ⟨kb,0,none⟩)))
  (hJ:Zd0 C D.jobs) (hy0:0≤y.1) (hy1:y.1<C.ta.length) :
  Calls prog 186 #[jv y,.pointer (some ⟨cb,0,none⟩)] w fun e w'=>e=.returned (.bool (!Zo3 C D.jobs y))∧Below w.heap.size w w':=by
 obtain ⟨y0,y1,y2,y3,y4,y5⟩:=y;dsimp only [jv] at *
 have q1:=Za w (.cells #[.int .i64 y0,.int .i64 y1,.int .i64 y2,.int .i64 y3,.bool y4,.bool y5] 87);have a0:=hK.keep q1;have HK:=hid a0;have HB:=hid q1;have HY:=hid (Zc w w.heap.size [.int .i64 y0,.int .i64 y1,.int .i64 y2,.int .i64 y3,.bool y4,.bool y5] 87 rfl);have a1:=Zg q1 hc lr;have c0:=a0.row.cell 0 _ rfl;have a2:=hid a1;have a4:∀ (fn:Fn) (first cap:Array Value) (w:World),(Instr.makeFunc fn first cap).run prog w=.ok (.func fn first cap) w:=fun _ _ _ _=>rfl
 clear hc q1 hK a0;go_enter func186,ntmps186;go_wp2_with fail;refine (Zf6 kb cb w.heap.size D A C B dn (y0,y1,y2,y3,y4,y5) _ HK a2 HY hJ hy0 hy1).mono ?_;rintro e w1 ⟨rfl,a3⟩;generalize hq:Zo3 C D.jobs (y0,y1,y2,y3,y4,y5)=q at *
 have HQ:=hid hq;clear hq;go_wp2;go_ret;exact ⟨Yh (by rw [HQ.out]),Zb HB.out a3⟩
theorem Zlf (kb cb:Nat) (D:Dom) (A:Yk) (C:Zm) (B:Mem) (dn:Int) (w:World) (hK:Jf w kb D A C B dn) (hc:w.cell? ⟨cb,0,none⟩=some (.pointer (some ⟨kb,0,none⟩))) (hJ:Zd0 C D.jobs):
  Calls prog 185 #[.slice A.aJ D.jobs.length A.cJ,.func (.func 186) #[] #[.pointer (some ⟨cb,0,none⟩)]] w (RB (.int .i64 (J0 C D.jobs)) w):=by
 have HK:=hid hK;have HC:=hid hc;have hl:=hK.dom.lJ;have hw:=hK.dom.jobs;clear hK hc;go_enter func185,ntmps185;go_wp2;go_loopw [8] (fun i wr=>∃ k:Nat,k≤D.jobs.length∧i=.int .i64 k∧Below w.heap.size w wr∧∀ j (hj:j<D.jobs.length),j<k→(!Zo3 C D.jobs D.jobs[j])=false) (fun i _=>D.jobs.length-(intOf i).toNat)
 case atStart=>exact ⟨0,zl,rfl,br,by omega⟩
 case round=>
  obtain ⟨k,hk,rfl,a0,a2⟩:=hrel;have a1:=hid a2;clear a2;by_cases hlt:k<D.jobs.length
  ·obtain ⟨b',o',e',c0,c1,c2,c3,c4,c5⟩:=hw k hlt
   have hj:=hJ k hlt;rw [e'];replace c0:=Zg a0 c0 lr;replace c1:=Zg a0 c1 lr;replace c2:=Zg a0 c2 lr;replace c3:=Zg a0 c3 lr;replace c4:=Zg a0 c4 lr;replace c5:=Zg a0 c5 lr;go_wp2_with fail;refine (Zo4 kb cb D A C B dn D.jobs[k] _ (HK.out.keep a0) (Zg a0 HC lr) hJ hj.1 hj.2).mono ?_;rintro e w' ⟨rfl,a3⟩
   cases hx:!Zo3 C D.jobs D.jobs[k] with
   | true=>
    have HX:=hid (Zqh (fun y=>!Zo3 C D.jobs y) D.jobs k hlt hx a1.out);clear hx;go_wp2;go_ret;exact ⟨Zh HX.out.symm,Zb a0 a3⟩
   | false=>
    have HX:=hid hx;clear hx;go_wp2;go_roundw
    case rel=>
     refine ⟨k+1,by omega,by go_num,Zb a0 a3,fun j hj hlt2=>?_⟩;by_cases e:j=k
     ·subst e;exact HX.out
     ·exact a1.out j hj (by omega)
    case measure=>simp [intOf];omega
  ·go_wp2
   go_ret;exact ⟨Zh (Zlv (fun y=>!Zo3 C D.jobs y) _ (fun j hj=>a1.out j hj (by omega))).symm,a0⟩
theorem Zrz (kb:Nat) (D:Dom) (A:Yk) (C:Zm) (B:Mem) (dn:Int) (w:World) (hK:Jf w kb D A C B dn) (hJ:Zd0 C D.jobs):
  Calls prog 176 #[.pointer (some ⟨kb,0,none⟩)] w fun e w'=>e=.returned (.int .i64 (J0 C D.jobs))∧Below w.heap.size w w':=by
 have q1:=Za w (.cells #[.pointer (some ⟨kb,0,none⟩)] 211);have a0:=hK.keep q1;have HK:=hid a0;have HB:=hid q1;have HC:=hid ((Zc w w.heap.size [.pointer (some ⟨kb,0,none⟩)] 211 rfl).cell 0 _ rfl);have c0:=a0.row.cell 0 _ rfl;have a2:∀ (fn:Fn) (first cap:Array Value) (w:World),(Instr.makeFunc fn first cap).run prog w=.ok (.func fn first cap) w:=fun _ _ _ _=>rfl
 clear q1 hK a0;go_enter func176,ntmps176;go_wp2_with fail;refine (Zlf kb w.heap.size D A C B dn _ HK HC hJ).mono ?_;rintro e w1 ⟨rfl,a1⟩;generalize hq:J0 C D.jobs=q at *
 have HQ:=hid hq;clear hq;go_wp2;go_ret;exact ⟨Zh HQ.out.symm,Zb HB a1⟩
end Go.Proofs.YtejhccmclanlmaaGreatDoor
