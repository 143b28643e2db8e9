/- Cg Nb Sd Nc Nd Ch10 Ch20 Ch21 Ch30 Ch31 Ci Cj -/
import Derived.Deep.RegionLaw
import Derived.Deep.RegionHeld3
import Derived.ProofKit
import Derived.OpenShut
import Derived.ShutString
import Derived.ChangeOld
import Derived.Below
import Derived.Deep.Slices
import Derived.Deep.SlicePairs
import Derived.Lib.SmallJoins
import Derived.Deep.OwnRows
import Derived.Test.YtejhccmclanlmaaGreatDoorV00
import Derived.Test.YtejhccmclanlmaaGreatDoorV02
set_option linter.all false
set_option maxRecDepth 100000
set_option maxHeartbeats 8000000
namespace Go.Proofs.YtejhccmclanlmaaGreatDoor
open Go.RowKit Go.Proofs.Tryz
variable {ls:List (Int×Bool)} {L r:List Value} {base cap g n:Nat} {a:Option Addr} {t:TypeId} {v0_ v1_ v2_ v3_ v4_ v5_ v6_:Value} {w w':World} {C:Zm}
def Zf (w:World) (g:Nat) (t:TypeId) (L:List Value):Prop:=w.heap[g]? = some (.cells L.toArray t (0,0))
theorem Zf.cell (h:Zf w g t L) (i:Nat) (v:Value) (hv:L[i]? = some v):w.cell? ⟨g,i,none⟩=some v:=by
 simp [World.cell?,show w.heap[g]? = _ from h,hv]
theorem Zf.q2 (h:Zf w g t L) (h0:L[0]? = some v0_) (h1:L[1]? = some v1_):w.cell? ⟨g,0,none⟩=some v0_∧w.cell? ⟨g,1,none⟩=some v1_:=⟨h.cell 0 _ h0,h.cell 1 _ h1⟩
theorem Zf.q3 (h:Zf w g t L) (h0:L[0]? = some v0_) (h1:L[1]? = some v1_) (h2:L[2]? = some v2_):w.cell? ⟨g,0,none⟩=some v0_∧w.cell? ⟨g,1,none⟩=some v1_∧w.cell? ⟨g,2,none⟩=some v2_:=⟨h.cell 0 _ h0,h.cell 1 _ h1,h.cell 2 _ h2⟩
theorem Zf.q4 (h:Zf w g t L) (h0:L[0]? = some v0_) (h1:L[1]? = some v1_) (h2:L[2]? = some v2_) (h3:L[3]? = some v3_):w.cell? ⟨g,0,none⟩=some v0_∧w.cell? ⟨g,1,none⟩=some v1_∧w.cell? ⟨g,2,none⟩=some v2_∧w.cell? ⟨g,3,none⟩=some v3_:=⟨h.cell 0 _ h0,h.cell 1 _ h1,h.cell 2 _ h2,h.cell 3 _ h3⟩
theorem Zf.q6 (h:Zf w g t L) (h0:L[0]? = some v0_) (h1:L[1]? = some v1_) (h2:L[2]? = some v2_) (h3:L[3]? = some v3_) (h4:L[4]? = some v4_) (h5:L[5]? = some v5_):w.cell? ⟨g,0,none⟩=some v0_∧w.cell? ⟨g,1,none⟩=some v1_∧w.cell? ⟨g,2,none⟩=some v2_∧w.cell? ⟨g,3,none⟩=some v3_∧w.cell? ⟨g,4,none⟩=some v4_∧w.cell? ⟨g,5,none⟩=some v5_:=⟨h.cell 0 _ h0,h.cell 1 _ h1,h.cell 2 _ h2,h.cell 3 _ h3,h.cell 4 _ h4,h.cell 5 _ h5⟩
theorem Zf.q7 (h:Zf w g t L) (h0:L[0]? = some v0_) (h1:L[1]? = some v1_) (h2:L[2]? = some v2_) (h3:L[3]? = some v3_) (h4:L[4]? = some v4_) (h5:L[5]? = some v5_) (h6:L[6]? = some v6_):w.cell? ⟨g,0,none⟩=some v0_∧w.cell? ⟨g,1,none⟩=some v1_∧w.cell? ⟨g,2,none⟩=some v2_∧w.cell? ⟨g,3,none⟩=some v3_∧w.cell? ⟨g,4,none⟩=some v4_∧w.cell? ⟨g,5,none⟩=some v5_∧w.cell? ⟨g,6,none⟩=some v6_:=⟨h.cell 0 _ h0,h.cell 1 _ h1,h.cell 2 _ h2,h.cell 3 _ h3,h.cell 4 _ h4,h.cell 5 _ h5,h.cell 6 _ h6⟩
theorem Zf.q9 {v7_ v8_:Value} (h:Zf w g t L) (h0:L[0]? = some v0_) (h1:L[1]? = some v1_) (h2:L[2]? = some v2_) (h3:L[3]? = some v3_) (h4:L[4]? = some v4_) (h5:L[5]? = some v5_) (h6:L[6]? = some v6_) (h7:L[7]? = some v7_) (h8:L[8]? = some v8_):w.cell? ⟨g,0,none⟩=some v0_∧w.cell? ⟨g,1,none⟩=some v1_∧w.cell? ⟨g,2,none⟩=some v2_∧w.cell? ⟨g,3,none⟩=some v3_∧w.cell? ⟨g,4,none⟩=some v4_∧w.cell? ⟨g,5,none⟩=some v5_∧w.cell? ⟨g,6,none⟩=some v6_∧w.cell? ⟨g,7,none⟩=some v7_∧w.cell? ⟨g,8,none⟩=some v8_:=⟨h.cell 0 _ h0,h.cell 1 _ h1,h.cell 2 _ h2,h.cell 3 _ h3,h.cell 4 _ h4,h.cell 5 _ h5,h.cell 6 _ h6,h.cell 7 _ h7,h.cell 8 _ h8⟩
theorem Zf.frozen (h:Zf w g t L) (i:Nat):w.frozen? ⟨g,i,none⟩=false:=by
 simp [World.frozen?,show w.heap[g]? = _ from h]
theorem Zf.lt (h:Zf w g t L):g<w.heap.size:=(Array.getElem?_eq_some_iff.1 h).1
theorem Zf.setCell (h:Zf w g t L) (i:Nat) (v:Value):Zf (w.setCell ⟨g,i,none⟩ v) g t (L.set i v):=by
 have hh:w.heap[g]? = _:=h;show (w.setCell ⟨g,i,none⟩ v).heap[g]? = _
 simp only [World.setCell,Array.getElem?_modify];simp [hh]
theorem Zf.setOther (h:Zf w g t L) (a:Addr) (v:Value) (hne:g≠a.block):Zf (w.setCell a v) g t L:=by
 show (w.setCell a v).heap[g]? = _
 rw [Below.heap_setCell _ _ _ _ hne];exact h
theorem Zf.alloc (h:Zf w g t L) (o:Obj):Zf (w.alloc o) g t L:=by
 show (w.alloc o).heap[g]? = _
 rw [Below.heap_alloc _ _ _ h.lt];exact h
theorem Zf.below {B:Nat} (h:Zf w g t L) (hb:Below B w w') (hB:w.heap.size≤B):Zf w' g t L:=by
 show w'.heap[g]? = _
 rw [hb.block g (Nat.lt_of_lt_of_le h.lt hB)];exact h
theorem Zeh (h:w.ownsRow base 125 2 (.slice (some ⟨g,0,none⟩) n cap) n (flat ls)):
  ∃ r:List Value,Zf w g 125 (flat ls++r)∧(flat ls++r).length=cap*2∧n≤cap∧cap≤maxLen∧base≤g:=by
 obtain ⟨hl,hv⟩:=h;rcases hv with ⟨e,_⟩|⟨g',a0,a1,e,hb,hg,hn,hm,hs,ht⟩
 ·simp at e
 ·simp only [Value.slice.injEq,Option.some.injEq,Addr.mk.injEq,and_true,true_and] at e
  obtain ⟨rfl,rfl⟩:=e;refine ⟨a1.toList.drop (n*2),?_,?_,hn,hm,hb⟩
  ·show w.heap[g]? = _
   rw [← ht,List.take_append_drop];simpa using hg
  ·rw [← ht,List.take_append_drop];simpa using hs
theorem Zej (h:Zf w g 125 (flat ls++r)) (hl:(flat ls++r).length=cap*2) (hn:n≤cap) (hm:cap≤maxLen) (hb:base≤g) (hlen:ls.length=n):
  w.ownsRow base 125 2 (.slice (some ⟨g,0,none⟩) n cap) n (flat ls):=by
 have e:(flat ls).length=n*2:=by rw [Zeb,hlen]
 refine ⟨e,.inr ⟨g,cap,(flat ls++r).toArray,rfl,hb,h,hn,hm,by simpa using hl,?_⟩⟩;simp [← e]
theorem Tryz.sz125:(prog.info? 125).map (·.size)=some 2:=by kernel_rfl
theorem Z7 (w:World) (n i:Nat) (cs:Array Value) (t:TypeId) (h:w.heap.size=n):(w.alloc (.cells cs t)).cell? ⟨n,i,none⟩=cs[i]? := by subst h;simp only [World.cell?];rw [heap_alloc_new];rfl
theorem Yx (g:Nat) (h:Below w.heap.size w w'):w.grownBy w' (some g):=⟨h.os,h.tape,h.output,h.size,fun k hk _=>h.block k hk⟩
theorem Zo (w:World) (g i:Nat) (v:Value):w.grownBy (w.setCell ⟨g,i,none⟩ v) (some g):=
 ⟨rfl,rfl,rfl,by simp [World.setCell],fun k _ hk=>Below.heap_setCell _ _ _ _ (by intro e;exact hk (by rw [e]))⟩
theorem Y2 (w:World) (row:Option Nat):w.grownBy w.drew row:=⟨rfl,rfl,rfl,lr,fun _ _ _=>rfl⟩
theorem Zvb (g j:Nat):(⟨g,0,none⟩:Addr).add j=⟨g,j,none⟩:=by unfold Addr.add;split<;>simp_all
theorem Zf.news {X Y:List Value} (h:Zf w g t (X++Y)):∀ j v,X[j]? = some v→w.cell? ((⟨g,0,none⟩:Addr).add j)=some v:=by
 intro j v hv;rw [Zvb];refine h.cell j v ?_;rw [List.getElem?_append_left (List.getElem?_eq_some_iff.1 hv).1];exact hv
theorem Zf.ways (h:Zf w g 125 (flat ls++r)):J7 w (some ⟨g,0,none⟩) ls:=by
 intro i hi;obtain ⟨f1,f2⟩:=Zmt ls i hi;have e1:(0+i*2)=i*2:=by omega
 refine ⟨g,0,rfl,?_,?_⟩
 ·rw [e1];refine h.cell _ _ ?_
  rw [List.getElem?_append_left (List.getElem?_eq_some_iff.1 f1).1];exact f1
 ·rw [e1];refine h.cell _ _ ?_
  rw [List.getElem?_append_left (List.getElem?_eq_some_iff.1 f2).1];exact f2
structure Mem where
 a5:Option Addr
 a6:Option Addr
 a7:Option Addr
 a8:Option Addr
 c5:Nat
 c6:Nat
 c7:Nat
 c8:Nat
abbrev cl (C:Zm) (A:Mem):Array Value:=#[.int .i64 C.s,.int .i64 C.w,.int .i64 C.d,.int .i64 C.p,.int .i64 C.q,.slice A.a5 C.sl.length A.c5,.slice A.a6 C.ow.length A.c6,.slice A.a7 C.ch.length A.c7,.slice A.a8 C.ta.length A.c8]
abbrev cv (C:Zm) (A:Mem):Value:=.agg (cl C A)
def Qs (w:World) (a:Option Addr) (ls:List (Int×Int)):Prop:=
 ∀ i (h:i<ls.length),∃ b o,a=some ⟨b,o,none⟩∧w.cell? ⟨b,o+i*2,none⟩=some (.int .i64 ls[i].1)∧w.cell? ⟨b,o+i*2+1,none⟩=some (.int .i64 ls[i].2)
def Z4 (w:World) (a:Option Addr) (ls:List Int):Prop:=
 ∀ i (h:i<ls.length),∃ b o,a=some ⟨b,o,none⟩∧w.cell? ⟨b,o+i,none⟩=some (.int .i64 ls[i])
def Yn (w:World) (a:Option Addr) (ls:List (Int×Int×Int)):Prop:=
 ∀ i (h:i<ls.length),∃ b o,a=some ⟨b,o,none⟩∧w.cell? ⟨b,o+i*3,none⟩=some (.int .i64 ls[i].1)∧w.cell? ⟨b,o+i*3+1,none⟩=some (.int .i64 ls[i].2.1)∧w.cell? ⟨b,o+i*3+2,none⟩=some (.int .i64 ls[i].2.2)
def Jb (w:World) (a:Option Addr) (ls:List (Int×Int×Int×Int)):Prop:=
 ∀ i (h:i<ls.length),∃ b o,a=some ⟨b,o,none⟩∧w.cell? ⟨b,o+i*4,none⟩=some (.int .i64 ls[i].1)∧w.cell? ⟨b,o+i*4+1,none⟩=some (.int .i64 ls[i].2.1)∧w.cell? ⟨b,o+i*4+2,none⟩=some (.int .i64 ls[i].2.2.1)∧w.cell? ⟨b,o+i*4+3,none⟩=some (.int .i64 ls[i].2.2.2)
theorem Qs.keep {ls:List (Int×Int)} (h:Qs w a ls) (hb:Below w.heap.size w w'):Qs w' a ls:=by
 intro i hi;obtain ⟨b,o,e,h1,h2⟩:=h i hi;exact ⟨b,o,e,Zg hb h1 lr,Zg hb h2 lr⟩
theorem Z4.keep {ls:List Int} (h:Z4 w a ls) (hb:Below w.heap.size w w'):Z4 w' a ls:=by
 intro i hi;obtain ⟨b,o,e,h1⟩:=h i hi;exact ⟨b,o,e,Zg hb h1 lr⟩
theorem Yn.keep {ls:List (Int×Int×Int)} (h:Yn w a ls) (hb:Below w.heap.size w w'):Yn w' a ls:=by
 intro i hi;obtain ⟨b,o,e,h1,h2,h3⟩:=h i hi;exact ⟨b,o,e,Zg hb h1 lr,Zg hb h2 lr,Zg hb h3 lr⟩
theorem Jb.keep {ls:List (Int×Int×Int×Int)} (h:Jb w a ls) (hb:Below w.heap.size w w'):Jb w' a ls:=by
 intro i hi;obtain ⟨b,o,e,h1,h2,h3,h4⟩:=h i hi;exact ⟨b,o,e,Zg hb h1 lr,Zg hb h2 lr,Zg hb h3 lr,Zg hb h4 lr⟩
structure Z1 (w:World) (A:Mem) (C:Zm):Prop where
 sl:Qs w A.a5 C.sl
 ow:Z4 w A.a6 C.ow
 ch:Yn w A.a7 C.ch
 ta:Jb w A.a8 C.ta
 l5:C.sl.length≤9223372036854775807
 l6:C.ow.length≤9223372036854775807
 l7:C.ch.length≤9223372036854775807
 l8:C.ta.length≤9223372036854775807
 k7:C.ch.length≤A.c7
theorem Z1.keep {A:Mem} (h:Z1 w A C) (hb:Below w.heap.size w w'):Z1 w' A C:=
 ⟨h.sl.keep hb,h.ow.keep hb,h.ch.keep hb,h.ta.keep hb,h.l5,h.l6,h.l7,h.l8,h.k7⟩
structure Zs3 (w:World) (b:Nat) (C:Zm) (A:Mem):Prop where
 h0:w.cell? ⟨b,0,none⟩=some (.int .i64 C.s)
 h1:w.cell? ⟨b,1,none⟩=some (.int .i64 C.w)
 h2:w.cell? ⟨b,2,none⟩=some (.int .i64 C.d)
 h3:w.cell? ⟨b,3,none⟩=some (.int .i64 C.p)
 h4:w.cell? ⟨b,4,none⟩=some (.int .i64 C.q)
 h5:w.cell? ⟨b,5,none⟩=some (.slice A.a5 C.sl.length A.c5)
 h6:w.cell? ⟨b,6,none⟩=some (.slice A.a6 C.ow.length A.c6)
 h7:w.cell? ⟨b,7,none⟩=some (.slice A.a7 C.ch.length A.c7)
 h8:w.cell? ⟨b,8,none⟩=some (.slice A.a8 C.ta.length A.c8)
theorem Zs3.keep {b:Nat} {A:Mem} (h:Zs3 w b C A) (hb:Below w.heap.size w w'):Zs3 w' b C A:=
 ⟨Zg hb h.h0 lr,Zg hb h.h1 lr,Zg hb h.h2 lr,Zg hb h.h3 lr,Zg hb h.h4 lr,Zg hb h.h5 lr,Zg hb h.h6 lr,Zg hb h.h7 lr,Zg hb h.h8 lr⟩
theorem Yq (w:World) (C:Zm) (A:Mem):Zs3 (w.alloc (.cells (cl C A) 27)) w.heap.size C A:=by
 constructor<;>simp
theorem Za (w:World) (o:Obj):Below w.heap.size w (w.alloc o):=br.alloc lr _
theorem Zan (v0 v1 v3 v4 v5 v6 v7 v8:Value) (d x:Int) (hd1:1≤d) (hd4:d≤4) (w:World):
  Calls prog 80 #[.agg #[v0,v1,.int .i64 d,v3,v4,v5,v6,v7,v8],.int .i64 x] w (RB (.bool (isD d x)) w):=by
 go_enter func80,ntmps80;go_wp2_with fail;refine (Zs _ _ _ _).mono ?_;rintro e w' ⟨rfl,rfl⟩;go_wp2;go_ret;exact ⟨rfl,Za _ _⟩
theorem Zfu (C:Zm) (A:Mem) (w:World):
  Calls prog 52 #[cv C A] w fun e w'=>e=.returned (.int .i64 (Zep C))∧Below w.heap.size w w':=by
 unfold cv cl;go_enter func52,ntmps52;go_wp2_with fail;refine (Zs _ _ _ _).mono ?_;rintro e w' ⟨rfl,rfl⟩
 cases h1:inR C.s 1 4 with
 | false=>
  go_wp2;go_ret;exact ⟨Zh (by simp [Zep,h1]),Za _ _⟩
 | true=>
  have H1:=hid h1;clear h1;go_wp2_with fail;refine (Zs _ _ _ _).mono ?_;rintro e w' ⟨rfl,rfl⟩
  cases h2:inR C.w 1 3 with
  | false=>
   go_wp2;go_ret;exact ⟨Zh (by simp [Zep,h2]),Za _ _⟩
  | true=>
   have H2:=hid h2;clear h2;go_wp2_with fail;refine (Zs _ _ _ _).mono ?_;rintro e w' ⟨rfl,rfl⟩
   cases h3:inR C.d 1 4 with
   | false=>
    go_wp2;go_ret;exact ⟨Zh (by simp [Zep,h3]),Za _ _⟩
   | true=>
    have H3:=hid h3;clear h3;go_wp2_with fail;refine (Zs _ _ _ _).mono ?_;rintro e w' ⟨rfl,rfl⟩
    cases h4:inR C.q 1 100 with
    | false=>
     go_wp2;go_ret;exact ⟨Zh (by simp [Zep,h4]),Za _ _⟩
    | true=>
     go_wp2;go_ret;exact ⟨Zh (by simp [Zep,H1.out,H2.out,H3.out,h4]),Za _ _⟩
theorem Zk7 (C:Zm) (A:Mem) (w:World) (h1:1≤C.s) (h2:C.s≤4) (h3:1≤C.w) (h4:C.w≤3):
  Calls prog 53 #[cv C A] w fun e w'=>e=.returned (.int .i64 (Zlx C))∧Below w.heap.size w w':=by
 have a0:0≤5*C.s*C.w:=Int.mul_nonneg (by omega) (by omega);have a1:5*C.s*C.w≤60:=by
  have h5:(5*C.s)*C.w≤20*C.w:=Int.mul_le_mul_of_nonneg_right (by omega) (by omega);omega
 unfold cv cl;go_enter func53,ntmps53;go_wp2_with fail;refine (Zs _ _ _ _).mono ?_;rintro e w' ⟨rfl,rfl⟩
 cases h1:inR C.p (2+5*C.s*C.w) 99 with
 | false=>
  go_wp2;go_ret;exact ⟨Zh (by simp [Zlx,h1]),Za _ _⟩
 | true=>
  go_wp2;go_ret;exact ⟨Zh (by simp [Zlx,h1]),Za _ _⟩
theorem Zgt (C:Zm) (A:Mem) (w:World) (hC:Z1 w A C):
  Calls prog 54 #[cv C A] w fun e w'=>e=.returned (.int .i64 (Zc0 C))∧Below w.heap.size w w':=by
 have l5:=hC.l5;have l6:=hC.l6;have l7:=hC.l7;have l8:=hC.l8;unfold cv cl;go_enter func54,ntmps54;go_wp2_with fail;refine (Zs _ _ _ _).mono ?_;rintro e w' ⟨rfl,rfl⟩
 cases h1:inR C.sl.length 1 6 with
 | false=>
  go_wp2;go_ret;exact ⟨Zh (by simp [Zc0,h1]),Za _ _⟩
 | true=>
  have H1:=hid h1;clear h1;by_cases h2:(C.ow.length:Int)>4
  ·go_wp2
   go_ret;exact ⟨Zh (by rw [Zc0,if_neg];simp;omega),Za _ _⟩
  ·by_cases h3:(C.ch.length:Int)>4
   ·go_wp2
    go_ret;exact ⟨Zh (by rw [Zc0,if_neg];simp;omega),Za _ _⟩
   ·by_cases h4:(C.ta.length:Int)>6
    ·go_wp2
     go_ret;exact ⟨Zh (by rw [Zc0,if_neg];simp;omega),Za _ _⟩
    ·go_wp2
     go_ret;exact ⟨Zh (by rw [Zc0,if_pos];simp [H1.out];omega),Za _ _⟩
end Go.Proofs.YtejhccmclanlmaaGreatDoor
namespace Go.Proofs.YtejhccmclanlmaaGreatDoor
open Go.ChangeShapes Go.WideShapes Go.ChangeAt Go.RowKit Go.Deep Go.Joins Go.Proofs.Tryz
variable {fuel:Nat} {v:Value} {w:World}
theorem Tryz.own:ownKnob prog.godebug=none:=by kernel_rfl
theorem Tryz.laidOut:laidOutB prog=true:=by kernel_rfl
theorem Tryz.cells3:prog.cellsOf 3=1:=by kernel_rfl
theorem Tryz.cells27:prog.cellsOf 27=9:=by kernel_rfl
theorem Tryz.cells22:prog.cellsOf 22=1:=by kernel_rfl
theorem Tryz.cells23:prog.cellsOf 23=1:=by kernel_rfl
theorem Tryz.cells24:prog.cellsOf 24=1:=by kernel_rfl
theorem Tryz.cells25:prog.cellsOf 25=1:=by kernel_rfl
theorem Tryz.cells106:prog.cellsOf 106=2:=by kernel_rfl
theorem Tryz.cells99:prog.cellsOf 99=3:=by kernel_rfl
theorem Tryz.cells108:prog.cellsOf 108=4:=by kernel_rfl
theorem Zdm {a:Addr} (h:w.cell? (a.add 0)=some v):∃ b o,a=⟨b,o,none⟩:=by
 obtain ⟨b,o,s⟩:=a;have hs:s=none:=by simpa [Addr.add] using World.cell?_spot h
 subst hs;exact ⟨b,o,rfl⟩
theorem Znf (b o j:Nat):(⟨b,o,none⟩:Addr).add j=⟨b,o+j,none⟩:=by unfold Addr.add;split<;>simp_all
theorem Zhm {H:Type} {enc:TypeId×Value→H} {x:DataW H×List MemPlace} (h:DataW.trod enc prog w 0 (fun _=>true) true fuel 23 [v]=some x):
  ∃ (a:Option Addr) (ls:List Int) (cap:Nat),v=.slice a ls.length cap∧Z4 w a ls∧ls.length≤cap∧ls.length≤9223372036854775807:=by
 rcases open_slice underlying23 h with ⟨a0,_⟩|⟨a,a2,cap,m,n,D,Pl,a0,_,hl,hm,a5,_,hx⟩
 ·simp only [List.cons.injEq,and_true] at a0
  subst a0;exact ⟨none,[],0,rfl,fun i hi=>absurd hi (by simp),by simp,by simp⟩
 ·simp only [List.cons.injEq,and_true] at a0
  subst a0;have a8:a2≤m:=by rw [a5];simp;exact hl
  have a3:∀ i,i<a2→∃ q:Int,w.cell? (a.add (i*1))=some (.int .i64 q):=by
   intro i hi;obtain ⟨a6,h1,h2⟩:=hx i (by omega);rw [Tryz.cells3] at h1;obtain ⟨_,a4,a1⟩:=World.cells?_some h1
   match a6,a4 with
   | [v0],_=>
    obtain ⟨n0,e0,_,_⟩:=DataW.trod_int underlying3 h2;simp only [List.cons.injEq,and_true] at e0;have g0:=a1 0 (by omega);rw [add_add] at g0;subst e0;exact ⟨n0,by simpa using g0⟩
  obtain ⟨q,hq⟩:=choose_lt a3;refine ⟨some a,(List.range a2).map q,cap,by simp,fun i hi=>?_,by simpa using hl,by unfold maxLen at hm;simp;omega⟩;have a7:i<a2:=by simpa using hi
  obtain ⟨b,o,rfl⟩:=Zdm (by have:=(hq 0 (by omega));simpa using this);obtain h1:=hq i a7;rw [Znf] at h1;exact ⟨b,o,rfl,by simpa [Nat.add_assoc] using h1⟩
theorem Zgi {H:Type} {enc:TypeId×Value→H} {x:DataW H×List MemPlace} (h:DataW.trod enc prog w 0 (fun _=>true) true fuel 22 [v]=some x):
  ∃ (a:Option Addr) (ls:List (Int×Int)) (cap:Nat),v=.slice a ls.length cap∧Qs w a ls∧ls.length≤cap∧ls.length≤9223372036854775807:=by
 rcases open_slice underlying22 h with ⟨a1,_⟩|⟨a,a2,cap,m,n,D,Pl,a1,_,hl,hm,a5,_,hx⟩
 ·simp only [List.cons.injEq,and_true] at a1
  subst a1;exact ⟨none,[],0,rfl,fun i hi=>absurd hi (by simp),by simp,by simp⟩
 ·simp only [List.cons.injEq,and_true] at a1
  subst a1;have a9:a2≤m:=by rw [a5];simp;exact hl
  have a3:∀ i,i<a2→∃ q:(Int×Int),w.cell? (a.add (i*2))=some (.int .i64 q.1)∧w.cell? (a.add (i*2+1))=some (.int .i64 q.2):=by
   intro i hi;obtain ⟨a6,h1,h2⟩:=hx i (by omega);rw [Tryz.cells106] at h1;obtain ⟨_,a4,a0⟩:=World.cells?_some h1;obtain ⟨xs,k,hk,aa,_,a7,hf⟩:=DataW.trod_struct underlying106 h2
   match xs,a7,a6,a4 with
   | [y0,y1],_,[v0,v1],_=>
    have g0:=hf 0 _ rfl;have g1:=hf 1 _ rfl;simp [Tryz.cells3] at g0 g1;obtain ⟨n0,e0,_,_⟩:=DataW.trod_int underlying3 g0;have c0:=a0 0 (by omega);rw [add_add] at c0;obtain ⟨n1,e1,_,_⟩:=DataW.trod_int underlying3 g1;have c1:=a0 1 (by omega);rw [add_add] at c1;simp only [List.cons.injEq,and_true] at e0 e1;subst e0 e1;exact ⟨(n0,n1),by simpa using c0,by simpa using c1⟩
  obtain ⟨q,hq⟩:=choose_lt a3;refine ⟨some a,(List.range a2).map q,cap,by simp,fun i hi=>?_,by simpa using hl,by unfold maxLen at hm;simp;omega⟩;have a8:i<a2:=by simpa using hi
  obtain ⟨b,o,rfl⟩:=Zdm (by have:=(hq 0 (by omega)).1;simpa using this);obtain ⟨h1,h2⟩:=hq i a8;rw [Znf] at h1 h2;exact ⟨b,o,rfl,by simpa [Nat.add_assoc] using h1,by simpa [Nat.add_assoc] using h2⟩
theorem Zgk {H:Type} {enc:TypeId×Value→H} {x:DataW H×List MemPlace} (h:DataW.trod enc prog w 0 (fun _=>true) true fuel 24 [v]=some x):
  ∃ (a:Option Addr) (ls:List (Int×Int×Int)) (cap:Nat),v=.slice a ls.length cap∧Yn w a ls∧ls.length≤cap∧ls.length≤9223372036854775807:=by
 rcases open_slice underlying24 h with ⟨a1,_⟩|⟨a,a2,cap,m,n,D,Pl,a1,_,hl,hm,a5,_,hx⟩
 ·simp only [List.cons.injEq,and_true] at a1
  subst a1;exact ⟨none,[],0,rfl,fun i hi=>absurd hi (by simp),by simp,by simp⟩
 ·simp only [List.cons.injEq,and_true] at a1
  subst a1;have a9:a2≤m:=by rw [a5];simp;exact hl
  have a3:∀ i,i<a2→∃ q:(Int×Int×Int),w.cell? (a.add (i*3))=some (.int .i64 q.1)∧w.cell? (a.add (i*3+1))=some (.int .i64 q.2.1)∧w.cell? (a.add (i*3+2))=some (.int .i64 q.2.2):=by
   intro i hi;obtain ⟨a6,h1,h2⟩:=hx i (by omega);rw [Tryz.cells99] at h1;obtain ⟨_,a4,a0⟩:=World.cells?_some h1;obtain ⟨xs,k,hk,aa,_,a7,hf⟩:=DataW.trod_struct underlying99 h2
   match xs,a7,a6,a4 with
   | [y0,y1,y2],_,[v0,v1,v2],_=>
    have g0:=hf 0 _ rfl;have g1:=hf 1 _ rfl;have g2:=hf 2 _ rfl;simp [Tryz.cells3] at g0 g1 g2;obtain ⟨n0,e0,_,_⟩:=DataW.trod_int underlying3 g0;have c0:=a0 0 (by omega);rw [add_add] at c0;obtain ⟨n1,e1,_,_⟩:=DataW.trod_int underlying3 g1;have c1:=a0 1 (by omega);rw [add_add] at c1;obtain ⟨n2,e2,_,_⟩:=DataW.trod_int underlying3 g2;have c2:=a0 2 (by omega);rw [add_add] at c2;simp only [List.cons.injEq,and_true] at e0 e1 e2;subst e0 e1 e2;exact ⟨(n0,n1,n2),by simpa using c0,by simpa using c1,by simpa using c2⟩
  obtain ⟨q,hq⟩:=choose_lt a3;refine ⟨some a,(List.range a2).map q,cap,by simp,fun i hi=>?_,by simpa using hl,by unfold maxLen at hm;simp;omega⟩;have a8:i<a2:=by simpa using hi
  obtain ⟨b,o,rfl⟩:=Zdm (by have:=(hq 0 (by omega)).1;simpa using this);obtain ⟨h1,h2,h3⟩:=hq i a8;rw [Znf] at h1 h2 h3;exact ⟨b,o,rfl,by simpa [Nat.add_assoc] using h1,by simpa [Nat.add_assoc] using h2,by simpa [Nat.add_assoc] using h3⟩
theorem Zha {H:Type} {enc:TypeId×Value→H} {x:DataW H×List MemPlace} (h:DataW.trod enc prog w 0 (fun _=>true) true fuel 25 [v]=some x):
  ∃ (a:Option Addr) (ls:List (Int×Int×Int×Int)) (cap:Nat),v=.slice a ls.length cap∧Jb w a ls∧ls.length≤cap∧ls.length≤9223372036854775807:=by
 rcases open_slice underlying25 h with ⟨a1,_⟩|⟨a,a2,cap,m,n,D,Pl,a1,_,hl,hm,a5,_,hx⟩
 ·simp only [List.cons.injEq,and_true] at a1
  subst a1;exact ⟨none,[],0,rfl,fun i hi=>absurd hi (by simp),by simp,by simp⟩
 ·simp only [List.cons.injEq,and_true] at a1
  subst a1;have a9:a2≤m:=by rw [a5];simp;exact hl
  have a3:∀ i,i<a2→∃ q:(Int×Int×Int×Int),w.cell? (a.add (i*4))=some (.int .i64 q.1)∧w.cell? (a.add (i*4+1))=some (.int .i64 q.2.1)∧w.cell? (a.add (i*4+2))=some (.int .i64 q.2.2.1)∧w.cell? (a.add (i*4+3))=some (.int .i64 q.2.2.2):=by
   intro i hi;obtain ⟨a6,h1,h2⟩:=hx i (by omega);rw [Tryz.cells108] at h1;obtain ⟨_,a4,a0⟩:=World.cells?_some h1;obtain ⟨xs,k,hk,aa,_,a7,hf⟩:=DataW.trod_struct underlying108 h2
   match xs,a7,a6,a4 with
   | [y0,y1,y2,y3],_,[v0,v1,v2,v3],_=>
    have g0:=hf 0 _ rfl;have g1:=hf 1 _ rfl;have g2:=hf 2 _ rfl;have g3:=hf 3 _ rfl;simp [Tryz.cells3] at g0 g1 g2 g3;obtain ⟨n0,e0,_,_⟩:=DataW.trod_int underlying3 g0;have c0:=a0 0 (by omega);rw [add_add] at c0;obtain ⟨n1,e1,_,_⟩:=DataW.trod_int underlying3 g1;have c1:=a0 1 (by omega);rw [add_add] at c1;obtain ⟨n2,e2,_,_⟩:=DataW.trod_int underlying3 g2;have c2:=a0 2 (by omega);rw [add_add] at c2;obtain ⟨n3,e3,_,_⟩:=DataW.trod_int underlying3 g3;have c3:=a0 3 (by omega);rw [add_add] at c3;simp only [List.cons.injEq,and_true] at e0 e1 e2 e3;subst e0 e1 e2 e3;exact ⟨(n0,n1,n2,n3),by simpa using c0,by simpa using c1,by simpa using c2,by simpa using c3⟩
  obtain ⟨q,hq⟩:=choose_lt a3;refine ⟨some a,(List.range a2).map q,cap,by simp,fun i hi=>?_,by simpa using hl,by unfold maxLen at hm;simp;omega⟩;have a8:i<a2:=by simpa using hi
  obtain ⟨b,o,rfl⟩:=Zdm (by have:=(hq 0 (by omega)).1;simpa using this);obtain ⟨h1,h2,h3,h4⟩:=hq i a8;rw [Znf] at h1 h2 h3 h4;exact ⟨b,o,rfl,by simpa [Nat.add_assoc] using h1,by simpa [Nat.add_assoc] using h2,by simpa [Nat.add_assoc] using h3,by simpa [Nat.add_assoc] using h4⟩
theorem Zx7 {α:Type} {cs:Array α} (h:cs.size=9):∃ c0 c1 c2 c3 c4 c5 c6 c7 c8,cs=#[c0,c1,c2,c3,c4,c5,c6,c7,c8]:=by
 obtain ⟨l⟩:=cs
 match l,h with
 | [c0,c1,c2,c3,c4,c5,c6,c7,c8],_=>exact ⟨c0,c1,c2,c3,c4,c5,c6,c7,c8,rfl⟩
end Go.Proofs.YtejhccmclanlmaaGreatDoor
namespace Go.Proofs.YtejhccmclanlmaaGreatDoor
open Go.RowKit Go.Proofs.Tryz
variable {C:List (List (Int×Bool))} {xs:List Value} {base g g0 k n size:Nat} {v:Value} {w w':World}
theorem Zs3.lt {b:Nat} {A:Mem} {C:Zm} (h:Zs3 w b C A):b<w.heap.size:=World.block_lt_of_cell? _ _ h.h0
theorem Zc (w:World) (n:Nat) (L:List Value) (t:TypeId) (h:w.heap.size=n):Zf (w.alloc (.cells L.toArray t)) n t L:=by
 subst h;exact heap_alloc_new _ _
theorem Zl {p:Addr} (o:Obj) (h:w.cell? p=some v):(w.alloc o).cell? p=some v:=Zg (Za w o) h lr
theorem Zh0 (C:Zm) (A:Mem) (w:World) (hC:Z1 w A C) (hd1:1≤C.d) (hd4:C.d≤4):
  Calls prog 55 #[cv C A] w fun e w'=>e=.returned (.int .i64 (Zg3 C))∧Below w.heap.size w w':=by
 have l5:=hC.l5;have q1:=Za w (.cells (cl C A) 27);have B1:=hid (Yq w C A);have hS:=hC.sl.keep q1;obtain ⟨a5,a6,a7,a8,c5,c6,c7,c8⟩:=A;dsimp only [cv,cl] at *
 go_enter func55,ntmps55;go_wp2;generalize hW:World.alloc _ _=W at *
 clear hW hC;go_loopw [8] (fun i wr=>∃ k:Nat,k≤C.sl.length∧i=.int .i64 k∧Below W.heap.size W wr∧∀ j,j<k→Zpy C.d (C.sl.getD j (0,0))=0) (fun i _=>C.sl.length-(intOf i).toNat)
 case atStart=>exact ⟨0,zl,rfl,br,by omega⟩
 case round=>
  obtain ⟨k,hk,rfl,a0,a9⟩:=hrel;have a1:=hid a9;clear a9;by_cases hlt:k<C.sl.length
  ·obtain ⟨b',o',rfl,aa,ab⟩:=hS k hlt
   have a2:=Zg a0 aa lr;have a3:=Zg a0 ab lr;have HD:Hid (C.sl.getD k (0,0)=C.sl[k]):=Zat _ _ hlt _;have ac:=(B1.out.keep a0).lt;obtain ⟨g0,g1,g2,g3,g4,g5,g6,g7,g8⟩:=B1.out.keep a0;dsimp only at g5 g6 g7 g8;have HF:Hid (Zpy C.d C.sl[k]≠0→Zg3 C=Zpy C.d C.sl[k]):=by
    intro h0;show fe _ _=_
    have:=Zbe C.sl.length k (fun i=>Zpy C.d (C.sl.getD i (0,0))) hlt (by simp only [Zat _ _ hlt];exact h0) a1.out
    rw [this];simp only [Zat _ _ hlt]
   generalize C.sl[k]=x at *
   obtain ⟨x1,x2⟩:=x;simp only at a2 a3;clear aa ab;have q3:=Za wr (.cells #[.int .i64 x1,.int .i64 x2] 106);have r3:Zf (wr.alloc (.cells #[.int .i64 x1,.int .i64 x2] 106)) wr.heap.size 106 [.int .i64 x1,.int .i64 x2]:=Zc wr _ [.int .i64 x1,.int .i64 x2] 106 rfl;go_wp2_with fail;refine (Zan _ _ _ _ _ _ _ _ C.d x1 hd1 hd4 _).mono ?_;rintro e w2 ⟨rfl,a4⟩;have ad:=(r3.below a4 lr).cell 1 _ rfl;have q2:=Zb q3 a4;clear a4 q3 r3
   cases hx:isD C.d x1 with
   | false=>
    have e1:Zpy C.d (x1,x2)=5:=by simp [Zpy,hx]
    have HE:=HF.out (by rw [e1];decide);rw [e1] at HE;clear HF hx e1;have HE:=hid HE;go_wp2;go_ret;exact ⟨Zh HE.out.symm,Zb q1 (Zb a0 q2)⟩
   | true=>
    have HX:=hid hx;clear hx;go_wp2_with fail;refine (Zs _ _ _ _).mono ?_;rintro e w' ⟨rfl,rfl⟩
    cases hy:inR x2 100 1000 with
    | false=>
     have e1:Zpy C.d (x1,x2)=3:=by simp [Zpy,HX.out,hy]
     have HE:=HF.out (by rw [e1];decide);rw [e1] at HE;clear HF hy e1;have HE:=hid HE;go_wp2;go_ret;exact ⟨Zh HE.out.symm,Zb q1 (Zb a0 q2)⟩
    | true=>
     have HY:=hid hy;clear hy;go_wp2;go_roundw
     case rel=>
      refine ⟨k+1,by omega,by go_num,Zb a0 q2,fun j hj=>?_⟩;by_cases e:j=k
      ·subst e;rw [HD.out];simp [Zpy,HX.out,HY.out]
      ·exact a1.out j (by omega)
     case measure=>simp [intOf];omega
  ·go_wp2
   go_ret;exact ⟨Zh (Qt _ _ (fun j hj=>a1.out j (by omega))).symm,Zb q1 a0⟩
theorem Zmw (C:Zm) (A:Mem) (b:Nat) (x:Int) (w:World) (hd1:1≤C.d) (hd4:C.d≤4) (hB:Zs3 w b C A):
  Calls prog 82 #[.int .i64 x,.pointer (some ⟨b,0,none⟩)] w (RB (.bool (!isD C.d x)) w):=by
 have a1:=hB.lt;obtain ⟨g0,g1,g2,g3,g4,g5,g6,g7,g8⟩:=hB;go_enter func82,ntmps82;go_wp2_with fail;refine (Zan _ _ _ _ _ _ _ _ C.d x hd1 hd4 _).mono ?_;rintro e w2 ⟨rfl,a0⟩;go_wp2;go_ret;exact ⟨rfl,a0⟩
theorem Zm0 (p:Int→Bool) (b:Nat) (a:Option Addr) (L:List Int) (cap:Nat) (w:World) (hw:Z4 w a L) (hl:L.length≤9223372036854775807)
  (hF:∀ (x:Int) (wr:World),Below w.heap.size w wr→Calls prog 82 #[.int .i64 x,.pointer (some ⟨b,0,none⟩)] wr (RB (.bool (p x)) wr)) :
  Calls prog 117 #[.slice a L.length cap,.func (.func 82) #[] #[.pointer (some ⟨b,0,none⟩)]] w fun e w'=>(∃ r:Int,e=.returned (.int .i64 r)∧(0≤r↔L.any p=true))∧Below w.heap.size w w':=by
 have HF:=hid hF;clear hF;go_enter func117,ntmps117;go_wp2;go_loopw [8] (fun i wr=>∃ k:Nat,k≤L.length∧i=.int .i64 k∧Below w.heap.size w wr∧∀ j (hj:j<L.length),j<k→p L[j]=false) (fun i _=>L.length-(intOf i).toNat)
 case atStart=>exact ⟨0,zl,rfl,br,by omega⟩
 case round=>
  obtain ⟨k,hk,rfl,a0,a1⟩:=hrel;have a2:Hid (∀ j (hj:j<L.length),j<k→p L[j]=false):=a1;clear a1;by_cases hlt:k<L.length
  ·obtain ⟨b',o',rfl,a4⟩:=hw k hlt
   have a5:=Zg a0 a4 lr;go_wp2_with fail;refine (HF.out L[k] _ a0).mono ?_;rintro e w' ⟨rfl,a3⟩
   cases hx:p L[k] with
   | true=>
    have HX:=hid hx;clear hx;go_wp2;go_ret;refine ⟨⟨k,rfl,?_⟩,Zb a0 a3⟩;exact ⟨fun _=>List.any_eq_true.2 ⟨_,List.getElem_mem hlt,HX.out⟩,fun _=>by omega⟩
   | false=>
    have HX:=hid hx;clear hx;go_wp2;go_roundw
    case rel=>
     refine ⟨k+1,by omega,by go_num,Zb a0 a3,fun j hj hlt2=>?_⟩;by_cases e:j=k
     ·subst e;exact HX.out
     ·exact a2.out j hj (by omega)
    case measure=>simp [intOf];omega
  ·go_wp2
   go_ret;refine ⟨⟨-1,rfl,?_⟩,a0⟩;refine ⟨fun h=>absurd h (by omega),fun h=>?_⟩;obtain ⟨x,hx,hp⟩:=List.any_eq_true.1 h;obtain ⟨j,hj,rfl⟩:=List.getElem_of_mem hx;rw [a2.out j hj (by omega)] at hp;exact absurd hp (by simp)
theorem Zho (p:Int→Bool) (b:Nat) (a:Option Addr) (L:List Int) (cap:Nat) (w:World) (hw:Z4 w a L) (hl:L.length≤9223372036854775807)
  (hF:∀ (x:Int) (wr:World),Below w.heap.size w wr→Calls prog 82 #[.int .i64 x,.pointer (some ⟨b,0,none⟩)] wr fun e w'=>e=.returned (.bool (p x))∧Below wr.heap.size wr w') :
  Calls prog 81 #[.slice a L.length cap,.func (.func 82) #[] #[.pointer (some ⟨b,0,none⟩)]] w fun e w'=>e=.returned (.bool (L.any p))∧Below w.heap.size w w':=by
 have HF:=hid hF;clear hF;go_enter func81,ntmps81;go_wp2_with fail;refine (Zm0 p b a L cap _ hw hl HF).mono ?_;rintro e w' ⟨⟨r,rfl,hr⟩,hb⟩;have HR:=hid hr;clear hr;go_wp2;go_ret;exact ⟨Yh (by rw [Bool.eq_iff_iff];simpa using HR.out),hb⟩
theorem Zga (C:Zm) (A:Mem) (w:World) (hC:Z1 w A C) (hd1:1≤C.d) (hd4:C.d≤4):
  Calls prog 56 #[cv C A] w fun e w'=>e=.returned (.int .i64 (Zvh C))∧Below w.heap.size w w':=by
 have l6:=hC.l6;have q1:=Za w (.cells (cl C A) 27);have B1:=hid (Yq w C A);have hS:=hC.ow.keep q1;dsimp only [cv,cl] at *
 go_enter func56,ntmps56;go_wp2_with fail;refine (Zho (fun x=>!isD C.d x) w.heap.size _ C.ow _ _ hS l6 (fun x wr hwr=>Zmw C A w.heap.size x wr hd1 hd4 (B1.out.keep hwr))).mono ?_;rintro e w2 ⟨rfl,a0⟩
 cases hx:C.ow.any fun x=>!isD C.d x with
 | true=>
  go_wp2;go_ret;exact ⟨Zh (by rw [Zvh,if_pos hx]),Zb q1 a0⟩
 | false=>
  go_wp2;go_ret;exact ⟨Zh (by rw [Zvh,hx];rfl),Zb q1 a0⟩
theorem Zpc (y1 y2 y3 x1 x2 x3:Int) (b:Nat) (w:World) (h1:w.cell? ⟨b,0,none⟩=some (.int .i64 x1)) (h2:w.cell? ⟨b,1,none⟩=some (.int .i64 x2)):
  Calls prog 83 #[.agg #[.int .i64 y1,.int .i64 y2,.int .i64 y3],.pointer (some ⟨b,0,none⟩)] w fun e w'=>e=.returned (.bool (Zw3 (x1,x2,x3) (y1,y2,y3)))∧Below w.heap.size w w':=by
 have a0:=World.block_lt_of_cell? _ _ h1;go_enter func83,ntmps83;by_cases h:y1=x1
 ·subst h
  go_wp2;go_ret;exact ⟨Yh (by simp [Zw3]),Za _ _⟩
 ·have h':(y1==x1)=false:=by simp [h]
  go_wp2;go_ret;exact ⟨Yh (by simp [Zw3,h]),Za _ _⟩
theorem Zmd (p:Int×Int×Int→Bool) (b:Nat) (a:Option Addr) (L:List (Int×Int×Int)) (cap:Nat) (w:World) (hw:Yn w a L) (hl:L.length≤9223372036854775807)
  (hF:∀ (x:Int×Int×Int) (wr:World),Below w.heap.size w wr→Calls prog 83 #[.agg #[.int .i64 x.1,.int .i64 x.2.1,.int .i64 x.2.2],.pointer (some ⟨b,0,none⟩)] wr (RB (.bool (p x)) wr)) :
  Calls prog 118 #[.slice a L.length cap,.func (.func 83) #[] #[.pointer (some ⟨b,0,none⟩)]] w fun e w'=>(∃ r:Int,e=.returned (.int .i64 r)∧(0≤r↔L.any p=true))∧Below w.heap.size w w':=by
 have HF:=hid hF;clear hF;go_enter func118,ntmps118;go_wp2;go_loopw [8] (fun i wr=>∃ k:Nat,k≤L.length∧i=.int .i64 k∧Below w.heap.size w wr∧∀ j (hj:j<L.length),j<k→p L[j]=false) (fun i _=>L.length-(intOf i).toNat)
 case atStart=>exact ⟨0,zl,rfl,br,by omega⟩
 case round=>
  obtain ⟨k,hk,rfl,a0,a1⟩:=hrel;have a2:Hid (∀ j (hj:j<L.length),j<k→p L[j]=false):=a1;clear a1;by_cases hlt:k<L.length
  ·obtain ⟨b',o',rfl,a4,a5,a6⟩:=hw k hlt
   have a7:=Zg a0 a4 lr;have a8:=Zg a0 a5 lr;have a9:=Zg a0 a6 lr;go_wp2_with fail;refine (HF.out L[k] _ a0).mono ?_;rintro e w' ⟨rfl,a3⟩
   cases hx:p L[k] with
   | true=>
    have HX:=hid hx;clear hx;go_wp2;go_ret;refine ⟨⟨k,rfl,?_⟩,Zb a0 a3⟩;exact ⟨fun _=>List.any_eq_true.2 ⟨_,List.getElem_mem hlt,HX.out⟩,fun _=>by omega⟩
   | false=>
    have HX:=hid hx;clear hx;go_wp2;go_roundw
    case rel=>
     refine ⟨k+1,by omega,by go_num,Zb a0 a3,fun j hj hlt2=>?_⟩;by_cases e:j=k
     ·subst e;exact HX.out
     ·exact a2.out j hj (by omega)
    case measure=>simp [intOf];omega
  ·go_wp2
   go_ret;refine ⟨⟨-1,rfl,?_⟩,a0⟩;refine ⟨fun h=>absurd h (by omega),fun h=>?_⟩;obtain ⟨x,hx,hp⟩:=List.any_eq_true.1 h;obtain ⟨j,hj,rfl⟩:=List.getElem_of_mem hx;rw [a2.out j hj (by omega)] at hp;exact absurd hp (by simp)
theorem Zh2 (p:Int×Int×Int→Bool) (b:Nat) (a:Option Addr) (L:List (Int×Int×Int)) (cap:Nat) (w:World) (hw:Yn w a L) (hl:L.length≤9223372036854775807)
  (hF:∀ (x:Int×Int×Int) (wr:World),Below w.heap.size w wr→Calls prog 83 #[.agg #[.int .i64 x.1,.int .i64 x.2.1,.int .i64 x.2.2],.pointer (some ⟨b,0,none⟩)] wr fun e w'=>e=.returned (.bool (p x))∧Below wr.heap.size wr w') :
  Calls prog 84 #[.slice a L.length cap,.func (.func 83) #[] #[.pointer (some ⟨b,0,none⟩)]] w fun e w'=>e=.returned (.bool (L.any p))∧Below w.heap.size w w':=by
 have HF:=hid hF;clear hF;go_enter func84,ntmps84;go_wp2_with fail;refine (Zmd p b a L cap _ hw hl HF).mono ?_;rintro e w' ⟨⟨r,rfl,hr⟩,hb⟩;have HR:=hid hr;clear hr;go_wp2;go_ret;exact ⟨Yh (by rw [Bool.eq_iff_iff];simpa using HR.out),hb⟩
theorem Yn.take {a:Option Addr} {ls:List (Int×Int×Int)} (h:Yn w a ls) (k:Nat):Yn w a (ls.take k):=by
 intro i hi
 have:i<ls.length:=by simp at hi;omega
 obtain ⟨b,o,e,h1,h2,h3⟩:=h i this;exact ⟨b,o,e,by simpa using h1,by simpa using h2,by simpa using h3⟩
theorem Zgg (x:Int×Int×Int) (b:Nat) (a:Option Addr) (L:List (Int×Int×Int)) (k cap:Nat) (w:World) (hw:Yn w a L) (hk:k≤L.length) (hl:L.length≤9223372036854775807)
  (h1:w.cell? ⟨b,0,none⟩=some (.int .i64 x.1)) (h2:w.cell? ⟨b,1,none⟩=some (.int .i64 x.2.1)) :
  Calls prog 84 #[.slice a k cap,.func (.func 83) #[] #[.pointer (some ⟨b,0,none⟩)]] w (RB (.bool ((L.take k).any (Zw3 x))) w):=by
 have e:(L.take k).length=k:=by simp;omega
 have:=Zh2 (Zw3 x) b a (L.take k) cap w (hw.take k) (by omega) (fun y wr hwr=>Zpc y.1 y.2.1 y.2.2 x.1 x.2.1 x.2.2 b wr (Zg hwr h1 lr) (Zg hwr h2 lr))
 rw [e] at this;exact this
theorem Zsx (g cap:Nat) (a1 ln:Int) (a2 wr:Bool) (r:List Value) (w:World) (hcap:1≤cap) (hm:cap≤maxLen) (hr:Zf w g 125 (flat [(a1,a2)]++r))
  (hx:idx ln [(a1,a2)]=-1) :
  Calls prog 190 #[.slice (some ⟨g,0,none⟩) 1 cap,.int .i64 ln,.bool wr] w fun e w'=>e=.returned (.int .i64 (10+wb a2))∧Zf w' g 125 (flat [(ln,wr)]++r)∧w.grownBy w' (some g):=by
 have hg:=hr.lt;have hw:=hr.ways;have ab:(1:Int)≤(cap:Int):=by omega
 have ac:(0:Int)≤(cap:Int):=by omega
 unfold maxLen at hm;go_enter func190,ntmps190;go_wp2_with fail;refine (Qk (some ⟨g,0,none⟩) _ cap ln _ hw (by simp)).mono ?_;rintro e w1 ⟨rfl,a8⟩;rw [hx];have a9:=hr.below a8 lr;obtain ⟨c4,c5⟩:=a9.q2 rfl rfl;go_wp2_with fail;refine (Zay _ _ _).mono ?_;rintro e w2 ⟨rfl,aa⟩;have a0:=Zb a8 aa;have a3:=a9.below aa lr;obtain ⟨d0,d1⟩:=a3.q2 rfl rfl;have hf:∀ i,w2.frozen? ⟨g,i,none⟩=false:=fun i=>a3.frozen i
 have ai:g<w2.heap.size:=a3.lt;have aj:=(Zhs a2).1;have ak:=(Zhs a2).2;generalize hq0:wb a2=q at *
 have Hq:=hid hq0;clear hq0;clear hx hw hr a9 c4 c5 a8 aa;go_wp2_with fail;have a5:=hid (((a3.setCell 0 (.int .i64 ln)).setCell 1 (.bool false)).alloc (.cells #[.int .i64 ln,.bool wr] 125));have ad:=hid ((((Yx g a0).trans (Zo _ g 0 (.int .i64 ln))).trans (Zo _ g 1 (.bool false))).trans (World.grownBy_alloc _ (.cells #[.int .i64 ln,.bool wr] 125) _));have hL:((flat [(a1,a2)]++r).set 0 (.int .i64 ln)).set 1 (.bool false)=flat [(ln,false)]++r:=rfl;rw [hL] at a5;clear hL;have a4:Hid (Zf _ g 125 (flat ([]:List (Int×Bool))++(flat [(ln,false)]++r))):=a5;go_region_law (refine Yy (by rfl) (.tmp 40) (.tmp 43) 123 123 (by rfl) 125 2 underlying123 Tryz.sz125 _ _ _ _ _ _ (by rfl) (by rfl) g 2 (flat [(ln,false)]++r) 125 (by exact a5.out) (flat ([]:List (Int×Bool))) (by rfl) (by omega) (fun h0=>⟨absurd h0 (by simp [flat]),_,by rfl,by exact a4.out.news⟩) (by simp [flat]<;>omega) (Qj _) 0 (by rfl) ?_;intro w4 ae a6 al)
 have af:some w2.heap.size≠some g:=by simp;omega
 have e0:w4.cell? ⟨w2.heap.size,0,none⟩=some (.int .i64 ln):=a6.cell (by show (World.alloc _ _).cell? _=_;rw [Z7 _ _ _ _ _ (by simp)];rfl) af;have e1:w4.cell? ⟨w2.heap.size,1,none⟩=some (.bool wr):=a6.cell (by show (World.alloc _ _).cell? _=_;rw [Z7 _ _ _ _ _ (by simp)];rfl) af;have a7:Zf w4 g 125 (flat [(ln,false)]++r):=ae.out;obtain ⟨f0,f1⟩:=a7.q2 rfl rfl;have am:∀ i,w4.frozen? ⟨g,i,none⟩=false:=fun i=>a7.frozen i
 have ag:=hid ((a7.setCell 0 (.int .i64 ln)).setCell 1 (.bool wr));have ah:=hid ((((ad.out.trans (Y2 _ _)).trans a6).trans (Zo _ g 0 (.int .i64 ln))).trans (Zo _ g 1 (.bool wr)));clear a7 a6 ae a5 ad a4 a3 d0 d1 hf a0;go_wp2
 all_goals go_ret
 all_goals exact ⟨Zh (by rw [← Hq.out]),ag.out,ah.out⟩
theorem Zvx (g cap:Nat) (a1 ln:Int) ( wr:Bool) (r:List Value) (w:World) (hcap:1≤cap) (hm:cap≤maxLen) (hr:Zf w g 125 (flat [(a1,true)]++r))
  (hx:idx ln [(a1,true)]=0) :
  Calls prog 190 #[.slice (some ⟨g,0,none⟩) 1 cap,.int .i64 ln,.bool wr] w fun e w'=>e=.returned (.int .i64 1)∧Zf w' g 125 (flat [(a1,true)]++r)∧w.grownBy w' (some g):=by
 have hg:=hr.lt;have hw:=hr.ways;have a8:(1:Int)≤(cap:Int):=by omega
 have a9:(0:Int)≤(cap:Int):=by omega
 unfold maxLen at hm;go_enter func190,ntmps190;go_wp2_with fail;refine (Qk (some ⟨g,0,none⟩) _ cap ln _ hw (by simp)).mono ?_;rintro e w1 ⟨rfl,a6⟩;rw [hx];have aa:=hr.below a6 lr;obtain ⟨w2,ae⟩:∃ w2,w2=w1:=⟨_,rfl⟩
 subst ae;have a0:=a6;have a2:=aa;obtain ⟨d0,d1⟩:=a2.q2 rfl rfl;have hf:∀ i,w2.frozen? ⟨g,i,none⟩=false:=fun i=>a2.frozen i
 have ah:g<w2.heap.size:=a2.lt;clear hx hw hr aa a6;go_wp2_with fail;have a7:=hid (a2.alloc (.cells #[.int .i64 a1,.bool true] 125));have ab:=hid ((Yx g a0).trans (World.grownBy_alloc _ (.cells #[.int .i64 a1,.bool true] 125) _));have a3:Hid (Zf _ g 125 (flat ([]:List (Int×Bool))++(flat [(a1,true)]++r))):=a7;go_region_law (refine Yy (by rfl) (.tmp 40) (.tmp 43) 123 123 (by rfl) 125 2 underlying123 Tryz.sz125 _ _ _ _ _ _ (by rfl) (by rfl) g 2 (flat [(a1,true)]++r) 125 (by exact a7.out) (flat ([]:List (Int×Bool))) (by rfl) (by omega) (fun h0=>⟨absurd h0 (by simp [flat]),_,by rfl,by exact a3.out.news⟩) (by simp [flat]<;>omega) (Qj _) 0 (by rfl) ?_;intro w4 ac a4 ai)
 have ad:some w2.heap.size≠some g:=by simp;omega
 have e0:w4.cell? ⟨w2.heap.size,0,none⟩=some (.int .i64 a1):=a4.cell (by show (World.alloc _ _).cell? _=_;rw [Z7 _ _ _ _ _ (by simp)];rfl) ad;have e1:w4.cell? ⟨w2.heap.size,1,none⟩=some (.bool true):=a4.cell (by show (World.alloc _ _).cell? _=_;rw [Z7 _ _ _ _ _ (by simp)];rfl) ad;have a5:Zf w4 g 125 (flat [(a1,true)]++r):=ac.out;obtain ⟨f0,f1⟩:=a5.q2 rfl rfl;have aj:∀ i,w4.frozen? ⟨g,i,none⟩=false:=fun i=>a5.frozen i
 have af:=hid ((a5.setCell 0 (.int .i64 a1)).setCell 1 (.bool true));have ag:=hid ((((ab.out.trans (Y2 _ _)).trans a4).trans (Zo _ g 0 (.int .i64 a1))).trans (Zo _ g 1 (.bool true)));clear a5 a4 ac a7 ab a3 a2 d0 d1 hf a0;go_wp2
 all_goals go_ret
 all_goals exact ⟨rfl,af.out,ag.out⟩
theorem Zxl (g cap:Nat) (a1 ln:Int) ( wr:Bool) (r:List Value) (w:World) (hcap:1≤cap) (hm:cap≤maxLen) (hr:Zf w g 125 (flat [(a1,false)]++r))
  (hx:idx ln [(a1,false)]=0) :
  Calls prog 190 #[.slice (some ⟨g,0,none⟩) 1 cap,.int .i64 ln,.bool wr] w fun e w'=>e=.returned (.int .i64 1)∧Zf w' g 125 (flat [(a1,wr)]++r)∧w.grownBy w' (some g):=by
 have hg:=hr.lt;have hw:=hr.ways;have a8:(1:Int)≤(cap:Int):=by omega
 have a9:(0:Int)≤(cap:Int):=by omega
 unfold maxLen at hm;go_enter func190,ntmps190;go_wp2_with fail;refine (Qk (some ⟨g,0,none⟩) _ cap ln _ hw (by simp)).mono ?_;rintro e w1 ⟨rfl,a6⟩;rw [hx];have aa:=hr.below a6 lr;obtain ⟨w2,ae⟩:∃ w2,w2=w1:=⟨_,rfl⟩
 subst ae;have a0:=a6;have a2:=aa;obtain ⟨d0,d1⟩:=a2.q2 rfl rfl;have hf:∀ i,w2.frozen? ⟨g,i,none⟩=false:=fun i=>a2.frozen i
 have ah:g<w2.heap.size:=a2.lt;clear hx hw hr aa a6;go_wp2_with fail;have a7:=hid (a2.alloc (.cells #[.int .i64 a1,.bool wr] 125));have ab:=hid ((Yx g a0).trans (World.grownBy_alloc _ (.cells #[.int .i64 a1,.bool wr] 125) _));have a3:Hid (Zf _ g 125 (flat ([]:List (Int×Bool))++(flat [(a1,false)]++r))):=a7;go_region_law (refine Yy (by rfl) (.tmp 40) (.tmp 43) 123 123 (by rfl) 125 2 underlying123 Tryz.sz125 _ _ _ _ _ _ (by rfl) (by rfl) g 2 (flat [(a1,false)]++r) 125 (by exact a7.out) (flat ([]:List (Int×Bool))) (by rfl) (by omega) (fun h0=>⟨absurd h0 (by simp [flat]),_,by rfl,by exact a3.out.news⟩) (by simp [flat]<;>omega) (Qj _) 0 (by rfl) ?_;intro w4 ac a4 ai)
 have ad:some w2.heap.size≠some g:=by simp;omega
 have e0:w4.cell? ⟨w2.heap.size,0,none⟩=some (.int .i64 a1):=a4.cell (by show (World.alloc _ _).cell? _=_;rw [Z7 _ _ _ _ _ (by simp)];rfl) ad;have e1:w4.cell? ⟨w2.heap.size,1,none⟩=some (.bool wr):=a4.cell (by show (World.alloc _ _).cell? _=_;rw [Z7 _ _ _ _ _ (by simp)];rfl) ad;have a5:Zf w4 g 125 (flat [(a1,false)]++r):=ac.out;obtain ⟨f0,f1⟩:=a5.q2 rfl rfl;have aj:∀ i,w4.frozen? ⟨g,i,none⟩=false:=fun i=>a5.frozen i
 have af:=hid ((a5.setCell 0 (.int .i64 a1)).setCell 1 (.bool wr));have ag:=hid ((((ab.out.trans (Y2 _ _)).trans a4).trans (Zo _ g 0 (.int .i64 a1))).trans (Zo _ g 1 (.bool wr)));clear a5 a4 ac a7 ab a3 a2 d0 d1 hf a0;go_wp2
 all_goals go_ret
 all_goals exact ⟨rfl,af.out,ag.out⟩
theorem Zst (g cap:Nat) (a1 b1 ln:Int) (a2 b2 wr:Bool) (r:List Value) (w:World) (hcap:2≤cap) (hm:cap≤maxLen) (hr:Zf w g 125 (flat [(a1,a2),(b1,b2)]++r))
  (hx:idx ln [(a1,a2),(b1,b2)]=-1) :
  Calls prog 190 #[.slice (some ⟨g,0,none⟩) 2 cap,.int .i64 ln,.bool wr] w fun e w'=>e=.returned (.int .i64 (10+wb b2))∧Zf w' g 125 (flat [(ln,wr),(a1,a2)]++r)∧w.grownBy w' (some g):=by
 have hg:=hr.lt;have hw:=hr.ways;have ab:(2:Int)≤(cap:Int):=by omega
 have ac:(1:Int)≤(cap:Int):=by omega
 have ad:(0:Int)≤(cap:Int):=by omega
 have ah:¬ cap=1:=by omega
 unfold maxLen at hm;go_enter func190,ntmps190;go_wp2_with fail;refine (Qk (some ⟨g,0,none⟩) _ cap ln _ hw (by simp)).mono ?_;rintro e w1 ⟨rfl,a9⟩;rw [hx];have a5:=hr.below a9 lr;have c4:=a5.cell 2 _ rfl;have c5:=a5.cell 3 _ rfl;go_wp2_with fail;refine (Zay _ _ _).mono ?_;rintro e w2 ⟨rfl,aa⟩;have a0:=Zb a9 aa;have a3:=a5.below aa lr;obtain ⟨d0,d1,d2,d3⟩:=a3.q4 rfl rfl rfl rfl;have hf:∀ i,w2.frozen? ⟨g,i,none⟩=false:=fun i=>a3.frozen i
 have ak:g<w2.heap.size:=a3.lt;have al:=(Zhs b2).1;have am:=(Zhs b2).2;generalize hq0:wb b2=q at *
 have Hq:=hid hq0;clear hq0;clear hx hw hr a5 c4 c5 a9 aa;go_wp2_with fail;have a6:=hid (((a3.setCell 2 (.int .i64 ln)).setCell 3 (.bool false)).alloc (.cells #[.int .i64 ln,.bool wr] 125));have ae:=hid ((((Yx g a0).trans (Zo _ g 2 (.int .i64 ln))).trans (Zo _ g 3 (.bool false))).trans (World.grownBy_alloc _ (.cells #[.int .i64 ln,.bool wr] 125) _));have hL:((flat [(a1,a2),(b1,b2)]++r).set 2 (.int .i64 ln)).set 3 (.bool false)=flat [(a1,a2),(ln,false)]++r:=rfl;rw [hL] at a6;clear hL;have a4:Hid (Zf _ g 125 (flat [(a1,a2)]++(flat [(ln,false)]++r))):=a6;go_region_law (refine Yy (by rfl) (.tmp 40) (.tmp 43) 123 123 (by rfl) 125 2 underlying123 Tryz.sz125 _ _ _ _ _ _ (by rfl) (by rfl) g 2 (flat [(a1,a2),(ln,false)]++r) 125 (by exact a6.out) (flat [(a1,a2)]) (by rfl) (by omega) (fun h0=>⟨by rfl,_,by rfl,by exact a4.out.news⟩) (by simp [flat]<;>omega) (Qj _) 1 (by rfl) ?_;intro w4 af a7 an)
 have ag:some w2.heap.size≠some g:=by simp;omega
 have e0:w4.cell? ⟨w2.heap.size,0,none⟩=some (.int .i64 ln):=a7.cell (by show (World.alloc _ _).cell? _=_;rw [Z7 _ _ _ _ _ (by simp)];rfl) ag;have e1:w4.cell? ⟨w2.heap.size,1,none⟩=some (.bool wr):=a7.cell (by show (World.alloc _ _).cell? _=_;rw [Z7 _ _ _ _ _ (by simp)];rfl) ag;have a8:Zf w4 g 125 (flat [(a1,a2),(a1,a2)]++r):=af.out;obtain ⟨f0,f1⟩:=a8.q2 rfl rfl;have ao:∀ i,w4.frozen? ⟨g,i,none⟩=false:=fun i=>a8.frozen i
 have ai:=hid ((a8.setCell 0 (.int .i64 ln)).setCell 1 (.bool wr));have aj:=hid ((((ae.out.trans (Y2 _ _)).trans a7).trans (Zo _ g 0 (.int .i64 ln))).trans (Zo _ g 1 (.bool wr)));clear a8 a7 af a6 ae a4 a3 d0 d1 d2 d3 hf a0;go_wp2
 all_goals go_ret
 all_goals exact ⟨Zh (by rw [← Hq.out]),ai.out,aj.out⟩
theorem Zxf (g cap:Nat) (a1 b1 ln:Int) (b2 wr:Bool) (r:List Value) (w:World) (hcap:2≤cap) (hm:cap≤maxLen) (hr:Zf w g 125 (flat [(a1,true),(b1,b2)]++r))
  (hx:idx ln [(a1,true),(b1,b2)]=0) :
  Calls prog 190 #[.slice (some ⟨g,0,none⟩) 2 cap,.int .i64 ln,.bool wr] w fun e w'=>e=.returned (.int .i64 1)∧Zf w' g 125 (flat [(a1,true),(b1,b2)]++r)∧w.grownBy w' (some g):=by
 have hg:=hr.lt;have hw:=hr.ways;have a8:(2:Int)≤(cap:Int):=by omega
 have a9:(1:Int)≤(cap:Int):=by omega
 have aa:(0:Int)≤(cap:Int):=by omega
 have af:¬ cap=1:=by omega
 unfold maxLen at hm;go_enter func190,ntmps190;go_wp2_with fail;refine (Qk (some ⟨g,0,none⟩) _ cap ln _ hw (by simp)).mono ?_;rintro e w1 ⟨rfl,a6⟩;rw [hx];have ab:=hr.below a6 lr;obtain ⟨w2,ag⟩:∃ w2,w2=w1:=⟨_,rfl⟩
 subst ag;have a0:=a6;have a2:=ab;obtain ⟨d0,d1,d2,d3⟩:=a2.q4 rfl rfl rfl rfl;have hf:∀ i,w2.frozen? ⟨g,i,none⟩=false:=fun i=>a2.frozen i
 have aj:g<w2.heap.size:=a2.lt;clear hx hw hr ab a6;go_wp2_with fail;have a7:=hid (a2.alloc (.cells #[.int .i64 a1,.bool true] 125));have ac:=hid ((Yx g a0).trans (World.grownBy_alloc _ (.cells #[.int .i64 a1,.bool true] 125) _));have a3:Hid (Zf _ g 125 (flat ([]:List (Int×Bool))++(flat [(a1,true),(b1,b2)]++r))):=a7;go_region_law (refine Yy (by rfl) (.tmp 40) (.tmp 43) 123 123 (by rfl) 125 2 underlying123 Tryz.sz125 _ _ _ _ _ _ (by rfl) (by rfl) g 2 (flat [(a1,true),(b1,b2)]++r) 125 (by exact a7.out) (flat ([]:List (Int×Bool))) (by rfl) (by omega) (fun h0=>⟨absurd h0 (by simp [flat]),_,by rfl,by exact a3.out.news⟩) (by simp [flat]<;>omega) (Qj _) 0 (by rfl) ?_;intro w4 ad a4 ak)
 have ae:some w2.heap.size≠some g:=by simp;omega
 have e0:w4.cell? ⟨w2.heap.size,0,none⟩=some (.int .i64 a1):=a4.cell (by show (World.alloc _ _).cell? _=_;rw [Z7 _ _ _ _ _ (by simp)];rfl) ae;have e1:w4.cell? ⟨w2.heap.size,1,none⟩=some (.bool true):=a4.cell (by show (World.alloc _ _).cell? _=_;rw [Z7 _ _ _ _ _ (by simp)];rfl) ae;have a5:Zf w4 g 125 (flat [(a1,true),(b1,b2)]++r):=ad.out;obtain ⟨f0,f1⟩:=a5.q2 rfl rfl;have al:∀ i,w4.frozen? ⟨g,i,none⟩=false:=fun i=>a5.frozen i
 have ah:=hid ((a5.setCell 0 (.int .i64 a1)).setCell 1 (.bool true));have ai:=hid ((((ac.out.trans (Y2 _ _)).trans a4).trans (Zo _ g 0 (.int .i64 a1))).trans (Zo _ g 1 (.bool true)));clear a5 a4 ad a7 ac a3 a2 d0 d1 d2 d3 hf a0;go_wp2
 all_goals go_ret
 all_goals exact ⟨rfl,ah.out,ai.out⟩
theorem Zxd (g cap:Nat) (a1 b1 ln:Int) (b2 wr:Bool) (r:List Value) (w:World) (hcap:2≤cap) (hm:cap≤maxLen) (hr:Zf w g 125 (flat [(a1,false),(b1,b2)]++r))
  (hx:idx ln [(a1,false),(b1,b2)]=0) :
  Calls prog 190 #[.slice (some ⟨g,0,none⟩) 2 cap,.int .i64 ln,.bool wr] w fun e w'=>e=.returned (.int .i64 1)∧Zf w' g 125 (flat [(a1,wr),(b1,b2)]++r)∧w.grownBy w' (some g):=by
 have hg:=hr.lt;have hw:=hr.ways;have a8:(2:Int)≤(cap:Int):=by omega
 have a9:(1:Int)≤(cap:Int):=by omega
 have aa:(0:Int)≤(cap:Int):=by omega
 have af:¬ cap=1:=by omega
 unfold maxLen at hm;go_enter func190,ntmps190;go_wp2_with fail;refine (Qk (some ⟨g,0,none⟩) _ cap ln _ hw (by simp)).mono ?_;rintro e w1 ⟨rfl,a6⟩;rw [hx];have ab:=hr.below a6 lr;obtain ⟨w2,ag⟩:∃ w2,w2=w1:=⟨_,rfl⟩
 subst ag;have a0:=a6;have a2:=ab;obtain ⟨d0,d1,d2,d3⟩:=a2.q4 rfl rfl rfl rfl;have hf:∀ i,w2.frozen? ⟨g,i,none⟩=false:=fun i=>a2.frozen i
 have aj:g<w2.heap.size:=a2.lt;clear hx hw hr ab a6;go_wp2_with fail;have a7:=hid (a2.alloc (.cells #[.int .i64 a1,.bool wr] 125));have ac:=hid ((Yx g a0).trans (World.grownBy_alloc _ (.cells #[.int .i64 a1,.bool wr] 125) _));have a3:Hid (Zf _ g 125 (flat ([]:List (Int×Bool))++(flat [(a1,false),(b1,b2)]++r))):=a7;go_region_law (refine Yy (by rfl) (.tmp 40) (.tmp 43) 123 123 (by rfl) 125 2 underlying123 Tryz.sz125 _ _ _ _ _ _ (by rfl) (by rfl) g 2 (flat [(a1,false),(b1,b2)]++r) 125 (by exact a7.out) (flat ([]:List (Int×Bool))) (by rfl) (by omega) (fun h0=>⟨absurd h0 (by simp [flat]),_,by rfl,by exact a3.out.news⟩) (by simp [flat]<;>omega) (Qj _) 0 (by rfl) ?_;intro w4 ad a4 ak)
 have ae:some w2.heap.size≠some g:=by simp;omega
 have e0:w4.cell? ⟨w2.heap.size,0,none⟩=some (.int .i64 a1):=a4.cell (by show (World.alloc _ _).cell? _=_;rw [Z7 _ _ _ _ _ (by simp)];rfl) ae;have e1:w4.cell? ⟨w2.heap.size,1,none⟩=some (.bool wr):=a4.cell (by show (World.alloc _ _).cell? _=_;rw [Z7 _ _ _ _ _ (by simp)];rfl) ae;have a5:Zf w4 g 125 (flat [(a1,false),(b1,b2)]++r):=ad.out;obtain ⟨f0,f1⟩:=a5.q2 rfl rfl;have al:∀ i,w4.frozen? ⟨g,i,none⟩=false:=fun i=>a5.frozen i
 have ah:=hid ((a5.setCell 0 (.int .i64 a1)).setCell 1 (.bool wr));have ai:=hid ((((ac.out.trans (Y2 _ _)).trans a4).trans (Zo _ g 0 (.int .i64 a1))).trans (Zo _ g 1 (.bool wr)));clear a5 a4 ad a7 ac a3 a2 d0 d1 d2 d3 hf a0;go_wp2
 all_goals go_ret
 all_goals exact ⟨rfl,ah.out,ai.out⟩
theorem Zxj (g cap:Nat) (a1 b1 ln:Int) (a2 wr:Bool) (r:List Value) (w:World) (hcap:2≤cap) (hm:cap≤maxLen) (hr:Zf w g 125 (flat [(a1,a2),(b1,true)]++r))
  (hx:idx ln [(a1,a2),(b1,true)]=1) :
  Calls prog 190 #[.slice (some ⟨g,0,none⟩) 2 cap,.int .i64 ln,.bool wr] w fun e w'=>e=.returned (.int .i64 1)∧Zf w' g 125 (flat [(b1,true),(a1,a2)]++r)∧w.grownBy w' (some g):=by
 have hg:=hr.lt;have hw:=hr.ways;have a9:(2:Int)≤(cap:Int):=by omega
 have aa:(1:Int)≤(cap:Int):=by omega
 have ab:(0:Int)≤(cap:Int):=by omega
 have ag:¬ cap=1:=by omega
 unfold maxLen at hm;go_enter func190,ntmps190;go_wp2_with fail;refine (Qk (some ⟨g,0,none⟩) _ cap ln _ hw (by simp)).mono ?_;rintro e w1 ⟨rfl,a7⟩;rw [hx];have ac:=hr.below a7 lr;obtain ⟨w2,ah⟩:∃ w2,w2=w1:=⟨_,rfl⟩
 subst ah;have a0:=a7;have a3:=ac;obtain ⟨d0,d1,d2,d3⟩:=a3.q4 rfl rfl rfl rfl;have hf:∀ i,w2.frozen? ⟨g,i,none⟩=false:=fun i=>a3.frozen i
 have ak:g<w2.heap.size:=a3.lt;clear hx hw hr ac a7;go_wp2_with fail;have a8:=hid (a3.alloc (.cells #[.int .i64 b1,.bool true] 125));have ad:=hid ((Yx g a0).trans (World.grownBy_alloc _ (.cells #[.int .i64 b1,.bool true] 125) _));have a4:Hid (Zf _ g 125 (flat [(a1,a2)]++(flat [(b1,true)]++r))):=a8;go_region_law (refine Yy (by rfl) (.tmp 40) (.tmp 43) 123 123 (by rfl) 125 2 underlying123 Tryz.sz125 _ _ _ _ _ _ (by rfl) (by rfl) g 2 (flat [(a1,a2),(b1,true)]++r) 125 (by exact a8.out) (flat [(a1,a2)]) (by rfl) (by omega) (fun h0=>⟨by rfl,_,by rfl,by exact a4.out.news⟩) (by simp [flat]<;>omega) (Qj _) 1 (by rfl) ?_;intro w4 ae a5 al)
 have af:some w2.heap.size≠some g:=by simp;omega
 have e0:w4.cell? ⟨w2.heap.size,0,none⟩=some (.int .i64 b1):=a5.cell (by show (World.alloc _ _).cell? _=_;rw [Z7 _ _ _ _ _ (by simp)];rfl) af;have e1:w4.cell? ⟨w2.heap.size,1,none⟩=some (.bool true):=a5.cell (by show (World.alloc _ _).cell? _=_;rw [Z7 _ _ _ _ _ (by simp)];rfl) af;have a6:Zf w4 g 125 (flat [(a1,a2),(a1,a2)]++r):=ae.out;obtain ⟨f0,f1⟩:=a6.q2 rfl rfl;have am:∀ i,w4.frozen? ⟨g,i,none⟩=false:=fun i=>a6.frozen i
 have ai:=hid ((a6.setCell 0 (.int .i64 b1)).setCell 1 (.bool true));have aj:=hid ((((ad.out.trans (Y2 _ _)).trans a5).trans (Zo _ g 0 (.int .i64 b1))).trans (Zo _ g 1 (.bool true)));clear a6 a5 ae a8 ad a4 a3 d0 d1 d2 d3 hf a0;go_wp2
 all_goals go_ret
 all_goals exact ⟨rfl,ai.out,aj.out⟩
theorem Zv0 (g cap:Nat) (a1 b1 ln:Int) (a2 wr:Bool) (r:List Value) (w:World) (hcap:2≤cap) (hm:cap≤maxLen) (hr:Zf w g 125 (flat [(a1,a2),(b1,false)]++r))
  (hx:idx ln [(a1,a2),(b1,false)]=1) :
  Calls prog 190 #[.slice (some ⟨g,0,none⟩) 2 cap,.int .i64 ln,.bool wr] w fun e w'=>e=.returned (.int .i64 1)∧Zf w' g 125 (flat [(b1,wr),(a1,a2)]++r)∧w.grownBy w' (some g):=by
 have hg:=hr.lt;have hw:=hr.ways;have a9:(2:Int)≤(cap:Int):=by omega
 have aa:(1:Int)≤(cap:Int):=by omega
 have ab:(0:Int)≤(cap:Int):=by omega
 have ag:¬ cap=1:=by omega
 unfold maxLen at hm;go_enter func190,ntmps190;go_wp2_with fail;refine (Qk (some ⟨g,0,none⟩) _ cap ln _ hw (by simp)).mono ?_;rintro e w1 ⟨rfl,a7⟩;rw [hx];have ac:=hr.below a7 lr;obtain ⟨w2,ah⟩:∃ w2,w2=w1:=⟨_,rfl⟩
 subst ah;have a0:=a7;have a3:=ac;obtain ⟨d0,d1,d2,d3⟩:=a3.q4 rfl rfl rfl rfl;have hf:∀ i,w2.frozen? ⟨g,i,none⟩=false:=fun i=>a3.frozen i
 have ak:g<w2.heap.size:=a3.lt;clear hx hw hr ac a7;go_wp2_with fail;have a8:=hid (a3.alloc (.cells #[.int .i64 b1,.bool wr] 125));have ad:=hid ((Yx g a0).trans (World.grownBy_alloc _ (.cells #[.int .i64 b1,.bool wr] 125) _));have a4:Hid (Zf _ g 125 (flat [(a1,a2)]++(flat [(b1,false)]++r))):=a8;go_region_law (refine Yy (by rfl) (.tmp 40) (.tmp 43) 123 123 (by rfl) 125 2 underlying123 Tryz.sz125 _ _ _ _ _ _ (by rfl) (by rfl) g 2 (flat [(a1,a2),(b1,false)]++r) 125 (by exact a8.out) (flat [(a1,a2)]) (by rfl) (by omega) (fun h0=>⟨by rfl,_,by rfl,by exact a4.out.news⟩) (by simp [flat]<;>omega) (Qj _) 1 (by rfl) ?_;intro w4 ae a5 al)
 have af:some w2.heap.size≠some g:=by simp;omega
 have e0:w4.cell? ⟨w2.heap.size,0,none⟩=some (.int .i64 b1):=a5.cell (by show (World.alloc _ _).cell? _=_;rw [Z7 _ _ _ _ _ (by simp)];rfl) af;have e1:w4.cell? ⟨w2.heap.size,1,none⟩=some (.bool wr):=a5.cell (by show (World.alloc _ _).cell? _=_;rw [Z7 _ _ _ _ _ (by simp)];rfl) af;have a6:Zf w4 g 125 (flat [(a1,a2),(a1,a2)]++r):=ae.out;obtain ⟨f0,f1⟩:=a6.q2 rfl rfl;have am:∀ i,w4.frozen? ⟨g,i,none⟩=false:=fun i=>a6.frozen i
 have ai:=hid ((a6.setCell 0 (.int .i64 b1)).setCell 1 (.bool wr));have aj:=hid ((((ad.out.trans (Y2 _ _)).trans a5).trans (Zo _ g 0 (.int .i64 b1))).trans (Zo _ g 1 (.bool wr)));clear a6 a5 ae a8 ad a4 a3 d0 d1 d2 d3 hf a0;go_wp2
 all_goals go_ret
 all_goals exact ⟨rfl,ai.out,aj.out⟩
theorem Zrp (g cap:Nat) (a1 b1 c1 ln:Int) (a2 b2 c2 wr:Bool) (r:List Value) (w:World) (hcap:3≤cap) (hm:cap≤maxLen) (hr:Zf w g 125 (flat [(a1,a2),(b1,b2),(c1,c2)]++r))
  (hx:idx ln [(a1,a2),(b1,b2),(c1,c2)]=-1) :
  Calls prog 190 #[.slice (some ⟨g,0,none⟩) 3 cap,.int .i64 ln,.bool wr] w fun e w'=>e=.returned (.int .i64 (10+wb c2))∧Zf w' g 125 (flat [(ln,wr),(a1,a2),(b1,b2)]++r)∧w.grownBy w' (some g):=by
 have hg:=hr.lt;have hw:=hr.ways;have ab:(3:Int)≤(cap:Int):=by omega
 have ac:(1:Int)≤(cap:Int):=by omega
 have ad:(2:Int)≤(cap:Int):=by omega
 have ae:(0:Int)≤(cap:Int):=by omega
 have ai:¬ cap=1:=by omega
 unfold maxLen at hm;go_enter func190,ntmps190;go_wp2_with fail;refine (Qk (some ⟨g,0,none⟩) _ cap ln _ hw (by simp)).mono ?_;rintro e w1 ⟨rfl,a9⟩;rw [hx];have a5:=hr.below a9 lr;have c4:=a5.cell 4 _ rfl;have c5:=a5.cell 5 _ rfl;go_wp2_with fail;refine (Zay _ _ _).mono ?_;rintro e w2 ⟨rfl,aa⟩;have a0:=Zb a9 aa;have a3:=a5.below aa lr;obtain ⟨d0,d1,d2,d3,d4,d5⟩:=a3.q6 rfl rfl rfl rfl rfl rfl;have hf:∀ i,w2.frozen? ⟨g,i,none⟩=false:=fun i=>a3.frozen i
 have al:g<w2.heap.size:=a3.lt;have am:=(Zhs c2).1;have an:=(Zhs c2).2;generalize hq0:wb c2=q at *
 have Hq:=hid hq0;clear hq0;clear hx hw hr a5 c4 c5 a9 aa;go_wp2_with fail;have a6:=hid (((a3.setCell 4 (.int .i64 ln)).setCell 5 (.bool false)).alloc (.cells #[.int .i64 ln,.bool wr] 125));have af:=hid ((((Yx g a0).trans (Zo _ g 4 (.int .i64 ln))).trans (Zo _ g 5 (.bool false))).trans (World.grownBy_alloc _ (.cells #[.int .i64 ln,.bool wr] 125) _));have hL:((flat [(a1,a2),(b1,b2),(c1,c2)]++r).set 4 (.int .i64 ln)).set 5 (.bool false)=flat [(a1,a2),(b1,b2),(ln,false)]++r:=rfl;rw [hL] at a6;clear hL;have a4:Hid (Zf _ g 125 (flat [(a1,a2),(b1,b2)]++(flat [(ln,false)]++r))):=a6;go_region_law (refine Yy (by rfl) (.tmp 40) (.tmp 43) 123 123 (by rfl) 125 2 underlying123 Tryz.sz125 _ _ _ _ _ _ (by rfl) (by rfl) g 2 (flat [(a1,a2),(b1,b2),(ln,false)]++r) 125 (by exact a6.out) (flat [(a1,a2),(b1,b2)]) (by rfl) (by omega) (fun h0=>⟨by rfl,_,by rfl,by exact a4.out.news⟩) (by simp [flat]<;>omega) (Qj _) 2 (by rfl) ?_;intro w4 ag a7 ao)
 have ah:some w2.heap.size≠some g:=by simp;omega
 have e0:w4.cell? ⟨w2.heap.size,0,none⟩=some (.int .i64 ln):=a7.cell (by show (World.alloc _ _).cell? _=_;rw [Z7 _ _ _ _ _ (by simp)];rfl) ah;have e1:w4.cell? ⟨w2.heap.size,1,none⟩=some (.bool wr):=a7.cell (by show (World.alloc _ _).cell? _=_;rw [Z7 _ _ _ _ _ (by simp)];rfl) ah;have a8:Zf w4 g 125 (flat [(a1,a2),(a1,a2),(b1,b2)]++r):=ag.out;obtain ⟨f0,f1⟩:=a8.q2 rfl rfl;have ap:∀ i,w4.frozen? ⟨g,i,none⟩=false:=fun i=>a8.frozen i
 have aj:=hid ((a8.setCell 0 (.int .i64 ln)).setCell 1 (.bool wr));have ak:=hid ((((af.out.trans (Y2 _ _)).trans a7).trans (Zo _ g 0 (.int .i64 ln))).trans (Zo _ g 1 (.bool wr)));clear a8 a7 ag a6 af a4 a3 d0 d1 d2 d3 d4 d5 hf a0;go_wp2
 all_goals go_ret
 all_goals exact ⟨Zh (by rw [← Hq.out]),aj.out,ak.out⟩
theorem Zw6 (g cap:Nat) (a1 b1 c1 ln:Int) (b2 c2 wr:Bool) (r:List Value) (w:World) (hcap:3≤cap) (hm:cap≤maxLen) (hr:Zf w g 125 (flat [(a1,true),(b1,b2),(c1,c2)]++r))
  (hx:idx ln [(a1,true),(b1,b2),(c1,c2)]=0) :
  Calls prog 190 #[.slice (some ⟨g,0,none⟩) 3 cap,.int .i64 ln,.bool wr] w fun e w'=>e=.returned (.int .i64 1)∧Zf w' g 125 (flat [(a1,true),(b1,b2),(c1,c2)]++r)∧w.grownBy w' (some g):=by
 have hg:=hr.lt;have hw:=hr.ways;have a8:(3:Int)≤(cap:Int):=by omega
 have a9:(1:Int)≤(cap:Int):=by omega
 have aa:(2:Int)≤(cap:Int):=by omega
 have ab:(0:Int)≤(cap:Int):=by omega
 have ag:¬ cap=1:=by omega
 unfold maxLen at hm;go_enter func190,ntmps190;go_wp2_with fail;refine (Qk (some ⟨g,0,none⟩) _ cap ln _ hw (by simp)).mono ?_;rintro e w1 ⟨rfl,a6⟩;rw [hx];have ac:=hr.below a6 lr;obtain ⟨w2,ah⟩:∃ w2,w2=w1:=⟨_,rfl⟩
 subst ah;have a0:=a6;have a2:=ac;obtain ⟨d0,d1,d2,d3,d4,d5⟩:=a2.q6 rfl rfl rfl rfl rfl rfl;have hf:∀ i,w2.frozen? ⟨g,i,none⟩=false:=fun i=>a2.frozen i
 have ak:g<w2.heap.size:=a2.lt;clear hx hw hr ac a6;go_wp2_with fail;have a7:=hid (a2.alloc (.cells #[.int .i64 a1,.bool true] 125));have ad:=hid ((Yx g a0).trans (World.grownBy_alloc _ (.cells #[.int .i64 a1,.bool true] 125) _));have a3:Hid (Zf _ g 125 (flat ([]:List (Int×Bool))++(flat [(a1,true),(b1,b2),(c1,c2)]++r))):=a7;go_region_law (refine Yy (by rfl) (.tmp 40) (.tmp 43) 123 123 (by rfl) 125 2 underlying123 Tryz.sz125 _ _ _ _ _ _ (by rfl) (by rfl) g 2 (flat [(a1,true),(b1,b2),(c1,c2)]++r) 125 (by exact a7.out) (flat ([]:List (Int×Bool))) (by rfl) (by omega) (fun h0=>⟨absurd h0 (by simp [flat]),_,by rfl,by exact a3.out.news⟩) (by simp [flat]<;>omega) (Qj _) 0 (by rfl) ?_;intro w4 ae a4 al)
 have af:some w2.heap.size≠some g:=by simp;omega
 have e0:w4.cell? ⟨w2.heap.size,0,none⟩=some (.int .i64 a1):=a4.cell (by show (World.alloc _ _).cell? _=_;rw [Z7 _ _ _ _ _ (by simp)];rfl) af;have e1:w4.cell? ⟨w2.heap.size,1,none⟩=some (.bool true):=a4.cell (by show (World.alloc _ _).cell? _=_;rw [Z7 _ _ _ _ _ (by simp)];rfl) af;have a5:Zf w4 g 125 (flat [(a1,true),(b1,b2),(c1,c2)]++r):=ae.out;obtain ⟨f0,f1⟩:=a5.q2 rfl rfl;have am:∀ i,w4.frozen? ⟨g,i,none⟩=false:=fun i=>a5.frozen i
 have ai:=hid ((a5.setCell 0 (.int .i64 a1)).setCell 1 (.bool true));have aj:=hid ((((ad.out.trans (Y2 _ _)).trans a4).trans (Zo _ g 0 (.int .i64 a1))).trans (Zo _ g 1 (.bool true)));clear a5 a4 ae a7 ad a3 a2 d0 d1 d2 d3 d4 d5 hf a0;go_wp2
 all_goals go_ret
 all_goals exact ⟨rfl,ai.out,aj.out⟩
theorem Zwh (g cap:Nat) (a1 b1 c1 ln:Int) (b2 c2 wr:Bool) (r:List Value) (w:World) (hcap:3≤cap) (hm:cap≤maxLen) (hr:Zf w g 125 (flat [(a1,false),(b1,b2),(c1,c2)]++r))
  (hx:idx ln [(a1,false),(b1,b2),(c1,c2)]=0) :
  Calls prog 190 #[.slice (some ⟨g,0,none⟩) 3 cap,.int .i64 ln,.bool wr] w fun e w'=>e=.returned (.int .i64 1)∧Zf w' g 125 (flat [(a1,wr),(b1,b2),(c1,c2)]++r)∧w.grownBy w' (some g):=by
 have hg:=hr.lt;have hw:=hr.ways;have a8:(3:Int)≤(cap:Int):=by omega
 have a9:(1:Int)≤(cap:Int):=by omega
 have aa:(2:Int)≤(cap:Int):=by omega
 have ab:(0:Int)≤(cap:Int):=by omega
 have ag:¬ cap=1:=by omega
 unfold maxLen at hm;go_enter func190,ntmps190;go_wp2_with fail;refine (Qk (some ⟨g,0,none⟩) _ cap ln _ hw (by simp)).mono ?_;rintro e w1 ⟨rfl,a6⟩;rw [hx];have ac:=hr.below a6 lr;obtain ⟨w2,ah⟩:∃ w2,w2=w1:=⟨_,rfl⟩
 subst ah;have a0:=a6;have a2:=ac;obtain ⟨d0,d1,d2,d3,d4,d5⟩:=a2.q6 rfl rfl rfl rfl rfl rfl;have hf:∀ i,w2.frozen? ⟨g,i,none⟩=false:=fun i=>a2.frozen i
 have ak:g<w2.heap.size:=a2.lt;clear hx hw hr ac a6;go_wp2_with fail;have a7:=hid (a2.alloc (.cells #[.int .i64 a1,.bool wr] 125));have ad:=hid ((Yx g a0).trans (World.grownBy_alloc _ (.cells #[.int .i64 a1,.bool wr] 125) _));have a3:Hid (Zf _ g 125 (flat ([]:List (Int×Bool))++(flat [(a1,false),(b1,b2),(c1,c2)]++r))):=a7;go_region_law (refine Yy (by rfl) (.tmp 40) (.tmp 43) 123 123 (by rfl) 125 2 underlying123 Tryz.sz125 _ _ _ _ _ _ (by rfl) (by rfl) g 2 (flat [(a1,false),(b1,b2),(c1,c2)]++r) 125 (by exact a7.out) (flat ([]:List (Int×Bool))) (by rfl) (by omega) (fun h0=>⟨absurd h0 (by simp [flat]),_,by rfl,by exact a3.out.news⟩) (by simp [flat]<;>omega) (Qj _) 0 (by rfl) ?_;intro w4 ae a4 al)
 have af:some w2.heap.size≠some g:=by simp;omega
 have e0:w4.cell? ⟨w2.heap.size,0,none⟩=some (.int .i64 a1):=a4.cell (by show (World.alloc _ _).cell? _=_;rw [Z7 _ _ _ _ _ (by simp)];rfl) af;have e1:w4.cell? ⟨w2.heap.size,1,none⟩=some (.bool wr):=a4.cell (by show (World.alloc _ _).cell? _=_;rw [Z7 _ _ _ _ _ (by simp)];rfl) af;have a5:Zf w4 g 125 (flat [(a1,false),(b1,b2),(c1,c2)]++r):=ae.out;obtain ⟨f0,f1⟩:=a5.q2 rfl rfl;have am:∀ i,w4.frozen? ⟨g,i,none⟩=false:=fun i=>a5.frozen i
 have ai:=hid ((a5.setCell 0 (.int .i64 a1)).setCell 1 (.bool wr));have aj:=hid ((((ad.out.trans (Y2 _ _)).trans a4).trans (Zo _ g 0 (.int .i64 a1))).trans (Zo _ g 1 (.bool wr)));clear a5 a4 ae a7 ad a3 a2 d0 d1 d2 d3 d4 d5 hf a0;go_wp2
 all_goals go_ret
 all_goals exact ⟨rfl,ai.out,aj.out⟩
theorem Zv6 (g cap:Nat) (a1 b1 c1 ln:Int) (a2 c2 wr:Bool) (r:List Value) (w:World) (hcap:3≤cap) (hm:cap≤maxLen) (hr:Zf w g 125 (flat [(a1,a2),(b1,true),(c1,c2)]++r))
  (hx:idx ln [(a1,a2),(b1,true),(c1,c2)]=1) :
  Calls prog 190 #[.slice (some ⟨g,0,none⟩) 3 cap,.int .i64 ln,.bool wr] w fun e w'=>e=.returned (.int .i64 1)∧Zf w' g 125 (flat [(b1,true),(a1,a2),(c1,c2)]++r)∧w.grownBy w' (some g):=by
 have hg:=hr.lt;have hw:=hr.ways;have a9:(3:Int)≤(cap:Int):=by omega
 have aa:(1:Int)≤(cap:Int):=by omega
 have ab:(2:Int)≤(cap:Int):=by omega
 have ac:(0:Int)≤(cap:Int):=by omega
 have ah:¬ cap=1:=by omega
 unfold maxLen at hm;go_enter func190,ntmps190;go_wp2_with fail;refine (Qk (some ⟨g,0,none⟩) _ cap ln _ hw (by simp)).mono ?_;rintro e w1 ⟨rfl,a7⟩;rw [hx];have ad:=hr.below a7 lr;obtain ⟨w2,ai⟩:∃ w2,w2=w1:=⟨_,rfl⟩
 subst ai;have a0:=a7;have a3:=ad;obtain ⟨d0,d1,d2,d3,d4,d5⟩:=a3.q6 rfl rfl rfl rfl rfl rfl;have hf:∀ i,w2.frozen? ⟨g,i,none⟩=false:=fun i=>a3.frozen i
 have al:g<w2.heap.size:=a3.lt;clear hx hw hr ad a7;go_wp2_with fail;have a8:=hid (a3.alloc (.cells #[.int .i64 b1,.bool true] 125));have ae:=hid ((Yx g a0).trans (World.grownBy_alloc _ (.cells #[.int .i64 b1,.bool true] 125) _));have a4:Hid (Zf _ g 125 (flat [(a1,a2)]++(flat [(b1,true),(c1,c2)]++r))):=a8;go_region_law (refine Yy (by rfl) (.tmp 40) (.tmp 43) 123 123 (by rfl) 125 2 underlying123 Tryz.sz125 _ _ _ _ _ _ (by rfl) (by rfl) g 2 (flat [(a1,a2),(b1,true),(c1,c2)]++r) 125 (by exact a8.out) (flat [(a1,a2)]) (by rfl) (by omega) (fun h0=>⟨by rfl,_,by rfl,by exact a4.out.news⟩) (by simp [flat]<;>omega) (Qj _) 1 (by rfl) ?_;intro w4 af a5 am)
 have ag:some w2.heap.size≠some g:=by simp;omega
 have e0:w4.cell? ⟨w2.heap.size,0,none⟩=some (.int .i64 b1):=a5.cell (by show (World.alloc _ _).cell? _=_;rw [Z7 _ _ _ _ _ (by simp)];rfl) ag;have e1:w4.cell? ⟨w2.heap.size,1,none⟩=some (.bool true):=a5.cell (by show (World.alloc _ _).cell? _=_;rw [Z7 _ _ _ _ _ (by simp)];rfl) ag;have a6:Zf w4 g 125 (flat [(a1,a2),(a1,a2),(c1,c2)]++r):=af.out;obtain ⟨f0,f1⟩:=a6.q2 rfl rfl;have an:∀ i,w4.frozen? ⟨g,i,none⟩=false:=fun i=>a6.frozen i
 have aj:=hid ((a6.setCell 0 (.int .i64 b1)).setCell 1 (.bool true));have ak:=hid ((((ae.out.trans (Y2 _ _)).trans a5).trans (Zo _ g 0 (.int .i64 b1))).trans (Zo _ g 1 (.bool true)));clear a6 a5 af a8 ae a4 a3 d0 d1 d2 d3 d4 d5 hf a0;go_wp2
 all_goals go_ret
 all_goals exact ⟨rfl,aj.out,ak.out⟩
theorem Zxn (g cap:Nat) (a1 b1 c1 ln:Int) (a2 c2 wr:Bool) (r:List Value) (w:World) (hcap:3≤cap) (hm:cap≤maxLen) (hr:Zf w g 125 (flat [(a1,a2),(b1,false),(c1,c2)]++r))
  (hx:idx ln [(a1,a2),(b1,false),(c1,c2)]=1) :
  Calls prog 190 #[.slice (some ⟨g,0,none⟩) 3 cap,.int .i64 ln,.bool wr] w fun e w'=>e=.returned (.int .i64 1)∧Zf w' g 125 (flat [(b1,wr),(a1,a2),(c1,c2)]++r)∧w.grownBy w' (some g):=by
 have hg:=hr.lt;have hw:=hr.ways;have a9:(3:Int)≤(cap:Int):=by omega
 have aa:(1:Int)≤(cap:Int):=by omega
 have ab:(2:Int)≤(cap:Int):=by omega
 have ac:(0:Int)≤(cap:Int):=by omega
 have ah:¬ cap=1:=by omega
 unfold maxLen at hm;go_enter func190,ntmps190;go_wp2_with fail;refine (Qk (some ⟨g,0,none⟩) _ cap ln _ hw (by simp)).mono ?_;rintro e w1 ⟨rfl,a7⟩;rw [hx];have ad:=hr.below a7 lr;obtain ⟨w2,ai⟩:∃ w2,w2=w1:=⟨_,rfl⟩
 subst ai;have a0:=a7;have a3:=ad;obtain ⟨d0,d1,d2,d3,d4,d5⟩:=a3.q6 rfl rfl rfl rfl rfl rfl;have hf:∀ i,w2.frozen? ⟨g,i,none⟩=false:=fun i=>a3.frozen i
 have al:g<w2.heap.size:=a3.lt;clear hx hw hr ad a7;go_wp2_with fail;have a8:=hid (a3.alloc (.cells #[.int .i64 b1,.bool wr] 125));have ae:=hid ((Yx g a0).trans (World.grownBy_alloc _ (.cells #[.int .i64 b1,.bool wr] 125) _));have a4:Hid (Zf _ g 125 (flat [(a1,a2)]++(flat [(b1,false),(c1,c2)]++r))):=a8;go_region_law (refine Yy (by rfl) (.tmp 40) (.tmp 43) 123 123 (by rfl) 125 2 underlying123 Tryz.sz125 _ _ _ _ _ _ (by rfl) (by rfl) g 2 (flat [(a1,a2),(b1,false),(c1,c2)]++r) 125 (by exact a8.out) (flat [(a1,a2)]) (by rfl) (by omega) (fun h0=>⟨by rfl,_,by rfl,by exact a4.out.news⟩) (by simp [flat]<;>omega) (Qj _) 1 (by rfl) ?_;intro w4 af a5 am)
 have ag:some w2.heap.size≠some g:=by simp;omega
 have e0:w4.cell? ⟨w2.heap.size,0,none⟩=some (.int .i64 b1):=a5.cell (by show (World.alloc _ _).cell? _=_;rw [Z7 _ _ _ _ _ (by simp)];rfl) ag;have e1:w4.cell? ⟨w2.heap.size,1,none⟩=some (.bool wr):=a5.cell (by show (World.alloc _ _).cell? _=_;rw [Z7 _ _ _ _ _ (by simp)];rfl) ag;have a6:Zf w4 g 125 (flat [(a1,a2),(a1,a2),(c1,c2)]++r):=af.out;obtain ⟨f0,f1⟩:=a6.q2 rfl rfl;have an:∀ i,w4.frozen? ⟨g,i,none⟩=false:=fun i=>a6.frozen i
 have aj:=hid ((a6.setCell 0 (.int .i64 b1)).setCell 1 (.bool wr));have ak:=hid ((((ae.out.trans (Y2 _ _)).trans a5).trans (Zo _ g 0 (.int .i64 b1))).trans (Zo _ g 1 (.bool wr)));clear a6 a5 af a8 ae a4 a3 d0 d1 d2 d3 d4 d5 hf a0;go_wp2
 all_goals go_ret
 all_goals exact ⟨rfl,aj.out,ak.out⟩
theorem Zvy (g cap:Nat) (a1 b1 c1 ln:Int) (a2 b2 wr:Bool) (r:List Value) (w:World) (hcap:3≤cap) (hm:cap≤maxLen) (hr:Zf w g 125 (flat [(a1,a2),(b1,b2),(c1,true)]++r))
  (hx:idx ln [(a1,a2),(b1,b2),(c1,true)]=2) :
  Calls prog 190 #[.slice (some ⟨g,0,none⟩) 3 cap,.int .i64 ln,.bool wr] w fun e w'=>e=.returned (.int .i64 1)∧Zf w' g 125 (flat [(c1,true),(a1,a2),(b1,b2)]++r)∧w.grownBy w' (some g):=by
 have hg:=hr.lt;have hw:=hr.ways;have a9:(3:Int)≤(cap:Int):=by omega
 have aa:(1:Int)≤(cap:Int):=by omega
 have ab:(2:Int)≤(cap:Int):=by omega
 have ac:(0:Int)≤(cap:Int):=by omega
 have ah:¬ cap=1:=by omega
 unfold maxLen at hm;go_enter func190,ntmps190;go_wp2_with fail;refine (Qk (some ⟨g,0,none⟩) _ cap ln _ hw (by simp)).mono ?_;rintro e w1 ⟨rfl,a7⟩;rw [hx];have ad:=hr.below a7 lr;obtain ⟨w2,ai⟩:∃ w2,w2=w1:=⟨_,rfl⟩
 subst ai;have a0:=a7;have a3:=ad;obtain ⟨d0,d1,d2,d3,d4,d5⟩:=a3.q6 rfl rfl rfl rfl rfl rfl;have hf:∀ i,w2.frozen? ⟨g,i,none⟩=false:=fun i=>a3.frozen i
 have al:g<w2.heap.size:=a3.lt;clear hx hw hr ad a7;go_wp2_with fail;have a8:=hid (a3.alloc (.cells #[.int .i64 c1,.bool true] 125));have ae:=hid ((Yx g a0).trans (World.grownBy_alloc _ (.cells #[.int .i64 c1,.bool true] 125) _));have a4:Hid (Zf _ g 125 (flat [(a1,a2),(b1,b2)]++(flat [(c1,true)]++r))):=a8;go_region_law (refine Yy (by rfl) (.tmp 40) (.tmp 43) 123 123 (by rfl) 125 2 underlying123 Tryz.sz125 _ _ _ _ _ _ (by rfl) (by rfl) g 2 (flat [(a1,a2),(b1,b2),(c1,true)]++r) 125 (by exact a8.out) (flat [(a1,a2),(b1,b2)]) (by rfl) (by omega) (fun h0=>⟨by rfl,_,by rfl,by exact a4.out.news⟩) (by simp [flat]<;>omega) (Qj _) 2 (by rfl) ?_;intro w4 af a5 am)
 have ag:some w2.heap.size≠some g:=by simp;omega
 have e0:w4.cell? ⟨w2.heap.size,0,none⟩=some (.int .i64 c1):=a5.cell (by show (World.alloc _ _).cell? _=_;rw [Z7 _ _ _ _ _ (by simp)];rfl) ag;have e1:w4.cell? ⟨w2.heap.size,1,none⟩=some (.bool true):=a5.cell (by show (World.alloc _ _).cell? _=_;rw [Z7 _ _ _ _ _ (by simp)];rfl) ag;have a6:Zf w4 g 125 (flat [(a1,a2),(a1,a2),(b1,b2)]++r):=af.out;obtain ⟨f0,f1⟩:=a6.q2 rfl rfl;have an:∀ i,w4.frozen? ⟨g,i,none⟩=false:=fun i=>a6.frozen i
 have aj:=hid ((a6.setCell 0 (.int .i64 c1)).setCell 1 (.bool true));have ak:=hid ((((ae.out.trans (Y2 _ _)).trans a5).trans (Zo _ g 0 (.int .i64 c1))).trans (Zo _ g 1 (.bool true)));clear a6 a5 af a8 ae a4 a3 d0 d1 d2 d3 d4 d5 hf a0;go_wp2
 all_goals go_ret
 all_goals exact ⟨rfl,aj.out,ak.out⟩
theorem Zwi (g cap:Nat) (a1 b1 c1 ln:Int) (a2 b2 wr:Bool) (r:List Value) (w:World) (hcap:3≤cap) (hm:cap≤maxLen) (hr:Zf w g 125 (flat [(a1,a2),(b1,b2),(c1,false)]++r))
  (hx:idx ln [(a1,a2),(b1,b2),(c1,false)]=2) :
  Calls prog 190 #[.slice (some ⟨g,0,none⟩) 3 cap,.int .i64 ln,.bool wr] w fun e w'=>e=.returned (.int .i64 1)∧Zf w' g 125 (flat [(c1,wr),(a1,a2),(b1,b2)]++r)∧w.grownBy w' (some g):=by
 have hg:=hr.lt;have hw:=hr.ways;have a9:(3:Int)≤(cap:Int):=by omega
 have aa:(1:Int)≤(cap:Int):=by omega
 have ab:(2:Int)≤(cap:Int):=by omega
 have ac:(0:Int)≤(cap:Int):=by omega
 have ah:¬ cap=1:=by omega
 unfold maxLen at hm;go_enter func190,ntmps190;go_wp2_with fail;refine (Qk (some ⟨g,0,none⟩) _ cap ln _ hw (by simp)).mono ?_;rintro e w1 ⟨rfl,a7⟩;rw [hx];have ad:=hr.below a7 lr;obtain ⟨w2,ai⟩:∃ w2,w2=w1:=⟨_,rfl⟩
 subst ai;have a0:=a7;have a3:=ad;obtain ⟨d0,d1,d2,d3,d4,d5⟩:=a3.q6 rfl rfl rfl rfl rfl rfl;have hf:∀ i,w2.frozen? ⟨g,i,none⟩=false:=fun i=>a3.frozen i
 have al:g<w2.heap.size:=a3.lt;clear hx hw hr ad a7;go_wp2_with fail;have a8:=hid (a3.alloc (.cells #[.int .i64 c1,.bool wr] 125));have ae:=hid ((Yx g a0).trans (World.grownBy_alloc _ (.cells #[.int .i64 c1,.bool wr] 125) _));have a4:Hid (Zf _ g 125 (flat [(a1,a2),(b1,b2)]++(flat [(c1,false)]++r))):=a8;go_region_law (refine Yy (by rfl) (.tmp 40) (.tmp 43) 123 123 (by rfl) 125 2 underlying123 Tryz.sz125 _ _ _ _ _ _ (by rfl) (by rfl) g 2 (flat [(a1,a2),(b1,b2),(c1,false)]++r) 125 (by exact a8.out) (flat [(a1,a2),(b1,b2)]) (by rfl) (by omega) (fun h0=>⟨by rfl,_,by rfl,by exact a4.out.news⟩) (by simp [flat]<;>omega) (Qj _) 2 (by rfl) ?_;intro w4 af a5 am)
 have ag:some w2.heap.size≠some g:=by simp;omega
 have e0:w4.cell? ⟨w2.heap.size,0,none⟩=some (.int .i64 c1):=a5.cell (by show (World.alloc _ _).cell? _=_;rw [Z7 _ _ _ _ _ (by simp)];rfl) ag;have e1:w4.cell? ⟨w2.heap.size,1,none⟩=some (.bool wr):=a5.cell (by show (World.alloc _ _).cell? _=_;rw [Z7 _ _ _ _ _ (by simp)];rfl) ag;have a6:Zf w4 g 125 (flat [(a1,a2),(a1,a2),(b1,b2)]++r):=af.out;obtain ⟨f0,f1⟩:=a6.q2 rfl rfl;have an:∀ i,w4.frozen? ⟨g,i,none⟩=false:=fun i=>a6.frozen i
 have aj:=hid ((a6.setCell 0 (.int .i64 c1)).setCell 1 (.bool wr));have ak:=hid ((((ae.out.trans (Y2 _ _)).trans a5).trans (Zo _ g 0 (.int .i64 c1))).trans (Zo _ g 1 (.bool wr)));clear a6 a5 af a8 ae a4 a3 d0 d1 d2 d3 d4 d5 hf a0;go_wp2
 all_goals go_ret
 all_goals exact ⟨rfl,aj.out,ak.out⟩
theorem Zcb {ls:List (Int×Bool)} {ln:Int} {wr:Bool} (h:idx ln ls=-1):Qp ls ln wr=((ln,wr)::ls.dropLast,10+wb (ls.getLastD (0,false)).2):=by
 unfold idx at h;unfold Qp
 cases hf:ls.findIdx? (fun x=>x.1==ln) with
 | none=>rfl
 | some k=>rw [hf] at h;simp at h
theorem Qc {ls: List (Int × Bool)} {ln: Int} {wr: Bool} {k: Nat} (h : idx ln ls = k): Qp ls ln wr = (((ls.getD k (0, false)).1, (ls.getD k (0, false)).2 || wr) :: ls.eraseIdx k, 1) := by
  unfold idx at h;unfold Qp
  cases hf : ls.findIdx? (fun x => x.1 == ln) with
  | none => rw [hf] at h; simp at h
  | some j => rw [hf] at h; simp at h; obtain rfl : j = k := by omega
              rfl
def Zr9 (g cap base n:Nat) (w:World) (p:List (Int×Bool)×Int) (e:Ending) (w':World):Prop:=
 e=.returned (.int .i64 p.2)∧w'.ownsRow base 125 2 (.slice (some ⟨g,0,none⟩) n cap) n (flat p.1)∧w.grownBy w' (some g)
theorem Zxg (g cap base:Nat) (ls:List (Int×Bool)) (ln:Int) (wr:Bool) (w:World) (hown:w.ownsRow base 125 2 (.slice (some ⟨g,0,none⟩) ls.length cap) ls.length (flat ls)) (hpos:0<ls.length) (hl:ls.length≤3):
  Calls prog 190 #[.slice (some ⟨g,0,none⟩) ls.length cap,.int .i64 ln,.bool wr] w (Zr9 g cap base ls.length w (Qp ls ln wr)):=by
 obtain ⟨r,hr,a3,hn,hm,hb⟩:=Zeh hown;have a0:∀ (p:List (Int×Bool)×Int) (X:List (Int×Bool)) (c:Int),p=(X,c)→X.length=ls.length→∀ (e:Ending) (w':World),(e=.returned (.int .i64 c)∧Zf w' g 125 (flat X++r)∧w.grownBy w' (some g))→Zr9 g cap base ls.length w p e w':=by
  rintro p X c rfl hX e w' ⟨rfl,h1,h2⟩;refine ⟨rfl,Zej h1 ?_ hn hm hb hX,h2⟩;rw [List.length_append,Zeb] at a3 ⊢;rw [hX];exact a3
 match ls,hpos,hl with
 | [(a1,a2)],_,_=>
  rcases Zc2 ln [(a1,a2)] with ⟨hx,_⟩|⟨k,hk,hx,_,_⟩
  ·exact (Zsx g cap a1 ln a2 wr r w hn hm hr hx).mono (a0 _ _ _ (Zcb hx) rfl)
  ·match k,hk,hx with
   | 0,_,hx=>
    cases a2
    ·exact (Zxl g cap a1 ln wr r w hn hm hr hx).mono (a0 _ _ _ (Qc (k:=0) hx) rfl)
    ·exact (Zvx g cap a1 ln wr r w hn hm hr hx).mono (a0 _ _ _ (Qc (k:=0) hx) rfl)
 | [(a1,a2),(b1,b2)],_,_=>
  rcases Zc2 ln [(a1,a2),(b1,b2)] with ⟨hx,_⟩|⟨k,hk,hx,_,_⟩
  ·exact (Zst g cap a1 b1 ln a2 b2 wr r w hn hm hr hx).mono (a0 _ _ _ (Zcb hx) rfl)
  ·match k,hk,hx with
   | 0,_,hx=>
    cases a2
    ·exact (Zxd g cap a1 b1 ln b2 wr r w hn hm hr hx).mono (a0 _ _ _ (Qc (k:=0) hx) rfl)
    ·exact (Zxf g cap a1 b1 ln b2 wr r w hn hm hr hx).mono (a0 _ _ _ (Qc (k:=0) hx) rfl)
   | 1,_,hx=>
    cases b2
    ·exact (Zv0 g cap a1 b1 ln a2 wr r w hn hm hr hx).mono (a0 _ _ _ (Qc (k:=1) hx) rfl)
    ·exact (Zxj g cap a1 b1 ln a2 wr r w hn hm hr hx).mono (a0 _ _ _ (Qc (k:=1) hx) rfl)
 | [(a1,a2),(b1,b2),(c1,c2)],_,_=>
  rcases Zc2 ln [(a1,a2),(b1,b2),(c1,c2)] with ⟨hx,_⟩|⟨k,hk,hx,_,_⟩
  ·exact (Zrp g cap a1 b1 c1 ln a2 b2 c2 wr r w hn hm hr hx).mono (a0 _ _ _ (Zcb hx) rfl)
  ·match k,hk,hx with
   | 0,_,hx=>
    cases a2
    ·exact (Zwh g cap a1 b1 c1 ln b2 c2 wr r w hn hm hr hx).mono (a0 _ _ _ (Qc (k:=0) hx) rfl)
    ·exact (Zw6 g cap a1 b1 c1 ln b2 c2 wr r w hn hm hr hx).mono (a0 _ _ _ (Qc (k:=0) hx) rfl)
   | 1,_,hx=>
    cases b2
    ·exact (Zxn g cap a1 b1 c1 ln a2 c2 wr r w hn hm hr hx).mono (a0 _ _ _ (Qc (k:=1) hx) rfl)
    ·exact (Zv6 g cap a1 b1 c1 ln a2 c2 wr r w hn hm hr hx).mono (a0 _ _ _ (Qc (k:=1) hx) rfl)
   | 2,_,hx=>
    cases c2
    ·exact (Zwi g cap a1 b1 c1 ln a2 b2 wr r w hn hm hr hx).mono (a0 _ _ _ (Qc (k:=2) hx) rfl)
    ·exact (Zvy g cap a1 b1 c1 ln a2 b2 wr r w hn hm hr hx).mono (a0 _ _ _ (Qc (k:=2) hx) rfl)
theorem Tryz.info123:(prog.info? 123).map (fun i=>(i.zero,i.size,i.bytes))=some (some (.slice none 0 0),1,24):=by kernel_rfl
def Zbo (w:World) (g0:Nat) (C:List (List (Int×Bool))) (k:Nat):Prop:=
 ∃ (L:List Value) (G cp:Nat→Nat),Zf w g0 123 L∧L.length=C.length ∧
  (∀ j (h:j<C.length),j<k→L[j]? = some (.slice (some ⟨G j,0,none⟩) C[j].length (cp j))∧w.ownsRow (g0+1) 125 2 (.slice (some ⟨G j,0,none⟩) C[j].length (cp j)) C[j].length (flat C[j])) ∧
  (∀ i j,i<j→j<k→G i<G j)
theorem Z5 (w:World) (n:Nat) (L:List Value) (t:TypeId) (h:w.heap.size=n):Zf (w.alloc (.cells L.toArray t)) n t L:=by
 subst h;exact heap_alloc_new w _
theorem Zf.drew {t:TypeId} {L:List Value} (h:Zf w g t L):Zf w.drew g t L:=h
theorem Zdx {e:Nat} (h:w.ownsRow base e size v n xs) (hb:Below w.heap.size w w'):w'.ownsRow base e size v n xs:=
 h.kept (row:=none) ⟨hb.os,hb.tape,hb.output,hb.size,fun k hk _=>hb.block k hk⟩ (by cases v.ownBlock<;>simp)
theorem Zcx {e:Nat} {l c:Nat} (h:w.ownsRow base e size (.slice (some ⟨g,0,none⟩) l c) n xs) (a:Addr) (v:Value) (hne:g≠a.block):(w.setCell a v).ownsRow base e size (.slice (some ⟨g,0,none⟩) l c) n xs:=
 h.kept (row:=some a.block) ⟨rfl,rfl,rfl,by simp [World.setCell],fun k _ hk=>Below.heap_setCell _ _ _ _ (by intro e;exact hk (by rw [e]))⟩ (.inr (by simpa [Value.ownBlock] using hne))
theorem Zbo.below (h:Zbo w g0 C k) (hb:Below w.heap.size w w'):Zbo w' g0 C k:=by
 obtain ⟨L,G,cp,h1,h2,h3,h4⟩:=h;exact ⟨L,G,cp,h1.below hb lr,h2,fun j hj hk=>⟨(h3 j hj hk).1,Zdx (h3 j hj hk).2 hb⟩,h4⟩
theorem Zbo.drew (h:Zbo w g0 C k):Zbo w.drew g0 C k:=h
theorem Zbo.cellAt (h:Zbo w g0 C k) (j:Nat) (hj:j<C.length):(∃ v,w.cell? ⟨g0,j,none⟩=some v)∧w.frozen? ⟨g0,j,none⟩=false:=by
 obtain ⟨L,G,cp,h1,h2,h3,h4⟩:=h;exact ⟨⟨_,h1.cell j _ (List.getElem?_eq_getElem (by omega))⟩,h1.frozen j⟩
theorem Zbo.setOther (h:Zbo w g0 C k) (a:Addr) (v:Value) (hlt:a.block<g0):Zbo (w.setCell a v) g0 C k:=by
 obtain ⟨L,G,cp,h1,h2,h3,h4⟩:=h;refine ⟨L,G,cp,h1.setOther a v (by omega),h2,fun j hj hk=>⟨(h3 j hj hk).1,Zcx (h3 j hj hk).2 a v ?_⟩,h4⟩
 have:=((h3 j hj hk).2.lt (G j) rfl).1
 omega
theorem Zbo.step {g cap:Nat} (h:Zbo w g0 C k) (hk:k<C.length) (hb:Below w.heap.size w w')
  (hown:w'.ownsRow w.heap.size 125 2 (.slice (some ⟨g,0,none⟩) C[k].length cap) C[k].length (flat C[k])) :
  Zbo (w'.setCell ⟨g0,k,none⟩ (.slice (some ⟨g,0,none⟩) C[k].length cap)) g0 C (k+1):=by
 obtain ⟨L,G,cp,h1,h2,h3,h4⟩:=h;have hg:w.heap.size≤g:=(hown.lt g rfl).1;have a6:g0<w.heap.size:=h1.lt;have a2:∀ j,j<k→j<C.length→G j<w.heap.size:=fun j hj hjc=>((h3 j hjc hj).2.lt (G j) rfl).2
 have a3:∀ j,j<k→j<C.length→g0+1≤G j:=fun j hj hjc=>((h3 j hjc hj).2.lt (G j) rfl).1
 have a4:=(h1.below hb lr).setCell k (.slice (some ⟨g,0,none⟩) C[k].length cap);refine ⟨_,fun j=>if j=k then g else G j,fun j=>if j=k then cap else cp j,a4,by simp [h2],fun j hj hjk=>?_,fun i j hij hjk=>?_⟩
 ·by_cases e:j=k
  ·subst e
   simp only [if_true];refine ⟨by simp [h2,hj],?_⟩;refine Zcx ?_ _ _ (by show g≠g0;omega);obtain ⟨q1,q2⟩:=hown;refine ⟨q1,?_⟩;rcases q2 with q|⟨g',a1,a5,e1,e2,r⟩
   ·exact .inl q
   ·exact .inr ⟨g',a1,a5,e1,by omega,r⟩
  ·simp only [if_neg e]
   have a0:j<k:=by omega
   have a7:=a2 j a0 hj;have a8:=a3 j a0 hj;refine ⟨by rw [List.getElem?_set_ne (by omega)];exact (h3 j hj a0).1,Zcx (Zdx (h3 j hj a0).2 hb) _ _ (by show G j≠g0;omega)⟩
 ·by_cases e:j=k
  ·subst e
   have:i≠j:=by omega
   simp only [if_true,if_neg this]
   have:=a2 i hij (by omega)
   omega
  ·have:i≠k:=by omega
   simp only [if_neg e,if_neg this];exact h4 i j hij (by omega)
theorem Zgc (a:Option Addr) (C:List (List (Int×Bool))) (cap:Nat) (w:World) (hw:Z8 w a C) (hl:(C.length:Int)≤4) (hl1:(1:Int)≤C.length) (hn:∀ ls∈C,0<ls.length∧ls.length≤3):
  Calls prog 70 #[.agg #[.slice a C.length cap]] w fun e w'=>∃ g0,e=.returned (.agg #[.slice (some ⟨g0,0,none⟩) C.length C.length])∧w.heap.size≤g0∧Zbo w' g0 C C.length∧Below w.heap.size w w':=by
 have a3:=run_make_row' (P:=prog) 70 123 (.slice none 0 0) 24 underlying70 Tryz.info123 rfl .i64 .i64 C.length (by omega) (by omega);go_enter func70,ntmps70;go_wp2;clear a3;have ad:Below w.heap.size w ((((w.alloc (Obj.cells #[Value.slice a C.length cap] 72)).alloc (Obj.cells #[Value.slice none 0 0] 72)).alloc (Obj.cells (madeCells #[Value.slice none 0 0] C.length) 123)).alloc (Obj.cells #[Value.slice (some ⟨w.heap.size+1+1,0,none⟩) C.length C.length] 72)):=
  (((br.alloc lr _).alloc (by simp) _).alloc (by simp;omega) _).alloc (by simp;omega) _
 have ae:Zbo ((((w.alloc (Obj.cells #[Value.slice a C.length cap] 72)).alloc (Obj.cells #[Value.slice none 0 0] 72)).alloc (Obj.cells (madeCells #[Value.slice none 0 0] C.length) 123)).alloc (Obj.cells #[Value.slice (some ⟨w.heap.size+1+1,0,none⟩) C.length C.length] 72)) (w.heap.size+1+1) C 0:=by
  refine ⟨(madeCells #[Value.slice none 0 0] C.length).toList,fun _=>0,fun _=>0,?_,by simp [madeCells],fun j _ h=>by omega,fun i j _ h=>by omega⟩;refine Zf.alloc ?_ _
  have:=Z5 ((w.alloc (Obj.cells #[Value.slice a C.length cap] 72)).alloc (Obj.cells #[Value.slice none 0 0] 72)) (w.heap.size+1+1) (madeCells #[Value.slice none 0 0] C.length).toList 123 (by simp)
  simpa using this
 have a4:((((w.alloc (Obj.cells #[Value.slice a C.length cap] 72)).alloc (Obj.cells #[Value.slice none 0 0] 72)).alloc (Obj.cells (madeCells #[Value.slice none 0 0] C.length) 123)).alloc (Obj.cells #[Value.slice (some ⟨w.heap.size+1+1,0,none⟩) C.length C.length] 72)).cell? ⟨w.heap.size+1+1+1,0,none⟩=some (.slice (some ⟨w.heap.size+1+1,0,none⟩) C.length C.length):=by
  rw [Z7 _ _ _ _ _ (by simp)];rfl
 have a5:Zf ((((w.alloc (Obj.cells #[Value.slice a C.length cap] 72)).alloc (Obj.cells #[Value.slice none 0 0] 72)).alloc (Obj.cells (madeCells #[Value.slice none 0 0] C.length) 123)).alloc (Obj.cells #[Value.slice (some ⟨w.heap.size+1+1,0,none⟩) C.length C.length] 72)) (w.heap.size+1) 72 [Value.slice none 0 0]:=
  ((Z5 (w.alloc (Obj.cells #[Value.slice a C.length cap] 72)) (w.heap.size+1) [Value.slice none 0 0] 72 (by simp)).alloc _).alloc _
 have a6:=hid a4;have a1:=hid a5;clear a4 a5;have af:=hid ad;have ag:=hid ae;clear ad ae;go_loopw [14] (fun i wr=>∃ k:Nat,k≤C.length∧i=.int .i64 k∧Below w.heap.size w wr∧Zbo wr (w.heap.size+1+1) C k∧wr.cell? ⟨w.heap.size+1+1+1,0,none⟩=some (.slice (some ⟨w.heap.size+1+1,0,none⟩) C.length C.length)∧wr.cell? ⟨w.heap.size+1,0,none⟩=some (.slice none 0 0)∧wr.frozen? ⟨w.heap.size+1,0,none⟩=false) (fun i _=>C.length-(intOf i).toNat)
 case atStart=>exact ⟨0,zl,rfl,af.out,ag.out,a6.out,a1.out.cell 0 _ rfl,a1.out.frozen 0⟩
 case round=>
  clear af ag a6 a1;obtain ⟨k,hk,rfl,a8,hO,hA,hR,ah⟩:=hrel;have HO:=hid hO;clear hO;by_cases hlt:k<C.length
  ·obtain ⟨b',o',a2,a9,rfl,am,ai,an,ao⟩:=hw k hlt
   have ap:=Zg a8 am lr;have aa:=ai.keep a8;obtain ⟨hp,h3⟩:=hn C[k] (List.getElem_mem hlt);obtain ⟨b2,o2,rfl,_,_⟩:=ai 0 hp;have au:(k:Int)<(C.length:Int):=by omega
   have aw:(0:Int)≤(k:Int):=by omega
   go_wp2;go_region_held3 (fun w'=>w'.cell? ⟨w.heap.size+1+1+1,0,none⟩=some (.slice (some ⟨w.heap.size+1+1,0,none⟩) C.length C.length)) (first|go_keep|exact Zg hb5 (show wr.drew.cell? _=_ from hA) lr)
    (first|(go_at_call 99;refine (Znh b2 o2 C[k] a9 _ (by exact aa) hp h3).mono ?_;rintro e w5 ⟨g,a0,rfl,a7,hb5⟩;obtain ⟨⟨v5,aq⟩,ar⟩:=(HO.out.drew.below hb5).cellAt k hlt))
   have aj:=Zg hb5 (show wr.drew.cell? _=_ from hA) lr;have ak:=Zg hb5 (show wr.drew.cell? _=_ from hR) lr;have ab:w.heap.size+1<wr.heap.size:=World.block_lt_of_cell? _ _ hR;have al:w5.frozen? ⟨w.heap.size+1,0,none⟩=false:=by rw [hb5.frozen (p:=⟨w.heap.size+1,0,none⟩) (by exact ab)];exact ah
   have ac:Hid (Below w.heap.size w (w5.setCell ⟨w.heap.size+1+1,k,none⟩ (.slice (some ⟨g,0,none⟩) C[k].length a0))∧Zbo (w5.setCell ⟨w.heap.size+1+1,k,none⟩ (.slice (some ⟨g,0,none⟩) C[k].length a0)) (w.heap.size+1+1) C (k+1)
     ∧ (w5.setCell ⟨w.heap.size+1+1,k,none⟩ (.slice (some ⟨g,0,none⟩) C[k].length a0)).cell? ⟨w.heap.size+1+1+1,0,none⟩=some (.slice (some ⟨w.heap.size+1+1,0,none⟩) C.length C.length)
     ∧ (w5.setCell ⟨w.heap.size+1+1,k,none⟩ (.slice (some ⟨g,0,none⟩) C[k].length a0)).cell? ⟨w.heap.size+1,0,none⟩=some (.slice none 0 0)
     ∧ (w5.setCell ⟨w.heap.size+1+1,k,none⟩ (.slice (some ⟨g,0,none⟩) C[k].length a0)).frozen? ⟨w.heap.size+1,0,none⟩=false):=by
    refine ⟨(Zb a8.drew hb5).setCell (by show w.heap.size≤w.heap.size+1+1;omega) _,HO.out.drew.step hlt hb5 a7,?_,?_,?_⟩
    ·rw [World.cell?_setCell_other _ _ _ _ (by simp)];exact aj
    ·rw [World.cell?_setCell_other _ _ _ _ (by simp)];exact ak
    ·simpa using al
   clear aj ak al hA hR ah;go_wp2;go_roundw
   case rel=>exact ⟨k+1,by omega,by go_num,ac.out⟩
   case measure=>simp [intOf];omega
  ·obtain rfl:k=C.length:=by omega
   go_wp2;refine bodyPost_ret (v:=.agg #[.slice (some ⟨w.heap.size+1+1,0,none⟩) C.length C.length]) (by simp [results,results70,go_sem,World.cell?_setCell_same wr _ _ hR]) rfl ⟨_,rfl,by omega,HO.out.setOther _ _ (by show w.heap.size+1<w.heap.size+1+1;omega),a8.setCell (by show w.heap.size≤w.heap.size+1;omega) _⟩
end Go.Proofs.YtejhccmclanlmaaGreatDoor
