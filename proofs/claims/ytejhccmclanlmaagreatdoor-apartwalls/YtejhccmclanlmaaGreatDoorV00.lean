/- Ma Ca Cb Cc Cd Ce Na Xa Pa Mb Pd Pe Pb Pc -/
import Derived.Test.YtejhccmclanlmaaGreatDoorRows
import Derived.WalkKit
import Derived.WalkSpells
import Derived.WalkLawsBesides
import Derived.Deep.QuietTactic
import Derived.BigQuiet
import Derived.Deep.AppendLies
set_option linter.all false
set_option maxRecDepth 100000
set_option maxHeartbeats 8000000
namespace Go.Proofs.YtejhccmclanlmaaGreatDoor
variable {i n:Nat}
theorem lr:n≤n:=Nat.le_refl n
theorem zl:0≤n:=Nat.zero_le n
theorem xJ1 {α:Type} {l:List α}:l.toArray[i]? = l[i]?:=List.getElem?_toArray
theorem xJ2 {α:Type} {a:α} {l:List α}:(a::l)[0]? = some a:=List.getElem?_cons_zero
theorem xJ3 {α:Type} {a:α} {l:List α}:(a::l)[i+1]? = l[i]?:=List.getElem?_cons_succ
theorem xJ4 {α:Type} (a b:α):(some a=some b)=(a=b):=Option.some.injEq a b
def inR (n l m:Int):Bool:=decide (l≤n)&&decide (n≤m)
def idx (ln:Int) (ls:List (Int×Bool)):Int:=match ls.findIdx? (fun x=>x.1==ln) with|some i=>i|none=>-1
theorem Zyg (ln:Int) (ls:List (Int×Bool)) (k:Nat) (h:k<ls.length) (he:ls[k].1=ln) (hno:∀ j (hj:j<ls.length),j<k→ls[j].1≠ln):idx ln ls=k:=by
 have:ls.findIdx? (fun x=>x.1==ln)=some k:=by
  rw [List.findIdx?_eq_some_iff_getElem];exact ⟨h,by simp [he],fun j hj=>by simpa using hno j (by omega) hj⟩
 simp [idx,this]
theorem Ztl (ln:Int) (ls:List (Int×Bool)) (hno:∀ j (hj:j<ls.length),ls[j].1≠ln):idx ln ls=-1:=by
 have:ls.findIdx? (fun x=>x.1==ln)=none:=by
  rw [List.findIdx?_eq_none_iff];intro x hx;obtain ⟨j,hj,rfl⟩:=List.getElem_of_mem hx;simpa using hno j hj
 simp [idx,this]
theorem Zc2 (ln:Int) (ls:List (Int×Bool)):(idx ln ls=-1∧∀ j (hj:j<ls.length),ls[j].1≠ln)∨∃ k,∃ h:k<ls.length,idx ln ls=k∧ls[k].1=ln∧∀ j (hj:j<ls.length),j<k→ls[j].1≠ln:=by
 cases h:ls.findIdx? (fun x=>x.1==ln) with
 | none=>
  left
  have h2:=h;rw [List.findIdx?_eq_none_iff] at h2;exact ⟨by rw [idx,h],fun j hj=>by simpa using h2 _ (List.getElem_mem hj)⟩
 | some k=>
  right
  have h2:=h;rw [List.findIdx?_eq_some_iff_getElem] at h2;obtain ⟨hk,h1,h3⟩:=h2;exact ⟨k,hk,by rw [idx,h],by simpa using h1,fun j hj hlt=>by simpa using h3 j hlt⟩
def fe:Nat→(Nat→Int)→Int
 | 0,_=>0
 | n+1,f=>if fe n f≠0 then fe n f else f n
theorem Qt (n:Nat) (f:Nat→Int) (h:∀ j,j<n→f j=0):fe n f=0:=by
 induction n with
 | zero=>rfl
 | succ n ih=>simp [fe,ih (fun j hj=>h j (by omega)),h n (by omega)]
theorem Zbe (n k:Nat) (f:Nat→Int) (hk:k<n) (h0:f k≠0) (h:∀ j,j<k→f j=0):fe n f=f k:=by
 induction n with
 | zero=>omega
 | succ n ih=>
  by_cases e:k=n
  ·subst e;simp [fe,Qt k f h]
  ·have:=ih (by omega)
   simp [fe,this,h0]
theorem Zx {f:Nat→Int} (h:fe n f=0):∀ j,j<n→f j=0:=by
 induction n with
 | zero=>intro j hj;omega
 | succ n ih=>
  simp only [fe] at h;by_cases e:fe n f=0
  ·simp [e] at h
   intro j hj;by_cases e2:j=n
   ·subst e2;exact h
   ·exact ih e j (by omega)
  ·simp [e] at h
def Zcd (ls:List (Int×Bool)) (i:Nat) (num sets:Int):Int:=
 match ls[i]? with
 | none=>0
 | some x=>
  if inR x.1 0 1000=false then 3
  else if x.1=0 then (if x.2 then 1 else 0)
  else if x.1%sets≠num then 4
  else if 0≤idx x.1 (ls.take i) then 6
  else if 0≤idx 0 (ls.take i) then 4
  else 0
def Qr (C:List (List (Int×Bool))):Int:=
 if inR C.length 1 4=false then 3
 else if C.any (fun l=>!inR l.length 1 3) then 3
 else if C.any (fun l=>l.length != (C.headD []).length) then 1
 else 0
def Zkr (C:List (List (Int×Bool))) (j:Nat):Int:=fe (C.getD j []).length fun i=>Zcd (C.getD j []) i j C.length
def ck (C:List (List (Int×Bool))):Int:=if Qr C≠0 then Qr C else fe C.length (Zkr C)
def wb (d:Bool):Int:=if d then 5 else 0
theorem Zhs (d:Bool):0≤wb d∧wb d≤5:=by cases d<;>simp [wb]
def Qp (ls:List (Int×Bool)) (ln:Int) (wr:Bool):List (Int×Bool)×Int:=
 match ls.findIdx? (fun x=>x.1==ln) with
 | some k=>(((ls.getD k (0,false)).1,(ls.getD k (0,false)).2||wr)::ls.eraseIdx k,1)
 | none=>((ln,wr)::ls.dropLast,10+wb (ls.getLastD (0,false)).2)
end Go.Proofs.YtejhccmclanlmaaGreatDoor
namespace Go.Proofs.YtejhccmclanlmaaGreatDoor
open Go.RowKit Go.Proofs.Tryz
variable {ls:List (Int×Bool)} {b n:Nat} {a:Option Addr} {w w':World}
theorem br:Below n w w:=Below.refl n w
abbrev RB (v:Value) (w:World) (e:Ending) (w':World):Prop:=e=.returned v∧Below w.heap.size w w'
theorem Yh {a b:Bool} (h:a=b):Ending.returned (.bool a)=.returned (.bool b):=by rw [h]
theorem Zh {k:IntKind} {a b:Int} (h:a=b):Ending.returned (.int k a)=.returned (.int k b):=by rw [h]
theorem hid {p:Prop} (h:p):Hid p:=h
theorem Zg {B:Nat} {p:Addr} {v:Value} (h:Below B w w') (hc:w.cell? p=some v) (hB:w.heap.size≤B):w'.cell? p=some v:=by
 rw [h.cell (Nat.lt_of_lt_of_le (World.block_lt_of_cell? _ _ hc) hB)];exact hc
theorem Zb {w1 w2:World} (h:Below w.heap.size w w1) (k:Below w1.heap.size w1 w2):Below w.heap.size w w2:=h.trans (k.mono h.size)
theorem Zs (n l m:Int) (w:World):
  Calls prog 34 #[.int .i64 n,.int .i64 l,.int .i64 m] w fun e w'=>e=.returned (.bool (inR n l m))∧w=w':=by
 go_enter func34,ntmps34;go_wp2
 all_goals go_ret
 all_goals refine ⟨Yh ?_,rfl⟩
 all_goals (simp [inR];try omega)
theorem Zsg (l ln:Int) (d:Bool) (b o:Nat) (w:World) (h:w.cell? ⟨b,o,none⟩=some (.int .i64 ln)):
  Calls prog 143 #[.agg #[.int .i64 l,.bool d],.pointer (some ⟨b,o,none⟩)] w (RB (.bool (l==ln)) w):=by
 have hb:b<w.heap.size:=World.block_lt_of_cell? _ _ h;go_enter func143,ntmps143;go_wp2;go_ret;exact ⟨rfl,br.alloc lr _⟩
def J7 (w:World) (a:Option Addr) (ls:List (Int×Bool)):Prop:=
 ∀ i (h:i<ls.length),∃ b o,a=some ⟨b,o,none⟩∧w.cell? ⟨b,o+i*2,none⟩=some (.int .i64 ls[i].1)∧w.cell? ⟨b,o+i*2+1,none⟩=some (.bool ls[i].2)
theorem J7.keep (h:J7 w a ls) (hb:Below w.heap.size w w'):J7 w' a ls:=by
 intro i hi;obtain ⟨b,o,e,h1,h2⟩:=h i hi;exact ⟨b,o,e,Zg hb h1 lr,Zg hb h2 lr⟩
theorem Zm3 (a:Option Addr) (ls:List (Int×Bool)) (cap:Nat) (ln:Int) (b o:Nat) (w:World) (h:w.cell? ⟨b,o,none⟩=some (.int .i64 ln)) (hw:J7 w a ls) (hl:ls.length≤9223372036854775807):
  Calls prog 142 #[.slice a ls.length cap,.func (.func 143) #[] #[.pointer (some ⟨b,o,none⟩)]] w (RB (.int .i64 (idx ln ls)) w):=by
 have hb:b<w.heap.size:=World.block_lt_of_cell? _ _ h;go_enter func142,ntmps142;go_wp2;go_loopw [8] (fun i wr=>∃ k:Nat,k≤ls.length∧i=.int .i64 k∧Below w.heap.size w wr∧∀ j (hj:j<ls.length),j<k→ls[j].1≠ln) (fun i _=>ls.length-(intOf i).toNat)
 case atStart=>exact ⟨0,zl,rfl,br,by omega⟩
 case round=>
  obtain ⟨k,hk,rfl,a0,a3⟩:=hrel;have a2:=a3;replace a2:Hid (∀ j (hj:j<ls.length),j<k→ls[j].1≠ln):=a3;clear a3;by_cases hlt:k<ls.length
  ·obtain ⟨b',o',rfl,a5,a6⟩:=hw k hlt
   have a7:=Zg a0 a5 lr;have a8:=Zg a0 a6 lr;have h':=Zg a0 h lr;go_wp2_with fail;refine (Zsg _ ln _ b o _ h').mono ?_;rintro e w' ⟨rfl,a4⟩;by_cases hx:ls[k].1=ln
   ·have a1:(ls[k].1==ln)=true:=by simp [hx]
    rw [a1];have HX:Hid (ls[k].1=ln):=hx;clear hx a1;go_wp2;go_ret;exact ⟨Zh (Zyg ln ls k hlt HX a2.out).symm,Zb a0 a4⟩
   ·have a1:(ls[k].1==ln)=false:=by simp [hx]
    rw [a1];have HX:Hid (ls[k].1≠ln):=hx;clear hx a1;go_wp2;go_roundw
    case rel=>
     refine ⟨k+1,by omega,by go_num,Zb a0 a4,fun j hj hlt2=>?_⟩;by_cases e:j=k
     ·subst e;exact HX.out
     ·exact a2.out j hj (by omega)
    case measure=>simp [intOf];omega
  ·go_wp2
   go_ret;exact ⟨Zh (Ztl ln ls (fun j hj=>a2.out j hj (by omega))).symm,a0⟩
theorem Qk (a:Option Addr) (ls:List (Int×Bool)) (cap:Nat) (ln:Int) (w:World) (hw:J7 w a ls) (hl:ls.length≤9223372036854775807):
  Calls prog 105 #[.slice a ls.length cap,.int .i64 ln] w (RB (.int .i64 (idx ln ls)) w):=by
 go_enter func105,ntmps105;go_wp2_with fail;have h1:Below w.heap.size w (w.alloc (.cells #[.int .i64 ln] 3)):=br.alloc lr _;refine (Zm3 a ls cap ln w.heap.size 0 _ (by simp) (hw.keep h1) hl).mono ?_;rintro e w' ⟨rfl,a0⟩;go_wp2;go_ret;exact ⟨rfl,Zb h1 a0⟩
theorem J7.take (h:J7 w a ls) (k:Nat):J7 w a (ls.take k):=by
 intro i hi
 have:i<ls.length:=by simp at hi;omega
 obtain ⟨b,o,e,h1,h2⟩:=h i this;exact ⟨b,o,e,by simpa using h1,by simpa using h2⟩
theorem Zk1 (a:Option Addr) (ls:List (Int×Bool)) (k cap:Nat) (ln:Int) (w:World) (hw:J7 w a ls) (hk:k≤ls.length) (hl:ls.length≤9223372036854775807):
  Calls prog 105 #[.slice a k cap,.int .i64 ln] w (RB (.int .i64 (idx ln (ls.take k))) w):=by
 have e:(ls.take k).length=k:=by simp;omega
 have:=Qk a (ls.take k) cap ln w (hw.take k) (by omega)
 rw [e] at this;exact this
theorem Zlm (b o:Nat) (ls:List (Int×Bool)) (cap i:Nat) (num sets:Int) (w:World) (hw:J7 w (some ⟨b,o,none⟩) ls) (hi:i<ls.length) (hcap:ls.length≤cap) (hl:ls.length≤9223372036854775807) (hs:1≤sets) (hs2:sets≤4):
  Calls prog 73 #[.slice (some ⟨b,o,none⟩) ls.length cap,.int .i64 i,.int .i64 num,.int .i64 sets] w fun e w'=>e=.returned (.int .i64 (Zcd ls i num sets))∧Below w.heap.size w w':=by
 obtain ⟨b',o',e,h1,h2⟩:=hw i hi;simp only [Option.some.injEq,Addr.mk.injEq,and_true] at e;obtain ⟨rfl,rfl⟩:=e;have a8:(i:Int)<(ls.length:Int):=by omega
 have a2:(ls.length:Int)≤(cap:Int):=by omega
 have a3:(i:Int)≤(cap:Int):=by omega
 generalize hx:ls[i]=x at h1 h2;obtain ⟨l,d⟩:=x;have Hx:Hid (ls[i]? = some (l,d)):=by show ls[i]? = _;rw [List.getElem?_eq_getElem hi,hx]
 clear hx;simp only at h1 h2;go_enter func73,ntmps73;go_wp2;go_quiet (fail)
 go_wp2_with fail;refine (Zs _ _ _ _).mono ?_;rintro e w' ⟨rfl,rfl⟩;have a0:Below w.heap.size w (w.drewN nq):=below_drewN br nq
 cases hr:inR l 0 1000 with
 | false=>
  go_wp2;go_ret;exact ⟨Zh (by rw [Zcd,Hx.out];simp [hr]),a0⟩
 | true=>
  have Hr:Hid (inR l 0 1000=true):=hr;have a6:0≤l∧l≤1000:=by simpa [inR] using hr
  obtain ⟨a9,aa⟩:=a6;clear hr;by_cases hz:l=0
  ·subst hz
   cases d with
   | false=>
    go_wp2;go_ret;exact ⟨Zh (by rw [Zcd,Hx.out];simp [Hr.out]),a0⟩
   | true=>
    go_wp2;go_ret;exact ⟨Zh (by rw [Zcd,Hx.out];simp [Hr.out]),a0⟩
  ·have ab:(l==0)=false:=by simp [hz]
   have a4:=hw.keep a0;have Hz:Hid (¬ l=0):=hz;clear hz;by_cases hm:l%sets=num
   ·have a7:(l%sets != num)=false:=by simp [hm]
    have Hm:Hid (l%sets=num):=hm;clear hm;go_wp2_with fail;refine (Zk1 _ ls i cap _ _ a4 (by omega) hl).mono ?_;rintro e w1 ⟨rfl,a1⟩;by_cases h6:0≤idx l (ls.take i)
    ·go_wp2
     go_ret;exact ⟨Zh (by rw [Zcd,Hx.out];simp [Hr.out,Hz.out,Hm.out,h6]),Zb a0 a1⟩
    ·have ac:¬ idx l (ls.take i)≥0:=h6
     go_wp2_with fail;refine (Zk1 _ ls i cap _ _ (a4.keep a1) (by omega) hl).mono ?_;rintro e w2 ⟨rfl,a5⟩;by_cases h4:0≤idx 0 (ls.take i)
     ·go_wp2
      go_ret;exact ⟨Zh (by rw [Zcd,Hx.out];simp [Hr.out,Hz.out,Hm.out];rw [if_neg (by omega),if_pos (by omega)]),Zb a0 (Zb a1 a5)⟩
     ·go_wp2
      go_ret;exact ⟨Zh (by rw [Zcd,Hx.out];simp [Hr.out,Hz.out,Hm.out];rw [if_neg (by omega),if_neg (by omega)]),Zb a0 (Zb a1 a5)⟩
   ·have a7:(l%sets != num)=true:=by simp [hm]
    have Hm:Hid (¬ l%sets=num):=hm;clear hm;go_wp2;go_ret;exact ⟨Zh (by rw [Zcd,Hx.out];simp [Hr.out,Hz.out,Hm.out]),a0⟩
def Z8 (w:World) (a:Option Addr) (C:List (List (Int×Bool))):Prop:=
 ∀ j (h:j<C.length),∃ b o a' cap,a=some ⟨b,o,none⟩∧w.cell? ⟨b,o+j,none⟩=some (.slice a' C[j].length cap)∧J7 w a' C[j]∧C[j].length≤cap∧C[j].length≤9223372036854775807
theorem Z8.keep {C:List (List (Int×Bool))} (h:Z8 w a C) (hb:Below w.heap.size w w'):Z8 w' a C:=by
 intro i hi;obtain ⟨b,o,a',a0,e,h1,h2,h3,h4⟩:=h i hi;exact ⟨b,o,a',a0,e,Zg hb h1 lr,h2.keep hb,h3,h4⟩
theorem Zo6 (a:Option Addr) (n cap:Nat) (hn:n≤9223372036854775807) (w:World):
  Calls prog 103 #[.slice a n cap] w (RB (.bool (!inR n 1 3)) w):=by
 go_enter func103,ntmps103;go_wp2_with fail;refine (Zs _ _ _ _).mono ?_;rintro e w' ⟨rfl,rfl⟩;go_wp2;go_ret;exact ⟨rfl,br⟩
theorem Zqa (a:Option Addr) (n cap:Nat) (hn:n≤9223372036854775807) (pb po b o N Ncap:Nat) (a':Option Addr) (n' cap':Nat) (hn':n'≤9223372036854775807) (w:World)
  (h1:w.cell? ⟨pb,po,none⟩=some (.slice (some ⟨b,o,none⟩) N Ncap)) (hN:0<(N:Int)) (h2:w.cell? ⟨b,o,none⟩=some (.slice a' n' cap')) :
  Calls prog 104 #[.slice a n cap,.pointer (some ⟨pb,po,none⟩)] w fun e w'=>e=.returned (.bool (n != n'))∧Below w.heap.size w w':=by
 go_enter func104,ntmps104;go_wp2;go_ret;exact ⟨Yh (by rw [Bool.eq_iff_iff];simp;omega),br⟩
theorem Zpm (p:List (Int×Bool)→Bool) (a:Option Addr) (C:List (List (Int×Bool))) (cap:Nat) (w:World) (hw:Z8 w a C) (hl:C.length≤9223372036854775807)
  (hF:∀ (ls:List (Int×Bool)) (a':Option Addr) (cap':Nat) (wr:World),ls∈C→ls.length≤9223372036854775807→Below w.heap.size w wr→Calls prog 103 #[.slice a' ls.length cap'] wr (RB (.bool (p ls)) wr)) :
  Calls prog 141 #[.slice a C.length cap,.func (.func 103) #[] #[]] w fun e w'=>(∃ r:Int,e=.returned (.int .i64 r)∧(0≤r↔C.any p=true))∧Below w.heap.size w w':=by
 have HF:=hid hF;clear hF;go_enter func141,ntmps141;go_wp2;go_loopw [8] (fun i wr=>∃ k:Nat,k≤C.length∧i=.int .i64 k∧Below w.heap.size w wr∧∀ j (hj:j<C.length),j<k→p C[j]=false) (fun i _=>C.length-(intOf i).toNat)
 case atStart=>exact ⟨0,zl,rfl,br,by omega⟩
 case round=>
  obtain ⟨k,hk,rfl,a0,a4⟩:=hrel;have a5:Hid (∀ j (hj:j<C.length),j<k→p C[j]=false):=a4;clear a4;by_cases hlt:k<C.length
  ·obtain ⟨b',o',a2,a1,rfl,a7,aa,a8,a3⟩:=hw k hlt
   have a9:=Zg a0 a7 lr;go_wp2_with fail;refine (HF.out C[k] a2 a1 _ (List.getElem_mem hlt) a3 a0).mono ?_;rintro e w' ⟨rfl,a6⟩
   cases hx:p C[k] with
   | true=>
    have HX:=hid hx;clear hx;go_wp2;go_ret;refine ⟨⟨k,rfl,?_⟩,Zb a0 a6⟩;exact ⟨fun _=>List.any_eq_true.2 ⟨_,List.getElem_mem hlt,HX.out⟩,fun _=>by omega⟩
   | false=>
    have HX:=hid hx;clear hx;go_wp2;go_roundw
    case rel=>
     refine ⟨k+1,by omega,by go_num,Zb a0 a6,fun j hj hlt2=>?_⟩;by_cases e:j=k
     ·subst e;exact HX.out
     ·exact a5.out j hj (by omega)
    case measure=>simp [intOf];omega
  ·go_wp2
   go_ret;refine ⟨⟨-1,rfl,?_⟩,a0⟩;refine ⟨fun h=>absurd h (by omega),fun h=>?_⟩;obtain ⟨x,hx,hp⟩:=List.any_eq_true.1 h;obtain ⟨j,hj,rfl⟩:=List.getElem_of_mem hx;rw [a5.out j hj (by omega)] at hp;exact absurd hp (by simp)
theorem Zjt (p:List (Int×Bool)→Bool) (a:Option Addr) (C:List (List (Int×Bool))) (cap:Nat) (w:World) (hw:Z8 w a C) (hl:C.length≤9223372036854775807)
  (hF:∀ (ls:List (Int×Bool)) (a':Option Addr) (cap':Nat) (wr:World),ls∈C→ls.length≤9223372036854775807→Below w.heap.size w wr→Calls prog 103 #[.slice a' ls.length cap'] wr fun e w'=>e=.returned (.bool (p ls))∧Below wr.heap.size wr w') :
  Calls prog 102 #[.slice a C.length cap,.func (.func 103) #[] #[]] w fun e w'=>e=.returned (.bool (C.any p))∧Below w.heap.size w w':=by
 have HF:=hid hF;clear hF;go_enter func102,ntmps102;go_wp2_with fail;refine (Zpm p  a C cap _ hw hl HF).mono ?_;rintro e w' ⟨⟨r,rfl,hr⟩,hb⟩;have HR:=hid hr;clear hr;go_wp2;go_ret;exact ⟨Yh (by rw [Bool.eq_iff_iff];simpa using HR.out),hb⟩
theorem Zpd (p:List (Int×Bool)→Bool) (pb po:Nat) (a:Option Addr) (C:List (List (Int×Bool))) (cap:Nat) (w:World) (hw:Z8 w a C) (hl:C.length≤9223372036854775807)
  (hF:∀ (ls:List (Int×Bool)) (a':Option Addr) (cap':Nat) (wr:World),ls∈C→ls.length≤9223372036854775807→Below w.heap.size w wr→Calls prog 104 #[.slice a' ls.length cap',.pointer (some ⟨pb,po,none⟩)] wr (RB (.bool (p ls)) wr)) :
  Calls prog 141 #[.slice a C.length cap,.func (.func 104) #[] #[.pointer (some ⟨pb,po,none⟩)]] w fun e w'=>(∃ r:Int,e=.returned (.int .i64 r)∧(0≤r↔C.any p=true))∧Below w.heap.size w w':=by
 have HF:=hid hF;clear hF;go_enter func141,ntmps141;go_wp2;go_loopw [8] (fun i wr=>∃ k:Nat,k≤C.length∧i=.int .i64 k∧Below w.heap.size w wr∧∀ j (hj:j<C.length),j<k→p C[j]=false) (fun i _=>C.length-(intOf i).toNat)
 case atStart=>exact ⟨0,zl,rfl,br,by omega⟩
 case round=>
  obtain ⟨k,hk,rfl,a0,a4⟩:=hrel;have a5:Hid (∀ j (hj:j<C.length),j<k→p C[j]=false):=a4;clear a4;by_cases hlt:k<C.length
  ·obtain ⟨b',o',a2,a1,rfl,a7,aa,a8,a3⟩:=hw k hlt
   have a9:=Zg a0 a7 lr;go_wp2_with fail;refine (HF.out C[k] a2 a1 _ (List.getElem_mem hlt) a3 a0).mono ?_;rintro e w' ⟨rfl,a6⟩
   cases hx:p C[k] with
   | true=>
    have HX:=hid hx;clear hx;go_wp2;go_ret;refine ⟨⟨k,rfl,?_⟩,Zb a0 a6⟩;exact ⟨fun _=>List.any_eq_true.2 ⟨_,List.getElem_mem hlt,HX.out⟩,fun _=>by omega⟩
   | false=>
    have HX:=hid hx;clear hx;go_wp2;go_roundw
    case rel=>
     refine ⟨k+1,by omega,by go_num,Zb a0 a6,fun j hj hlt2=>?_⟩;by_cases e:j=k
     ·subst e;exact HX.out
     ·exact a5.out j hj (by omega)
    case measure=>simp [intOf];omega
  ·go_wp2
   go_ret;refine ⟨⟨-1,rfl,?_⟩,a0⟩;refine ⟨fun h=>absurd h (by omega),fun h=>?_⟩;obtain ⟨x,hx,hp⟩:=List.any_eq_true.1 h;obtain ⟨j,hj,rfl⟩:=List.getElem_of_mem hx;rw [a5.out j hj (by omega)] at hp;exact absurd hp (by simp)
theorem Zi5 (p:List (Int×Bool)→Bool) (pb po:Nat) (a:Option Addr) (C:List (List (Int×Bool))) (cap:Nat) (w:World) (hw:Z8 w a C) (hl:C.length≤9223372036854775807)
  (hF:∀ (ls:List (Int×Bool)) (a':Option Addr) (cap':Nat) (wr:World),ls∈C→ls.length≤9223372036854775807→Below w.heap.size w wr→Calls prog 104 #[.slice a' ls.length cap',.pointer (some ⟨pb,po,none⟩)] wr fun e w'=>e=.returned (.bool (p ls))∧Below wr.heap.size wr w') :
  Calls prog 102 #[.slice a C.length cap,.func (.func 104) #[] #[.pointer (some ⟨pb,po,none⟩)]] w fun e w'=>e=.returned (.bool (C.any p))∧Below w.heap.size w w':=by
 have HF:=hid hF;clear hF;go_enter func102,ntmps102;go_wp2_with fail;refine (Zpd p pb po a C cap _ hw hl HF).mono ?_;rintro e w' ⟨⟨r,rfl,hr⟩,hb⟩;have HR:=hid hr;clear hr;go_wp2;go_ret;exact ⟨Yh (by rw [Bool.eq_iff_iff];simpa using HR.out),hb⟩
theorem Zhp (a:Option Addr) (C:List (List (Int×Bool))) (cap:Nat) (w:World) (hw:Z8 w a C) (hl:C.length≤9223372036854775807):
  Calls prog 72 #[.slice a C.length cap] w fun e w'=>e=.returned (.int .i64 (Qr C))∧Below w.heap.size w w':=by
 have h1:Below w.heap.size w (w.alloc (.cells #[.slice a C.length cap] 70)):=br.alloc lr _;have a6:=hw.keep h1;go_enter func72,ntmps72;go_wp2_with fail;refine (Zs _ _ _ _).mono ?_;rintro e w' ⟨rfl,rfl⟩
 cases hr:inR C.length 1 4 with
 | false=>
  go_wp2;go_ret;exact ⟨Zh (by simp [Qr,hr]),h1⟩
 | true=>
  have HR:=hid hr;have a0:0<C.length:=by simp [inR] at hr;omega
  clear hr;go_wp2_with fail;refine (Zjt (fun l=>!inR l.length 1 3) a C cap _ a6 hl (fun ls a' cap' wr _ hls _=>Zo6 a' ls.length cap' hls wr)).mono ?_;rintro e w2 ⟨rfl,a1⟩
  cases hr2:C.any (fun l=>!inR l.length 1 3) with
  | true=>
   go_wp2;go_ret;exact ⟨Zh (by simp only [Qr,HR.out,hr2];simp),Zb h1 a1⟩
  | false=>
   have a7:=hid hr2;clear hr2;have hc:(w.alloc (.cells #[.slice a C.length cap] 70)).cell? ⟨w.heap.size,0,none⟩=some (.slice a C.length cap):=by simp
   have aa:=Zg a1 hc (by simp);have a8:=a6.keep a1;obtain ⟨b',o',a2,a4,rfl,ab,ad,ac,a5⟩:=a8 0 a0;have a3:0<(C.length:Int):=by omega
   have H0:Hid ((C.headD []).length=C[0].length):=by
    cases C with
    | nil=>simp at a0
    | cons x r=>rfl
   go_wp2_with fail;refine (Zi5 (fun l=>l.length != C[0].length) w.heap.size 0 _ C cap _ a8 hl (fun ls a' cap' wr _ hls hwr=>
    Zqa a' ls.length cap' hls w.heap.size 0 b' o' C.length cap a2 C[0].length a4 a5 wr (Zg hwr aa lr) a3 (Zg hwr (by simpa using ab) lr))).mono ?_
   rintro e w3 ⟨rfl,a9⟩
   cases hr3:C.any (fun l=>l.length != C[0].length) with
   | true=>
    go_wp2;go_ret;exact ⟨Zh (by simp only [Qr,HR.out,a7.out,H0.out,hr3];simp),Zb h1 (Zb a1 a9)⟩
   | false=>
    go_wp2;go_ret;exact ⟨Zh (by simp only [Qr,HR.out,a7.out,H0.out,hr3];simp),Zb h1 (Zb a1 a9)⟩
theorem Zk0 (C:List (List (Int×Bool))) (j:Nat) (h:j<C.length):Zkr C j=fe C[j].length fun i=>Zcd C[j] i j C.length:=by
 have e:C.getD j []=C[j]:=by simp [h]
 rw [Zkr,e]
theorem Zea (a:Option Addr) (C:List (List (Int×Bool))) (cap:Nat) (w:World) (hw:Z8 w a C) (hl:C.length≤9223372036854775807):
  Calls prog 47 #[.agg #[.slice a C.length cap]] w fun e w'=>e=.returned (.int .i64 (ck C))∧Below w.heap.size w w':=by
 have h1:Below w.heap.size w (w.alloc (.cells #[.slice a C.length cap] 72)):=br.alloc lr _;have a7:=hw.keep h1;have hc:(w.alloc (.cells #[.slice a C.length cap] 72)).cell? ⟨w.heap.size,0,none⟩=some (.slice a C.length cap):=by simp
 go_enter func47,ntmps47;go_wp2_with fail;refine (Zhp a C cap _ a7 hl).mono ?_;rintro e w2 ⟨rfl,a3⟩;by_cases hs:Qr C=0
 ·have HS:=hid hs
  have a4:(C.length:Int)≤4∧(1:Int)≤C.length:=by
   unfold Qr at hs
   split at hs
   ·omega
   ·rename_i h;simp [inR] at h;omega
  obtain ⟨ag,ah⟩:=a4;rw [hs];clear hs;have ai:=Zg a3 hc (by simp);have aj:=a7.keep a3;have h2:=Zb h1 a3;clear a7 a3 h1 hc;go_wp2;go_loopw [17] (fun i wr=>∃ k:Nat,k≤C.length∧i=.int .i64 k∧Below w2.heap.size w2 wr∧∀ j,j<k→Zkr C j=0) (fun i _=>C.length-(intOf i).toNat)
  case atStart=>exact ⟨0,zl,rfl,br,by omega⟩
  case round=>
   obtain ⟨k,hk,rfl,a1,ad⟩:=hrel;have a8:=hid ad;clear ad;have ak:=Zg a1 ai lr;by_cases hlt:k<C.length
   ·obtain ⟨b',o',a2,a9,rfl,al,ae,aa,ab⟩:=aj k hlt
    have am:=Zg a1 al lr;have ac:=ae.keep a1;go_wp2;go_loopw [24] (fun i wi=>∃ m:Nat,m≤C[k].length∧i=.int .i64 m∧Below wr.heap.size wr wi∧∀ j,j<m→Zcd C[k] j k C.length=0) (fun i _=>C[k].length-(intOf i).toNat)
    case atStart=>exact ⟨0,zl,rfl,br,by omega⟩
    case round=>
     obtain ⟨m,hm,rfl,a5,a6⟩:=hrel;have a0:=hid a6;clear a6;by_cases hlm:m<C[k].length
     ·obtain ⟨b2,o2,e2,ao,ap⟩:=ae m hlm
      subst e2;have aq:=Zg a5 ak lr;go_wp2_with fail;refine (Zlm b2 o2 C[k] a9 m k C.length _ (ac.keep a5) hlm aa ab ah ag).mono ?_;rintro e w5 ⟨rfl,af⟩;by_cases hx:Zcd C[k] m k C.length=0
      ·have HX:=hid hx
       rw [hx];clear hx;go_wp2;go_roundw
       case rel=>
        refine ⟨m+1,by omega,by go_num,Zb a5 af,fun j hj=>?_⟩;by_cases e:j=m
        ·subst e;exact HX.out
        ·exact a0.out j (by omega)
       case measure=>simp [intOf];omega
      ·have HX:=hid hx
       have ar:(Zcd C[k] m k C.length != 0)=true:=by simp [hx]
       have an:Hid (ck C=Zcd C[k] m k C.length):=by
        have e1:Zkr C k=Zcd C[k] m k C.length:=by
         rw [Zk0 C k hlt];exact Zbe _ m _ hlm hx (fun j hj=>a0.out j hj)
        show ck C=_
        rw [ck,HS.out];simp only [ne_eq,not_true_eq_false,if_false];rw [Zbe C.length k (Zkr C) hlt (by rw [e1];exact hx) (fun j hj=>a8.out j hj),e1]
       clear hx;generalize Zcd C[k] m k C.length=q at *
       go_wp2;go_ret;exact ⟨Zh an.out.symm,Zb h2 (Zb a1 (Zb a5 af))⟩
     ·go_wp2
      go_roundw
      case rel=>
       refine ⟨k+1,by omega,by go_num,Zb a1 a5,fun j hj=>?_⟩;by_cases e:j=k
       ·subst e
        rw [Zk0 C j hlt];exact Qt _ _ (fun i hi=>a0.out i (by omega))
       ·exact a8.out j (by omega)
      case measure=>simp [intOf];omega
   ·go_wp2
    go_ret;exact ⟨Zh (by rw [ck,HS.out];simp [Qt C.length _ (fun j hj=>a8.out j (by omega))]),Zb h2 a1⟩
 ·have HS:Hid (ck C=Qr C):=by show ck C=_;rw [ck];simp [hs]
  have au:(Qr C != 0)=true:=by simp [hs]
  clear hs;generalize Qr C=q at *
  go_wp2;go_ret;exact ⟨Zh HS.out.symm,Zb h1 a3⟩
def flat (ls:List (Int×Bool)):List Value:=ls.flatMap fun x=>[.int .i64 x.1,.bool x.2]
theorem Zeb (ls:List (Int×Bool)):(flat ls).length=ls.length*2:=by
 induction ls with
 | nil=>rfl
 | cons x r ih=>simp only [flat,List.flatMap_cons,List.length_append,List.length_cons,List.length_nil] at *;omega
theorem Zmt (ls:List (Int×Bool)) (i:Nat) (h:i<ls.length):(flat ls)[i*2]? = some (.int .i64 ls[i].1)∧(flat ls)[i*2+1]? = some (.bool ls[i].2):=by
 induction ls generalizing i with
 | nil=>simp at h
 | cons x r ih=>
  cases i with
  | zero=>simp [flat]
  | succ i=>
   have:=ih i (by simpa using h)
   have e1:(i+1)*2=i*2+2:=by omega
   simpa [flat,e1,List.getElem?_cons] using this
theorem Qj (ls:List (Int×Bool)):∀ u∈flat ls,u.oneCell'=true:=by
 intro u hu;simp only [flat,List.mem_flatMap,List.mem_cons,List.not_mem_nil,or_false] at hu;obtain ⟨x,_,rfl|rfl⟩:=hu<;>rfl
theorem Tryz.info125:(prog.info? 125).map (fun i=>(i.zero,i.size,i.bytes))=some (some (.agg #[.int .i64 0,.bool false]),2,16):=by kernel_rfl
theorem Zbk {P:Program} {t:TypeId} {z:Value} {sz:Nat} (h:(P.info? t).map (fun i=>(i.zero,i.size,i.bytes))=some (some z,sz,b)):
  ∃ i,P.info? t=some i∧i.zero=some z∧i.size=sz∧i.bytes=b:=by
 obtain ⟨i,hi,h0⟩:=Option.map_eq_some_iff.1 h;simp only [Prod.mk.injEq] at h0;exact ⟨i,hi,h0.1,h0.2.1,h0.2.2⟩
theorem J7.news {o:Nat} (h:J7 w (some ⟨b,o,none⟩) ls):∀ j u,(flat ls)[j]? = some u→w.cell? ((⟨b,o,none⟩:Addr).add j)=some u:=by
 intro j u hu;have hj:j<ls.length*2:=by rw [← Zeb];exact (List.getElem?_eq_some_iff.1 hu).1
 have a0:(⟨b,o,none⟩:Addr).add j=⟨b,o+j,none⟩:=by unfold Addr.add;split<;>simp_all
 rw [a0];have hi:j/2<ls.length:=by omega
 obtain ⟨b',o',e,h1,h2⟩:=h (j/2) hi;simp only [Option.some.injEq,Addr.mk.injEq,and_true] at e;obtain ⟨rfl,rfl⟩:=e;obtain ⟨f1,f2⟩:=Zmt ls (j/2) hi;by_cases hm:j%2=0
 ·have e:j/2*2=j:=by omega
  rw [e] at h1 f1;rw [hu] at f1;rw [h1,f1]
 ·have e:j/2*2+1=j:=by omega
  rw [e] at f2;have e2:o+j/2*2+1=o+j:=by omega
  rw [e2] at h2;rw [hu] at f2;rw [h2,f2]
theorem Zhq {base g cap:Nat} (h:w.ownsRow base 125 2 (.slice (some ⟨g,0,none⟩) n cap) n (flat ls)):J7 w (some ⟨g,0,none⟩) ls:=by
 intro i hi;obtain ⟨f1,f2⟩:=Zmt ls i hi;have c1:=h.cells (g:=g) rfl _ _ f1;have c2:=h.cells (g:=g) rfl _ _ f2;have a0:∀ j,(⟨g,0,none⟩:Addr).add j=⟨g,0+j,none⟩:=fun j=>by unfold Addr.add;split<;>simp_all
 rw [a0] at c1 c2;exact ⟨g,0,rfl,c1,by rw [Nat.add_assoc];exact c2⟩
theorem Znh (b o:Nat) (ls:List (Int×Bool)) (cap:Nat) (w:World) (hw:J7 w (some ⟨b,o,none⟩) ls) (hpos:0<ls.length) (hl:ls.length≤3):
  Calls prog 99 #[.slice (some ⟨b,o,none⟩) ls.length cap] w fun e w'=>∃ g cap',e=.returned (.slice (some ⟨g,0,none⟩) ls.length cap')∧w'.ownsRow w.heap.size 125 2 (.slice (some ⟨g,0,none⟩) ls.length cap') ls.length (flat ls)∧Below w.heap.size w w':=by
 have a3:=fun (w:World) (a:Option Addr) (n c:Nat)=>Lib.run_eql_slice_nil (P:=prog) w 123 125 a n c 0 0 underlying123
 obtain ⟨i,hi,hz,hs,a4⟩:=Zbk Tryz.info125;have h1:Below w.heap.size w (w.alloc (.cells #[] 125)):=br.alloc lr _;have a2:(w.alloc (.cells #[] 125)).ownsRow w.heap.size 125 2 (.slice (some ⟨w.heap.size,0,none⟩) 0 0) 0 []:=World.ownsRow_made w #[] 0 lr (by simp [maxLen]) rfl;have Hw:=hid (hw.keep h1).news;go_enter func99,ntmps99;go_wp2_with (at_builtin;refine wpList_append_lies _ rfl _ _ _ (by rfl) w.heap.size 125 i _ 2 16 underlying123 hi hz hs a4 rfl (by omega) (.slice (some ⟨w.heap.size,0,none⟩) 0 0) 0 [] (by rfl) a2 ⟨b,o,none⟩ ls.length cap (flat ls) (by rfl) (Zeb ls) Hw.out (Qj ls) hpos (by simp [maxLen];omega) (by omega) (by simp) (w.heap.size+1) (by simp) ?_);intro g cap' w1 a0 a1 a5 a6;go_wp2;go_ret;exact ⟨g,cap',rfl,a0,h1.grown a1 (by simp) (fun k hk=>by simp [Value.ownBlock] at hk;omega)⟩
theorem Zay (l:Int) (d:Bool) (w:World):
  Calls prog 48 #[.agg #[.int .i64 l,.bool d]] w (RB (.int .i64 (wb d)) w):=by
 cases d with
 | true=>
  go_enter func48,ntmps48;go_wp2;go_ret;exact ⟨rfl,br.alloc lr _⟩
 | false=>
  go_enter func48,ntmps48;go_wp2;go_ret;exact ⟨rfl,br.alloc lr _⟩
end Go.Proofs.YtejhccmclanlmaaGreatDoor
namespace Go.Proofs.YtejhccmclanlmaaGreatDoor
variable {F T:List Bool} {D e k:Nat}
structure Zm where
 s:Int
 w:Int
 d:Int
 p:Int
 q:Int
 sl:List (Int×Int)
 ow:List Int
 ch:List (Int×Int×Int)
 ta:List (Int×Int×Int×Int)
def isD (d x:Int):Bool:=inR x 0 (d-1)
def Zep (C:Zm):Int:=if inR C.s 1 4&&inR C.w 1 3&&inR C.d 1 4&&inR C.q 1 100 then 0 else 3
def Zlx (C:Zm):Int:=if inR C.p (2+5*C.s*C.w) 99 then 0 else 4
def Zc0 (C:Zm):Int:=if inR C.sl.length 1 6&&decide ((C.ow.length:Int)≤4)&&decide ((C.ch.length:Int)≤4)&&decide ((C.ta.length:Int)≤6) then 0 else 2
def Zpy (d:Int) (x:Int×Int):Int:=if isD d x.1 then (if inR x.2 100 1000 then 0 else 3) else 5
def Zg3 (C:Zm):Int:=fe C.sl.length fun i=>Zpy C.d (C.sl.getD i (0,0))
def Zvh (C:Zm):Int:=if C.ow.any fun o=>!isD C.d o then 5 else 0
def Zw3 (x y:Int×Int×Int):Bool:=y.1==x.1&&y.2.1==x.2.1
def Zhr (d:Int) (ls:List (Int×Int×Int)) (i:Nat):Int:=
 match ls[i]? with
 | none=>0
 | some x=>if isD d x.1&&isD d x.2.1 then (if x.1=x.2.1 then 1 else if inR x.2.2 1 4 then (if (ls.take i).any (Zw3 x) then 6 else 0) else 3) else 5
def Ze3 (C:Zm):Int:=fe C.ch.length (Zhr C.d C.ch)
def Zl3 (d:Int) (x:Int×Int×Int×Int):Int:=if isD d x.1 then (if inR x.2.1 1 5000&&inR x.2.2.1 1 x.2.1&&inR x.2.2.2 1 x.2.1 then 0 else 3) else 5
def Zfc (C:Zm):Int:=fe C.ta.length fun i=>Zl3 C.d (C.ta.getD i (0,0,0,0))
def ck7 (C:Zm):Nat→Int
 | 0=>Zep C
 | 1=>Zlx C
 | 2=>Zc0 C
 | 3=>Zg3 C
 | 4=>Zvh C
 | 5=>Ze3 C
 | 6=>Zfc C
 | _=>0
def ckC (C:Zm):Int:=fe 7 (ck7 C)
theorem Zat {α:Type} (ls:List α) (i:Nat) (h:i<ls.length) (z:α):ls.getD i z=ls[i]:=by simp [h]
theorem Zim {C:Zm} (h:Zep C=0):1≤C.s∧C.s≤4∧1≤C.w∧C.w≤3∧1≤C.d∧C.d≤4∧1≤C.q∧C.q≤100:=by
 unfold Zep at h
 split at h
 ·rename_i h2;simp [inR] at h2;omega
 ·omega
theorem Zy6 {C:Zm} (h:Zlx C=0):2+5*C.s*C.w≤C.p∧C.p≤99:=by
 unfold Zlx at h
 split at h
 ·rename_i h2;simpa [inR] using h2
 ·omega
theorem Zxw {C:Zm} (h:Zc0 C=0):1≤C.sl.length∧C.sl.length≤6∧C.ow.length≤4∧C.ch.length≤4∧C.ta.length≤6:=by
 unfold Zc0 at h
 split at h
 ·rename_i h2;simp [inR] at h2;omega
 ·omega
theorem Znz {d x:Int}:isD d x=true↔0≤x∧x<d:=by simp [isD,inR];omega
theorem Zzy {C:Zm} (h:Zg3 C=0):∀ x∈C.sl,0≤x.1∧x.1<C.d∧100≤x.2∧x.2≤1000:=by
 intro x hx;obtain ⟨j,hj,rfl⟩:=List.getElem_of_mem hx
 have:=Zx h j hj
 simp only [Zat _ _ hj,Zpy] at this
 split at this
 ·rename_i h1
  rw [Znz] at h1
  split at this
  ·rename_i h2;simp [inR] at h2;omega
  ·omega
 ·omega
theorem Zz2 {C:Zm} (h:Zvh C=0):∀ x∈C.ow,0≤x∧x<C.d:=by
 intro x hx;unfold Zvh at h
 split at h
 ·omega
 ·rename_i h2
  simp at h2;exact Znz.1 (h2 x hx)
theorem Zx0 {C:Zm} (h:Ze3 C=0):∀ x∈C.ch,0≤x.1∧x.1<C.d∧0≤x.2.1∧x.2.1<C.d∧1≤x.2.2∧x.2.2≤4:=by
 intro x hx;obtain ⟨j,hj,rfl⟩:=List.getElem_of_mem hx
 have:=Zx h j hj
 simp only [List.getElem?_eq_getElem hj,Zhr] at this
 split at this
 ·rename_i h1
  simp only [Bool.and_eq_true,Znz] at h1
  split at this
  ·omega
  ·split at this
   ·rename_i h2;simp [inR] at h2;omega
   ·omega
 ·omega
theorem Zzr {C:Zm} (h:Zfc C=0):∀ x∈C.ta,0≤x.1∧x.1<C.d∧1≤x.2.1∧x.2.1≤5000∧1≤x.2.2.1∧x.2.2.1≤x.2.1∧1≤x.2.2.2∧x.2.2.2≤x.2.1:=by
 intro x hx;obtain ⟨j,hj,rfl⟩:=List.getElem_of_mem hx
 have:=Zx h j hj
 simp only [Zat _ _ hj,Zl3] at this
 split at this
 ·rename_i h1
  rw [Znz] at h1
  split at this
  ·rename_i h2;simp [inR] at h2;omega
  ·omega
 ·omega
theorem Zcr {C:Zm} (h:ckC C=0):Zep C=0∧Zlx C=0∧Zc0 C=0∧Zg3 C=0∧Zvh C=0∧Ze3 C=0∧Zfc C=0:=
 ⟨Zx h 0 (by omega),Zx h 1 (by omega),Zx h 2 (by omega),Zx h 3 (by omega),Zx h 4 (by omega),Zx h 5 (by omega),Zx h 6 (by omega)⟩
def Zbc (L:List Int) (l m:Int):Bool:=L.all fun n=>inR n l m
theorem Ztt (L:List Int) (l m:Int):(!L.any fun n=>!inR n l m)=Zbc L l m:=by
 simp [Zbc,List.not_any_eq_all_not]
theorem Zkk {L:List Int} {l m:Int} (h:∀ j (hj:j<L.length),inR L[j] l m=true):Zbc L l m=true:=by
 rw [Zbc,List.all_eq_true];intro x hx;obtain ⟨j,hj,rfl⟩:=List.getElem_of_mem hx;exact h j hj
def ckR (V:List Int) (lost size:Int):Int:=
 if inR size 1 4=false then 3
 else if size<(V.length:Int) then 2
 else if Zbc V 0 255=false then 3
 else if inR lost 0 100000=false then 3
 else 0
theorem Zh7 {V:List Int} {lost size:Int} (h:ckR V lost size=0):(1≤size∧size≤4)∧(V.length:Int)≤size∧Zbc V 0 255=true∧0≤lost∧lost≤100000:=by
 unfold ckR at h
 split at h
 ·omega
 ·rename_i h1
  split at h
  ·omega
  ·split at h
   ·omega
   ·rename_i h3
    split at h
    ·omega
    ·rename_i h4
     simp [inR] at h1 h4;simp at h3;exact ⟨⟨h1.1,h1.2⟩,by omega,h3,h4.1,h4.2⟩
def Zkf (V L:List Int) (room k:Nat):List Int:=V++L.take (min k room)
def Zm6 (lost:Int) (room k:Nat):Int:=min (lost+((k-room:Nat):Int)) 100000
def hl (n:Int):List Int:=[n/256,n%256]
def enS (x:Int×Int):List Int:=x.1::hl x.2
def enC (x:Int×Int×Int):List Int:=[x.1,x.2.1,x.2.2]
def enT (x:Int×Int×Int×Int):List Int:=x.1::(hl x.2.1++hl x.2.2.1++hl x.2.2.2)
def en (C:Zm):List Int:=
 67::C.s::C.w::C.d::C.p::C.q::(C.sl.length:Int)::(C.sl.flatMap enS++(C.ow.length:Int)::(C.ow++(C.ch.length:Int)::(C.ch.flatMap enC++(C.ta.length:Int)::C.ta.flatMap enT)))
def u8s (l:List Int):List UInt8:=l.map fun n=>UInt8.ofNat n.toNat
def Zvd (l:List Int):ByteArray:=⟨(u8s l).toArray⟩
structure Zzf (C:Zm):Prop where
 s:1≤C.s∧C.s≤4
 w:1≤C.w∧C.w≤3
 d:1≤C.d∧C.d≤4
 p:0≤C.p∧C.p≤99
 q:1≤C.q∧C.q≤100
 l5:1≤C.sl.length∧C.sl.length≤6
 l6:C.ow.length≤4
 l7:C.ch.length≤4
 l8:C.ta.length≤6
 sl:∀ x∈C.sl,0≤x.1∧x.1≤3∧100≤x.2∧x.2≤1000
 ow:∀ x∈C.ow,0≤x∧x≤3
 ch:∀ x∈C.ch,0≤x.1∧x.1≤3∧0≤x.2.1∧x.2.1≤3∧1≤x.2.2∧x.2.2≤4
 ta:∀ x∈C.ta,0≤x.1∧x.1≤3∧1≤x.2.1∧x.2.1≤5000∧1≤x.2.2.1∧x.2.2.1≤5000∧1≤x.2.2.2∧x.2.2.2≤5000
theorem Zgr {C:Zm} (h:ckC C=0):Zzf C:=by
 obtain ⟨h1,h2,h3,h4,h5,h6,h7⟩:=Zcr h;have n:=Zim h1;have p:=Zy6 h2;have c:=Zxw h3;have hp:0≤5*C.s*C.w:=Int.mul_nonneg (by omega) (by omega);refine ⟨by omega,by omega,by omega,by omega,by omega,by omega,by omega,by omega,by omega,fun x hx=>?_,fun x hx=>?_,fun x hx=>?_,fun x hx=>?_⟩
 ·have:=Zzy h4 x hx;omega
 ·have:=Zz2 h5 x hx;omega
 ·have:=Zx0 h6 x hx;omega
 ·have:=Zzr h7 x hx;omega
theorem J3 (l:List (Int×Int)):(l.flatMap enS).length=3*l.length:=by
 induction l with
 | nil=>rfl
 | cons x l ih=>simp only [List.flatMap_cons,List.length_append,ih,List.length_cons];simp [enS,hl];omega
theorem Zdw (l:List (Int×Int×Int)):(l.flatMap enC).length=3*l.length:=by
 induction l with
 | nil=>rfl
 | cons x l ih=>simp only [List.flatMap_cons,List.length_append,ih,List.length_cons];simp [enC];omega
theorem Zkd (l:List (Int×Int×Int×Int)):(l.flatMap enT).length=7*l.length:=by
 induction l with
 | nil=>rfl
 | cons x l ih=>simp only [List.flatMap_cons,List.length_append,ih,List.length_cons];simp [enT,hl];omega
theorem Zn4 (C:Zm):(en C).length=10+3*C.sl.length+C.ow.length+3*C.ch.length+7*C.ta.length:=by
 simp only [en,List.length_cons,List.length_append,J3,Zdw,Zkd];omega
theorem Zi1 {C:Zm} (h:Zzf C):∀ x∈en C,0≤x∧x≤255:=by
 obtain ⟨s,w,d,p,q,l5,l6,l7,l8,sl,ow,ch,ta⟩:=h;intro x hx;simp only [en,List.mem_cons,List.mem_append,List.mem_flatMap] at hx;rcases hx with rfl|rfl|rfl|rfl|rfl|rfl|rfl|⟨y,hy,hx⟩|rfl|hx|rfl|⟨y,hy,hx⟩|rfl|⟨y,hy,hx⟩
 ·omega
 ·omega
 ·omega
 ·omega
 ·omega
 ·omega
 ·omega
 ·have:=sl y hy
  simp [enS,hl] at hx;omega
 ·omega
 ·have:=ow x hx;omega
 ·omega
 ·have:=ch y hy
  simp [enC] at hx;omega
 ·omega
 ·have:=ta y hy
  simp [enT,hl] at hx;omega
def orR (F T:List Bool):List Bool:=List.zipWith (· || ·) F T
def Zd3 (M:Nat→List Bool) (x:Int×Int×Int):Nat→List Bool:=fun i=>if i=x.1.toNat then orR (M x.1.toNat) (M x.2.1.toNat) else M i
def idM (D:Nat):Nat→List Bool:=fun i=>(List.replicate D false).set i true
def itM (ch:List (Int×Int×Int)) (M:Nat→List Bool):Nat→(Nat→List Bool)
 | 0=>M
 | n+1=>ch.foldl Zd3 (itM ch M n)
theorem Znb (h:F.length=T.length):(orR F T).length=T.length:=by simp [orR,h]
theorem Zll {M:Nat→List Bool} (h:∀ i,i<D→(M i).length=D) (x:Int×Int×Int) (h1:x.1.toNat<D) (h2:x.2.1.toNat<D):∀ i,i<D→(Zd3 M x i).length=D:=by
 intro i hi;unfold Zd3;split
 ·rw [Znb (by rw [h _ h1,h _ h2]),h _ h2]
 ·exact h i hi
theorem Zz8 {C:Zm} (h:Ze3 C=0):∀ x∈C.ch,x.1≠x.2.1:=by
 intro x hx;obtain ⟨j,hj,rfl⟩:=List.getElem_of_mem hx
 have:=Zx h j hj
 simp only [List.getElem?_eq_getElem hj,Zhr] at this
 split at this
 ·split at this
  ·omega
  ·assumption
 ·omega
def okW (j N:Int) (x:Int×Bool):Prop:=0≤x.1∧x.1≤1000∧(x.1=0→x.2=false)∧(x.1≠0→x.1%N=j)
def RW (a b:Int×Bool):Prop:=b.1≠0→a.1≠b.1∧a.1≠0
theorem Zdh (ln:Int) (ls:List (Int×Bool)):0≤idx ln ls↔∃ y∈ls,y.1=ln:=by
 rcases Zc2 ln ls with ⟨h,hn⟩|⟨k,hk,h,he,_⟩
 ·rw [h]
  refine ⟨fun h=>by omega,fun ⟨y,hy,e⟩=>?_⟩;obtain ⟨i,hi,rfl⟩:=List.getElem_of_mem hy;exact absurd e (hn i hi)
 ·rw [h]
  exact ⟨fun _=>⟨_,List.getElem_mem hk,he⟩,fun _=>by omega⟩
theorem Zbn (ls:List (Int×Bool)) (i:Nat) (j N:Int) (h:i<ls.length):
  Zcd ls i j N=0↔okW j N ls[i]∧(ls[i].1≠0→(∀ y∈ls.take i,y.1≠ls[i].1)∧∀ y∈ls.take i,y.1≠0):=by
 rw [Zcd,List.getElem?_eq_getElem h];generalize ls[i]=x;simp only;have e1:(0≤idx x.1 (ls.take i))↔∃ y∈ls.take i,y.1=x.1:=Zdh _ _;have e2:(0≤idx 0 (ls.take i))↔∃ y∈ls.take i,y.1=0:=Zdh _ _;by_cases hr:inR x.1 0 1000=false
 ·rw [if_pos hr]
  refine ⟨fun h=>by omega,fun ⟨⟨h1,h2,_⟩,_⟩=>?_⟩;simp [inR] at hr;omega
 ·rw [if_neg hr]
  have a0:0≤x.1∧x.1≤1000:=by simpa [inR] using hr
  by_cases hz:x.1=0
  ·rw [if_pos hz]
   cases hd:x.2 with
   | true=>
    simp only [if_true];refine ⟨fun h=>by omega,fun ⟨⟨_,_,h3,_⟩,_⟩=>?_⟩;rw [hd] at h3;simp [hz] at h3
   | false=>
    simp only [Bool.false_eq_true,if_false,true_iff];exact ⟨⟨a0.1,a0.2,fun _=>hd,fun h=>absurd hz h⟩,fun h=>absurd hz h⟩
  ·rw [if_neg hz]
   by_cases hm:x.1%N≠j
   ·rw [if_pos hm]
    exact ⟨fun h=>by omega,fun ⟨⟨_,_,_,h4⟩,_⟩=>absurd (h4 hz) hm⟩
   ·rw [if_neg hm]
    have a1:x.1%N=j:=by omega
    by_cases h6:0≤idx x.1 (ls.take i)
    ·rw [if_pos h6]
     obtain ⟨y,hy,e⟩:=e1.1 h6;exact ⟨fun h=>by omega,fun ⟨_,h⟩=>absurd e ((h hz).1 y hy)⟩
    ·rw [if_neg h6]
     by_cases h4:0≤idx 0 (ls.take i)
     ·rw [if_pos h4]
      obtain ⟨y,hy,e⟩:=e2.1 h4;exact ⟨fun h=>by omega,fun ⟨_,h⟩=>absurd e ((h hz).2 y hy)⟩
     ·rw [if_neg h4]
      simp only [true_iff];exact ⟨⟨a0.1,a0.2,fun h=>absurd h hz,fun _=>a1⟩,fun _=>⟨fun y hy e=>h6 (e1.2 ⟨y,hy,e⟩),fun y hy e=>h4 (e2.2 ⟨y,hy,e⟩)⟩⟩
theorem Znv (ls:List (Int×Bool)) (j N:Int):(∀ i,i<ls.length→Zcd ls i j N=0)↔(∀ x∈ls,okW j N x)∧ls.Pairwise RW:=by
 constructor
 ·intro h
  refine ⟨fun x hx=>?_,?_⟩
  ·obtain ⟨i,hi,rfl⟩:=List.getElem_of_mem hx
   exact ((Zbn ls i j N hi).1 (h i hi)).1
  ·rw [List.pairwise_iff_getElem]
   intro i k hi hk a1 hz
   have:=((Zbn ls k j N hk).1 (h k hk)).2 hz
   have hm:ls[i]∈ls.take k:=by
    rw [List.mem_iff_getElem];exact ⟨i,by simp;omega,by simp⟩
   exact ⟨this.1 _ hm,this.2 _ hm⟩
 ·rintro ⟨h1,h2⟩ i hi
  rw [Zbn ls i j N hi];refine ⟨h1 _ (List.getElem_mem hi),fun hz=>?_⟩;rw [List.pairwise_iff_getElem] at h2;refine ⟨fun y hy=>?_,fun y hy=>?_⟩
  all_goals
   rw [List.mem_iff_getElem] at hy;obtain ⟨k,hk,rfl⟩:=hy;have a0:k<i:=by simp at hk;omega
   have:=h2 k i (by omega) hi a0 hz
   simp only [List.getElem_take]
  ·exact this.1
  ·exact this.2
theorem Zne (ls:List (Int×Bool)) (l:Int) (wr:Bool) (j N:Int) (h1:∀ x∈ls,okW j N x) (h2:ls.Pairwise RW) (hl1:1≤l) (hl2:l≤1000) (hm:l%N=j):
  (∀ x∈(Qp ls l wr).1,okW j N x)∧(Qp ls l wr).1.Pairwise RW:=by
 have hx:∀ d:Bool,okW j N (l,d):=fun d=>⟨by simp only;omega,by simp only;omega,fun h=>by simp only at h;omega,fun _=>hm⟩
 unfold Qp
 cases hf:ls.findIdx? (fun x=>x.1==l) with
 | none=>
  rw [List.findIdx?_eq_none_iff] at hf;simp only;refine ⟨fun x hmem=>?_,?_⟩
  ·rcases List.mem_cons.1 hmem with rfl|h
   ·exact hx _
   ·exact h1 _ (List.dropLast_subset _ h)
  ·refine List.Pairwise.cons (fun y hy hz=>?_) (h2.sublist (List.dropLast_sublist _))
   have:=hf y (List.dropLast_subset _ hy)
   simp only;refine ⟨fun e=>?_,by omega⟩;simp [e] at this
 | some k=>
  rw [List.findIdx?_eq_some_iff_getElem] at hf;obtain ⟨hk,he,_⟩:=hf;have a0:ls[k].1=l:=by simpa using he
  have hg:ls.getD k (0,false)=ls[k]:=by simp [hk]
  simp only [hg,a0];refine ⟨fun x hmem=>?_,?_⟩
  ·rcases List.mem_cons.1 hmem with rfl|h
   ·exact hx _
   ·exact h1 _ (List.mem_of_mem_eraseIdx h)
  ·refine List.Pairwise.cons (fun y hy hz=>?_) (h2.sublist (List.eraseIdx_sublist _ _))
   simp only;refine ⟨fun e=>?_,by omega⟩;rw [List.mem_eraseIdx_iff_getElem] at hy;obtain ⟨i,hi,a1,rfl⟩:=hy;rw [List.pairwise_iff_getElem] at h2;rcases Nat.lt_or_gt_of_ne a1 with h|h
   ·have:=h2 i k hi hk h (by rw [a0];omega)
    rw [a0] at this;exact this.1 e.symm
   ·have:=h2 k i hk hi h hz
    rw [a0] at this;exact this.1 e
theorem Znl (ls:List (Int×Bool)) (l:Int) (wr:Bool):1≤(Qp ls l wr).2∧(Qp ls l wr).2≤15:=by
 unfold Qp;split
 ·simp
 ·have:=Zhs (ls.getLastD (0,false)).2
  simp only;omega
theorem Zj5 (ls:List (Int×Bool)) (l:Int) (wr:Bool) (h:0<ls.length):(Qp ls l wr).1.length=ls.length:=by
 unfold Qp
 cases hf:ls.findIdx? (fun x=>x.1==l) with
 | none=>simp;omega
 | some k=>
  rw [List.findIdx?_eq_some_iff_getElem] at hf;obtain ⟨hk,_,_⟩:=hf;simp [List.length_eraseIdx,hk];omega
theorem Zg7 (C:List (List (Int×Bool))):ck C=0↔Qr C=0∧∀ j (h:j<C.length),(∀ x∈C[j],okW j C.length x)∧C[j].Pairwise RW:=by
 unfold ck;by_cases hs:Qr C=0
 ·simp only [hs,ne_eq,not_true_eq_false,if_false,true_and]
  constructor
  ·intro h j hj
   have:=Zx h j hj
   rw [Zkr] at this;have e:C.getD j []=C[j]:=by simp [hj]
   rw [e] at this;exact (Znv _ _ _).1 (Zx this)
  ·intro h
   refine Qt _ _ (fun j hj=>?_);have e:C.getD j []=C[j]:=by simp [hj]
   rw [Zkr,e];exact Qt _ _ ((Znv _ _ _).2 (h j hj))
 ·simp [hs]
theorem Zcl (C:List (List (Int×Bool))):Qr C=0↔(1≤C.length∧C.length≤4)∧(∀ l∈C,1≤l.length∧l.length≤3)∧∀ l∈C,l.length=(C.headD []).length:=by
 unfold Qr;constructor
 ·intro h
  split at h
  ·omega
  ·rename_i h1
   split at h
   ·omega
   ·rename_i h2
    split at h
    ·omega
    ·rename_i h3
     simp [inR] at h1 h2 h3;refine ⟨by omega,fun l hl=>?_,fun l hl=>?_⟩
     ·have:=h2 l hl;omega
     ·have:=h3 l hl;simpa using this
 ·rintro ⟨h1,h2,h3⟩
  rw [if_neg (by simp [inR];omega),if_neg,if_neg]
  ·simpa using h3
  ·simp [inR]
   intro l hl
   have:=h2 l hl;omega
theorem Zra (C:List (List (Int×Bool))) (s:Nat) (x:List (Int×Bool)) (hs:s<C.length) (hx:x.length=C[s].length) (hall:∀ l∈C,l.length=(C.headD []).length):((C.set s x).headD []).length=(C.headD []).length:=by
 cases C with
 | nil=>simp at hs
 | cons y r=>
  cases s with
  | zero=>simpa using hx
  | succ s=>simp
theorem Zma (C:List (List (Int×Bool))) (l:Int) (wr:Bool) (s:Nat) (hs:s<C.length) (h:ck C=0) (hl1:1≤l) (hl2:l≤1000) (hm:l%(C.length:Int)=s):
  ck (C.set s (Qp C[s] l wr).1)=0∧((C.set s (Qp C[s] l wr).1).headD []).length=(C.headD []).length:=by
 rw [Zg7] at h;obtain ⟨h1,h2⟩:=h;rw [Zcl] at h1;obtain ⟨h3,h4,h5⟩:=h1;have a0:=Zj5 C[s] l wr (h4 C[s] (List.getElem_mem hs)).1;have hh:=Zra C s _ hs a0 h5;refine ⟨?_,hh⟩;rw [Zg7,Zcl];have a1:∀ x∈C.set s (Qp C[s] l wr).1,x.length=(C.headD []).length:=by
  intro x hx;rcases List.mem_or_eq_of_mem_set hx with h|h
  ·exact h5 x h
  ·rw [h,a0];exact h5 _ (List.getElem_mem hs)
 refine ⟨⟨by simpa using h3,fun x hx=>?_,fun x hx=>by rw [hh];exact a1 x hx⟩,fun j hj=>?_⟩
 ·rw [a1 x hx]
  have:=h4 C[s] (List.getElem_mem hs)
  rw [h5 _ (List.getElem_mem hs)] at this;exact this
 ·have a2:j<C.length:=by simpa using hj
  simp only [List.length_set];by_cases e:j=s
  ·subst e
   simp only [List.getElem_set_self];exact Zne _ l wr _ _ (h2 j a2).1 (h2 j a2).2 hl1 hl2 hm
  ·simp only [List.getElem_set_ne (fun h=>e h.symm)]
   exact h2 j a2
def Rch (ch:List (Int×Int×Int)) (i k:Nat):Prop:=∀ Q:Nat→Prop,Q k→(∀ x∈ch,Q x.2.1.toNat→Q x.1.toNat)→Q i
theorem Rch.refl (ch:List (Int×Int×Int)) (i:Nat):Rch ch i i:=fun _ h _=>h
theorem Rch.head {ch:List (Int×Int×Int)} (x:Int×Int×Int) (hx:x∈ch) (h:Rch ch x.2.1.toNat k):Rch ch x.1.toNat k:=fun Q hk hs=>hs x hx (h Q hk hs)
def sc (p:Nat→Bool) (x:Int×Int×Int):Nat→Bool:=fun i=>if i=x.1.toNat then p x.1.toNat||p x.2.1.toNat else p i
def itc (ch:List (Int×Int×Int)) (p:Nat→Bool):Nat→(Nat→Bool)
 | 0=>p
 | n+1=>ch.foldl sc (itc ch p n)
def Cl (ch:List (Int×Int×Int)) (p:Nat→Bool):Prop:=∀ x∈ch,p x.2.1.toNat=true→p x.1.toNat=true
theorem Zrr (p:Nat→Bool) (x:Int×Int×Int) (i:Nat) (h:p i=true):sc p x i=true:=by
 unfold sc;split
 ·rename_i e;rw [← e,h];simp
 ·exact h
theorem Zgq (ch:List (Int×Int×Int)):∀ (p:Nat→Bool) (i:Nat),p i=true→ch.foldl sc p i=true:=by
 induction ch with
 | nil=>intro p i h;exact h
 | cons x ch ih=>intro p i h;exact ih _ i (Zrr p x i h)
theorem Zqg (ch:List (Int×Int×Int)):∀ (p:Nat→Bool) (x:Int×Int×Int),x∈ch→p x.2.1.toNat=true→ch.foldl sc p x.1.toNat=true:=by
 induction ch with
 | nil=>intro p x hx;simp at hx
 | cons y ch ih=>
  intro p x hx h;rw [List.foldl_cons];rcases List.mem_cons.1 hx with rfl|hx
  ·refine Zgq ch _ _ ?_
   unfold sc;rw [if_pos rfl,h];simp
  ·exact ih _ x hx (Zrr p y _ h)
theorem Zse {p:Nat→Bool} {x:Int×Int×Int} (h:p x.2.1.toNat=true→p x.1.toNat=true):sc p x=p:=by
 funext i
 unfold sc;split
 ·rename_i e
  rw [e]
  cases h1:p x.2.1.toNat with
  | false=>simp
  | true=>simp [h h1]
 ·rfl
theorem Zhf (ch:List (Int×Int×Int)):∀ (p:Nat→Bool),Cl ch p→ch.foldl sc p=p:=by
 induction ch with
 | nil=>intro p _;rfl
 | cons x ch ih=>
  intro p h;rw [List.foldl_cons,Zse (h x (by simp))];exact ih p (fun y hy=>h y (by simp [hy]))
theorem Zt0 {l:List Nat} {p q:Nat→Bool} (hm:∀ i∈l,p i=true→q i=true) (h:∃ i∈l,p i=false∧q i=true):l.countP p<l.countP q:=by
 induction l with
 | nil=>obtain ⟨i,hi,_⟩:=h;simp at hi
 | cons x l ih=>
  have a0:l.countP p≤l.countP q:=List.countP_mono_left (fun i hi=>hm i (by simp [hi]));simp only [List.countP_cons];obtain ⟨i,hi,h1,h2⟩:=h;rcases List.mem_cons.1 hi with rfl|hi
  ·rw [h1,h2];simp;omega
  ·have:=ih (fun i hi=>hm i (by simp [hi])) ⟨i,hi,h1,h2⟩
   cases hp:p x with
   | false=>simp;split<;>omega
   | true=>rw [hm x (by simp) hp];simp;omega
theorem Zoz (ch:List (Int×Int×Int)) (D:Nat) (hch:∀ x∈ch,x.1.toNat<D∧x.2.1.toNat<D) (p:Nat→Bool) (k:Nat) (hk:k<D) (hp:p k=true):∀ n,Cl ch (itc ch p n)∨n+1≤(List.range D).countP (itc ch p n):=by
 intro n
 induction n with
 | zero=>
  right
  have:0<(List.range D).countP p:=List.countP_pos_iff.2 ⟨k,List.mem_range.2 hk,hp⟩
  exact this
 | succ n ih=>
  rcases ih with h|h
  ·left
   show Cl ch (ch.foldl sc (itc ch p n))
   rw [Zhf ch _ h];exact h
  ·by_cases hc:Cl ch (itc ch p n)
   ·left
    show Cl ch (ch.foldl sc (itc ch p n))
    rw [Zhf ch _ hc];exact hc
   ·right
    have a0:∃ x∈ch,itc ch p n x.2.1.toNat=true∧itc ch p n x.1.toNat=false:=by
     apply Classical.byContradiction;intro hn;refine hc (fun x hx h1=>?_);apply Classical.byContradiction;intro h2;exact hn ⟨x,hx,h1,by simpa using h2⟩
    obtain ⟨x,hx,h1,h2⟩:=a0
    have:(List.range D).countP (itc ch p n)<(List.range D).countP (ch.foldl sc (itc ch p n)):=
     Zt0 (fun i _ hi=>Zgq ch _ i hi) ⟨x.1.toNat,List.mem_range.2 (hch x hx).1,h2,Zqg ch _ x hx h1⟩
    show n+1+1≤(List.range D).countP (ch.foldl sc (itc ch p n))
    omega
theorem Zun (ch:List (Int×Int×Int)) (D:Nat) (hch:∀ x∈ch,x.1.toNat<D∧x.2.1.toNat<D) (p:Nat→Bool) (k:Nat) (hk:k<D) (hp:p k=true):Cl ch (itc ch p D):=by
 rcases Zoz ch D hch p k hk hp D with h|h
 ·exact h
 ·have:=List.countP_le_length (p:=itc ch p D) (l:=List.range D)
  simp at this;omega
theorem Zp7 (ch0:List (Int×Int×Int)) (k:Nat) (ch:List (Int×Int×Int)) (hs:∀ x∈ch,x∈ch0):∀ (p:Nat→Bool),(∀ i,p i=true→Rch ch0 i k)→∀ i,ch.foldl sc p i=true→Rch ch0 i k:=by
 induction ch with
 | nil=>intro p h i hi;exact h i hi
 | cons x ch ih=>
  intro p h i hi;rw [List.foldl_cons] at hi;refine ih (fun y hy=>hs y (by simp [hy])) _ (fun j hj=>?_) i hi;unfold sc at hj
  split at hj
  ·rename_i e
   subst e;rw [Bool.or_eq_true] at hj;rcases hj with hj|hj
   ·exact h _ hj
   ·exact Rch.head x (hs x (by simp)) (h _ hj)
  ·exact h j hj
theorem Zsv (ch:List (Int×Int×Int)) (p:Nat→Bool) (k:Nat) (hp:∀ i,p i=true→Rch ch i k):∀ n i,itc ch p n i=true→Rch ch i k:=by
 intro n
 induction n with
 | zero=>exact hp
 | succ n ih=>exact Zp7 ch k ch (fun _ h=>h) _ ih
theorem Zu7 (ch:List (Int×Int×Int)) (p:Nat→Bool) (i:Nat) (h:p i=true):∀ n,itc ch p n i=true:=by
 intro n
 induction n with
 | zero=>exact h
 | succ n ih=>exact Zgq ch _ i ih
theorem Zwt (ch:List (Int×Int×Int)) (q:Nat→Bool) (hc:Cl ch q) {i:Nat} (h:Rch ch i k) (hk:q k=true):q i=true:=h (fun i=>q i=true) hk hc
def col (M:Nat→List Bool) (k:Nat):Nat→Bool:=fun i=>(M i).getD k false
theorem Ztw (h:F.length=T.length) (k:Nat):(orR F T).getD k false=(F.getD k false||T.getD k false):=by
 simp only [orR,List.getD_eq_getElem?_getD,List.getElem?_zipWith];by_cases hk:k<F.length
 ·have a0:k<T.length:=by omega
  simp [hk,a0]
 ·have h1:F[k]? = none:=List.getElem?_eq_none (by omega)
  have h2:T[k]? = none:=List.getElem?_eq_none (by omega);simp [h1,h2]
theorem Zu4 {M:Nat→List Bool} (hl:∀ i,i<D→(M i).length=D) (x:Int×Int×Int) (h1:x.1.toNat<D) (h2:x.2.1.toNat<D) (k:Nat):col (Zd3 M x) k=sc (col M k) x:=by
 funext i
 unfold col Zd3 sc;split
 ·rw [Ztw (by rw [hl _ h1,hl _ h2])]
 ·rfl
theorem Zuw (D:Nat) (k:Nat) (ch:List (Int×Int×Int)) (hch:∀ x∈ch,x.1.toNat<D∧x.2.1.toNat<D):∀ M:Nat→List Bool,(∀ i,i<D→(M i).length=D)→col (ch.foldl Zd3 M) k=ch.foldl sc (col M k)∧∀ i,i<D→(ch.foldl Zd3 M i).length=D:=by
 induction ch with
 | nil=>intro M h;exact ⟨rfl,h⟩
 | cons x ch ih=>
  intro M h;have hx:=hch x (by simp)
  have:=ih (fun y hy=>hch y (by simp [hy])) (Zd3 M x) (Zll h x hx.1 hx.2)
  rw [Zu4 h x hx.1 hx.2] at this;exact this
theorem Zx6 (D:Nat) (k:Nat) (ch:List (Int×Int×Int)) (hch:∀ x∈ch,x.1.toNat<D∧x.2.1.toNat<D) (M:Nat→List Bool) (hM:∀ i,i<D→(M i).length=D):∀ n,col (itM ch M n) k=itc ch (col M k) n∧∀ i,i<D→(itM ch M n i).length=D:=by
 intro n
 induction n with
 | zero=>exact ⟨rfl,hM⟩
 | succ n ih=>
  have:=Zuw D k ch hch (itM ch M n) ih.2
  rw [ih.1] at this;exact this
theorem Zpg (ch:List (Int×Int×Int)) (D:Nat) (hch:∀ x∈ch,x.1.toNat<D∧x.2.1.toNat<D) (i k:Nat) (hk:k<D):(itM ch (idM D) D i).getD k false=true↔Rch ch i k:=by
 have hid:∀ i,col (idM D) k i=true↔i=k:=by
  intro i;simp only [col,idM,List.getD_eq_getElem?_getD,List.getElem?_set];by_cases e:i=k
  ·subst e;simp [hk]
  ·simp [e,hk]
 have h:=(Zx6 D k ch hch (idM D) (fun i _=>by simp [idM]) D).1;have hc:(itM ch (idM D) D i).getD k false=itc ch (col (idM D) k) D i:=by rw [← h];rfl
 rw [hc];constructor
 ·exact Zsv ch _ k (fun j hj=>by rw [hid] at hj;subst hj;exact Rch.refl _ _) D i
 ·intro hr
  exact Zwt ch _ (Zun ch D hch _ k hk ((hid k).2 rfl)) hr (Zu7 ch _ k ((hid k).2 rfl) D)
def Zbg (s:ByteArray):List Int:=s.data.toList.map fun u=>(u.toNat:Int)
abbrev Out (α:Type):=Except Nat (α×Nat)
def bnd {α β:Type} (p:Out α) (f:α→Nat→Out β):Out β:=
 match p with
 | .ok (x,n)=>f x n
 | .error e=>.error e
def p1 (B:List Int) (k:Nat):Out Int:=
 match B[k]? with
 | some x=>.ok (x,k+1)
 | none=>.error k
def p2 (B:List Int) (k:Nat):Out Int:=bnd (p1 B k) fun x k=>bnd (p1 B k) fun y k=>.ok (256*x+y,k)
def Zgu (B:List Int) (k:Nat):Out Unit:=bnd (p1 B k) fun x n=>if x=67 then .ok ((),n) else .error k
def Zig (m:Int) (B:List Int) (k:Nat):Out Int:=bnd (p1 B k) fun x n=>if x≤m then .ok (x,n) else .error k
def Zzd (B:List Int) (k:Nat):Out Unit:=if k<B.length then .error k else .ok ((),k)
def Zhn (B:List Int) (k:Nat):Out (Int×Int):=bnd (p1 B k) fun x k=>bnd (p2 B k) fun y k=>.ok ((x,y),k)
def Zgf (B:List Int) (k:Nat):Out (Int×Int×Int):=bnd (p1 B k) fun x k=>bnd (p1 B k) fun y k=>bnd (p1 B k) fun z k=>.ok ((x,y,z),k)
def Zfq (B:List Int) (k:Nat):Out (Int×Int×Int×Int):=bnd (p1 B k) fun x k=>bnd (p2 B k) fun y k=>bnd (p2 B k) fun z k=>bnd (p2 B k) fun u k=>.ok ((x,y,z,u),k)
def Jz {α:Type} (item:Nat→Out α):Nat→Nat→Out (List α)
 | 0,k=>.ok ([],k)
 | n+1,k=>bnd (Jz item n k) fun L k=>bnd (item k) fun x k=>.ok (L++[x],k)
def Zbf {α:Type} (B:List Int) (m:Int) (item:Nat→Out α) (k:Nat):Out (List α):=bnd (Zig m B k) fun n k=>Jz item n.toNat k
def Zcc (B:List Int):Out Zm:=
 bnd (Zgu B 0) fun _ k=>
 bnd (p1 B k) fun s k=>bnd (p1 B k) fun w k=>bnd (p1 B k) fun d k=>bnd (p1 B k) fun p k=>bnd (p1 B k) fun q k=>
 bnd (Zbf B 6 (Zhn B) k) fun sl k=>bnd (Zbf B 4 (p1 B) k) fun ow k=>bnd (Zbf B 4 (Zgf B) k) fun ch k=>bnd (Zbf B 6 (Zfq B) k) fun ta k=>
 bnd (Zzd B k) fun _ k=>.ok (⟨s,w,d,p,q,sl,ow,ch,ta⟩,k)
def Zmv:Zm:=⟨0,0,0,0,0,[],[],[],[]⟩
def Zye:Out Zm→Zm×Nat×Int
 | .error n=>(Zmv,n,1)
 | .ok (C,_)=>if ckC C=0 then (C,0,0) else (Zmv,0,ckC C)
def dec (B:List Int):Zm×Nat×Int:=if 200<B.length then (Zmv,0,2) else Zye (Zcc B)
theorem Zk {α β:Type} {p:Out α} {x:α} {n:Nat} (h:p=.ok (x,n)) (f:α→Nat→Out β):bnd p f=f x n:=by subst h;rfl
theorem Yj {α β:Type} {p:Out α} (h:p=.error e) (f:α→Nat→Out β):bnd p f=.error e:=by subst h;rfl
theorem Zek {α:Type} {item:Nat→Out α}:∀ {n m:Nat},n≤m→Jz item n k=.error e→Jz item m k=.error e:=by
 intro n m h
 induction h with
 | refl=>exact id
 | step h ih=>intro hn;rw [Jz,Yj (ih hn)]
theorem Zef {α:Type} {item:Nat→Out α}:∀ (n:Nat) {L:List α} {j:Nat},Jz item n k=.ok (L,j)→L.length=n:=by
 intro n
 induction n with
 | zero=>intro L j h;simp [Jz] at h;simp [← h.1]
 | succ n ih=>
  intro L j h
  cases h1:Jz item n k with
  | error e=>rw [Jz,Yj h1] at h;simp at h
  | ok r=>
   obtain ⟨L1,j1⟩:=r
   cases h2:item j1 with
   | error e=>rw [Jz,Zk h1,Yj h2] at h;simp at h
   | ok r2=>
    obtain ⟨x,j2⟩:=r2;rw [Jz,Zk h1,Zk h2] at h;simp at h;rw [← h.1];simp [ih h1]
theorem Zkj (l:List Int) (h:∀ x∈l,0≤x∧x≤255):Zbg (Zvd l)=l:=by
 simp only [Zbg,Zvd,u8s,List.map_map];rw [List.map_congr_left (g:=id)]
 ·simp
 ·intro x hx
  have:=h x hx
  simp;omega
theorem Zog (P:List Int) (x:Int) (S:List Int) (k:Nat) (h:P.length=k):p1 (P++x::S) k=.ok (x,k+1):=by
 subst h;simp [p1]
def Zk6 {α:Type} (item:List Int→Nat→Out α) (x:α) (l:List Int):Prop:=
 ∀ (P S:List Int) (k:Nat),P.length=k→item (P++(l++S)) k=.ok (x,k+l.length)
theorem Ziq (x:Int):Zk6 p1 x [x]:=by
 intro P S k h;exact Zog P x S k h
theorem Zoe (n:Int) (h0:0≤n):Zk6 p2 n (hl n):=by
 intro P S k h;rw [p2];have e1:=Zog P (n/256) (n%256::S) k h;have e2:=Zog (P++[n/256]) (n%256) S (k+1) (by simp [h]);simp only [List.append_assoc,List.cons_append,List.nil_append] at e2;simp only [hl,List.cons_append,List.nil_append];rw [Zk e1,Zk e2];simp only [List.length_cons,List.length_nil];congr 2;omega
theorem Q0 {α:Type} {item:List Int→Nat→Out α} {x:α} {l:List Int} (h:Zk6 item x l) (P S:List Int) (k:Nat) (hk:P.length=k) (B:List Int) (hB:B=P++(l++S)):item B k=.ok (x,k+l.length):=by
 subst hB;exact h P S k hk
theorem Zyr (x:Int×Int) (h0:0≤x.2):Zk6 Zhn x (enS x):=by
 intro P S k h;rw [Zhn];rw [Zk (Q0 (Ziq x.1) P (hl x.2++S) k h _ (by simp [enS]))];rw [Zk (Q0 (Zoe x.2 h0) (P++[x.1]) S _ (by simp [h]) _ (by simp [enS]))];simp [enS,hl]
theorem Zx3 (x:Int×Int×Int):Zk6 Zgf x (enC x):=by
 intro P S k h;rw [Zgf];rw [Zk (Q0 (Ziq x.1) P ([x.2.1,x.2.2]++S) k h _ (by simp [enC]))];rw [Zk (Q0 (Ziq x.2.1) (P++[x.1]) ([x.2.2]++S) _ (by simp [h]) _ (by simp [enC]))];rw [Zk (Q0 (Ziq x.2.2) (P++[x.1,x.2.1]) S _ (by simp [h]) _ (by simp [enC]))];simp [enC]
theorem Zyx (x:Int×Int×Int×Int) (h1:0≤x.2.1) (h2:0≤x.2.2.1) (h3:0≤x.2.2.2):Zk6 Zfq x (enT x):=by
 intro P S k h;rw [Zfq];rw [Zk (Q0 (Ziq x.1) P (hl x.2.1++hl x.2.2.1++hl x.2.2.2++S) k h _ (by simp [enT]))];rw [Zk (Q0 (Zoe x.2.1 h1) (P++[x.1]) (hl x.2.2.1++hl x.2.2.2++S) _ (by simp [h]) _ (by simp [enT]))];rw [Zk (Q0 (Zoe x.2.2.1 h2) (P++x.1::hl x.2.1) (hl x.2.2.2++S) _ (by simp [h,hl]) _ (by simp [enT]))];rw [Zk (Q0 (Zoe x.2.2.2 h3) (P++x.1::(hl x.2.1++hl x.2.2.1)) S _ (by simp [h,hl]) _ (by simp [enT]))];simp [enT,hl]
theorem Zyl {α:Type} {item:List Int→Nat→Out α} (en:α→List Int) (L:List α) (h:∀ x∈L,Zk6 item x (en x)) (P S:List Int) (k:Nat) (hk:P.length=k):
  ∀ n,n≤L.length→Jz (item (P++(L.flatMap en++S))) n k=.ok (L.take n,k+((L.take n).flatMap en).length):=by
 intro n
 induction n with
 | zero=>intro _;simp [Jz]
 | succ n ih=>
  intro hn;have a0:n<L.length:=by omega
  rw [Jz,Zk (ih (by omega))];have e:P++(L.flatMap en++S)=(P++(L.take n).flatMap en)++(en L[n]++((L.drop (n+1)).flatMap en++S)):=by
   have e2:L.flatMap en=(L.take n).flatMap en++(en L[n]++(L.drop (n+1)).flatMap en):=by
    have e3:L=L.take n++(L[n]::L.drop (n+1)):=by rw [← List.drop_eq_getElem_cons a0,List.take_append_drop]
    conv=>lhs;rw [e3]
    rw [List.flatMap_append,List.flatMap_cons]
   rw [e2];simp only [List.append_assoc]
  rw [Zk (Q0 (h L[n] (List.getElem_mem a0)) (P++(L.take n).flatMap en) ((L.drop (n+1)).flatMap en++S) _ (by simp [hk]) _ e)];rw [List.take_succ_eq_append_getElem a0];simp only [List.flatMap_append,List.length_append,List.flatMap_cons,List.flatMap_nil,List.append_nil,Nat.add_assoc]
theorem Zop {α:Type} {item:List Int→Nat→Out α} (en:α→List Int) (L:List α) (h:∀ x∈L,Zk6 item x (en x)) (m:Int) (hm:(L.length:Int)≤m) (P S:List Int) (k:Nat) (hk:P.length=k) (B:List Int) (hB:B=P++((L.length:Int)::(L.flatMap en++S))):
  Zbf B m (item B) k=.ok (L,k+1+(L.flatMap en).length):=by
 subst hB;rw [Zbf,Zig,Zk (Zog P _ _ k hk)];rw [if_pos hm,Zk rfl];have q:=Zyl en L h (P++[(L.length:Int)]) S (k+1) (by simp [hk]) L.length lr;simp only [List.append_assoc,List.cons_append,List.nil_append,List.take_length] at q;simpa using q
theorem Zud {C:Zm} (h:Zzf C):Zcc (en C)=.ok (C,(en C).length):=by
 obtain ⟨s,w,d,p,q,l5,l6,l7,l8,sl,ow,ch,ta⟩:=h;have eb:Zgu (en C) 0=.ok ((),1):=by rw [Zgu,Zk (x:=67) (n:=1) (by simp [p1,en])];rfl
 have e1:p1 (en C) 1=.ok (C.s,2):=by simp [p1,en]
 have e2:p1 (en C) 2=.ok (C.w,3):=by simp [p1,en]
 have e3:p1 (en C) 3=.ok (C.d,4):=by simp [p1,en]
 have e4:p1 (en C) 4=.ok (C.p,5):=by simp [p1,en]
 have e5:p1 (en C) 5=.ok (C.q,6):=by simp [p1,en]
 have e6:=Zop enS C.sl (fun x hx=>Zyr x (by have:=sl x hx;omega)) 6 (by omega) [67,C.s,C.w,C.d,C.p,C.q] ((C.ow.length:Int)::(C.ow++(C.ch.length:Int)::(C.ch.flatMap enC++(C.ta.length:Int)::C.ta.flatMap enT))) 6 rfl (en C) (by rw [en];simp);rw [J3] at e6;have eo:C.ow.flatMap (fun x=>[x])=C.ow:=by simp
 have e7:=Zop (fun x=>[x]) C.ow (fun x hx=>Ziq x) 4 (by omega) ([67,C.s,C.w,C.d,C.p,C.q,(C.sl.length:Int)]++C.sl.flatMap enS) ((C.ch.length:Int)::(C.ch.flatMap enC++(C.ta.length:Int)::C.ta.flatMap enT)) (6+1+3*C.sl.length) (by simp only [List.length_append,List.length_cons,List.length_nil,J3]) (en C) (by rw [en,eo];simp);rw [eo] at e7;have e8:=Zop enC C.ch (fun x hx=>Zx3 x) 4 (by omega) ([67,C.s,C.w,C.d,C.p,C.q,(C.sl.length:Int)]++C.sl.flatMap enS++[(C.ow.length:Int)]++C.ow) ((C.ta.length:Int)::C.ta.flatMap enT) (6+1+3*C.sl.length+1+C.ow.length) (by simp only [List.length_append,List.length_cons,List.length_nil,J3]) (en C) (by rw [en];simp);rw [Zdw] at e8;have e9:=Zop enT C.ta (fun x hx=>Zyx x (by have:=ta x hx;omega) (by have:=ta x hx;omega) (by have:=ta x hx;omega)) 6 (by omega) ([67,C.s,C.w,C.d,C.p,C.q,(C.sl.length:Int)]++C.sl.flatMap enS++[(C.ow.length:Int)]++C.ow++[(C.ch.length:Int)]++C.ch.flatMap enC) [] (6+1+3*C.sl.length+1+C.ow.length+1+3*C.ch.length) (by simp only [List.length_append,List.length_cons,List.length_nil,J3,Zdw]) (en C) (by rw [en];simp);rw [Zkd] at e9;have hL:=Zn4 C;rw [Zcc,Zk eb,Zk e1,Zk e2,Zk e3,Zk e4,Zk e5,Zk e6,Zk e7,Zk e8,Zk e9];rw [Zzd,if_neg (by rw [hL];omega),Zk rfl];congr 2;rw [hL];omega
theorem Zy8 {C:Zm} (h:ckC C=0):dec (en C)=(C,0,0):=by
 have hF:=Zgr h;have hl:=Zn4 C;have l5:=hF.l5;have l6:=hF.l6;have l7:=hF.l7;have l8:=hF.l8;rw [dec,if_neg (by rw [hl];omega),Zud hF,Zye,if_pos h]
end Go.Proofs.YtejhccmclanlmaaGreatDoor
