/- Fa Fb Ha -/
import Derived.Test.YtejhccmclanlmaaGreatDoorV15
import Derived.Test.YtejhccmclanlmaaGreatDoorV16
set_option linter.all false
set_option maxRecDepth 100000
set_option maxHeartbeats 8000000
namespace Go.Proofs.YtejhccmclanlmaaGreatDoor
open Go.RowKit Go.Proofs.Tryz
variable {D D0:Dom} {dn fr now t tq:Int} {x y:J6} {xs:List Value} {base c' g k n sz:Nat} {a':Option Addr} {v:Value} {w w' w0:World} {C:Zm}
theorem Zib {f:Nat→Int}:fe n f=0↔∀ j,j<n→f j=0:=⟨Zx,Qt n f⟩
theorem Z0:ckD C dn D=0↔Q6 C dn=0∧Zj7 C D=0∧Zd8 D=0∧Zdl C dn D=0∧Zaw C D=0∧Zcz D=0:=by
 unfold ckD;by_cases h:Q6 C dn=0
 ·rw [if_neg (by simp [h]),Zib]
  constructor
  ·intro hf
   exact ⟨h,hf 0 (by omega),hf 1 (by omega),hf 2 (by omega),hf 3 (by omega),hf 4 (by omega)⟩
  ·rintro ⟨_,h0,h1,h2,h3,h4⟩ j hj
   match j,hj with
   | 0,_=>exact h0
   | 1,_=>exact h1
   | 2,_=>exact h2
   | 3,_=>exact h3
   | 4,_=>exact h4
 ·rw [if_pos h]
  exact ⟨fun e=>absurd e h,fun e=>absurd e.1 h⟩
theorem Q3 (h:Q6 C dn=0):ckC C=0:=by
 unfold Q6 at h
 split at h
 ·assumption
 ·assumption
theorem Ye:Zj7 C D=0↔D.rel.length=C.ta.length∧D.ins.length=C.ch.length∧D.out.length=C.ch.length∧D.tak.length=C.ow.length:=by
 unfold Zj7;split
 ·simp_all
 ·simp_all
theorem Yg:Zd8 D=0↔Zbc D.rel 0 100000=true∧inR D.nxt 0 100000=true∧Zbc D.tak 0 15=true:=by
 unfold Zd8;split
 ·simp_all
 ·simp_all
theorem Y4:Zdl C dn D=0↔D.jobs.length≤20∧∀ j∈D.jobs,Za6 C dn j=0:=by
 unfold Zdl;split
 ·constructor
  ·intro h;omega
  ·intro h;omega
 ·rw [Zib]
  constructor
  ·intro h
   refine ⟨by omega,fun j hj=>?_⟩;obtain ⟨i,hi,rfl⟩:=List.getElem_of_mem hj
   have:=h i hi
   simpa [hi] using this
  ·rintro ⟨_,h⟩ i hi
   have:=h D.jobs[i] (List.getElem_mem hi)
   simpa [hi] using this
theorem Zkt (h:ckC C=0) (k:Nat) (hk:k<C.ta.length):1≤(tk C k).2.1∧(tk C k).2.1≤5000∧1≤(tk C k).2.2.1∧(tk C k).2.2.1≤5000∧1≤(tk C k).2.2.2∧(tk C k).2.2.2≤5000:=by
 have h6:Zfc C=0:=Zx h 6 (by omega);have a0:=Zx h6 k hk;simp only [Zl3] at a0;unfold tk
 split at a0
 ·split at a0
  ·rename_i hh
   simp [inR] at hh ⊢;omega
  ·omega
 ·omega
theorem Znp {n:Int} (h1:-9223372036854775808≤n) (h2:n≤9223372036854775807):wrap64 n=n:=by
 unfold wrap64;omega
theorem Zxe {p r:Int} (h1:1≤p) (h2:p≤5000) (h3:0≤r) (h4:r≤100000):0≤p*r∧p*r≤500000000:=by
 have a:=Int.mul_nonneg (show (0:Int)≤p by omega) h3;have b:=Int.mul_le_mul h2 h4 h3 (show (0:Int)≤5000 by omega);omega
theorem Zqc (h:Zbc D.rel 0 100000=true) (k:Nat):0≤D.rel.getD k 0∧D.rel.getD k 0≤100000:=by
 by_cases hk:k<D.rel.length
 ·have:=List.all_eq_true.1 h D.rel[k] (List.getElem_mem hk)
  simp [inR] at this;simp [hk];omega
 ·simp [hk]
theorem Zol (hC:ckC C=0) (h:Zbc D.rel 0 100000=true) (k:Nat) (hk:k<C.ta.length):Y0 C D k=(tk C k).2.1*D.rel.getD k 0∧0≤Y0 C D k:=by
 have h1:=Zkt hC k hk;have h2:=Zqc h k;have h3:=Zxe h1.1 h1.2.1 h2.1 h2.2;unfold Y0;rw [Znp (by omega) (by omega)];exact ⟨rfl,h3.1⟩
def Ya (C:Zm) (k:Nat) (D:Dom):Dom:=
 if D.jobs.length=20 then ⟨D.jobs,D.rel.set k (D.rel.getD k 0+1),D.nxt,D.ins,D.tak,D.out,D.evs⟩
 else ⟨D.jobs++[((k:Int),D.rel.getD k 0,Y0 C D k,0,false,false)],D.rel.set k (D.rel.getD k 0+1),D.nxt,D.ins,D.tak,D.out,D.evs++[(Y0 C D k,2,(k:Int),D.rel.getD k 0)]⟩
def Zfl (C:Zm) (now:Int) (k:Nat) (D:Dom):Bool:=decide (Y0 C D k≤now)&&decide (D.rel.getD k 0<100000)
def Zl5 (C:Zm) (now:Int) (k:Nat):Nat→Dom→Dom
 | 0,D=>D
 | n+1,D=>if Zfl C now k D=true then Zl5 C now k n (Ya C k D) else D
def Zml (C:Zm) (now:Int) (k:Nat) (D:Dom):Dom:=Zl5 C now k (100000-(D.rel.getD k 0).toNat) D
def Ziz (C:Zm) (now:Int) (l:List NT) (D:Dom):Dom:=l.foldl (fun D x=>Zml C now x.1 D) D
def Zdi (C:Zm) (dn now:Int) (D:Dom):Dom:=Ziz C now (Za0 C dn C.ta.length) D
def Zrg (C:Zm) (now:Int) (j:J6):Bool:=!j.2.2.2.2.2&&decide (Zbv C j≤now)
def Zk3 (j:J6):J6:=(j.1,j.2.1,j.2.2.1,j.2.2.2.1,j.2.2.2.2.1,true)
def Ym (C:Zm) (now:Int) (i:Nat) (D:Dom):Dom:=
 match D.jobs[i]? with
 | none=>D
 | some j=>if Zrg C now j=true then ⟨D.jobs.set i (Zk3 j),D.rel,D.nxt,D.ins,D.tak,D.out,D.evs++[(Zbv C j,6,j.1,j.2.1)]⟩ else D
def Zcs (C:Zm) (now:Int) (n:Nat) (D:Dom):Dom:=(List.range n).foldl (fun D i=>Ym C now i D) D
theorem Ze0 (C:Zm) (now:Int) (n:Nat) (D:Dom):Zcs C now (n+1) D=Ym C now n (Zcs C now n D):=by
 simp [Zcs,List.range_succ]
def Zaa (C:Zm) (dn now:Int) (D:Dom):Dom:=Zcs C now (Zdi C dn now D).jobs.length (Zdi C dn now D)
theorem Zdo (C:Zm) (k:Nat) (D:Dom):(Ya C k D).rel=D.rel.set k (D.rel.getD k 0+1):=by
 unfold Ya;split<;>rfl
theorem Zid (C:Zm) (k:Nat) (D:Dom) (hk:k<D.rel.length):(Ya C k D).rel.getD k 0=D.rel.getD k 0+1:=by
 rw [Zdo];simp [hk]
theorem Zov (C:Zm) (k i:Nat) (D:Dom) (h:i≠k):(Ya C k D).rel.getD i 0=D.rel.getD i 0:=by
 rw [Zdo];simp [List.getElem?_set_ne (Ne.symm h)]
theorem Zez (hz:ckD C dn D=0) (hn:inR now 0 100000=true) (k:Nat) (hk:k<C.ta.length) (ho:(tk C k).1=dn) (hg:Zfl C now k D=true):ckD C dn (Ya C k D)=0:=by
 obtain ⟨h0,h1,h2,h3,h4,h5⟩:=Z0.1 hz;have hC:=Q3 h0;have hN:=Yg.1 h2;have hS:=Ye.1 h1;have hJ:=Y4.1 h3;have ht:=Zkt hC k hk;have hr:=Zqc hN.1 k;have hc:=Zol hC hN.1 k hk;simp only [Zfl,Bool.and_eq_true,decide_eq_true_eq] at hg;simp only [inR,Bool.and_eq_true,decide_eq_true_eq] at hn;have hrel:Zbc (D.rel.set k (D.rel.getD k 0+1)) 0 100000=true:=by
  refine Zkk (fun j hj=>?_);by_cases e:j=k
  ·subst e
   simp only [List.getElem_set_self];simp [inR];simp at hr hg;omega
  ·rw [List.getElem_set_ne (fun e'=>e e'.symm)]
   have:=List.all_eq_true.1 hN.1 (D.rel[j]'(by simpa using hj)) (List.getElem_mem _)
   exact this
 have hj:Za6 C dn ((k:Int),D.rel.getD k 0,Y0 C D k,0,false,false)=0:=by
  unfold Za6;rw [if_pos ⟨by simp,by simpa using hk,by simpa [tk] using ho⟩,if_pos];have hb:wrap64 ((C.ta.getD k (0,0,0,0)).2.2.1-1)=(C.ta.getD k (0,0,0,0)).2.2.1-1:=by
   apply Znp<;>simp only [tk] at ht<;>omega
  simp only [Int.toNat_natCast,hb];simp only [tk] at ht;simp only [inR,Bool.and_eq_true,decide_eq_true_eq];omega
 refine Z0.2 ⟨h0,Ye.2 ?_,Yg.2 ?_,Y4.2 ?_,?_,?_⟩
 ·unfold Ya;split<;>simpa using hS
 ·unfold Ya;split<;>exact ⟨hrel,hN.2⟩
 ·unfold Ya
  split
  ·exact hJ
  ·refine ⟨?_,fun j hjm=>?_⟩
   ·simp;omega
   ·rcases List.mem_append.1 hjm with h|h
    ·exact hJ.2 j h
    ·simp only [List.mem_singleton] at h
     rw [h];exact hj
 ·unfold Ya;split<;>exact h4
 ·unfold Ya;split<;>exact h5
theorem Zsn (n:Nat) (h:Zfl C now k D=false):Zl5 C now k n D=D:=by
 cases n with
 | zero=>rfl
 | succ n=>simp [Zl5,h]
theorem Zxo (n:Nat) (h:Zfl C now k D=true):Zl5 C now k (n+1) D=Zl5 C now k n (Ya C k D):=by
 simp [Zl5,h]
theorem Zd4 (P:Dom→Prop) (hs:∀ D,P D→Zfl C now k D=true→P (Ya C k D)):∀ (n:Nat) (D:Dom),P D→P (Zl5 C now k n D):=by
 intro n
 induction n with
 | zero=>intro D h;exact h
 | succ n ih=>
  intro D h;unfold Zl5;split
  ·rename_i hg;exact ih _ (hs D h hg)
  ·exact h
theorem Zuc:∀ (n:Nat) (D:Dom),k<D.rel.length→100000-D.rel.getD k 0≤n→Zfl C now k (Zl5 C now k n D)=false:=by
 intro n
 induction n with
 | zero=>
  intro D hk h
  have:¬ D.rel.getD k 0<100000:=by omega
  simp [Zl5,Zfl];intro _;simpa using this
 | succ n ih=>
  intro D hk h;unfold Zl5;split
  ·refine ih _ ?_ ?_
   ·rw [Zdo];simpa using hk
   ·rw [Zid C k D hk];omega
  ·rename_i hg;simpa using hg
theorem Zij {D':Dom} (h:D'.rel.getD k 0=D.rel.getD k 0):Zfl C now k D'=Zfl C now k D:=by
 unfold Zfl Y0;rw [h]
theorem Zsf (hz:ckD C dn D=0) (hn:inR now 0 100000=true) (k:Nat) (hk:k<C.ta.length) (ho:(tk C k).1=dn):ckD C dn (Zml C now k D)=0:=
 Zd4 (fun D=>ckD C dn D=0) (fun D h hg=>Zez h hn k hk ho hg) _ D hz
theorem Zt2 (hz:ckD C dn D=0) (k:Nat) (hk:k<C.ta.length):Zfl C now k (Zml C now k D)=false:=by
 obtain ⟨h0,h1,h2,h3,h4,h5⟩:=Z0.1 hz;have hr:=Zqc (Yg.1 h2).1 k;exact Zuc _ D (by have:=Ye.1 h1;omega) (by omega)
theorem Zwz (k i:Nat) (h:i≠k):(Zml C now k D).rel.getD i 0=D.rel.getD i 0:=
 Zd4 (fun D'=>D'.rel.getD i 0=D.rel.getD i 0) (fun D' h' hg=>(Zov C k i D' h).trans h') _ D rfl
theorem Zj1 (hn:inR now 0 100000=true):∀ (l:List NT) (D:Dom),(∀ x∈l,x.1<C.ta.length∧(tk C x.1).1=dn)→ckD C dn D=0→ckD C dn (Ziz C now l D)=0:=by
 intro l
 induction l with
 | nil=>intro D _ h;exact h
 | cons x r ih=>
  intro D hx h;have h1:=hx x (by simp);exact ih _ (fun y hy=>hx y (by simp [hy])) (Zsf h hn x.1 h1.1 h1.2)
theorem Zo5 (hn:inR now 0 100000=true):∀ (l:List NT) (D:Dom),(∀ x∈l,x.1<C.ta.length∧(tk C x.1).1=dn)→ckD C dn D=0→∀ i,(Zfl C now i D=false∨∃ x∈l,x.1=i)→Zfl C now i (Ziz C now l D)=false:=by
 intro l
 induction l with
 | nil=>
  intro D _ _ i h;rcases h with h|⟨x,hx,_⟩
  ·exact h
  ·simp at hx
 | cons x r ih=>
  intro D hx h i hi;have h1:=hx x (by simp);refine ih _ (fun y hy=>hx y (by simp [hy])) (Zsf h hn x.1 h1.1 h1.2) i ?_;by_cases e:i=x.1
  ·subst e;exact .inl (Zt2 h x.1 h1.1)
  ·rcases hi with hi|⟨y,hy,he⟩
   ·exact .inl (by rw [Zij (Zwz x.1 i e)];exact hi)
   ·rcases List.mem_cons.1 hy with rfl|hy
    ·exact absurd he.symm e
    ·exact .inr ⟨y,hy,he⟩
theorem Zb9:∀ x∈Za0 C dn C.ta.length,x.1<C.ta.length∧(tk C x.1).1=dn:=by
 intro x hx;obtain ⟨h1,h2,h3⟩:=Zf3.1 hx;exact ⟨h1,by rw [tk,← h2];exact h3⟩
theorem Zks (C:Zm) (now:Int) (i:Nat) (D:Dom):(Ym C now i D).rel=D.rel:=by
 unfold Ym;split
 ·rfl
 ·split<;>rfl
theorem Zki (C:Zm) (now:Int) (i:Nat) (D:Dom):(Ym C now i D).jobs.length=D.jobs.length:=by
 unfold Ym;split
 ·rfl
 ·split<;>simp
theorem Zpl (C:Zm) (dn:Int) (j:J6):Za6 C dn (Zk3 j)=Za6 C dn j:=rfl
theorem Zhb (hz:ckD C dn D=0) (i:Nat):ckD C dn (Ym C now i D)=0:=by
 unfold Ym;split
 ·exact hz
 ·rename_i j hj
  split
  ·obtain ⟨h0,h1,h2,h3,h4,h5⟩:=Z0.1 hz
   have hJ:=Y4.1 h3;refine Z0.2 ⟨h0,h1,h2,Y4.2 ⟨by simpa using hJ.1,fun y hy=>?_⟩,h4,h5⟩;rcases List.mem_or_eq_of_mem_set hy with h|h
   ·exact hJ.2 y h
   ·rw [h,Zpl];exact hJ.2 j (List.mem_of_getElem? hj)
  ·exact hz
theorem Zc4 (C:Zm) (now:Int) (P:Dom→Prop) (hs:∀ D i,P D→P (Ym C now i D)) (n:Nat) (D:Dom) (h:P D):P (Zcs C now n D):=by
 induction n with
 | zero=>exact h
 | succ n ih=>rw [Ze0];exact hs _ _ ih
theorem Zsd (C:Zm) (now:Int) (n:Nat) (D:Dom):(Zcs C now n D).rel=D.rel:=Zc4 C now (fun D'=>D'.rel=D.rel) (fun D' i h=>(Zks C now i D').trans h) n D rfl
theorem Zq6 (C:Zm) (now:Int) (n:Nat) (D:Dom):(Zcs C now n D).jobs.length=D.jobs.length:=Zc4 C now (fun D'=>D'.jobs.length=D.jobs.length) (fun D' i h=>(Zki C now i D').trans h) n D rfl
theorem Zn7 (hz:ckD C dn D=0) (n:Nat):ckD C dn (Zcs C now n D)=0:=Zc4 C now (fun D=>ckD C dn D=0) (fun D i h=>Zhb h i) n D hz
theorem Zsh (hz:ckD C dn D=0) (hn:inR now 0 100000=true):ckD C dn (Zaa C dn now D)=0:=
 Zn7 (Zj1 hn _ D Zb9 hz) _
theorem Zgd (C:Zm) (k:Nat) (D:Dom):(Ya C k D).evs.length+D.jobs.length=D.evs.length+(Ya C k D).jobs.length:=by
 unfold Ya;split
 ·rfl
 ·simp;omega
theorem Zue (C:Zm) (now:Int) (k n:Nat) (D:Dom):(Zl5 C now k n D).evs.length+D.jobs.length=D.evs.length+(Zl5 C now k n D).jobs.length:=
 Zd4 (fun D'=>D'.evs.length+D.jobs.length=D.evs.length+D'.jobs.length) (fun D' h _=>by have:=Zgd C k D';omega) n D rfl
theorem Zjy (C:Zm) (now:Int):∀ (l:List NT) (D:Dom),(Ziz C now l D).evs.length+D.jobs.length=D.evs.length+(Ziz C now l D).jobs.length:=by
 intro l
 induction l with
 | nil=>intro D;rfl
 | cons x r ih=>
  intro D;have h1:=ih (Zml C now x.1 D);have h2:(Zml C now x.1 D).evs.length+D.jobs.length=D.evs.length+(Zml C now x.1 D).jobs.length:=Zue C now x.1 _ D;show (Ziz C now r (Zml C now x.1 D)).evs.length+_=_+(Ziz C now r (Zml C now x.1 D)).jobs.length
  omega
theorem Zlz (C:Zm) (now:Int) (i:Nat) (D:Dom):(Ym C now i D).evs.length≤D.evs.length+1:=by
 unfold Ym;split
 ·simp
 ·split<;>simp
theorem Zlw (C:Zm) (now:Int) (n:Nat) (D:Dom):(Zcs C now n D).evs.length≤D.evs.length+n:=by
 induction n with
 | zero=>exact lr
 | succ n ih=>
  rw [Ze0]
  have:=Zlz C now n (Zcs C now n D)
  omega
theorem Zln (hz:ckD C dn D=0):D.jobs.length≤20:=(Y4.1 (Z0.1 hz).2.2.2.1).1
theorem Zny (hz:ckD C dn D=0) (hn:inR now 0 100000=true):(Zaa C dn now D).evs.length≤D.evs.length+40:=by
 have h1:=Zjy C now (Za0 C dn C.ta.length) D;have h2:=Zln (Zj1 hn (Za0 C dn C.ta.length) D Zb9 hz);have h3:=Zlw C now (Zdi C dn now D).jobs.length (Zdi C dn now D);have h4:(Zdi C dn now D)=Ziz C now (Za0 C dn C.ta.length) D:=rfl;unfold Zaa;rw [h4] at h3 ⊢;omega
theorem Zio (hz:ckD C dn D=0):Zd0 C D.jobs:=by
 intro i hi
 have:=(Y4.1 (Z0.1 hz).2.2.2.1).2 D.jobs[i] (List.getElem_mem hi)
 unfold Za6 at this
 split at this
 ·rename_i h;exact ⟨h.1,h.2.1⟩
 ·omega
theorem Zbx:Jo C x y=true↔Zbv C x<Zbv C y∨Zbv C x=Zbv C y∧(x.1<y.1∨x.1=y.1∧x.2.1<y.2.1):=by
 unfold Jo;rw [decide_eq_true_eq];unfold orI Ztx
 repeat' split
 all_goals omega
theorem Zl0 (C:Zm) (x:J6):Jo C x x=false:=by
 cases h:Jo C x x with
 | false=>rfl
 | true=>have:=Zbx.1 h;omega
theorem Znc {z:J6} (h1:Jo C x y=true) (h2:Jo C y z=true):Jo C x z=true:=by
 have a:=Zbx.1 h1;have b:=Zbx.1 h2;exact Zbx.2 (by omega)
theorem Zur (C:Zm):∀ (J:List J6),J≠[]→∃ y∈J,∀ x∈J,Jo C x y=false:=by
 intro J
 induction J with
 | nil=>intro h;exact absurd rfl h
 | cons a r ih=>
  intro _;by_cases hr:r=[]
  ·subst hr
   exact ⟨a,by simp,fun x hx=>by simp at hx;rw [hx];exact Zl0 C a⟩
  ·obtain ⟨y,hy,a0⟩:=ih hr
   cases h:Jo C a y with
   | false=>
    refine ⟨y,by simp [hy],fun x hx=>?_⟩;rcases List.mem_cons.1 hx with rfl|hx
    ·exact h
    ·exact a0 x hx
   | true=>
    refine ⟨a,by simp,fun x hx=>?_⟩;rcases List.mem_cons.1 hx with rfl|hx
    ·exact Zl0 C x
    ·cases hxa:Jo C x a with
     | false=>rfl
     | true=>have:=Znc hxa h;rw [a0 x hx] at this;cases this
theorem Zes (C:Zm) (J:List J6):(J=[]∧J0 C J=-1)∨∃ (k:Nat) (h:k<J.length),J0 C J=k∧∀ i (hi:i<J.length),¬ Zbv C J[i]<Zbv C J[k]:=by
 by_cases hJ:J=[]
 ·exact .inl ⟨hJ,by subst hJ;rfl⟩
 ·right
  obtain ⟨y,hy,a0⟩:=Zur C J hJ;have a1:J.any (fun y=>!Zo3 C J y)=true:=List.any_eq_true.2 ⟨y,hy,by
   simp only [Bool.not_eq_true']
   cases h:Zo3 C J y with
   | false=>rfl
   | true=>
    obtain ⟨x,hx,h2⟩:=List.any_eq_true.1 h;rw [a0 x hx] at h2;cases h2⟩
  unfold J0 Zs7
  cases h:J.findIdx? (fun y=>!Zo3 C J y) with
  | none=>
   rw [List.findIdx?_eq_none_iff] at h;obtain ⟨x,hx,h2⟩:=List.any_eq_true.1 a1;rw [h x hx] at h2;cases h2
  | some k=>
   obtain ⟨hk,he,_⟩:=List.findIdx?_eq_some_iff_getElem.1 h;refine ⟨k,hk,rfl,fun i hi hlt=>?_⟩;simp only [Bool.not_eq_true'] at he
   have:Zo3 C J J[k]=true:=List.any_eq_true.2 ⟨J[i],List.getElem_mem hi,Zbx.2 (.inl hlt)⟩
   rw [he] at this;cases this
structure Zbb (X:Nat→Prop) (w0 w:World):Prop where
 os:w.os=w0.os
 tape:w.tape=w0.tape
 output:w.output=w0.output
 size:w0.heap.size≤w.heap.size
 same:∀ x,x<w0.heap.size→¬ X x→w.heap[x]? = w0.heap[x]?
theorem Zbb.refl (X:Nat→Prop) (w:World):Zbb X w w:=⟨rfl,rfl,rfl,lr,fun _ _ _=>rfl⟩
theorem Zbb.below {X:Nat→Prop} (h:Zbb X w0 w) (hb:Below w.heap.size w w'):Zbb X w0 w':=
 ⟨hb.os.trans h.os,hb.tape.trans h.tape,hb.output.trans h.output,Nat.le_trans h.size hb.size,fun x hx hn=>(hb.block x (by have:=h.size;omega)).trans (h.same x hx hn)⟩
theorem Zbb.grown {X:Nat→Prop} {row:Option Nat} (h:Zbb X w0 w) (hg:w.grownBy w' row) (hr:∀ x,row=some x→X x∨w0.heap.size≤x):Zbb X w0 w':=
 ⟨hg.os.trans h.os,hg.tape.trans h.tape,hg.output.trans h.output,Nat.le_trans h.size hg.size,fun x hx hn=>(hg.block x (by have:=h.size;omega) (fun e=>by rcases hr x e.symm with h'|h'<;>first|exact hn h'|omega)).trans (h.same x hx hn)⟩
theorem Zbb.set {X:Nat→Prop} (h:Zbb X w0 w) (hg:X g∨w0.heap.size≤g) (o:Nat) (u:Value):Zbb X w0 (w.setCell ⟨g,o,none⟩ u):=
 ⟨h.os,h.tape,h.output,Nat.le_trans h.size (by simp),fun x hx hn=>(Zd w g o u x (fun e=>by subst e;rcases hg with h'|h'<;>first|exact hn h'|omega)).trans (h.same x hx hn)⟩
theorem Zbb.to_below {X:Nat→Prop} (h:Zbb X w0 w) (hn:n≤w0.heap.size) (hX:∀ x,X x→n≤x):Below n w0 w:=
 ⟨h.os,h.tape,h.output,h.size,fun x hx=>h.same x (by omega) (fun hh=>by have:=hX x hh;omega)⟩
theorem Zd7 {e cap i:Nat} (h:w.ownsRow base e sz (.slice (some ⟨g,0,none⟩) n cap) n xs) (u:Value):(w.setCell ⟨g,i,none⟩ u).ownsRow base e sz (.slice (some ⟨g,0,none⟩) n cap) n (xs.set i u):=by
 refine ⟨by rw [List.length_set];exact h.1,?_⟩;rcases h.2 with ⟨q,_⟩|⟨g',a0,a1,e1,e2,e3,e4,e5,e6,e7⟩
 ·cases q
 ·cases e1
  refine .inr ⟨g,cap,a1.setIfInBounds i u,rfl,e2,Zjr e3,e4,e5,by simpa using e6,?_⟩;rw [Array.toList_setIfInBounds,List.take_set,e7]
theorem Zbs {e:Nat} (h:w.ownsRow base e sz v n xs) (hk:v.ownBlock=some k):∃ cur,w.heap[k]? = some (.cells cur e (0,0)):=by
 rcases h.2 with ⟨q,_⟩|⟨g',a0,cur,e1,e2,e3,r⟩
 ·rw [q] at hk;cases hk
 ·rw [e1] at hk
  simp only [Value.ownBlock,Option.some.injEq] at hk;subst hk;exact ⟨cur,e3⟩
theorem Ql {e e' sz' n':Nat} {v':Value} {xs':List Value} (h:w.ownsRow base e sz v n xs) (h':w.ownsRow base e' sz' v' n' xs') (hne:e≠e'):∀ k,v.ownBlock=some k→v'.ownBlock≠some k:=by
 intro k hk a0;obtain ⟨c,h1⟩:=Zbs h hk;obtain ⟨c',h2⟩:=Zbs h' a0;rw [h1] at h2;simp at h2;exact hne h2.2
theorem Zb2 {e c:Nat} {a:Option Addr} (h:w.ownsRow base e sz (.slice a n c) n xs) (hn:0<n):∃ g,a=some ⟨g,0,none⟩∧(∃ cur,w.heap[g]? = some (.cells cur e (0,0)))∧base≤g:=by
 rcases h.2 with ⟨q,h0⟩|⟨g',a0,cur,e1,e2,e3,r⟩
 ·omega
 ·cases e1
  exact ⟨g',rfl,⟨cur,e3⟩,e2⟩
structure KO (w0:World) (X:Nat→Prop) (base kb:Nat) (w:World) (D:Dom) (A:Yk) (C:Zm) (B:Mem) (dn:Int):Prop where
 ag:Zbb X w0 w
 row:Zf w kb 179 (kl D A C B dn)
 j:w.ownsRow base 87 6 (.slice A.aJ D.jobs.length A.cJ) D.jobs.length (fJ D.jobs)
 r:w.ownsRow base 3 1 (.slice A.aR D.rel.length A.cR) D.rel.length (ivs D.rel)
 e:w.ownsRow base 92 4 (.slice A.aE D.evs.length A.cE) D.evs.length (fE D.evs)
 jx:∀ x,(Value.slice A.aJ D.jobs.length A.cJ).ownBlock=some x→X x∨w0.heap.size≤x
 rx:∀ x,(Value.slice A.aR D.rel.length A.cR).ownBlock=some x→X x∨w0.heap.size≤x
 ex:∀ x,(Value.slice A.aE D.evs.length A.cE).ownBlock=some x→X x∨w0.heap.size≤x
 kx:X kb∨w0.heap.size≤kb
 xb:∀ x,X x→base≤x
 b0:base≤w0.heap.size
 lI:D.ins.length≤9223372036854775807
 lT:D.tak.length≤9223372036854775807
 lO:D.out.length≤9223372036854775807
 con:∀ w',Zbb X w0 w'→Z1 w' B C
 rest:∀ w':World,(∀ x,base≤x→x<w0.heap.size→¬ X x→w'.heap[x]? = w0.heap[x]?)→Z4 w' A.aT D.tak∧Za7 w' A.aI D.ins∧Jq w' A.aO D.out
section
variable {w0 w w1:World} {X:Nat→Prop} {base kb:Nat} {D:Dom} {A:Yk} {C:Zm} {B:Mem} {dn:Int}
theorem KO.keepIn (h:KO w0 X base kb w D A C B dn):Jf w kb D A C B dn:=by
 have r1:=h.con w h.ag;obtain ⟨r2,r3,r4⟩:=h.rest w (fun x _ h1 h2=>h.ag.same x h1 h2);exact ⟨h.row,⟨Za5 (Zz h.j).1,Yc (Zz h.r).1,r3,r2,r4,Zb4 (Zz h.e).1,(Zz h.j).2.2,(Zz h.r).2.2,h.lI,h.lT,h.lO,(Zz h.e).2.2⟩,r1⟩
theorem KO.below (h:KO w0 X base kb w D A C B dn) (hb:Below w.heap.size w w1):KO w0 X base kb w1 D A C B dn:=
 ⟨h.ag.below hb,h.row.below hb lr,Zy h.j hb,Zy h.r hb,Zy h.e hb,h.jx,h.rx,h.ex,h.kx,h.xb,h.b0,h.lI,h.lT,h.lO,h.con,h.rest⟩
theorem KO.dom (h:KO w0 X base kb w D A C B dn) (hk:∀ x,base≤x→w1.heap[x]? = w.heap[x]?):Yz w1 A D:=by
 obtain ⟨r2,r3,r4⟩:=h.rest w1 (fun x h0 h1 h2=>(hk x h0).trans (h.ag.same x h1 h2));have j:=Zz (Zi (w':=w1) h.j (fun x hx=>hk x (Zv h.j x hx)));have r:=Zz (Zi (w':=w1) h.r (fun x hx=>hk x (Zv h.r x hx)));have e:=Zz (Zi (w':=w1) h.e (fun x hx=>hk x (Zv h.e x hx)));exact ⟨Za5 j.1,Yc r.1,r3,r2,r4,Zb4 e.1,j.2.2,r.2.2,h.lI,h.lT,h.lO,e.2.2⟩
theorem KO.turned (h:KO w0 X base kb w D A C B dn) {row:Option Nat} (hg:w.grownBy w1 row) (hr:∀ x,row=some x→w0.heap.size≤x∧∃ o:Obj,w.heap[x]? = some o∧o.isCells=false):KO w0 X base kb w1 D A C B dn:=by
 have ne:∀ {x:Nat} {cur:Array Value} {t:TypeId} {fz:Nat×Nat},w.heap[x]? = some (.cells cur t fz)→some x≠row:=fun hx e=>by
  obtain ⟨_,o,h1,h2⟩:=hr _ e.symm;rw [hx] at h1;simp only [Option.some.injEq] at h1;subst h1;cases h2
 have ow:∀ {e sz n:Nat} {v:Value} {xs:List Value},w.ownsRow base e sz v n xs→w1.ownsRow base e sz v n xs:=fun o=>Zi o (fun x hx=>by
  obtain ⟨cur,hc⟩:=Zbs o hx;exact hg.block x (Zt o x hx) (ne hc))
 exact ⟨h.ag.grown hg (fun x hx=>.inr (hr x hx).1),(hg.block kb (Array.getElem?_eq_some_iff.1 h.row).1 (ne h.row)).trans h.row,ow h.j,ow h.r,ow h.e,h.jx,h.rx,h.ex,h.kx,h.xb,h.b0,h.lI,h.lT,h.lO,h.con,h.rest⟩
theorem KO.kb_lt (h:KO w0 X base kb w D A C B dn):kb<w.heap.size:=(Array.getElem?_eq_some_iff.1 h.row).1
theorem KO.base_kb (h:KO w0 X base kb w D A C B dn):base≤kb:=by
 rcases h.kx with h'|h'
 ·exact h.xb kb h'
 ·have:=h.b0;omega
theorem KO.told (h:KO w0 X base kb w D A C B dn) {E:List EvT} (hg:w.grownBy w1 (Value.slice A.aE D.evs.length A.cE).ownBlock) (ho:w1.ownsRow base 92 4 (.slice a' E.length c') E.length (fE E))
  (hat:∀ x,(Value.slice a' E.length c').ownBlock=some x→(Value.slice A.aE D.evs.length A.cE).ownBlock=some x∨w.heap.size≤x) :
  KO w0 X base kb (w1.setCell ⟨kb,6,none⟩ (.slice a' E.length c')) ⟨D.jobs,D.rel,D.nxt,D.ins,D.tak,D.out,E⟩ ⟨A.aJ,A.aR,A.aI,A.aT,A.aO,a',A.cJ,A.cR,A.cI,A.cT,A.cO,c'⟩ C B dn:=by
 have a0:Zf w1 kb 179 (kl D A C B dn):=(hg.block kb h.kb_lt (fun e=>Yi h.e h.row (by decide) kb e.symm rfl)).trans h.row;have j1:=Zi (w':=w1) h.j (fun x hx=>hg.block x (Zt h.j x hx) (fun e=>Ql h.j h.e (by decide) x hx e.symm));have r1:=Zi (w':=w1) h.r (fun x hx=>hg.block x (Zt h.r x hx) (fun e=>Ql h.r h.e (by decide) x hx e.symm));have hs:=h.ag.size;refine ⟨(h.ag.grown hg h.ex).set h.kx 6 _,Ze a0 6 _,Zi j1 (fun x hx=>Zd _ _ _ _ x (Yi j1 a0 (by decide) x hx)),Zi r1 (fun x hx=>Zd _ _ _ _ x (Yi r1 a0 (by decide) x hx)),Zi ho (fun x hx=>Zd _ _ _ _ x (Yi ho a0 (by decide) x hx)),h.jx,h.rx,fun x hx=>?_,h.kx,h.xb,h.b0,h.lI,h.lT,h.lO,h.con,h.rest⟩;rcases hat x hx with h'|h'
 ·exact h.ex x h'
 ·exact .inr (by omega)
theorem KO.pushed (h:KO w0 X base kb w D A C B dn) {J:List J6} (hg:w.grownBy w1 (Value.slice A.aJ D.jobs.length A.cJ).ownBlock) (ho:w1.ownsRow base 87 6 (.slice a' J.length c') J.length (fJ J))
  (hat:∀ x,(Value.slice a' J.length c').ownBlock=some x→(Value.slice A.aJ D.jobs.length A.cJ).ownBlock=some x∨w.heap.size≤x) :
  KO w0 X base kb (w1.setCell ⟨kb,0,none⟩ (.slice a' J.length c')) ⟨J,D.rel,D.nxt,D.ins,D.tak,D.out,D.evs⟩ ⟨a',A.aR,A.aI,A.aT,A.aO,A.aE,c',A.cR,A.cI,A.cT,A.cO,A.cE⟩ C B dn:=by
 have a0:Zf w1 kb 179 (kl D A C B dn):=(hg.block kb h.kb_lt (fun e=>Yi h.j h.row (by decide) kb e.symm rfl)).trans h.row;have e1:=Zi (w':=w1) h.e (fun x hx=>hg.block x (Zt h.e x hx) (fun e=>Ql h.e h.j (by decide) x hx e.symm));have r1:=Zi (w':=w1) h.r (fun x hx=>hg.block x (Zt h.r x hx) (fun e=>Ql h.r h.j (by decide) x hx e.symm));have hs:=h.ag.size;refine ⟨(h.ag.grown hg h.jx).set h.kx 0 _,Ze a0 0 _,Zi ho (fun x hx=>Zd _ _ _ _ x (Yi ho a0 (by decide) x hx)),Zi r1 (fun x hx=>Zd _ _ _ _ x (Yi r1 a0 (by decide) x hx)),Zi e1 (fun x hx=>Zd _ _ _ _ x (Yi e1 a0 (by decide) x hx)),fun x hx=>?_,h.rx,h.ex,h.kx,h.xb,h.b0,h.lI,h.lT,h.lO,h.con,h.rest⟩;rcases hat x hx with h'|h'
 ·exact h.jx x h'
 ·exact .inr (by omega)
theorem KO.start {gI gO m p q:Nat} (hown:Qu base w A D gI gO m p q) (hrow:Zf w kb 179 (kl D A C B dn)) (hkb:base≤kb) (hkm:kb<m∨q≤kb) (hbw:base≤w.heap.size) (hC:∀ w',Below base w w'→Z1 w' B C) (hI:D.ins.length≤9223372036854775807) (hO:D.out.length≤9223372036854775807):
  KO w (fun x=>x=kb∨(Value.slice A.aJ D.jobs.length A.cJ).ownBlock=some x∨(Value.slice A.aR D.rel.length A.cR).ownBlock=some x∨(Value.slice A.aE D.evs.length A.cE).ownBlock=some x) base kb w D A C B dn:=by
 have hX:∀ x,(x=kb∨(Value.slice A.aJ D.jobs.length A.cJ).ownBlock=some x∨(Value.slice A.aR D.rel.length A.cR).ownBlock=some x∨(Value.slice A.aE D.evs.length A.cE).ownBlock=some x)→base≤x:=fun x hx=>by
  rcases hx with rfl|hx|hx|hx
  ·exact hkb
  ·exact Zv hown.j x hx
  ·exact Zv hown.r x hx
  ·exact Zv hown.e x hx
 have hm:=hown.mp;have a2:=hown.bI;have a3:=hown.bO;have a0:∀ x,m≤x→x<q→¬ (x=kb∨(Value.slice A.aJ D.jobs.length A.cJ).ownBlock=some x∨(Value.slice A.aR D.rel.length A.cR).ownBlock=some x∨(Value.slice A.aE D.evs.length A.cE).ownBlock=some x):=fun x h1 h2 hx=>by
  rcases hx with rfl|hx|hx|hx
  ·omega
  ·have:=hown.lt x (.inl hx);omega
  ·have:=hown.lt x (.inr (.inl hx));omega
  ·have:=hown.lt x (.inr (.inr (.inr hx)));omega
 have a1:∀ {x:Nat} {cur:List Value} {t:TypeId},Zf w x t cur→t≠179→t≠87→t≠3→t≠92→¬ (x=kb∨(Value.slice A.aJ D.jobs.length A.cJ).ownBlock=some x∨(Value.slice A.aR D.rel.length A.cR).ownBlock=some x∨(Value.slice A.aE D.evs.length A.cE).ownBlock=some x):=fun {x cur t} hx n1 n2 n3 n4 hh=>by
  rcases hh with rfl|hh|hh|hh
  ·have h1:w.heap[x]? = _:=hx
   have h2:w.heap[x]? = _:=hrow;rw [h1] at h2;simp at h2;exact n1 h2.2
  ·exact Yi hown.j hx (Ne.symm n2) x hh rfl
  ·exact Yi hown.r hx (Ne.symm n3) x hh rfl
  ·exact Yi hown.e hx (Ne.symm n4) x hh rfl
 refine ⟨Zbb.refl _ _,hrow,hown.j,hown.r,hown.e,fun x hx=>.inl (.inr (.inl hx)),fun x hx=>.inl (.inr (.inr (.inl hx))),fun x hx=>.inl (.inr (.inr (.inr hx))),.inl (.inl rfl),hX,hbw,hI,(Zz hown.t).2.2,hO,fun w' hw'=>hC w' (hw'.to_below hbw hX),fun w' hw'=>⟨?_,?_,?_⟩⟩
 ·refine Yc (Zz (Zi hown.t (fun x hx=>hw' x (Zv hown.t x hx) (Zt hown.t x hx) (fun hh=>?_)))).1
  rcases hh with rfl|hh|hh|hh
  ·exact Yi hown.t hrow (by decide) x hx rfl
  ·exact Ql hown.t hown.j (by decide) x hx hh
  ·exact hown.rt x hh hx
  ·exact Ql hown.t hown.e (by decide) x hx hh
 ·rw [hown.aI]
  refine (hown.i.agree (fun x hx=>?_)).rings;rcases hx with rfl|⟨h1,h2⟩
  ·obtain ⟨cs,v,hr,_⟩:=hown.i
   exact hw' x (by omega) (by omega) (a1 hr (by decide) (by decide) (by decide) (by decide))
  ·exact hw' x (by omega) (by omega) (a0 x h1 (by omega))
 ·rw [hown.aO]
  refine (hown.o.agree (fun x hx=>?_)).lists;rcases hx with rfl|⟨h1,h2⟩
  ·obtain ⟨cs,v,hr,_⟩:=hown.o
   exact hw' x (by omega) (by omega) (a1 hr (by decide) (by decide) (by decide) (by decide))
  ·exact hw' x (by omega) (by omega) (a0 x (by omega) h2)
theorem Zqm (L:List Int) (k:Nat) (n:Int):(ivs L).set k (.int .i64 n)=ivs (L.set k n):=by
 simp [ivs,List.map_set]
theorem KO.setRel (h:KO w0 X base kb w D A C B dn) (hg:A.aR=some ⟨g,0,none⟩) (k:Nat) (n:Int):
  KO w0 X base kb (w.setCell ⟨g,k,none⟩ (.int .i64 n)) ⟨D.jobs,D.rel.set k n,D.nxt,D.ins,D.tak,D.out,D.evs⟩ A C B dn:=by
 have hb:(Value.slice A.aR D.rel.length A.cR).ownBlock=some g:=by rw [hg];rfl
 have hr:=h.r;rw [hg] at hr;have hl:(D.rel.set k n).length=D.rel.length:=List.length_set;refine ⟨h.ag.set (h.rx g hb) k _,?_,Zi h.j (fun x hx=>Zd _ _ _ _ x (fun e=>by subst e;exact Ql h.j h.r (by decide) x hx hb)),?_,Zi h.e (fun x hx=>Zd _ _ _ _ x (fun e=>by subst e;exact Ql h.e h.r (by decide) x hx hb)),h.jx,?_,h.ex,h.kx,h.xb,h.b0,h.lI,h.lT,h.lO,h.con,h.rest⟩
 ·have:kl ⟨D.jobs,D.rel.set k n,D.nxt,D.ins,D.tak,D.out,D.evs⟩ A C B dn=kl D A C B dn:=by simp only [kl,hl]
  rw [this];exact (Zd _ _ _ _ kb (fun e=>Yi h.r h.row (by decide) g hb e.symm)).trans h.row
 ·have:=Zd7 (i:=k) hr (.int .i64 n)
  rw [Zqm] at this;dsimp only;rw [hl,hg];exact this
 ·dsimp only
  rw [hl];exact h.rx
theorem Zns (J:List J6) (i r:Nat) (j j':J6) (u:Value) (hi:J[i]? = some j) (hr:r<6) (hj:(jc j).set r u=jc j'):(fJ J).set (i*6+r) u=fJ (J.set i j'):=by
 induction J generalizing i with
 | nil=>simp at hi
 | cons x t ih=>
  cases i with
  | zero=>
   simp at hi;subst hi
   have:fJ (x::t)=jc x++fJ t:=rfl
   rw [this,List.set_cons_zero,show fJ (j'::t)=jc j'++fJ t from rfl,← hj,List.set_append_left _ _ (by rw [show (jc x).length=6 from rfl];omega)];simp
  | succ i=>
   have h2:=ih i (by simpa using hi)
   have:fJ (x::t)=jc x++fJ t:=rfl
   rw [this,List.set_cons_succ,show fJ (x::t.set i j')=jc x++fJ (t.set i j') from rfl,← h2,List.set_append_right _ _ (by rw [show (jc x).length=6 from rfl];omega)];congr 2;rw [show (jc x).length=6 from rfl];omega
theorem KO.setJob (h:KO w0 X base kb w D A C B dn) (hg:A.aJ=some ⟨g,0,none⟩) (i:Nat) (j:J6) (hj:D.jobs[i]? = some j):
  KO w0 X base kb (w.setCell ⟨g,i*6+5,none⟩ (.bool true)) ⟨D.jobs.set i (Zk3 j),D.rel,D.nxt,D.ins,D.tak,D.out,D.evs⟩ A C B dn:=by
 have hb:(Value.slice A.aJ D.jobs.length A.cJ).ownBlock=some g:=by rw [hg];rfl
 have hr:=h.j;rw [hg] at hr;have hl:(D.jobs.set i (Zk3 j)).length=D.jobs.length:=List.length_set;refine ⟨h.ag.set (h.jx g hb) _ _,?_,?_,Zi h.r (fun x hx=>Zd _ _ _ _ x (fun e=>by subst e;exact Ql h.r h.j (by decide) x hx hb)),Zi h.e (fun x hx=>Zd _ _ _ _ x (fun e=>by subst e;exact Ql h.e h.j (by decide) x hx hb)),?_,h.rx,h.ex,h.kx,h.xb,h.b0,h.lI,h.lT,h.lO,h.con,h.rest⟩
 ·have:kl ⟨D.jobs.set i (Zk3 j),D.rel,D.nxt,D.ins,D.tak,D.out,D.evs⟩ A C B dn=kl D A C B dn:=by simp only [kl,hl]
  rw [this];exact (Zd _ _ _ _ kb (fun e=>Yi h.j h.row (by decide) g hb e.symm)).trans h.row
 ·have:=Zd7 (i:=i*6+5) hr (.bool true)
  have e5:(fJ D.jobs).set (i*6+5) (.bool true)=fJ (D.jobs.set i (Zk3 j)):=Zns D.jobs i 5 j (Zk3 j) _ hj (by omega) rfl;rw [e5] at this;dsimp only;rw [hl,hg];exact this
 ·dsimp only
  rw [hl];exact h.jx
end
def Zq (D:Dom):Dom:=⟨D.jobs,D.rel,D.nxt,D.ins,D.tak,List.replicate D.out.length [],[]⟩
def Zph (x:EvT):Bool:=decide (x.2.1=2)||decide (x.2.1=6)
def Zci (x:EvT):Bool:=(decide (7≤x.2.1)&&decide (x.2.1≤12))||decide (x.2.1=4)
def Yaj (fr tq:Int) (x:EvT):Prop:=x.1≤tq∧(fr≤x.1∨Zph x=true)
def Zwv (t:Int) (x:EvT):Prop:=x.1≤t∧Zph x=true
theorem Zjq (C:Zm) (k:Nat) (D:Dom):(Ya C k D).nxt=D.nxt∧(Ya C k D).ins=D.ins∧(Ya C k D).tak=D.tak∧(Ya C k D).out=D.out:=by
 unfold Ya;split<;>exact ⟨rfl,rfl,rfl,rfl⟩
theorem Zhi (C:Zm) (now:Int) (i:Nat) (D:Dom):(Ym C now i D).nxt=D.nxt∧(Ym C now i D).ins=D.ins∧(Ym C now i D).tak=D.tak∧(Ym C now i D).out=D.out:=by
 unfold Ym;split
 ·exact ⟨rfl,rfl,rfl,rfl⟩
 ·split<;>exact ⟨rfl,rfl,rfl,rfl⟩
theorem Ztr (P:Dom→Prop) (hs:∀ k D,P D→Zfl C now k D=true→P (Ya C k D)):∀ (l:List NT) (D:Dom),P D→P (Ziz C now l D):=by
 intro l
 induction l with
 | nil=>intro D h;exact h
 | cons x r ih=>intro D h;exact ih _ (Zd4 P (fun D h hg=>hs x.1 D h hg) _ D h)
theorem Zn6 (P:Dom→Prop) (hr:∀ k D,P D→Zfl C now k D=true→P (Ya C k D)) (hm:∀ i D,P D→P (Ym C now i D)) (D:Dom) (h:P D):P (Zaa C dn now D):=
 Zc4 C now P (fun D i h=>hm i D h) _ _ (Ztr P hr _ D h)
theorem Zpi (C:Zm) (dn now:Int) (D:Dom):(Zaa C dn now D).nxt=D.nxt∧(Zaa C dn now D).ins=D.ins∧(Zaa C dn now D).tak=D.tak∧(Zaa C dn now D).out=D.out:=
 Zn6 (fun D'=>D'.nxt=D.nxt∧D'.ins=D.ins∧D'.tak=D.tak∧D'.out=D.out) (fun k D' h _=>by
   have:=Zjq C k D'
   exact ⟨this.1.trans h.1,this.2.1.trans h.2.1,this.2.2.1.trans h.2.2.1,this.2.2.2.trans h.2.2.2⟩)
  (fun i D' h=>by
   have:=Zhi C now i D'
   exact ⟨this.1.trans h.1,this.2.1.trans h.2.1,this.2.2.1.trans h.2.2.1,this.2.2.2.trans h.2.2.2⟩) D ⟨rfl,rfl,rfl,rfl⟩
theorem Zpp (C:Zm) (dn now:Int) (D:Dom) (h:∀ x∈D.evs,Zwv now x):∀ x∈(Zaa C dn now D).evs,Zwv now x:=
 Zn6 (fun D'=>∀ x∈D'.evs,Zwv now x) (fun k D' h hg x hx=>by
   simp only [Zfl,Bool.and_eq_true,decide_eq_true_eq] at hg;unfold Ya at hx
   split at hx
   ·exact h x hx
   ·simp only [List.mem_append,List.mem_singleton] at hx
    rcases hx with hx|rfl
    ·exact h x hx
    ·exact ⟨hg.1,by simp [Zph]⟩)
  (fun i D' h x hx=>by
   unfold Ym at hx
   split at hx
   ·exact h x hx
   ·rename_i j hj
    split at hx
    ·rename_i hl
     simp only [Zrg,Bool.and_eq_true,decide_eq_true_eq] at hl;simp only [List.mem_append,List.mem_singleton] at hx;rcases hx with hx|rfl
     ·exact h x hx
     ·exact ⟨hl.2,by simp [Zph]⟩
    ·exact h x hx) D h
theorem Zqv {x:EvT} (h:Zph x=true):Zci x=false:=by
 simp only [Zph,Bool.or_eq_true,decide_eq_true_eq] at h;simp only [Zci,Bool.or_eq_false_iff,Bool.and_eq_false_iff,decide_eq_false_iff_not];omega
structure Win (C:Zm) (dn:Int) (D0:Dom) (fr tq:Int) (D:Dom) (now:Int):Prop where
 ck:ckD C dn (Zq D)=0
 ev:∃ E,D.evs=D0.evs++E∧(∀ e∈E,Yaj fr tq e)∧(E.countP Zci:Int)=D.nxt-D0.nxt
 lo:fr≤now
 hi:now≤tq
def Zah (C:Zm) (dn t:Int) (D:Dom):Dom:=⟨(Zaa C dn t (Zq D)).jobs,(Zaa C dn t (Zq D)).rel,D.nxt,D.ins,D.tak,D.out,D.evs++(Zaa C dn t (Zq D)).evs⟩
theorem Zpo (C:Zm) (dn t:Int) (D:Dom):Zq (Zah C dn t D)=⟨(Zaa C dn t (Zq D)).jobs,(Zaa C dn t (Zq D)).rel,(Zaa C dn t (Zq D)).nxt,(Zaa C dn t (Zq D)).ins,(Zaa C dn t (Zq D)).tak,(Zaa C dn t (Zq D)).out,[]⟩:=by
 have h:=Zpi C dn t (Zq D);rw [h.1,h.2.1,h.2.2.1,h.2.2.2];rfl
theorem Zw9 (C:Zm) (dn:Int) (D:Dom) (E:List EvT):ckD C dn ⟨D.jobs,D.rel,D.nxt,D.ins,D.tak,D.out,E⟩=ckD C dn D:=rfl
theorem Win.release (h:Win C dn D0 fr tq D now) (ht:inR t 0 100000=true) (hto:t≤tq):Win C dn D0 fr tq (Zah C dn t D) now:=by
 refine ⟨?_,?_,h.lo,h.hi⟩
 ·rw [Zpo,Zw9]
  exact Zsh h.ck ht
 ·obtain ⟨E,h1,h2,h3⟩:=h.ev
  have he:=Zpp C dn t (Zq D) (by intro x hx;simp [Zq] at hx);refine ⟨E++(Zaa C dn t (Zq D)).evs,by simp [Zah,h1],fun e hm=>?_,?_⟩
  ·rcases List.mem_append.1 hm with hm|hm
   ·exact h2 e hm
   ·have:=he e hm
    exact ⟨Int.le_trans this.1 hto,.inr this.2⟩
  ·have hz:(Zaa C dn t (Zq D)).evs.countP Zci=0:=List.countP_eq_zero.2 fun x hx=>by simp [Zqv (he x hx).2]
   rw [List.countP_append,hz];simpa [Zah] using h3
theorem Win.idle (h:Win C dn D0 fr tq D now) (h1:now≤t) (h2:t≤tq):Win C dn D0 fr tq D t:=⟨h.ck,h.ev,Int.le_trans h.lo h1,h2⟩
theorem Zui {L:List Int} {l m v:Int} (h:Zbc L l m=true) (i:Nat) (hv:inR v l m=true):Zbc (L.set i v) l m=true:=by
 refine List.all_eq_true.2 fun x hx=>?_
 rcases List.mem_or_eq_of_mem_set hx with h'|h'
 ·exact List.all_eq_true.1 h x h'
 ·rw [h'];exact hv
theorem Win.acted {now2:Int} {D5:Dom} (h:Win C dn D0 fr tq D now) (h1:now≤now2) (h2:now2≤tq) (hnx:D.nxt<100000)
  (hj:D5.jobs.length≤D.jobs.length) (hjs:∀ j∈D5.jobs,Za6 C dn j=0) (hrel:D5.rel=D.rel) (hn:D5.nxt=D.nxt+1) (hil:D5.ins.length=D.ins.length) (hi:Zaw C D5=0) (htl:D5.tak.length=D.tak.length) (ht:Zbc D5.tak 0 15=true) (hol:D5.out.length=D.out.length)
  (E:List EvT) (hE:D5.evs=D.evs++E) (hEv:∀ e∈E,Yaj fr tq e) (hc:E.countP Zci=1):Win C dn D0 fr tq D5 now2:=by
 refine ⟨?_,?_,Int.le_trans h.lo h1,h2⟩
 ·obtain ⟨c0,c1,c2,c3,c4,c5⟩:=Z0.1 h.ck
  have hS:=Ye.1 c1;have hN:=Yg.1 c2;have hJ:=Y4.1 c3;simp only [Zq,List.length_replicate] at hS hN hJ;simp only [inR,Bool.and_eq_true,decide_eq_true_eq] at hN;refine Z0.2 ⟨c0,Ye.2 ?_,Yg.2 ?_,Y4.2 ⟨by simp only [Zq];omega,hjs⟩,hi,?_⟩
  ·simp only [Zq,List.length_replicate]
   rw [hrel,hil,hol,htl];exact hS
  ·simp only [Zq]
   rw [hrel,hn];refine ⟨hN.1,?_,ht⟩;simp only [inR,Bool.and_eq_true,decide_eq_true_eq];omega
  ·unfold Zcz
   have e1:(Zq D5).out.any Zbj=false:=List.any_eq_false.2 fun x hx=>by
    simp only [Zq] at hx;rw [(List.mem_replicate.1 hx).2]
    decide
   have e2:(Zq D5).out.any Zcv=false:=List.any_eq_false.2 fun x hx=>by
    simp only [Zq] at hx;rw [(List.mem_replicate.1 hx).2]
    decide
   rw [e1,e2];rfl
 ·obtain ⟨E0,g1,g2,g3⟩:=h.ev
  refine ⟨E0++E,by rw [hE,g1,List.append_assoc],fun e hm=>?_,?_⟩
  ·rcases List.mem_append.1 hm with hm|hm
   ·exact g2 e hm
   ·exact hEv e hm
  ·rw [List.countP_append,hc,hn]
   omega
theorem Win.begin (hz:ckD C dn D=0) (h:fr≤tq):Win C dn D fr tq D fr:=by
 refine ⟨?_,⟨[],by simp,by simp,by simp⟩,Int.le_refl _,h⟩;obtain ⟨c0,c1,c2,c3,c4,c5⟩:=Z0.1 hz;refine Z0.2 ⟨c0,Ye.2 ?_,c2,c3,c4,?_⟩
 ·have:=Ye.1 c1
  simpa [Zq] using this
 ·unfold Zcz
  have e1:(Zq D).out.any Zbj=false:=List.any_eq_false.2 fun x hx=>by
   simp only [Zq] at hx;rw [(List.mem_replicate.1 hx).2]
   decide
  have e2:(Zq D).out.any Zcv=false:=List.any_eq_false.2 fun x hx=>by
   simp only [Zq] at hx;rw [(List.mem_replicate.1 hx).2]
   decide
  rw [e1,e2];rfl
end Go.Proofs.YtejhccmclanlmaaGreatDoor
