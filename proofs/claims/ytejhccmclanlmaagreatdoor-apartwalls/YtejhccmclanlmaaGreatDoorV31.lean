/- Gc Gd Ge Gg Ah Am -/
import Derived.Test.YtejhccmclanlmaaGreatDoorV30
set_option linter.all false
set_option maxRecDepth 100000
set_option maxHeartbeats 8000000
namespace Go.Proofs.YtejhccmclanlmaaGreatDoor
open Go.RowKit Go.Proofs.Tryz
variable {D E:Dom} {b dn fr now te:Int} {K:KT} {arr:List (Int×Int)} {L:List Qg} {c g i k m n slot:Nat} {a:Qg} {S:Scr} {w w' w0:World} {C:Zm}
theorem SI.run {C:Zm} {dn:Int} {D0:Dom} (h0:0≤fr) (hte:te≤100000) (hL:L.length≤60) (hAs:∀ a∈L,ckA a=0):
  ∀ (n:Nat) (D:Dom) (K:KT) (now:Int),SI C dn D0 fr te 0 D K now→(te-now).toNat≤n→SI C dn D0 fr te 40 (Zbq C dn L te n D K now).1 (Zbq C dn L te n D K now).2 te
 | n,D,K,now,h,hn=>by
  have hlo:=h.win.lo;have hhi:=h.win.hi;by_cases hlt:now<te
  ·obtain ⟨m,rfl⟩:∃ m,n=m+1:=⟨n-1,by omega⟩
   have SR:=h.release (t:=now) (by simp [inR];omega) (by omega);rw [Int.zero_add] at SR;have ST:=SI.step (L:=L) SR h.win.ck h0 hlt hte hL hAs;unfold Zbq;rw [if_pos hlt];exact SI.run h0 hte hL hAs m _ _ _ ST.1 (by have:=ST.2;omega)
  ·obtain rfl:now=te:=by omega
   rw [Zka _ _ _ _ _ _ _ _ hlt];have SR:=h.release (t:=now) (by simp [inR];omega) (Int.le_refl _);rw [Int.zero_add] at SR;exact SR
structure DI (C:Zm) (m:Nat) (i:Nat) (b:Int) (D:Dom):Prop where
 ck:ckD C i D=0
 oi:OI m D
 ev:(D.evs.length:Int)≤b
theorem Zjv {s v:Nat} (h1:1≤s) (h2:s≤4) (h3:1≤v) (h4:v≤3):ck (Qb s v)=0:=by
 have hs:s=1∨s=2∨s=3∨s=4:=by omega
 have hv:v=1∨v=2∨v=3:=by omega
 rcases hs with rfl|rfl|rfl|rfl<;>rcases hv with rfl|rfl|rfl<;>decide
theorem Y1 (h:ckC C=0):(1≤C.s∧C.s≤4)∧(1≤C.w∧C.w≤3)∧(1≤C.d∧C.d≤4):=by
 have h1:=(Zcr h).1;unfold Zep at h1
 split at h1
 ·rename_i h2
  simp only [inR,Bool.and_eq_true,decide_eq_true_eq] at h2;omega
 ·omega
theorem Zl1 (C:Zm) (arr:List (Int×Int)) (dn fr te:Int) (l:Nat):0≤Jl C arr dn fr te l:=Int.natCast_nonneg _
theorem Zf1 (arr:List (Int×Int)) (last now:Int) (h:DI C m i b D):DI C m i (b+1) (Zbw C arr (i:Int) slot D last now):=by
 obtain ⟨h0,h1,h2,h3,h4,h5⟩:=Z0.1 h.ck;refine ⟨Z0.2 ⟨h0,?_,?_,h3,h4,h5⟩,⟨h.oi.nx,h.oi.out⟩,?_⟩
 ·have:=Ye.1 h1
  refine Ye.2 ⟨this.1,this.2.1,this.2.2.1,?_⟩;show ((List.range D.tak.length).map _).length=_
  rw [List.length_map,List.length_range];exact this.2.2.2
 ·have:=Yg.1 h2
  refine Yg.2 ⟨this.1,this.2.1,Zkk fun j hj=>?_⟩;have a0:j<D.tak.length:=by simpa [Zbw] using hj
  have hx:inR D.tak[j] 0 15=true:=by
   have ht:=this.2.2;simp only [Zbc,List.all_eq_true] at ht;exact ht _ (List.getElem_mem a0)
  have hc:=Zl1 C arr i last now j;simp only [Zbw,List.getElem_map,List.getElem_range];rw [show D.tak.getD j 0=D.tak[j] by simp [a0]];simp only [inR,Bool.and_eq_true,decide_eq_true_eq] at hx ⊢;omega
 ·show ((D.evs++[_]).length:Int)≤_
  have:=h.ev
  simp;omega
theorem Zmc {arr:List (Int×Int)} {last:Int} (hC:ckC C=0) (h:DI C L.length (slD C slot) b D) (hL:L.length≤60) (hAs:∀ a∈L,ckA a=0) (h0:0≤fr) (hft:fr≤te) (hte:te≤100000):
  Zd2 C (slD C slot) (Zbw C arr (slD C slot) slot D last fr) (Qb C.s.toNat C.w.toNat) L fr te=0∧DI C L.length (slD C slot) (b+100*(te-fr)+42) (Zvk C arr L slot fr te last D):=by
 have ho:=Zf1 (slot:=slot) arr last fr h;obtain ⟨⟨s1,s2⟩,⟨v1,v2⟩,_⟩:=Y1 hC;have hk:ck (Qb C.s.toNat C.w.toNat)=0:=Zjv (by omega) (by omega) (by omega) (by omega);have a1:Zdj L=0:=by
  unfold Zdj;rw [if_neg (by omega)];refine Qt _ _ fun j hj=>?_
  rw [show L.getD j (0,0,0)=L[j] by simp [hj]];exact hAs _ (List.getElem_mem hj)
 have a2:0≤(Zbw C arr (slD C slot) slot D last fr).nxt:=by
  have:=(Yg.1 (Z0.1 ho.ck).2.2.1).2.1
  simp only [inR,Bool.and_eq_true,decide_eq_true_eq] at this;exact this.1
 constructor
 ·unfold Zd2
  rw [if_neg (by rw [ho.ck];decide),if_neg (by rw [hk];decide),if_neg (by rw [a1];decide),if_neg (by omega)]
 ·have hS:=SI.run h0 hte hL hAs (te-fr).toNat _ _ fr (Zfz (D:=Zbw C arr (slD C slot) slot D last fr) ho.ck hk hft) lr
  have hO:=OI.run (C:=C) (dn:=(slD C slot:Int)) (te:=te) hAs (te-fr).toNat (Zbw C arr (slD C slot) slot D last fr) (Qb C.s.toNat C.w.toNat) fr a2 ho.oi;unfold Zvk;generalize Zbq C (slD C slot) L te (te-fr).toNat (Zbw C arr (slD C slot) slot D last fr) (Qb C.s.toNat C.w.toNat) fr=R at *
  have a0:ckD C (slD C slot) R.1=0:=Ztv hS.win.ck fun l hl=>by
   have h1:=hO.out l hl;have h2:=hO.nx;exact ⟨by omega,h1.2⟩
  refine ⟨a0,⟨hO.nx,hO.out⟩,?_⟩;have h1:=hS.ev;have h2:=ho.ev;show ((R.1.evs++[_]).length:Int)≤_
  simp;omega
theorem Zkx {V:List Int} {lost size:Int} (h1:inR size 1 4=true) (h2:(V.length:Int)≤size) (h3:Zbc V 0 255=true) (h4:inR lost 0 100000=true):ckR V lost size=0:=by
 unfold ckR;rw [if_neg (by simp [h1]),if_neg (by omega),if_neg (by simp [h3]),if_neg (by simp [h4])]
theorem Ztp {m' j:Nat} {b':Int} (h:DI C m i b D) (hE:DI C m' j b' E) (hc:c<C.ch.length):DI C m i b (Zde D E c (C.ch.getD c (0,0,0)).2.2):=by
 obtain ⟨h0,h1,h2,h3,h4,h5⟩:=Z0.1 h.ck;have hs:=Ye.1 h1;have a4:=Ye.1 (Z0.1 hE.ck).2.1;have a2:=Zib.1 h4;refine ⟨Z0.2 ⟨h0,?_,h2,h3,?_,h5⟩,⟨h.oi.nx,h.oi.out⟩,h.ev⟩
 ·exact Ye.2 ⟨hs.1,by show (List.set _ _ _).length=_;rw [List.length_set];exact hs.2.1,hs.2.2⟩
 ·refine Zib.2 fun k hk=>?_
  have a1:k<D.ins.length:=by simpa [Zde] using hk
  have a0:=a2 k a1;unfold Zex at a0 ⊢;by_cases e:k=c
  ·subst e
   obtain ⟨⟨z1,z2⟩,z3,z4,z5,z6⟩:=Zh7 a0;have a3:Zbc (E.out.getD k []) 0 255=true:=by
    rw [show E.out.getD k []=E.out[k]'(by omega) by simp [show k<E.out.length by omega]];exact (hE.oi.out _ (List.getElem_mem _)).2
   have hg:(Zde D E k (C.ch.getD k (0,0,0)).2.2).ins.getD k ([],0)=(Zkf (D.ins.getD k ([],0)).1 (E.out.getD k []) ((C.ch.getD k (0,0,0)).2.2.toNat-(D.ins.getD k ([],0)).1.length) (E.out.getD k []).length,Zm6 (D.ins.getD k ([],0)).2 ((C.ch.getD k (0,0,0)).2.2.toNat-(D.ins.getD k ([],0)).1.length) (E.out.getD k []).length):=by
    simp [Zde,a1]
   rw [hg];generalize (C.ch.getD k (0,0,0)).2.2=size at *
   generalize D.ins.getD k ([],0)=r at *
   generalize E.out.getD k []=o at *
   refine Zkx (by simp [inR];omega) ?_ ?_ ?_
   ·simp only [Zkf,List.length_append,List.length_take]
    omega
   ·simp only [Zkf,Zbc,List.all_append,Bool.and_eq_true] at *
    refine ⟨z4,List.all_eq_true.2 fun x hx=>List.all_eq_true.1 a3 x (List.mem_of_mem_take hx)⟩
   ·unfold Zm6 inR
    rw [Bool.and_eq_true];exact ⟨decide_eq_true (by omega),decide_eq_true (by omega)⟩
  ·rw [show (Zde D E c (C.ch.getD c (0,0,0)).2.2).ins.getD k ([],0)=D.ins.getD k ([],0) by
    simp only [Zde,List.getD];rw [List.getElem?_set_ne (by omega)]]
   exact a0
theorem Zt9 (c:Nat) (hn:0≤D.nxt) (h:DI C m i b D):DI C m i b (Zgb D c):=by
 obtain ⟨h0,h1,h2,h3,h4,h5⟩:=Z0.1 h.ck;have hs:=Ye.1 h1;have ho:∀ l∈D.out.set c [],l∈D.out∨l=[]:=fun l hl=>List.mem_or_eq_of_mem_set hl
 refine ⟨Z0.2 ⟨h0,?_,h2,h3,h4,Zbu.2 fun l hl=>?_⟩,⟨h.oi.nx,fun l hl=>?_⟩,h.ev⟩
 ·exact Ye.2 ⟨hs.1,hs.2.1,by show (List.set _ _ _).length=_;rw [List.length_set];exact hs.2.2.1,hs.2.2.2⟩
 ·rcases ho l hl with h'|rfl
  ·exact Zbu.1 h5 l h'
  ·exact ⟨by simp,rfl⟩
 ·rcases ho l hl with h'|rfl
  ·exact h.oi.out l h'
  ·exact ⟨hn,rfl⟩
theorem DI.nx0 (h:DI C m i b D):0≤D.nxt:=by
 have:=(Yg.1 (Z0.1 h.ck).2.2.1).2.1
 simp only [inR,Bool.and_eq_true,decide_eq_true_eq] at this;exact this.1
def ALL (C:Zm) (m:Nat→Nat) (b:Int) (Ds:Nat→Dom):Prop:=∀ i:Nat,(i:Int)<C.d→DI C (m i) i b (Ds i)
theorem Zsu {m:Nat→Nat} {Ds:Nat→Dom} (hc:c<C.ch.length) (hf:(chF C c:Int)<C.d) (h:ALL C m b Ds):ALL C m b (Zm1 C c Ds):=by
 have h1:ALL C m b (Zct Ds (chT C c) (Zde (Ds (chT C c)) (Ds (chF C c)) c (C.ch.getD c (0,0,0)).2.2)):=by
  intro i hi;by_cases e:i=chT C c
  ·subst e
   rw [Yb];exact Ztp (h _ hi) (h _ hf) hc
  ·rw [Z9 _ _ e]
   exact h i hi
 intro i hi;unfold Zm1;by_cases e:i=chF C c
 ·subst e
  rw [Yb];exact Zt9 c (h1 _ hi).nx0 (h1 _ hi)
 ·rw [Z9 _ _ e]
  exact h1 i hi
theorem Zsm {m:Nat→Nat} {Ds:Nat→Dom} {dn:Nat} (hd:(dn:Int)<C.d) (h:ALL C m b Ds):ALL C m b (J4 C dn Ds):=by
 unfold J4;have a0:∀ (l:List Nat),(∀ c∈l,c<C.ch.length)→∀ Ds:Nat→Dom,ALL C m b Ds→ALL C m b (l.foldl (fun Ds c=>if chF C c=dn then Zm1 C c Ds else Ds) Ds):=by
  intro l
  induction l with
  | nil=>intro _ Ds h;exact h
  | cons c l ih=>
   intro hl Ds h;simp only [List.foldl_cons];refine ih (fun x hx=>hl x (List.mem_cons_of_mem _ hx)) _ ?_;split
   ·rename_i e
    exact Zsu (hl c (List.mem_cons_self ..)) (by rw [e];exact hd) h
   ·exact h
 exact a0 _ (fun c hc=>List.mem_range.1 hc) Ds h
theorem Zj8 (h:ckC C=0) (hk:k<C.sl.length):(0≤(C.sl.getD k (0,0)).1∧(C.sl.getD k (0,0)).1<C.d)∧100≤(C.sl.getD k (0,0)).2∧(C.sl.getD k (0,0)).2≤1000:=by
 have h1:=Zx (Zcr h).2.2.2.1 k hk;unfold Zpy at h1
 split at h1
 ·rename_i hd
  split at h1
  ·rename_i hr
   simp only [isD,inR,Bool.and_eq_true,decide_eq_true_eq] at hd hr;omega
  ·omega
 ·omega
theorem Zia (h:ckC C=0) (hk:k<C.sl.length):(slD C k:Int)<C.d∧(slD C k:Int)=(C.sl.getD k (0,0)).1:=by
 have:=Zj8 h hk
 unfold slD;omega
theorem Zag (h:ckC C=0):C.sl.length≤6∧C.ow.length≤4∧C.ch.length≤4∧C.ta.length≤6:=by
 have h1:=(Zcr h).2.2.1;unfold Zc0 at h1
 split at h1
 ·rename_i h2
  simp only [inR,Bool.and_eq_true,decide_eq_true_eq] at h2;omega
 ·omega
theorem Znt (h:ckC C=0):0≤C.p∧C.p≤99:=by
 have h1:=(Zcr h).2.1;obtain ⟨⟨s1,s2⟩,⟨v1,v2⟩,_⟩:=Y1 h;unfold Zlx at h1
 split at h1
 ·rename_i h2
  simp only [inR,Bool.and_eq_true,decide_eq_true_eq] at h2
  have:0≤5*C.s*C.w:=Int.mul_nonneg (by omega) (by omega)
  omega
 ·omega
theorem Zd5 (h:ckC C=0):∀ k,k≤C.sl.length→0≤Ji (C.sl.take k)∧Ji (C.sl.take k)≤1000*k
 | 0,_=>by simp [Ji]
 | k+1,hk=>by
  have h1:=Zd5 h k (by omega);have h2:=Zj8 h (k:=k) (by omega);rw [Zhc _ k (by omega)];rw [show C.sl.getD k (0,0)=C.sl[k] by simp [show k<C.sl.length by omega]] at h2;omega
theorem Zc8 (h:ckC C=0) {r:Nat} (hr:r≤8):∀ t∈Qm C r,t.1<C.sl.length∧0≤t.2.1∧t.2.1≤t.2.2∧t.2.2≤100000∧t.2.2-t.2.1≤1000:=by
 intro t ht;unfold Qm at ht;simp only [List.mem_flatMap,List.mem_map,List.mem_range] at ht;obtain ⟨n,hn,k,hk,rfl⟩:=ht;dsimp only;have h1:=Zd5 h k (by omega);have h2:=Zd5 h C.sl.length lr;rw [List.take_length] at h2;have h3:=Zag h;have h4:=Znt h;have h5:=Zj8 h hk;generalize Ji (C.sl.take k)=a at *
 generalize Ji C.sl=s at *
 have hs:s≤6000:=by omega
 have e1:0≤(n:Int)*s:=Int.mul_nonneg (by omega) (by omega);have e2:(n:Int)*s≤7*6000:=Int.mul_le_mul (by omega) hs (by omega) (by omega);generalize (n:Int)*s=x at *
 refine ⟨hk,by omega,by omega,by omega,by omega⟩
structure Zi6 (C:Zm) (S:Scr):Prop where
 cfg:ckC C=0
 rounds:S.rounds≤8
 acts:∀ i,(S.acts.getD i []).length≤60∧∀ a∈S.acts.getD i [],ckA a=0
structure MI (C:Zm) (S:Scr) (b:Int) (X:(Nat→Dom)×(Nat→Int)):Prop where
 doms:ALL C (fun i=>(S.acts.getD i []).length) b X.1
 last:∀ i,0≤X.2 i∧X.2 i≤100000
theorem MI.turn {X:(Nat→Dom)×(Nat→Int)} (hS:Zi6 C S) (h:MI C S b X) (hb:0≤b) (t:Nat×Int×Int) (ht:t.1<C.sl.length∧0≤t.2.1∧t.2.1≤t.2.2∧t.2.2≤100000∧t.2.2-t.2.1≤1000):MI C S (b+100042) (Zcg C S t X):=by
 obtain ⟨a0,fr,te⟩:=t;dsimp only at ht;obtain ⟨h1,h2,h3,h4,h5⟩:=ht;have hd:=Zia hS.cfg h1;have hw:=(Zmc (arr:=S.arr) (last:=X.2 (slD C a0)) hS.cfg (h.doms (slD C a0) hd.1) (hS.acts _).1 (hS.acts _).2 h2 h3 h4).2;refine ⟨?_,fun i=>?_⟩
 ·refine Zsm hd.1 ?_
  intro i hi;by_cases e:i=slD C a0
  ·subst e
   rw [Yb];refine ⟨hw.ck,hw.oi,?_⟩
   have:=hw.ev
   dsimp only;omega
  ·rw [Z9 _ _ e]
   exact ⟨(h.doms i hi).ck,(h.doms i hi).oi,by have:=(h.doms i hi).ev;omega⟩
 ·by_cases e:i=slD C a0
  ·subst e
   show 0≤Zct _ _ _ _∧_
   rw [show (Zcg C S (a0,fr,te) X).2 (slD C a0)=fr from Yb ..];exact ⟨by rw [Yb];exact h2,by omega⟩
  ·rw [show (Zcg C S (a0,fr,te) X).2 i=X.2 i from Z9 _ _ e]
   exact h.last i
theorem Zxi (h:ckC C=0) (m:Nat) (i:Nat) (hi:(i:Int)<C.d):DI C m i 0 (Zch C):=by
 have a0:∀ n:Nat,∀ a b:Int,a≤0→0≤b→Zbc (List.replicate n 0) a b=true:=fun n a b ha hb=>by
  simp only [Zbc,List.all_eq_true,List.mem_replicate];rintro x ⟨_,rfl⟩;simp [inR];omega
 refine ⟨Z0.2 ⟨?_,?_,?_,?_,?_,?_⟩,⟨?_,?_⟩,?_⟩
 ·unfold Q6
  rw [if_pos h,if_pos (by simp [inR];omega)]
 ·exact Ye.2 ⟨by simp [Zch],by simp [Zch],by simp [Zch],by simp [Zch]⟩
 ·exact Yg.2 ⟨a0 _ _ _ (by omega) (by omega),show inR 0 0 100000=true by decide,a0 _ _ _ (by omega) (by omega)⟩
 ·exact Y4.2 ⟨by simp [Zch],by simp [Zch]⟩
 ·refine Zib.2 fun k hk=>?_
  have a1:k<C.ch.length:=by simpa [Zch] using hk
  have h1:=Zx (Zcr h).2.2.2.2.2.1 k a1;unfold Zex;rw [show (Zch C).ins.getD k ([],0)=([],0) by simp [Zch,a1]];unfold Zhr at h1;rw [List.getElem?_eq_getElem a1] at h1;dsimp only at h1;rw [show C.ch.getD k (0,0,0)=C.ch[k] by simp [a1]];generalize C.ch[k]=x at *
  split at h1
  ·split at h1
   ·omega
   ·split at h1
    ·rename_i a2
     exact Zkx a2 (by simp [inR] at a2 ⊢;omega) rfl (by decide)
    ·omega
  ·omega
 ·refine Zbu.2 fun l hl=>?_
  obtain ⟨_,rfl⟩:=List.mem_replicate.1 hl;exact ⟨by simp,rfl⟩
 ·show (0:Int)≤_
  omega
 ·intro l hl
  obtain ⟨_,rfl⟩:=List.mem_replicate.1 hl;exact ⟨by simp [Zch],rfl⟩
 ·simp [Zch]
theorem MI.begin (hS:Zi6 C S):MI C S 0 (fun _=>Zch C,fun _=>0):=⟨fun i hi=>Zxi hS.cfg _ i hi,fun i=>⟨Int.le_refl _,show (0:Int)≤100000 by decide⟩⟩
def J8 (C:Zm) (a:Int×Int):Nat:=(C.ow.getD a.2.toNat 0).toNat
theorem Zso {rb:Nat→Bool} (hi:rb i=true) (arr:List (Int×Int)) (fr te:Int) (l:Nat):Jl C (arr.filter fun a=>rb (J8 C a)) (i:Int) fr te l=Jl C arr (i:Int) fr te l:=by
 unfold Jl;rw [List.filter_filter];congr 2;refine List.filter_congr fun a ha=>?_
 unfold Zqe
 cases hq:(decide (a.2=(l:Int))&&(decide (C.ow.getD l 0=(i:Int))&&(decide (fr≤a.1)&&decide (a.1<te)))) with
 | false=>rfl
 | true=>
  simp only [Bool.and_eq_true,decide_eq_true_eq] at hq;obtain ⟨h1,h2,_⟩:=hq
  have:J8 C a=i:=by
   unfold J8;rw [h1,Int.toNat_natCast,h2,Int.toNat_natCast]
  rw [this,hi];rfl
theorem Zqt {rb:Nat→Bool} (hi:rb i=true) (arr:List (Int×Int)) (hno:∀ a∈arr,rb (J8 C a)=false) (fr te:Int) (l:Nat):Jl C arr (i:Int) fr te l=0:=by
 unfold Jl;rw [List.filter_eq_nil_iff.2]
 ·rfl
 ·intro a ha hq
  simp only [Zqe,Bool.and_eq_true,decide_eq_true_eq] at hq;obtain ⟨h1,h2,_⟩:=hq
  have:J8 C a=i:=by
   unfold J8;rw [h1,Int.toNat_natCast,h2,Int.toNat_natCast]
  have h3:=hno a ha;rw [this,hi] at h3;cases h3
theorem Zt5 (C:Zm) (a b:List (Int×Int)) (dn fr te:Int) (l:Nat):Jl C (a++b) dn fr te l=Jl C a dn fr te l+Jl C b dn fr te l:=by
 unfold Jl;rw [List.filter_append,List.length_append];omega
theorem Zpn {rb:Nat→Bool} {n:Nat} {acts:List (List Qg)} {rest:List (Int×Int)} (ha:∀ i,rb i=true→acts.getD i []=S.acts.getD i []) (hr:∀ a∈rest,rb (J8 C a)=false):
  Zq3 C (fun i=>rb i=true) ⟨acts,(S.arr.filter fun a=>rb (J8 C a))++rest,S.rounds⟩ S:=by
 refine ⟨rfl,ha,fun i hi fr te l=>?_⟩;show Jl C ((S.arr.filter fun a=>rb (J8 C a))++rest) (i:Int) fr te l=_
 rw [Zt5,Zso hi,Zqt hi rest hr,Int.add_zero]
def R64 (n:Int):Prop:=-9223372036854775808≤n∧n≤9223372036854775807
def EvB (x:EvT):Prop:=R64 x.1∧R64 x.2.1∧R64 x.2.2.1∧R64 x.2.2.2
def EvI (D:Dom):Prop:=∀ x∈D.evs,EvB x
theorem Zoa (n:Int):R64 (wrap64 n):=by
 unfold wrap64 R64;omega
theorem R64.small {n:Int} (h1:-1000000000000≤n) (h2:n≤1000000000000):R64 n:=⟨by omega,by omega⟩
theorem EvI.add {x:EvT} (h:EvI D) (he:E.evs=D.evs++[x]) (hx:EvB x):EvI E:=by
 intro y hy;rw [he] at hy;rcases List.mem_append.1 hy with hy|hy
 ·exact h y hy
 ·simp at hy
  subst hy;exact hx
theorem EvI.same (h:EvI D) (he:E.evs=D.evs):EvI E:=by
 intro y hy;rw [he] at hy;exact h y hy
theorem Zyo {j:J6} (hC:ckC C=0) (hj:Za6 C dn j=0):R64 j.1∧R64 j.2.1:=by
 obtain ⟨⟨h0,h1,_⟩,h2,_,_⟩:=Zem.1 hj;have h3:=(Zag hC).2.2.2;simp only [inR,Bool.and_eq_true,decide_eq_true_eq] at h2;exact ⟨.small (by omega) (by omega),.small (by omega) (by omega)⟩
theorem Zp3 (hC:ckC C=0) (hr:Zbc D.rel 0 100000=true) (hk:k<C.ta.length) (h:EvI D):EvI (Ya C k D):=by
 unfold Ya;split
 ·exact h.same rfl
 ·have h1:=Zqc hr k
  have h2:=(Zag hC).2.2.2;exact h.add rfl ⟨Zoa _,.small (by dsimp only;omega) (by dsimp only;omega),.small (by dsimp only;omega) (by dsimp only;omega),.small (by dsimp only;omega) (by dsimp only;omega)⟩
theorem Zmh (hz:ckD C dn D=0) (h:EvI D):EvI (Ym C now i D):=by
 unfold Ym;split
 ·exact h
 ·rename_i j hj
  split
  ·have hm:j∈D.jobs:=List.mem_of_getElem? hj
   obtain ⟨c0,_,_,c3,_,_⟩:=Z0.1 hz;have hb:=Zyo (Q3 c0) ((Y4.1 c3).2 j hm);exact h.add rfl ⟨Zoa _,.small (by dsimp only;omega) (by dsimp only;omega),hb.1,hb.2⟩
  ·exact h
theorem Zri (hn:inR now 0 100000=true):∀ (l:List NT) (D:Dom),(∀ x∈l,x.1<C.ta.length∧(tk C x.1).1=dn)→ckD C dn D=0∧EvI D→ckD C dn (Ziz C now l D)=0∧EvI (Ziz C now l D)
 | [],D,_,h=>h
 | x::l,D,hl,h=>by
  have hx:=hl x (by simp);have hs:ckD C dn (Zml C now x.1 D)=0∧EvI (Zml C now x.1 D):=Zd4 (fun D=>ckD C dn D=0∧EvI D) (fun D hP hg=>⟨Zez hP.1 hn x.1 hx.1 hx.2 hg,Zp3 (Q3 (Z0.1 hP.1).1) (Yg.1 (Z0.1 hP.1).2.2.1).1 hx.1 hP.2⟩) _ D h;exact Zri hn l _ (fun y hy=>hl y (by simp [hy])) hs
theorem Zxa (hz:ckD C dn D=0) (hn:inR now 0 100000=true) (h:EvI D):EvI (Zaa C dn now D):=
 (Zc4 C now (fun D=>ckD C dn D=0∧EvI D) (fun D i hP=>⟨Zhb hP.1 i,Zmh hP.1 hP.2⟩) _ _ (Zri hn _ D Zb9 ⟨hz,h⟩)).2
theorem Zsy {t:Int} (hz:ckD C dn (Zq D)=0) (hn:inR t 0 100000=true) (h:EvI D):EvI (Zah C dn t D):=by
 intro x hx;rcases List.mem_append.1 (show x∈D.evs++(Zaa C dn t (Zq D)).evs from hx) with hx|hx
 ·exact h x hx
 ·exact Zxa hz hn (fun y hy=>by cases hy) x hx
theorem Zv7 (V:List Int) (l s:Int):R64 (Zhk V l s):=by
 unfold Zhk;split
 ·rename_i h
  cases V with
  | nil=>exact .small (by simp) (by simp)
  | cons v V=>
   have hv:inR v 0 255=true:=by
    by_cases hc:inR v 0 255=true
    ·exact hc
    ·exfalso
     revert h;simp [ckR,Zbc,hc]
     repeat' split
     all_goals simp
   simp only [inR,Bool.and_eq_true,decide_eq_true_eq] at hv;exact .small (by simp;omega) (by simp;omega)
 ·exact .small (by omega) (by omega)
theorem Zz7 {L:List Int} (h:Zbc L 0 15=true) (k:Nat):R64 (L.getD k 0):=by
 by_cases hk:k<L.length
 ·simp only [Zbc,List.all_eq_true] at h
  have:=h _ (List.getElem_mem hk)
  simp only [inR,Bool.and_eq_true,decide_eq_true_eq] at this;rw [show L.getD k 0=L[k] by simp [hk]];exact .small (by omega) (by omega)
 ·rw [show L.getD k 0=0 by simp [List.getD,List.getElem?_eq_none (Nat.le_of_not_lt hk)]]
  exact .small (by omega) (by omega)
theorem Zv1 {c:Int} (hC:ckC C=0) (hA:ckA a=0) (hn:0≤now∧now≤200000) (hc:0≤c∧c≤200) (hx:0≤D.nxt∧D.nxt≤100000) (ht:Zbc D.tak 0 15=true) (h:EvI D):EvI (Zae C dn D now a c):=by
 obtain ⟨_,_,h2,_,_⟩:=Zlk hA;obtain ⟨_,k2,k3,_⟩:=Zag hC;have N:R64 now:=.small (by omega) (by omega);have Z:R64 0:=.small (by omega) (by omega);have a1:∀ k:Nat,k<100→R64 (k:Int):=fun k hk=>.small (by omega) (by omega)
 unfold Zae;split
 ·exact h.add rfl ⟨N,a1 12 (by omega),.small (by dsimp only;omega) (by dsimp only;omega),Z⟩
 ·rename_i hm
  have a0:Zht C dn a=true:=by simpa using hm
  unfold Zht at a0;split
  ·exact h.add rfl ⟨N,a1 11 (by omega),.small (by dsimp only;omega) (by dsimp only;omega),Z⟩
  ·split
   ·rename_i h4
    rw [if_pos h4] at a0;simp only [Bool.and_eq_true,decide_eq_true_eq] at a0;exact EvI.add (D:=D) h rfl ⟨N,a1 9 (by omega),.small (by dsimp only;omega) (by dsimp only;omega),Z⟩
   ·rename_i h4
    rw [if_neg h4] at a0;split
    ·rename_i h5
     rw [if_pos h5] at a0;simp only [Bool.and_eq_true,decide_eq_true_eq] at a0;exact EvI.add (D:=D) h rfl ⟨N,a1 8 (by omega),.small (by dsimp only;omega) (by dsimp only;omega),Zv7 _ _ _⟩
    ·rename_i h5
     rw [if_neg h5] at a0;split
     ·refine h.add rfl ⟨N,a1 7 (by omega),?_,Z⟩
      have e:(now.tmod C.q).natAbs≤now.natAbs:=by rw [Int.natAbs_tmod];exact Nat.mod_le _ _
      exact .small (by dsimp only;omega) (by dsimp only;omega)
     ·split
      ·rename_i h7
       rw [if_pos h7] at a0;simp only [Bool.and_eq_true,decide_eq_true_eq] at a0;exact EvI.add (D:=D) h rfl ⟨N,a1 10 (by omega),.small (by dsimp only;omega) (by dsimp only;omega),Zz7 ht _⟩
      ·exact h
theorem Zte (hz:ckD C dn (Zq D)=0) (hk:k<D.jobs.length) (hK:ck K=0) (hA:ckA a=0) (hn:0≤now∧now≤100000) (h:EvI D):EvI (Zh1 C dn D K now k a):=by
 obtain ⟨c0,c1,c2,c3,c4,c5⟩:=Z0.1 hz;have hC:=Q3 c0;have hN:=Yg.1 c2;obtain ⟨a3,a4,a5⟩:=Zob hK hA;have n1:=Zdy D now k;have a1:k<(Zp D now k).jobs.length:=by rw [n1.jl];exact hk
 have n2:=Zdr (Zp D now k) k (spC K a);have r1:=Zdu D now k;have j1:=Ze5 (now:=now) hk;have hj:R64 (jat D k).1∧R64 (jat D k).2.1:=by
  refine Zyo hC ((Y4.1 c3).2 (jat D k) ?_);show jat D k∈D.jobs
  rw [show jat D k=D.jobs[k] by simp [jat,hk]];exact List.getElem_mem hk
 have N:R64 now:=.small (by omega) (by omega);have a2:0≤D.nxt∧D.nxt≤100000:=by
  have:=hN.2.1
  simp only [Zq,inR,Bool.and_eq_true] at this;exact ⟨of_decide_eq_true this.1,of_decide_eq_true this.2⟩
 unfold Zh1;generalize spC K a=c at *
 have E1:EvI (Zp D now k):=by
  rcases Ze4 D now k with e|e
  ·exact h.same e
  ·exact h.add e ⟨N,.small (by dsimp only;omega) (by dsimp only;omega),hj.1,hj.2⟩
 have E2:EvI (Yp (Zp D now k) k c):=E1.same rfl;have e2:jat (Yp (Zp D now k) k c) k=Zna (jat (Zp D now k) k) c:=Zkb a1 _;have E3:=Zv1 (dn:=dn) (now:=now+c) (c:=c) hC hA (by omega) (by omega) (by rw [n2.nxt,n1.nxt];exact a2) (by rw [show (Yp (Zp D now k) k c).tak=(Zp D now k).tak from rfl,r1.2.1];exact hN.2.2) E2;have m3:=(Zg6 C dn (Yp (Zp D now k) k c) (now+c) a c).2;generalize hD3:Zae C dn (Yp (Zp D now k) k c) (now+c) a c=D3 at *
 have e4:(jat (Jr D3) k).1=(jat D k).1∧(jat (Jr D3) k).2.1=(jat D k).2.1:=by
  have:jat (Jr D3) k=jat (Yp (Zp D now k) k c) k:=by
   unfold jat;rw [show (Jr D3).jobs=D3.jobs from rfl,m3]
  rw [this,e2];exact ⟨j1.1,j1.2.1⟩
 have E4:EvI (Jr D3):=E3.same rfl;have N2:R64 (now+c):=.small (by omega) (by omega);have a0:R64 (jat (Jr D3) k).1∧R64 (jat (Jr D3) k).2.1:=by rw [e4.1,e4.2];exact hj
 rcases Zoq C (Jr D3) (now+c) k a with ⟨_,e⟩|⟨_,e|e⟩
 ·exact E4.add e ⟨N2,.small (by dsimp only;omega) (by dsimp only;omega),a0.1,a0.2⟩
 ·exact E4.same e
 ·exact E4.add e ⟨N2,.small (by dsimp only;omega) (by dsimp only;omega),a0.1,a0.2⟩
theorem Zyd (hz:ckD C dn (Zq D)=0) (hK:ck K=0) (hAs:∀ a∈L,ckA a=0) (hn:0≤now∧now≤100000) (h:EvI D):EvI (stD C dn L te D K now):=by
 unfold stD;split
 ·rename_i hd
  simp only [Zms,Bool.and_eq_true,decide_eq_true_eq] at hd;obtain ⟨⟨hp,hx⟩,_⟩:=hd;have a0:0≤D.nxt∧D.nxt≤100000:=by
   have:=(Yg.1 (Z0.1 hz).2.2.1).2.1
   simp only [Zq,inR,Bool.and_eq_true] at this;exact ⟨of_decide_eq_true this.1,of_decide_eq_true this.2⟩
  rcases Zes C D.jobs with ⟨_,e⟩|⟨k,hk,e,_⟩
  ·omega
  ·rw [e,Int.toNat_natCast]
   refine Zte hz hk hK (hAs _ ?_) hn h;unfold aAt;rw [show L.getD D.nxt.toNat (0,0,0)=L[D.nxt.toNat]'(by omega) by simp [show D.nxt.toNat<L.length by omega]];exact List.getElem_mem _
 ·exact h
theorem Zvn {C:Zm} {dn:Int} {D0:Dom} (h0:0≤fr) (hte:te≤100000) (hL:L.length≤60) (hAs:∀ a∈L,ckA a=0):
  ∀ (n:Nat) (D:Dom) (K:KT) (now:Int),SI C dn D0 fr te 0 D K now→(te-now).toNat≤n→EvI D→EvI (Zbq C dn L te n D K now).1
 | n,D,K,now,h,hn,hE=>by
  have hlo:=h.win.lo;have hhi:=h.win.hi;by_cases hlt:now<te
  ·obtain ⟨m,rfl⟩:∃ m,n=m+1:=⟨n-1,by omega⟩
   have SR:=h.release (t:=now) (by simp [inR];omega) (by omega);rw [Int.zero_add] at SR;have ST:=SI.step (L:=L) SR h.win.ck h0 hlt hte hL hAs;unfold Zbq;rw [if_pos hlt];exact Zvn h0 hte hL hAs m _ _ _ ST.1 (by have:=ST.2;omega) (Zyd SR.win.ck SR.ck hAs (by omega) (Zsy h.win.ck (by simp [inR];omega) hE))
  ·obtain rfl:now=te:=by omega
   rw [Zka _ _ _ _ _ _ _ _ hlt];exact Zsy h.win.ck (by simp [inR];omega) hE
theorem Zw0 {last:Int} (hC:ckC C=0) (hs:slot<C.sl.length) (h:DI C L.length (slD C slot) b D) (hL:L.length≤60) (hAs:∀ a∈L,ckA a=0) (h0:0≤fr) (hft:fr≤te) (hte:te≤100000) (hE:EvI D):EvI (Zvk C arr L slot fr te last D):=by
 have ho:=Zf1 (slot:=slot) arr last fr h;obtain ⟨⟨s1,s2⟩,⟨v1,v2⟩,_⟩:=Y1 hC;have hk:ck (Qb C.s.toNat C.w.toNat)=0:=Zjv (by omega) (by omega) (by omega) (by omega);have h6:=(Zag hC).1;have EO:EvI (Zbw C arr (slD C slot) slot D last fr):=hE.add rfl ⟨.small (by dsimp only;omega) (by dsimp only;omega),.small (by dsimp only;omega) (by dsimp only;omega),.small (by dsimp only;omega) (by dsimp only;omega),.small (by dsimp only;omega) (by dsimp only;omega)⟩;have ER:=Zvn h0 hte hL hAs (te-fr).toNat _ _ fr (Zfz (D:=Zbw C arr (slD C slot) slot D last fr) ho.ck hk hft) lr EO;exact ER.add (E:=Zvk C arr L slot fr te last D) rfl ⟨.small (by dsimp only;omega) (by dsimp only;omega),.small (by dsimp only;omega) (by dsimp only;omega),.small (by dsimp only;omega) (by dsimp only;omega),.small (by dsimp only;omega) (by dsimp only;omega)⟩
theorem Zwd {Ds:Nat→Dom} (h:∀ i,EvI (Ds i)):∀ i,EvI (Zm1 C c Ds i):=by
 intro i;unfold Zm1;have h1:∀ j,EvI (Zct Ds (chT C c) (Zde (Ds (chT C c)) (Ds (chF C c)) c (C.ch.getD c (0,0,0)).2.2) j):=by
  intro j;by_cases e:j=chT C c
  ·subst e
   rw [Yb];exact (h _).same rfl
  ·rw [Z9 _ _ e]
   exact h j
 by_cases e:i=chF C c
 ·subst e
  rw [Yb];exact (h1 _).same rfl
 ·rw [Z9 _ _ e]
  exact h1 i
theorem Zqr {dn:Nat} {Ds:Nat→Dom} (h:∀ i,EvI (Ds i)):∀ i,EvI (J4 C dn Ds i):=by
 unfold J4;generalize List.range C.ch.length=l
 induction l generalizing Ds with
 | nil=>exact h
 | cons c l ih=>
  simp only [List.foldl_cons];refine ih ?_;split
  ·exact Zwd h
  ·exact h
theorem Zoi (hS:Zi6 C S):∀ (l:List (Nat×Int×Int)) (b:Int) (X:(Nat→Dom)×(Nat→Int)),0≤b→MI C S b X→(∀ i,EvI (X.1 i))→(∀ t∈l,t.1<C.sl.length∧0≤t.2.1∧t.2.1≤t.2.2∧t.2.2≤100000∧t.2.2-t.2.1≤1000)→(∀ i,EvI ((l.foldl (fun X t=>Zcg C S t X) X).1 i))∧∃ b',b'=b+100042*l.length∧MI C S b' (l.foldl (fun X t=>Zcg C S t X) X)
 | [],b,X,hb,hM,hE,_=>⟨hE,b,by simp,hM⟩
 | t::l,b,X,hb,hM,hE,ht=>by
  have h1:=ht t (by simp);have hM1:=MI.turn hS hM hb t h1;have hd:=Zia hS.cfg h1.1;have hE1:∀ i,EvI ((Zcg C S t X).1 i):=by
   refine Zqr fun i=>?_
   by_cases e:i=slD C t.1
   ·subst e
    rw [Yb];exact Zw0 hS.cfg h1.1 (hM.doms _ hd.1) (hS.acts _).1 (hS.acts _).2 h1.2.1 h1.2.2.1 h1.2.2.2.1 (hE _)
   ·rw [Z9 _ _ e]
    exact hE i
  obtain ⟨k1,b',k2,k3⟩:=Zoi hS l (b+100042) _ (by omega) hM1 hE1 (fun x hx=>ht x (by simp [hx]));exact ⟨k1,b',by rw [k2];simp;omega,k3⟩
theorem Zwx (hS:Zi6 C S):(∀ i,EvI ((J9 C S).1 i))∧∀ i:Nat,(i:Int)<C.d→((J9 C S).1 i).evs.length≤1000000000:=by
 have ht:=Zc8 hS.cfg hS.rounds;obtain ⟨h1,b,h2,h3⟩:=Zoi hS (Qm C S.rounds) 0 _ (by omega) (MI.begin hS) (fun i x hx=>by cases hx) ht;refine ⟨h1,fun i hi=>?_⟩;have h4:=(h3.doms i hi).ev;have h5:(Qm C S.rounds).length≤48:=by
  have h6:=(Zag hS.cfg).1;have h7:=hS.rounds;unfold Qm;have a0:∀ n:Nat,((List.range n).flatMap fun (r:Nat)=>(List.range C.sl.length).map fun (k:Nat)=>(k,(r:Int)*Ji C.sl+Ji (C.sl.take k),(r:Int)*Ji C.sl+Ji (C.sl.take k)+(C.sl.getD k (0,0)).2-C.p)).length=n*C.sl.length:=by
   intro n
   induction n with
   | zero=>simp
   | succ n ih=>rw [List.range_succ,List.flatMap_append,List.length_append,ih,Nat.succ_mul];simp
  rw [a0]
  have:=Nat.mul_le_mul h7 h6
  omega
 have h8:((J9 C S).1 i).evs.length≤b:=h4;omega
theorem Zvg {arr:List Zar} {last:Int} (h:D.tak.length=C.ow.length):Zbw C arr dn slot D last now=Zmg D (Qy C arr dn last now) now slot:=by
 unfold Zbw Zmg;congr 1;refine List.ext_getElem (by simp [Zix]) fun i h1 h2=>?_
 have hi:i<D.tak.length:=by simpa using h1
 simp only [Zix,List.getElem_map,List.getElem_range];rw [if_pos hi,show (Qy C arr dn last now).getD i 0=Jl C arr dn last now i by simp [Qy,show i<C.ow.length by omega]]
theorem Zu5 {L:List Zar} (h:Yv C L 0 0 0=0) (hd:inR dn 0 (C.d-1)=true) (hf:inR fr 0 100000=true) (ht:inR te 0 100000=true):Yv C L dn fr te=0:=by
 unfold Yv at h ⊢
 split at h
 ·rename_i h1
  exact absurd h h1
 ·rename_i h1
  rw [if_neg h1]
  split at h
  ·omega
  ·rw [if_neg (by rw [hd];decide)]
   split at h
   ·omega
   ·rename_i h3
    rw [if_neg h3]
    split at h
    ·omega
    ·rename_i h4
     rw [if_neg h4]
     split at h
     ·omega
     ·rename_i h5
      rw [if_neg h5,if_neg (by rw [hf];decide),if_neg (by rw [ht];decide)]
theorem Zbm {S:Zcm} (h:Qo C S=0):Zi6 C ⟨S.acts,S.arr,S.rounds.toNat⟩∧(S.acts.length:Int)=C.d∧Yv C S.arr 0 0 0=0∧0≤S.rounds:=by
 unfold Qo at h
 split at h
 ·rename_i h1;exact absurd h h1
 ·rename_i h1
  split at h
  ·omega
  ·rename_i h2
   split at h
   ·omega
   ·rename_i h3
    split at h
    ·rename_i h4;exact absurd h h4
    ·rename_i h4
     have hr:inR S.rounds 0 8=true:=by simpa using h3
     simp only [inR,Bool.and_eq_true,decide_eq_true_eq] at hr;refine ⟨⟨by omega,by show S.rounds.toNat≤8;omega,fun i=>?_⟩,by omega,by omega,hr.1⟩;by_cases hi:i<S.acts.length
     ·have h5:=Zx h i hi
      unfold Zdj at h5
      split at h5
      ·omega
      ·rename_i h6
       refine ⟨by show (S.acts.getD i []).length≤60;omega,fun a ha=>?_⟩;obtain ⟨j,hj,rfl⟩:=List.getElem_of_mem ha
       have:=Zx h5 j hj
       rw [show (S.acts.getD i []).getD j (0,0,0)=(S.acts.getD i [])[j] by rw [List.getD,List.getElem?_eq_getElem hj];rfl] at this;exact this
     ·have e:S.acts.getD i []=[]:=by
       simp only [List.getD];rw [List.getElem?_eq_none (by omega)];rfl
      show (S.acts.getD i []).length≤60∧∀ a∈S.acts.getD i [],ckA a=0
      rw [e];exact ⟨by simp,by simp⟩
theorem Tryz.info46x:(prog.info? 46).map (fun i=>(i.zero,i.size,i.bytes))=some (some (.agg #[.slice none 0 0,.slice none 0 0,.int .i64 0,.slice none 0 0,.slice none 0 0,.slice none 0 0,.slice none 0 0]),7,152):=by kernel_rfl
theorem Ziy (n:Nat) (h:n≤1000000000) (w:World):(Instr.makeSlice 33 (.int .i64 (n:Int)) (.int .i64 (n:Int))).run prog w=.ok (.slice (some ⟨w.heap.size,0,none⟩) n n) (w.alloc (.cells (madeCells #[.slice none 0 0,.slice none 0 0,.int .i64 0,.slice none 0 0,.slice none 0 0,.slice none 0 0,.slice none 0 0] (n*7)) 46)):=by
 obtain ⟨i,hi,hz,hs,hb⟩:=Zbk Tryz.info46x
 have:=run_make (P:=prog) w 33 46 i _ underlying33 hi hz .i64 .i64 n n (by omega) (by omega) (by rw [hb];omega) (by omega)
 rw [hs] at this;simp only [show (Value.agg #[Value.slice none 0 0,Value.slice none 0 0,Value.int IntKind.i64 0,Value.slice none 0 0,Value.slice none 0 0,Value.slice none 0 0,Value.slice none 0 0]).cells=#[Value.slice none 0 0,Value.slice none 0 0,Value.int IntKind.i64 0,Value.slice none 0 0,Value.slice none 0 0,Value.slice none 0 0,Value.slice none 0 0] from rfl,Int.toNat_natCast] at this;exact this
def Zhz (w:World) (g n:Nat):Prop:=∃ cs,Zf w g 46 cs∧cs.length=n*7
theorem Zhz.keep (h:Zhz w g n) (hb:Below w.heap.size w w'):Zhz w' g n:=by
 obtain ⟨cs,h1,h2⟩:=h;exact ⟨cs,h1.below hb lr,h2⟩
theorem Zhz.other (h:Zhz w g n) (hk:w'.heap[g]? = w.heap[g]?):Zhz w' g n:=by
 obtain ⟨cs,h1,h2⟩:=h;exact ⟨cs,hk.trans h1,h2⟩
theorem Zhz.lt (h:Zhz w g n):g<w.heap.size:=by
 obtain ⟨cs,h1,h2⟩:=h;exact (Array.getElem?_eq_some_iff.1 h1).1
def Zc7 (w:World) (g p:Nat) (v0 v1 v2 v3 v4 v5 v6:Value):World:=((((((w.setCell ⟨g,p,none⟩ v0).setCell ⟨g,p+1,none⟩ v1).setCell ⟨g,p+2,none⟩ v2).setCell ⟨g,p+3,none⟩ v3).setCell ⟨g,p+4,none⟩ v4).setCell ⟨g,p+5,none⟩ v5).setCell ⟨g,p+6,none⟩ v6
theorem Zd1 (w:World) (g p:Nat) (v0 v1 v2 v3 v4 v5 v6:Value) (k:Nat) (h:k≠g):(Zc7 w g p v0 v1 v2 v3 v4 v5 v6).heap[k]? = w.heap[k]? := by
 unfold Zc7;rw [Zd _ _ _ _ _ h,Zd _ _ _ _ _ h,Zd _ _ _ _ _ h,Zd _ _ _ _ _ h,Zd _ _ _ _ _ h,Zd _ _ _ _ _ h,Zd _ _ _ _ _ h]
theorem Zgn (w:World) (g p:Nat) (v0 v1 v2 v3 v4 v5 v6:Value):(Zc7 w g p v0 v1 v2 v3 v4 v5 v6).heap.size=w.heap.size:=by
 simp [Zc7,World.setCell]
theorem Zac {B:Nat} {a:World} (h:Below B a w) (hg:B≤g) (p:Nat) (v0 v1 v2 v3 v4 v5 v6:Value):Below B a (Zc7 w g p v0 v1 v2 v3 v4 v5 v6):=by
 unfold Zc7;exact ((((((h.setCell (p:=⟨g,p,none⟩) hg _).setCell (p:=⟨g,p+1,none⟩) hg _).setCell (p:=⟨g,p+2,none⟩) hg _).setCell (p:=⟨g,p+3,none⟩) hg _).setCell (p:=⟨g,p+4,none⟩) hg _).setCell (p:=⟨g,p+5,none⟩) hg _).setCell (p:=⟨g,p+6,none⟩) hg _
theorem Zjh {t:TypeId} {cs:List Value} (h:Zf w g t cs) (p:Nat) (v0 v1 v2 v3 v4 v5 v6:Value):Zf (Zc7 w g p v0 v1 v2 v3 v4 v5 v6) g t (((((((cs.set p v0).set (p+1) v1).set (p+2) v2).set (p+3) v3).set (p+4) v4).set (p+5) v5).set (p+6) v6):=by
 unfold Zc7;exact Ze (Ze (Ze (Ze (Ze (Ze (Ze h _ _) _ _) _ _) _ _) _ _) _ _) _ _
theorem Zmj (h:Zhz w g n) (hi:i<n) (D:Dom) (A:Yk):
  Zhz (Zc7 w g (i*7) (.slice A.aJ D.jobs.length A.cJ) (.slice A.aR D.rel.length A.cR) (.int .i64 D.nxt) (.slice A.aI D.ins.length A.cI) (.slice A.aT D.tak.length A.cT) (.slice A.aO D.out.length A.cO) (.slice A.aE D.evs.length A.cE)) g n ∧
  Qx (Zc7 w g (i*7) (.slice A.aJ D.jobs.length A.cJ) (.slice A.aR D.rel.length A.cR) (.int .i64 D.nxt) (.slice A.aI D.ins.length A.cI) (.slice A.aT D.tak.length A.cT) (.slice A.aO D.out.length A.cO) (.slice A.aE D.evs.length A.cE)) g 0 i D A ∧
  ∀ j E A',j≠i→Qx w g 0 j E A'→Qx (Zc7 w g (i*7) (.slice A.aJ D.jobs.length A.cJ) (.slice A.aR D.rel.length A.cR) (.int .i64 D.nxt) (.slice A.aI D.ins.length A.cI) (.slice A.aT D.tak.length A.cT) (.slice A.aO D.out.length A.cO) (.slice A.aE D.evs.length A.cE)) g 0 j E A':=by
 obtain ⟨cs,h1,h2⟩:=h;have hr:=Zjh h1 (i*7) (.slice A.aJ D.jobs.length A.cJ) (.slice A.aR D.rel.length A.cR) (.int .i64 D.nxt) (.slice A.aI D.ins.length A.cI) (.slice A.aT D.tak.length A.cT) (.slice A.aO D.out.length A.cO) (.slice A.aE D.evs.length A.cE);have hb:i*7+6<cs.length:=by omega
 refine ⟨⟨_,hr,by simp [h2]⟩,?_,?_⟩
 ·constructor<;>(rw [Nat.zero_add];refine hr.cell _ _ ?_)<;>simp [List.getElem?_set,List.length_set]<;>omega
 ·intro j E A' hj hd
  have a0:∀ k v,w.cell? ⟨g,0+j*7+k,none⟩=some v→k<7→(Zc7 w g (i*7) (.slice A.aJ D.jobs.length A.cJ) (.slice A.aR D.rel.length A.cR) (.int .i64 D.nxt) (.slice A.aI D.ins.length A.cI) (.slice A.aT D.tak.length A.cT) (.slice A.aO D.out.length A.cO) (.slice A.aE D.evs.length A.cE)).cell? ⟨g,0+j*7+k,none⟩=some v:=by
   intro k v hv hk;unfold Zc7;rw [World.cell?_setCell_other _ _ _ _ (by simp<;>omega),World.cell?_setCell_other _ _ _ _ (by simp<;>omega),World.cell?_setCell_other _ _ _ _ (by simp<;>omega),World.cell?_setCell_other _ _ _ _ (by simp<;>omega),World.cell?_setCell_other _ _ _ _ (by simp<;>omega),World.cell?_setCell_other _ _ _ _ (by simp<;>omega),World.cell?_setCell_other _ _ _ _ (by simp<;>omega)];exact hv
  exact ⟨a0 0 _ hd.c0 (by omega),a0 1 _ hd.c1 (by omega),a0 2 _ hd.c2 (by omega),a0 3 _ hd.c3 (by omega),a0 4 _ hd.c4 (by omega),a0 5 _ hd.c5 (by omega),a0 6 _ hd.c6 (by omega)⟩
theorem Zwp (h:ckC C=0) (hc:c<C.ch.length):(0≤C.ch[c].1∧C.ch[c].1<C.d)∧(0≤C.ch[c].2.1∧C.ch[c].2.1<C.d)∧C.ch[c].1≠C.ch[c].2.1:=by
 have h1:=Zx (Zcr h).2.2.2.2.2.1 c hc;unfold Zhr at h1;rw [List.getElem?_eq_getElem hc] at h1;dsimp only at h1;generalize C.ch[c]=x at *
 split at h1
 ·rename_i hd
  simp only [isD,inR,Bool.and_eq_true,decide_eq_true_eq] at hd
  split at h1
  ·omega
  ·rename_i a0
   exact ⟨by omega,by omega,a0⟩
 ·omega
structure CpS (w0:World) (gA n k:Nat) (w:World) (Ds:Nat→Dom) (As:Nat→Yk) (gI gO q bnd:Nat→Nat):Prop where
 row:Zhz w gA n
 at_:∀ i,i<k→Qx w gA 0 i (Ds i) (As i)
 own:∀ i,i<k→∃ m p,Qu (bnd i) w (As i) (Ds i) (gI i) (gO i) m p (q i)
 lo:∀ i,i≤k→gA<bnd i
 up:∀ i,i<k→q i≤bnd (i+1)∧bnd i≤bnd (i+1)
 hi:bnd k≤w.heap.size
 low:Below w0.heap.size w0 w
 gA:w0.heap.size≤gA
theorem CpS.keep {gA:Nat} {Ds:Nat→Dom} {As:Nat→Yk} {gI gO q bnd:Nat→Nat} (h:CpS w0 gA n k w Ds As gI gO q bnd) (hb:Below w.heap.size w w'):CpS w0 gA n k w' Ds As gI gO q bnd:=
 ⟨h.row.keep hb,fun i hi=>(h.at_ i hi).keep hb,fun i hi=>by obtain ⟨m,p,ho⟩:=h.own i hi;exact ⟨m,p,ho.keep hb⟩,h.lo,h.up,Nat.le_trans h.hi hb.size,Zb h.low hb,h.gA⟩
theorem CpS.next {gA:Nat} {Ds:Nat→Dom} {As:Nat→Yk} {gI gO q bnd:Nat→Nat} (h:CpS w0 gA n k w Ds As gI gO q bnd) (hk:k<n) (hb:Below w.heap.size w w') {A:Yk} {gi go p q':Nat} (ho:Qu w.heap.size w' A (Ds k) gi go m p q'):
  CpS w0 gA n (k+1) (Zc7 w' gA (k*7) (.slice A.aJ (Ds k).jobs.length A.cJ) (.slice A.aR (Ds k).rel.length A.cR) (.int .i64 (Ds k).nxt) (.slice A.aI (Ds k).ins.length A.cI) (.slice A.aT (Ds k).tak.length A.cT) (.slice A.aO (Ds k).out.length A.cO) (.slice A.aE (Ds k).evs.length A.cE)) Ds (Zct As k A) (Zct gI k gi) (Zct gO k go) (Zct q k q') (Zct (Zct bnd k w.heap.size) (k+1) w'.heap.size):=by
 have h':=h.keep hb;have hp:=Zmj h'.row hk (Ds k) A;have a0:=Zd1 w' gA (k*7) (.slice A.aJ (Ds k).jobs.length A.cJ) (.slice A.aR (Ds k).rel.length A.cR) (.int .i64 (Ds k).nxt) (.slice A.aI (Ds k).ins.length A.cI) (.slice A.aT (Ds k).tak.length A.cT) (.slice A.aO (Ds k).out.length A.cO) (.slice A.aE (Ds k).evs.length A.cE);have a4:=Zgn w' gA (k*7) (.slice A.aJ (Ds k).jobs.length A.cJ) (.slice A.aR (Ds k).rel.length A.cR) (.int .i64 (Ds k).nxt) (.slice A.aI (Ds k).ins.length A.cI) (.slice A.aT (Ds k).tak.length A.cT) (.slice A.aO (Ds k).out.length A.cO) (.slice A.aE (Ds k).evs.length A.cE);have a1:=Zac h'.low h'.gA (k*7) (.slice A.aJ (Ds k).jobs.length A.cJ) (.slice A.aR (Ds k).rel.length A.cR) (.int .i64 (Ds k).nxt) (.slice A.aI (Ds k).ins.length A.cI) (.slice A.aT (Ds k).tak.length A.cT) (.slice A.aO (Ds k).out.length A.cO) (.slice A.aE (Ds k).evs.length A.cE);generalize Zc7 w' gA (k*7) (.slice A.aJ (Ds k).jobs.length A.cJ) (.slice A.aR (Ds k).rel.length A.cR) (.int .i64 (Ds k).nxt) (.slice A.aI (Ds k).ins.length A.cI) (.slice A.aT (Ds k).tak.length A.cT) (.slice A.aO (Ds k).out.length A.cO) (.slice A.aE (Ds k).evs.length A.cE)=w2 at *
 have a2:=h.row.lt;have a5:=h.hi;have a6:=hb.size;have hq:=ho.mp;refine ⟨hp.1,fun i hi=>?_,fun i hi=>?_,fun i hi=>?_,fun i hi=>?_,?_,a1,h.gA⟩
 ·by_cases e:i=k
  ·subst e;rw [Yb];exact hp.2.1
  ·rw [Z9 _ _ e];exact hp.2.2 i _ _ e (h'.at_ i (by omega))
 ·by_cases e:i=k
  ·subst e
   rw [Z9 _ _ (show i≠i+1 by omega),Yb,Yb,Yb,Yb,Yb];exact ⟨m,p,ho.agree (by omega) fun x hx _=>a0 x (by omega)⟩
  ·rw [Z9 _ _ (show i≠k+1 by omega),Z9 _ _ e,Z9 _ _ e,Z9 _ _ e,Z9 _ _ e,Z9 _ _ e]
   obtain ⟨m',p',a3⟩:=h'.own i (by omega)
   have:=h.lo i (by omega)
   exact ⟨m',p',a3.agree (by omega) fun x hx _=>a0 x (by omega)⟩
 ·by_cases e:i=k+1
  ·subst e;rw [Yb];omega
  ·rw [Z9 _ _ e]
   by_cases e':i=k
   ·subst e';rw [Yb];exact a2
   ·rw [Z9 _ _ e'];exact h.lo i (by omega)
 ·by_cases e:i=k
  ·subst e
   rw [Yb,Yb,Z9 _ _ (show i≠i+1 by omega),Yb];omega
  ·rw [Z9 _ _ e,Z9 _ _ (show i+1≠k+1 by omega),Z9 _ _ (show i≠k+1 by omega),Z9 _ _ e]
   have:=h.up i (by omega)
   by_cases e':i+1=k
   ·rw [e',Yb]
    rw [e'] at this;omega
   ·rw [Z9 _ _ e']
    exact this
 ·rw [Yb];omega
theorem Zx9 {bnd:Nat→Nat} (h:∀ i,i<k→bnd i≤bnd (i+1)):∀ i j,i≤j→j≤k→bnd i≤bnd j:=Zce h
theorem CpS.all {gA:Nat} {Ds:Nat→Dom} {As:Nat→Yk} {gI gO q bnd:Nat→Nat} (h:CpS w0 gA n n w Ds As gI gO q bnd) (hI:∀ i,i<n→(Ds i).ins.length≤9223372036854775807) (hO:∀ i,i<n→(Ds i).out.length≤9223372036854775807):
  ClS (fun k=>k≤gA∨∃ j,j<n∧(k=gI j∨k=gO j)) w gA n Ds As gI gO∧(∀ i,i<n→gA<gI i∧gA<gO i∧gI i<w.heap.size∧gO i<w.heap.size):=by
 have hr:∀ i,i<n→bnd i≤gI i∧gI i<q i∧bnd i≤gO i∧gO i<q i:=fun i hi=>by
  obtain ⟨m,p,ho⟩:=h.own i hi
  have:=ho.bI;have:=ho.bO;have:=ho.mp
  omega
 have hm:=Zx9 fun i hi=>(h.up i hi).2
 have a0:∀ i j,i<n→j<n→i<j→q i≤bnd j:=fun i j hi hj hij=>by
  have:=(h.up i hi).1
  have:=hm (i+1) j (by omega) (by omega)
  omega
 have hA:∀ i,i<n→gA<gI i∧gA<gO i∧gI i<w.heap.size∧gO i<w.heap.size:=fun i hi=>by
  have:=hr i hi
  have:=h.lo i (by omega)
  obtain ⟨m,p,ho⟩:=h.own i hi
  have:=ho.mp
  omega
 refine ⟨⟨h.at_,fun i hi=>?_,fun i j hi hj hne=>?_,fun i hi=>?_,fun i j hi hj=>?_⟩,hA⟩
 ·obtain ⟨m,p,ho⟩:=h.own i hi
  refine ClD.of ho (hI i hi) (hO i hi) (.inr ⟨i,hi,.inl rfl⟩) (.inr ⟨i,hi,.inr rfl⟩) ?_;rintro k k1 k2 k3 k4 (hx|⟨j,hj,hx⟩)
  ·have:=h.lo i (by omega)
   omega
  ·have r:=hr j hj
   rcases Nat.lt_trichotomy i j with hij|hij|hij
   ·have:=a0 i j hi hj hij
    omega
   ·subst hij
    rcases hx with rfl|rfl
    ·exact k3 rfl
    ·exact k4 rfl
   ·have:=a0 j i hj hi hij
    omega
 ·have r:=hr i hi
  have s:=hr j hj;rcases Nat.lt_or_gt_of_ne hne with hij|hij
  ·have:=a0 i j hi hj hij
   omega
  ·have:=a0 j i hj hi hij
   omega
 ·have:=hA i hi
  omega
 ·by_cases e:i=j
  ·subst e
   obtain ⟨m,p,ho⟩:=h.own i hi;obtain ⟨cs,v,i1,_⟩:=ho.i;obtain ⟨ds,u,o1,_⟩:=ho.o;exact Qn i1 o1 (by decide)
  ·have r:=hr i hi
   have s:=hr j hj;rcases Nat.lt_or_gt_of_ne e with hij|hij
   ·have:=a0 i j hi hj hij
    omega
   ·have:=a0 j i hj hi hij
    omega
end Go.Proofs.YtejhccmclanlmaaGreatDoor
