/- Texts joined: Gb Gc. -/
import Derived.Test.YtejhccmclanlmaaGreatDoorK40
set_option linter.unusedVariables false
set_option maxRecDepth 100000
namespace Go.Proofs.YtejhccmclanlmaaGreatDoor
open Go.RowKit
theorem ckOuts_iff {D:Dom}:ckOuts D=0↔∀ l∈D.out,l.length≤60∧allR l 0 255=true:=by
 unfold ckOuts
 constructor
 ·intro h l hl
  split at h
  ·omega
  ·rename_i h1
   split at h
   ·omega
   ·rename_i h2
    simp only [List.any_eq_true,not_exists,not_and,long60,bad255,decide_eq_true_eq] at h1 h2
    exact ⟨by have:=h1 l hl;omega,by have:=h2 l hl;simpa using this⟩
 ·intro h
  rw [if_neg,if_neg]
  ·simp only [List.any_eq_true,not_exists,not_and,bad255]
   intro l hl
   simp [(h l hl).2]
  ·simp only [List.any_eq_true,not_exists,not_and,long60,decide_eq_true_eq]
   intro l hl
   have:=(h l hl).1
   omega
theorem ckD_full {C:Conf} {dn:Int} {D:Dom} (h:ckD C dn (shownD D)=0) (ho:∀ l∈D.out,l.length≤60∧allR l 0 255=true):ckD C dn D=0:=by
 obtain ⟨h0,h1,h2,h3,h4,_⟩:=ckD_iff.1 h
 refine ckD_iff.2 ⟨h0,?_,h2,h3,h4,ckOuts_iff.2 ho⟩
 have:=ckShp_iff.1 h1
 simp only [shownD,List.length_replicate] at this
 exact ckShp_iff.2 this
structure OI (m:Nat) (D:Dom):Prop where
 nx:D.nxt≤m
 out:∀ l∈D.out,(l.length:Int)≤D.nxt∧allR l 0 255=true
theorem OI.of {m:Nat} {D E:Dom} (h:OI m D) (hn:E.nxt=D.nxt) (ho:E.out=D.out):OI m E:=⟨by rw [hn];exact h.nx,by rw [hn,ho];exact h.out⟩
theorem startD_keeps (D:Dom) (now:Int) (k:Nat):(startD D now k).nxt=D.nxt∧(startD D now k).out=D.out:=by
 unfold startD
 split <;> exact ⟨rfl,rfl⟩
theorem endD_keeps (C:Conf) (D:Dom) (now:Int) (k:Nat) (a:ActT):(endD C D now k a).nxt=D.nxt∧(endD C D now k a).out=D.out:=by
 unfold endD
 split
 ·exact ⟨rfl,rfl⟩
 ·split <;> exact ⟨rfl,rfl⟩
theorem actD_keeps (C:Conf) (dn:Int) (D:Dom) (now:Int) (a:ActT) (cost:Int):(actD C dn D now a cost).nxt=D.nxt∧((actD C dn D now a cost).out=D.out∨(a.1=4∧(actD C dn D now a cost).out=D.out.set a.2.1.toNat (D.out.getD a.2.1.toNat []++[a.2.2]))):=by
 unfold actD
 split
 ·exact ⟨rfl,.inl rfl⟩
 ·split
  ·exact ⟨rfl,.inl rfl⟩
  ·split
   ·rename_i h4
    exact ⟨rfl,.inr ⟨h4,rfl⟩⟩
   ·split
    ·exact ⟨rfl,.inl rfl⟩
    ·split
     ·exact ⟨rfl,.inl rfl⟩
     ·split
      ·exact ⟨rfl,.inl rfl⟩
      ·exact ⟨rfl,.inl rfl⟩
theorem ckA_value {a:ActT} (h:ckA a=0) (h4:a.1=4):inR a.2.2 0 255=true:=by
 unfold ckA at h
 split at h
 ·split at h
  ·rename_i hr
   unfold inRng at hr
   rw [if_neg (by omega),if_neg (by omega),if_pos h4] at hr
   exact (Bool.and_eq_true _ _ ▸ hr).2
  ·omega
 ·omega
theorem OI.rel {m:Nat} {D:Dom} (C:Conf) (dn t:Int) (h:OI m D):OI m (relW C dn t D):=h.of rfl rfl
theorem OI.step {C:Conf} {dn:Int} {L:List ActT} {te:Int} {D:Dom} {K:KT} {now:Int} (h0:0≤D.nxt) (h:OI L.length D) (hA:∀ a∈L,ckA a=0):OI L.length (stD C dn L te D K now):=by
 unfold stD
 split
 ·rename_i hd
  unfold does at hd
  simp only [Bool.and_eq_true,decide_eq_true_eq] at hd
  have hlt:D.nxt.toNat<L.length:=by omega
  have ha:ckA (aAt L D)=0:=by
   unfold aAt
   rw [show L.getD D.nxt.toNat (0,0,0)=L[D.nxt.toNat] by simp [hlt]]
   exact hA _ (List.getElem_mem _)
  generalize aAt L D=a at *
  unfold stepA
  generalize (pickI C D.jobs).toNat=k
  have e1:=startD_keeps D now k
  generalize startD D now k=D1 at *
  have e2:(spendD D1 k (spC K a)).nxt=D.nxt∧(spendD D1 k (spC K a)).out=D.out:=⟨e1.1,e1.2⟩
  generalize spendD D1 k (spC K a)=D2 at *
  have e3:=actD_keeps C dn D2 (now+spC K a) a (spC K a)
  generalize actD C dn D2 (now+spC K a) a (spC K a)=D3 at *
  have e4:(nextD D3).nxt=D3.nxt+1∧(nextD D3).out=D3.out:=⟨rfl,rfl⟩
  generalize nextD D3=D4 at *
  have e5:=endD_keeps C D4 (now+spC K a) k a
  generalize endD C D4 (now+spC K a) k a=D5 at *
  have hn:D5.nxt=D.nxt+1:=by rw [e5.1,e4.1,e3.1,e2.1]
  refine ⟨by rw [hn];omega,?_⟩
  rw [hn,e5.2,e4.2]
  intro l hl
  rcases e3.2 with e|⟨h4,e⟩
  ·rw [e,e2.2] at hl
   have:=h.out l hl
   exact ⟨by omega,this.2⟩
  ·rw [e,e2.2] at hl
   rcases List.mem_or_eq_of_mem_set hl with hl|rfl
   ·have:=h.out l hl
    exact ⟨by omega,this.2⟩
   ·by_cases hc:a.2.1.toNat<D.out.length
    ·have hm:=h.out _ (List.getElem_mem hc)
     rw [show D.out.getD a.2.1.toNat []=D.out[a.2.1.toNat] by simp [hc]]
     refine ⟨by simp;omega,?_⟩
     have:=ckA_value ha h4
     simp only [allR,List.all_append,List.all_cons,List.all_nil,Bool.and_true,Bool.and_eq_true] at *
     exact ⟨hm.2,this⟩
    ·rw [show D.out.getD a.2.1.toNat []=[] by simp only [List.getD];rw [List.getElem?_eq_none (Nat.le_of_not_lt hc)];rfl]
     refine ⟨by simp;omega,?_⟩
     have:=ckA_value ha h4
     simpa [allR] using this
 ·exact h
theorem st_nx {C:Conf} {dn:Int} {L:List ActT} {te:Int} {D:Dom} {K:KT} {now:Int}:D.nxt≤(stD C dn L te D K now).nxt:=by
 unfold stD
 split
 ·unfold stepA
  rw [(endD_keeps ..).1]
  show D.nxt≤(actD ..).nxt+1
  rw [(actD_keeps ..).1]
  show D.nxt≤(startD ..).nxt+1
  rw [(startD_keeps ..).1]
  omega
 ·exact Int.le_refl _
theorem OI.run {C:Conf} {dn:Int} {L:List ActT} {te:Int} (hA:∀ a∈L,ckA a=0):∀ (n:Nat) (D:Dom) (K:KT) (now:Int),0≤D.nxt→OI L.length D→OI L.length (runD C dn L te n D K now).1
 | 0,D,K,now,h0,h=>h.rel C dn te
 | n+1,D,K,now,h0,h=>by
  unfold runD
  split
  ·refine OI.run hA n _ _ _ ?_ (OI.step (by exact h0) (h.rel C dn now) hA)
   have h1:(relW C dn now D).nxt=D.nxt:=rfl
   have:=st_nx (C:=C) (dn:=dn) (L:=L) (te:=te) (D:=relW C dn now D) (K:=K) (now:=now)
   omega
  ·exact h.rel C dn te
theorem SI.run {C:Conf} {dn fr te:Int} {D0:Dom} {L:List ActT} (h0:0≤fr) (hte:te≤100000) (hL:L.length≤60) (hAs:∀ a∈L,ckA a=0) :
  ∀ (n:Nat) (D:Dom) (K:KT) (now:Int),SI C dn D0 fr te 0 D K now→(te - now).toNat≤n→SI C dn D0 fr te 40 (runD C dn L te n D K now).1 (runD C dn L te n D K now).2 te
 | n,D,K,now,h,hn=>by
  have hlo:=h.win.lo
  have hhi:=h.win.hi
  by_cases hlt:now<te
  ·obtain ⟨m,rfl⟩:∃ m,n=m+1:=⟨n - 1,by omega⟩
   have SR:=h.release (t:=now) (by simp [inR];omega) (by omega)
   rw [Int.zero_add] at SR
   have ST:=SI.step (L:=L) SR h.win.ck h0 hlt hte hL hAs
   unfold runD
   rw [if_pos hlt]
   exact SI.run h0 hte hL hAs m _ _ _ ST.1 (by have:=ST.2;omega)
  ·obtain rfl:now=te:=by omega
   rw [runD_end _ _ _ _ _ _ _ _ hlt]
   have SR:=h.release (t:=now) (by simp [inR];omega) (Int.le_refl _)
   rw [Int.zero_add] at SR
   exact SR
structure DI (C:Conf) (m:Nat) (i:Nat) (b:Int) (D:Dom):Prop where
 ck:ckD C i D=0
 oi:OI m D
 ev:(D.evs.length:Int)≤b
theorem ck_empty {s v:Nat} (h1:1≤s) (h2:s≤4) (h3:1≤v) (h4:v≤3):ck (emptyC s v)=0:=by
 have hs:s=1∨s=2∨s=3∨s=4:=by omega
 have hv:v=1∨v=2∨v=3:=by omega
 rcases hs with rfl|rfl|rfl|rfl <;> rcases hv with rfl|rfl|rfl <;> decide
theorem conf_nums {C:Conf} (h:ckC C=0):(1≤C.s∧C.s≤4)∧(1≤C.w∧C.w≤3)∧(1≤C.d∧C.d≤4):=by
 have h1:=(ck_ok h).1
 unfold ckNum at h1
 split at h1
 ·rename_i h2
  simp only [inR,Bool.and_eq_true,decide_eq_true_eq] at h2
  omega
 ·omega
theorem cameN_nonneg (C:Conf) (arr:List (Int×Int)) (dn fr te:Int) (l:Nat):0≤cameN C arr dn fr te l:=Int.natCast_nonneg _
theorem openF_ok {C:Conf} {m i slot:Nat} {b:Int} {D:Dom} (arr:List (Int×Int)) (last now:Int) (h:DI C m i b D):DI C m i (b+1) (openF C arr (i:Int) slot D last now):=by
 obtain ⟨h0,h1,h2,h3,h4,h5⟩:=ckD_iff.1 h.ck
 refine ⟨ckD_iff.2 ⟨h0,?_,?_,h3,h4,h5⟩,⟨h.oi.nx,h.oi.out⟩,?_⟩
 ·have:=ckShp_iff.1 h1
  refine ckShp_iff.2 ⟨this.1,this.2.1,this.2.2.1,?_⟩
  show ((List.range D.tak.length).map _).length=_
  rw [List.length_map,List.length_range]
  exact this.2.2.2
 ·have:=ckNums_iff.1 h2
  refine ckNums_iff.2 ⟨this.1,this.2.1,allR_true fun j hj=>?_⟩
  have hj':j<D.tak.length:=by simpa [openF] using hj
  have hx:inR D.tak[j] 0 15=true:=by
   have ht:=this.2.2
   simp only [allR,List.all_eq_true] at ht
   exact ht _ (List.getElem_mem hj')
  have hc:=cameN_nonneg C arr i last now j
  simp only [openF,List.getElem_map,List.getElem_range]
  rw [show D.tak.getD j 0=D.tak[j] by simp [hj']]
  simp only [inR,Bool.and_eq_true,decide_eq_true_eq] at hx ⊢
  omega
 ·show ((D.evs++[_]).length:Int)≤_
  have:=h.ev
  simp
  omega
theorem winF_ok {C:Conf} {slot:Nat} {b:Int} {D:Dom} {L:List ActT} {arr:List (Int×Int)} {fr te last:Int} (hC:ckC C=0) (h:DI C L.length (slD C slot) b D) (hL:L.length≤60) (hAs:∀ a∈L,ckA a=0) (h0:0≤fr) (hft:fr≤te) (hte:te≤100000) :
  ckRun C (slD C slot) (openF C arr (slD C slot) slot D last fr) (emptyC C.s.toNat C.w.toNat) L fr te=0∧DI C L.length (slD C slot) (b+100 * (te - fr)+42) (winF C arr L slot fr te last D):=by
 have ho:=openF_ok (slot:=slot) arr last fr h
 obtain ⟨⟨s1,s2⟩,⟨v1,v2⟩,_⟩:=conf_nums hC
 have hk:ck (emptyC C.s.toNat C.w.toNat)=0:=ck_empty (by omega) (by omega) (by omega) (by omega)
 have has:ckAs L=0:=by
  unfold ckAs
  rw [if_neg (by omega)]
  refine fe_zero _ _ fun j hj=>?_
  rw [show L.getD j (0,0,0)=L[j] by simp [hj]]
  exact hAs _ (List.getElem_mem hj)
 have hnx:0≤(openF C arr (slD C slot) slot D last fr).nxt:=by
  have:=(ckNums_iff.1 (ckD_iff.1 ho.ck).2.2.1).2.1
  simp only [inR,Bool.and_eq_true,decide_eq_true_eq] at this
  exact this.1
 constructor
 ·unfold ckRun
  rw [if_neg (by rw [ho.ck];decide),if_neg (by rw [hk];decide),if_neg (by rw [has];decide),if_neg (by omega)]
 ·have hS:=SI.run h0 hte hL hAs (te - fr).toNat _ _ fr (si_begin (D:=openF C arr (slD C slot) slot D last fr) ho.ck hk hft) lr
  have hO:=OI.run (C:=C) (dn:=(slD C slot:Int)) (te:=te) hAs (te - fr).toNat (openF C arr (slD C slot) slot D last fr) (emptyC C.s.toNat C.w.toNat) fr hnx ho.oi
  unfold winF
  generalize runD C (slD C slot) L te (te - fr).toNat (openF C arr (slD C slot) slot D last fr) (emptyC C.s.toNat C.w.toNat) fr=R at *
  have hfull:ckD C (slD C slot) R.1=0:=ckD_full hS.win.ck fun l hl=>by
   have h1:=hO.out l hl
   have h2:=hO.nx
   exact ⟨by omega,h1.2⟩
  refine ⟨hfull,⟨hO.nx,hO.out⟩,?_⟩
  have h1:=hS.ev
  have h2:=ho.ev
  show ((R.1.evs++[_]).length:Int)≤_
  simp
  omega
theorem ckR_intro {V:List Int} {lost size:Int} (h1:inR size 1 4=true) (h2:(V.length:Int)≤size) (h3:allR V 0 255=true) (h4:inR lost 0 100000=true):ckR V lost size=0:=by
 unfold ckR
 rw [if_neg (by simp [h1]),if_neg (by omega),if_neg (by simp [h3]),if_neg (by simp [h4])]
theorem getIn_ok {C:Conf} {m m' i j c:Nat} {b b':Int} {D E:Dom} (h:DI C m i b D) (hE:DI C m' j b' E) (hc:c<C.ch.length):DI C m i b (getIn D E c (C.ch.getD c (0,0,0)).2.2):=by
 obtain ⟨h0,h1,h2,h3,h4,h5⟩:=ckD_iff.1 h.ck
 have hs:=ckShp_iff.1 h1
 have hsE:=ckShp_iff.1 (ckD_iff.1 hE.ck).2.1
 have hin:=fe_iff.1 h4
 refine ⟨ckD_iff.2 ⟨h0,?_,h2,h3,?_,h5⟩,⟨h.oi.nx,h.oi.out⟩,h.ev⟩
 ·exact ckShp_iff.2 ⟨hs.1,by show (List.set _ _ _).length=_;rw [List.length_set];exact hs.2.1,hs.2.2⟩
 ·refine fe_iff.2 fun k hk=>?_
  have hk':k<D.ins.length:=by simpa [getIn] using hk
  have hold:=hin k hk'
  unfold ckIn1 at hold ⊢
  by_cases e:k=c
  ·subst e
   obtain ⟨⟨z1,z2⟩,z3,z4,z5,z6⟩:=ckR_ok hold
   have hEo:allR (E.out.getD k []) 0 255=true:=by
    rw [show E.out.getD k []=E.out[k]'(by omega) by simp [show k<E.out.length by omega]]
    exact (hE.oi.out _ (List.getElem_mem _)).2
   have hg:(getIn D E k (C.ch.getD k (0,0,0)).2.2).ins.getD k ([],0)=(comV (D.ins.getD k ([],0)).1 (E.out.getD k []) ((C.ch.getD k (0,0,0)).2.2.toNat - (D.ins.getD k ([],0)).1.length) (E.out.getD k []).length,comL (D.ins.getD k ([],0)).2 ((C.ch.getD k (0,0,0)).2.2.toNat - (D.ins.getD k ([],0)).1.length) (E.out.getD k []).length):=by
    simp [getIn,hk']
   rw [hg]
   generalize (C.ch.getD k (0,0,0)).2.2=size at *
   generalize D.ins.getD k ([],0)=r at *
   generalize E.out.getD k []=o at *
   refine ckR_intro (by simp [inR];omega) ?_ ?_ ?_
   ·simp only [comV,List.length_append,List.length_take]
    omega
   ·simp only [comV,allR,List.all_append,Bool.and_eq_true] at *
    refine ⟨z4,List.all_eq_true.2 fun x hx=>List.all_eq_true.1 hEo x (List.mem_of_mem_take hx)⟩
   ·unfold comL inR
    rw [Bool.and_eq_true]
    exact ⟨decide_eq_true (by omega),decide_eq_true (by omega)⟩
  ·rw [show (getIn D E c (C.ch.getD c (0,0,0)).2.2).ins.getD k ([],0)=D.ins.getD k ([],0) by
    simp only [getIn,List.getD]
    rw [List.getElem?_set_ne (by omega)]]
   exact hold
theorem noOut_ok {C:Conf} {m i:Nat} {b:Int} {D:Dom} (c:Nat) (hn:0≤D.nxt) (h:DI C m i b D):DI C m i b (noOut D c):=by
 obtain ⟨h0,h1,h2,h3,h4,h5⟩:=ckD_iff.1 h.ck
 have hs:=ckShp_iff.1 h1
 have ho:∀ l∈D.out.set c [],l∈D.out∨l=[]:=fun l hl=>List.mem_or_eq_of_mem_set hl
 refine ⟨ckD_iff.2 ⟨h0,?_,h2,h3,h4,ckOuts_iff.2 fun l hl=>?_⟩,⟨h.oi.nx,fun l hl=>?_⟩,h.ev⟩
 ·exact ckShp_iff.2 ⟨hs.1,hs.2.1,by show (List.set _ _ _).length=_;rw [List.length_set];exact hs.2.2.1,hs.2.2.2⟩
 ·rcases ho l hl with h'|rfl
  ·exact ckOuts_iff.1 h5 l h'
  ·exact ⟨by simp,rfl⟩
 ·rcases ho l hl with h'|rfl
  ·exact h.oi.out l h'
  ·exact ⟨hn,rfl⟩
theorem DI.nx0 {C:Conf} {m i:Nat} {b:Int} {D:Dom} (h:DI C m i b D):0≤D.nxt:=by
 have:=(ckNums_iff.1 (ckD_iff.1 h.ck).2.2.1).2.1
 simp only [inR,Bool.and_eq_true,decide_eq_true_eq] at this
 exact this.1
def ALL (C:Conf) (m:Nat→Nat) (b:Int) (Ds:Nat→Dom):Prop:=∀ i:Nat,(i:Int)<C.d→DI C (m i) i b (Ds i)
theorem delF_ok {C:Conf} {m:Nat→Nat} {b:Int} {Ds:Nat→Dom} {c:Nat} (hc:c<C.ch.length) (hf:(chF C c:Int)<C.d) (h:ALL C m b Ds):ALL C m b (delF C c Ds):=by
 have h1:ALL C m b (putF Ds (chT C c) (getIn (Ds (chT C c)) (Ds (chF C c)) c (C.ch.getD c (0,0,0)).2.2)):=by
  intro i hi
  by_cases e:i=chT C c
  ·subst e
   rw [putF_eq]
   exact getIn_ok (h _ hi) (h _ hf) hc
  ·rw [putF_ne _ _ e]
   exact h i hi
 intro i hi
 unfold delF
 by_cases e:i=chF C c
 ·subst e
  rw [putF_eq]
  exact noOut_ok c (h1 _ hi).nx0 (h1 _ hi)
 ·rw [putF_ne _ _ e]
  exact h1 i hi
theorem closeF_ok {C:Conf} {m:Nat→Nat} {b:Int} {Ds:Nat→Dom} {dn:Nat} (hd:(dn:Int)<C.d) (h:ALL C m b Ds):ALL C m b (closeF C dn Ds):=by
 unfold closeF
 have key:∀ (l:List Nat),(∀ c∈l,c<C.ch.length)→∀ Ds:Nat→Dom,ALL C m b Ds→ALL C m b (l.foldl (fun Ds c=>if chF C c=dn then delF C c Ds else Ds) Ds):=by
  intro l
  induction l with
  | nil=>intro _ Ds h;exact h
  | cons c l ih=>
   intro hl Ds h
   simp only [List.foldl_cons]
   refine ih (fun x hx=>hl x (List.mem_cons_of_mem _ hx)) _ ?_
   split
   ·rename_i e
    exact delF_ok (hl c (List.mem_cons_self ..)) (by rw [e];exact hd) h
   ·exact h
 exact key _ (fun c hc=>List.mem_range.1 hc) Ds h
end Go.Proofs.YtejhccmclanlmaaGreatDoor
