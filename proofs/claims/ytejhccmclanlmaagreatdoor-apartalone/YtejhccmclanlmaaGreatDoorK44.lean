/- Texts joined: Gd Ah Am Ge. -/
import Derived.Test.YtejhccmclanlmaaGreatDoorK20
import Derived.Test.YtejhccmclanlmaaGreatDoorK23
import Derived.Test.YtejhccmclanlmaaGreatDoorK41
import Derived.Test.YtejhccmclanlmaaGreatDoorK42
set_option linter.unusedVariables false
set_option maxRecDepth 100000
namespace Go.Proofs.YtejhccmclanlmaaGreatDoor
open Go.RowKit
theorem slot_ok {C:Conf} (h:ckC C=0) {k:Nat} (hk:k<C.sl.length):(0≤(C.sl.getD k (0,0)).1∧(C.sl.getD k (0,0)).1<C.d)∧100≤(C.sl.getD k (0,0)).2∧(C.sl.getD k (0,0)).2≤1000:=by
 have h1:=fe_eq_zero (ck_ok h).2.2.2.1 k hk
 unfold ckSl at h1
 split at h1
 ·rename_i hd
  split at h1
  ·rename_i hr
   simp only [isD,inR,Bool.and_eq_true,decide_eq_true_eq] at hd hr
   omega
  ·omega
 ·omega
theorem slD_ok {C:Conf} (h:ckC C=0) {k:Nat} (hk:k<C.sl.length):(slD C k:Int)<C.d∧(slD C k:Int)=(C.sl.getD k (0,0)).1:=by
 have:=slot_ok h hk
 unfold slD
 omega
theorem conf_cnt {C:Conf} (h:ckC C=0):C.sl.length≤6∧C.ow.length≤4∧C.ch.length≤4∧C.ta.length≤6:=by
 have h1:=(ck_ok h).2.2.1
 unfold ckCnt at h1
 split at h1
 ·rename_i h2
  simp only [inR,Bool.and_eq_true,decide_eq_true_eq] at h2
  omega
 ·omega
theorem conf_pad {C:Conf} (h:ckC C=0):0≤C.p∧C.p≤99:=by
 have h1:=(ck_ok h).2.1
 obtain ⟨⟨s1,s2⟩,⟨v1,v2⟩,_⟩:=conf_nums h
 unfold ckPad at h1
 split at h1
 ·rename_i h2
  simp only [inR,Bool.and_eq_true,decide_eq_true_eq] at h2
  have:0≤5 * C.s * C.w:=Int.mul_nonneg (by omega) (by omega)
  omega
 ·omega
theorem sum_take {C:Conf} (h:ckC C=0):∀ k,k≤C.sl.length→0≤sumS (C.sl.take k)∧sumS (C.sl.take k)≤1000 * k
 | 0,_=>by simp [sumS]
 | k+1,hk=>by
  have h1:=sum_take h k (by omega)
  have h2:=slot_ok h (k:=k) (by omega)
  rw [sumS_take _ k (by omega)]
  rw [show C.sl.getD k (0,0)=C.sl[k] by simp [show k<C.sl.length by omega]] at h2
  omega
theorem turns_ok {C:Conf} (h:ckC C=0) {r:Nat} (hr:r≤8):∀ t∈turnsL C r,t.1<C.sl.length∧0≤t.2.1∧t.2.1≤t.2.2∧t.2.2≤100000∧t.2.2 - t.2.1≤1000:=by
 intro t ht
 unfold turnsL at ht
 simp only [List.mem_flatMap,List.mem_map,List.mem_range] at ht
 obtain ⟨n,hn,k,hk,rfl⟩:=ht
 dsimp only
 have h1:=sum_take h k (by omega)
 have h2:=sum_take h C.sl.length lr
 rw [List.take_length] at h2
 have h3:=conf_cnt h
 have h4:=conf_pad h
 have h5:=slot_ok h hk
 generalize sumS (C.sl.take k)=a at *
 generalize sumS C.sl=s at *
 have hs:s≤6000:=by omega
 have e1:0≤(n:Int) * s:=Int.mul_nonneg (by omega) (by omega)
 have e2:(n:Int) * s≤7 * 6000:=Int.mul_le_mul (by omega) hs (by omega) (by omega)
 generalize (n:Int) * s=x at *
 refine ⟨hk,by omega,by omega,by omega,by omega⟩
structure ScrOk (C:Conf) (S:Scr):Prop where
 cfg:ckC C=0
 rounds:S.rounds≤8
 acts:∀ i,(S.acts.getD i []).length≤60∧∀ a∈S.acts.getD i [],ckA a=0
structure MI (C:Conf) (S:Scr) (b:Int) (X:(Nat→Dom)×(Nat→Int)):Prop where
 doms:ALL C (fun i=>(S.acts.getD i []).length) b X.1
 last:∀ i,0≤X.2 i∧X.2 i≤100000
theorem MI.turn {C:Conf} {S:Scr} {b:Int} {X:(Nat→Dom)×(Nat→Int)} (hS:ScrOk C S) (h:MI C S b X) (hb:0≤b) (t:Nat×Int×Int) (ht:t.1<C.sl.length∧0≤t.2.1∧t.2.1≤t.2.2∧t.2.2≤100000∧t.2.2 - t.2.1≤1000):MI C S (b+100042) (turnF C S t X):=by
 obtain ⟨slot,fr,te⟩:=t
 dsimp only at ht
 obtain ⟨h1,h2,h3,h4,h5⟩:=ht
 have hd:=slD_ok hS.cfg h1
 have hw:=(winF_ok (arr:=S.arr) (last:=X.2 (slD C slot)) hS.cfg (h.doms (slD C slot) hd.1) (hS.acts _).1 (hS.acts _).2 h2 h3 h4).2
 refine ⟨?_,fun i=>?_⟩
 ·refine closeF_ok hd.1 ?_
  intro i hi
  by_cases e:i=slD C slot
  ·subst e
   rw [putF_eq]
   refine ⟨hw.ck,hw.oi,?_⟩
   have:=hw.ev
   dsimp only
   omega
  ·rw [putF_ne _ _ e]
   exact ⟨(h.doms i hi).ck,(h.doms i hi).oi,by have:=(h.doms i hi).ev;omega⟩
 ·by_cases e:i=slD C slot
  ·subst e
   show 0≤putF _ _ _ _∧_
   rw [show (turnF C S (slot,fr,te) X).2 (slD C slot)=fr from putF_eq ..]
   exact ⟨by rw [putF_eq];exact h2,by omega⟩
  ·rw [show (turnF C S (slot,fr,te) X).2 i=X.2 i from putF_ne _ _ e]
   exact h.last i
theorem newD_ok {C:Conf} (h:ckC C=0) (m:Nat) (i:Nat) (hi:(i:Int)<C.d):DI C m i 0 (newD C):=by
 have hrep:∀ n:Nat,∀ a b:Int,a≤0→0≤b→allR (List.replicate n 0) a b=true:=fun n a b ha hb=>by
  simp only [allR,List.all_eq_true,List.mem_replicate]
  rintro x ⟨_,rfl⟩
  simp [inR];omega
 refine ⟨ckD_iff.2 ⟨?_,?_,?_,?_,?_,?_⟩,⟨?_,?_⟩,?_⟩
 ·unfold ckPlace
  rw [if_pos h,if_pos (by simp [inR];omega)]
 ·exact ckShp_iff.2 ⟨by simp [newD],by simp [newD],by simp [newD],by simp [newD]⟩
 ·exact ckNums_iff.2 ⟨hrep _ _ _ (by omega) (by omega),show inR 0 0 100000=true by decide,hrep _ _ _ (by omega) (by omega)⟩
 ·exact ckJobs_iff.2 ⟨by simp [newD],by simp [newD]⟩
 ·refine fe_iff.2 fun k hk=>?_
  have hk':k<C.ch.length:=by simpa [newD] using hk
  have h1:=fe_eq_zero (ck_ok h).2.2.2.2.2.1 k hk'
  unfold ckIn1
  rw [show (newD C).ins.getD k ([],0)=([],0) by simp [newD,hk']]
  unfold ckCh at h1
  rw [List.getElem?_eq_getElem hk'] at h1
  dsimp only at h1
  rw [show C.ch.getD k (0,0,0)=C.ch[k] by simp [hk']]
  generalize C.ch[k]=x at *
  split at h1
  ·split at h1
   ·omega
   ·split at h1
    ·rename_i hsz
     exact ckR_intro hsz (by simp [inR] at hsz ⊢;omega) rfl (by decide)
    ·omega
  ·omega
 ·refine ckOuts_iff.2 fun l hl=>?_
  obtain ⟨_,rfl⟩:=List.mem_replicate.1 hl
  exact ⟨by simp,rfl⟩
 ·show (0:Int)≤_
  omega
 ·intro l hl
  obtain ⟨_,rfl⟩:=List.mem_replicate.1 hl
  exact ⟨by simp [newD],rfl⟩
 ·simp [newD]
theorem MI.begin {C:Conf} {S:Scr} (hS:ScrOk C S):MI C S 0 (fun _=>newD C,fun _=>0):=⟨fun i hi=>newD_ok hS.cfg _ i hi,fun i=>⟨Int.le_refl _,show (0:Int)≤100000 by decide⟩⟩
theorem openF_eq {C:Conf} {D:Dom} {arr:List ArrT} {dn last now:Int} {slot:Nat} (h:D.tak.length=C.ow.length):openF C arr dn slot D last now=openG D (cameL C arr dn last now) now slot:=by
 unfold openF openG
 congr 1
 refine List.ext_getElem (by simp [takK]) fun i h1 h2=>?_
 have hi:i<D.tak.length:=by simpa using h1
 simp only [takK,List.getElem_map,List.getElem_range]
 rw [if_pos hi,show (cameL C arr dn last now).getD i 0=cameN C arr dn last now i by simp [cameL,show i<C.ow.length by omega]]
theorem ckArr_at {C:Conf} {L:List ArrT} {dn fr te:Int} (h:ckArr C L 0 0 0=0) (hd:inR dn 0 (C.d - 1)=true) (hf:inR fr 0 100000=true) (ht:inR te 0 100000=true):ckArr C L dn fr te=0:=by
 unfold ckArr at h ⊢
 split at h
 ·rename_i h1
  exact absurd h h1
 ·rename_i h1
  rw [if_neg h1]
  split at h
  ·omega
  ·rw [if_neg (by rw [hd];decide)]
   split at h
   ·omega
   ·rename_i h3
    rw [if_neg h3]
    split at h
    ·omega
    ·rename_i h4
     rw [if_neg h4]
     split at h
     ·omega
     ·rename_i h5
      rw [if_neg h5,if_neg (by rw [hf];decide),if_neg (by rw [ht];decide)]
theorem scr_ok {C:Conf} {S:ScrT} (h:ckScr C S=0):ScrOk C ⟨S.acts,S.arr,S.rounds.toNat⟩∧(S.acts.length:Int)=C.d∧ckArr C S.arr 0 0 0=0∧0≤S.rounds:=by
 unfold ckScr at h
 split at h
 ·rename_i h1;exact absurd h h1
 ·rename_i h1
  split at h
  ·omega
  ·rename_i h2
   split at h
   ·omega
   ·rename_i h3
    split at h
    ·rename_i h4;exact absurd h h4
    ·rename_i h4
     have hr:inR S.rounds 0 8=true:=by simpa using h3
     simp only [inR,Bool.and_eq_true,decide_eq_true_eq] at hr
     refine ⟨⟨by omega,by show S.rounds.toNat≤8;omega,fun i=>?_⟩,by omega,by omega,hr.1⟩
     by_cases hi:i<S.acts.length
     ·have h5:=fe_eq_zero h i hi
      unfold ckAs at h5
      split at h5
      ·omega
      ·rename_i h6
       refine ⟨by show (S.acts.getD i []).length≤60;omega,fun a ha=>?_⟩
       obtain ⟨j,hj,rfl⟩:=List.getElem_of_mem ha
       have:=fe_eq_zero h5 j hj
       rw [show (S.acts.getD i []).getD j (0,0,0)=(S.acts.getD i [])[j] by rw [List.getD,List.getElem?_eq_getElem hj];rfl] at this
       exact this
     ·have e:S.acts.getD i []=[]:=by
       simp only [List.getD]
       rw [List.getElem?_eq_none (by omega)]
       rfl
      show (S.acts.getD i []).length≤60∧∀ a∈S.acts.getD i [],ckA a=0
      rw [e]
      exact ⟨by simp,by simp⟩
theorem Tryz.info46x:(Tryz.prog.info? 46).map (fun i=>(i.zero,i.size,i.bytes))=some (some (.agg #[.slice none 0 0,.slice none 0 0,.int .i64 0,.slice none 0 0,.slice none 0 0,.slice none 0 0,.slice none 0 0]),7,152):=by kernel_rfl
theorem make33_any (n:Nat) (h:n≤1000000000) (w:World):(Instr.makeSlice 33 (.int .i64 (n:Int)) (.int .i64 (n:Int))).run Tryz.prog w=.ok (.slice (some ⟨w.heap.size,0,none⟩) n n) (w.alloc (.cells (madeCells #[.slice none 0 0,.slice none 0 0,.int .i64 0,.slice none 0 0,.slice none 0 0,.slice none 0 0,.slice none 0 0] (n * 7)) 46)):=by
 obtain ⟨i,hi,hz,hs,hb⟩:=infoOf Tryz.info46x
 have:=run_make (P:=Tryz.prog) w 33 46 i _ Tryz.underlying33 hi hz .i64 .i64 n n (by omega) (by omega) (by rw [hb];omega) (by omega)
 rw [hs] at this
 simp only [show (Value.agg #[Value.slice none 0 0,Value.slice none 0 0,Value.int IntKind.i64 0,Value.slice none 0 0,Value.slice none 0 0,Value.slice none 0 0,Value.slice none 0 0]).cells=#[Value.slice none 0 0,Value.slice none 0 0,Value.int IntKind.i64 0,Value.slice none 0 0,Value.slice none 0 0,Value.slice none 0 0,Value.slice none 0 0] from rfl,Int.toNat_natCast] at this
 exact this
def DRow (w:World) (g n:Nat):Prop:=∃ cs,RowAt w g 46 cs∧cs.length=n * 7
theorem DRow.keep {w w':World} {g n:Nat} (h:DRow w g n) (hb:Below w.heap.size w w'):DRow w' g n:=by
 obtain ⟨cs,h1,h2⟩:=h
 exact ⟨cs,h1.below hb lr,h2⟩
theorem DRow.other {w w':World} {g n:Nat} (h:DRow w g n) (hk:w'.heap[g]? = w.heap[g]?):DRow w' g n:=by
 obtain ⟨cs,h1,h2⟩:=h
 exact ⟨cs,hk.trans h1,h2⟩
theorem DRow.lt {w:World} {g n:Nat} (h:DRow w g n):g<w.heap.size:=by
 obtain ⟨cs,h1,h2⟩:=h
 exact (Array.getElem?_eq_some_iff.1 h1).1
def put7 (w:World) (g p:Nat) (v0 v1 v2 v3 v4 v5 v6:Value):World:=((((((w.setCell ⟨g,p,none⟩ v0).setCell ⟨g,p+1,none⟩ v1).setCell ⟨g,p+2,none⟩ v2).setCell ⟨g,p+3,none⟩ v3).setCell ⟨g,p+4,none⟩ v4).setCell ⟨g,p+5,none⟩ v5).setCell ⟨g,p+6,none⟩ v6
theorem put7_ne (w:World) (g p:Nat) (v0 v1 v2 v3 v4 v5 v6:Value) (k:Nat) (h:k≠g):(put7 w g p v0 v1 v2 v3 v4 v5 v6).heap[k]? = w.heap[k]? := by
 unfold put7
 rw [heap_set_ne _ _ _ _ _ h,heap_set_ne _ _ _ _ _ h,heap_set_ne _ _ _ _ _ h,heap_set_ne _ _ _ _ _ h,heap_set_ne _ _ _ _ _ h,heap_set_ne _ _ _ _ _ h,heap_set_ne _ _ _ _ _ h]
theorem put7_size (w:World) (g p:Nat) (v0 v1 v2 v3 v4 v5 v6:Value):(put7 w g p v0 v1 v2 v3 v4 v5 v6).heap.size=w.heap.size:=by
 simp [put7,World.setCell]
theorem put7_below {B:Nat} {a w:World} (h:Below B a w) {g:Nat} (hg:B≤g) (p:Nat) (v0 v1 v2 v3 v4 v5 v6:Value):Below B a (put7 w g p v0 v1 v2 v3 v4 v5 v6):=by
 unfold put7
 exact ((((((h.setCell (p:=⟨g,p,none⟩) hg _).setCell (p:=⟨g,p+1,none⟩) hg _).setCell (p:=⟨g,p+2,none⟩) hg _).setCell (p:=⟨g,p+3,none⟩) hg _).setCell (p:=⟨g,p+4,none⟩) hg _).setCell (p:=⟨g,p+5,none⟩) hg _).setCell (p:=⟨g,p+6,none⟩) hg _
theorem put7_row {w:World} {g:Nat} {t:TypeId} {cs:List Value} (h:RowAt w g t cs) (p:Nat) (v0 v1 v2 v3 v4 v5 v6:Value):RowAt (put7 w g p v0 v1 v2 v3 v4 v5 v6) g t (((((((cs.set p v0).set (p+1) v1).set (p+2) v2).set (p+3) v3).set (p+4) v4).set (p+5) v5).set (p+6) v6):=by
 unfold put7
 exact rowAt_set1 (rowAt_set1 (rowAt_set1 (rowAt_set1 (rowAt_set1 (rowAt_set1 (rowAt_set1 h _ _) _ _) _ _) _ _) _ _) _ _) _ _
theorem put7_at {w:World} {g n i:Nat} (h:DRow w g n) (hi:i<n) (D:Dom) (A:DMem) :
  DRow (put7 w g (i * 7) (.slice A.aJ D.jobs.length A.cJ) (.slice A.aR D.rel.length A.cR) (.int .i64 D.nxt) (.slice A.aI D.ins.length A.cI) (.slice A.aT D.tak.length A.cT) (.slice A.aO D.out.length A.cO) (.slice A.aE D.evs.length A.cE)) g n ∧
  DomsAt (put7 w g (i * 7) (.slice A.aJ D.jobs.length A.cJ) (.slice A.aR D.rel.length A.cR) (.int .i64 D.nxt) (.slice A.aI D.ins.length A.cI) (.slice A.aT D.tak.length A.cT) (.slice A.aO D.out.length A.cO) (.slice A.aE D.evs.length A.cE)) g 0 i D A ∧
  ∀ j E A',j≠i→DomsAt w g 0 j E A'→DomsAt (put7 w g (i * 7) (.slice A.aJ D.jobs.length A.cJ) (.slice A.aR D.rel.length A.cR) (.int .i64 D.nxt) (.slice A.aI D.ins.length A.cI) (.slice A.aT D.tak.length A.cT) (.slice A.aO D.out.length A.cO) (.slice A.aE D.evs.length A.cE)) g 0 j E A':=by
 obtain ⟨cs,h1,h2⟩:=h
 have hr:=put7_row h1 (i * 7) (.slice A.aJ D.jobs.length A.cJ) (.slice A.aR D.rel.length A.cR) (.int .i64 D.nxt) (.slice A.aI D.ins.length A.cI) (.slice A.aT D.tak.length A.cT) (.slice A.aO D.out.length A.cO) (.slice A.aE D.evs.length A.cE)
 have hb:i * 7+6<cs.length:=by omega
 refine ⟨⟨_,hr,by simp [h2]⟩,?_,?_⟩
 ·constructor <;> (rw [Nat.zero_add];refine hr.cell _ _ ?_) <;> simp [List.getElem?_set,List.length_set] <;> omega
 ·intro j E A' hj hd
  have key:∀ k v,w.cell? ⟨g,0+j * 7+k,none⟩=some v→k<7→(put7 w g (i * 7) (.slice A.aJ D.jobs.length A.cJ) (.slice A.aR D.rel.length A.cR) (.int .i64 D.nxt) (.slice A.aI D.ins.length A.cI) (.slice A.aT D.tak.length A.cT) (.slice A.aO D.out.length A.cO) (.slice A.aE D.evs.length A.cE)).cell? ⟨g,0+j * 7+k,none⟩=some v:=by
   intro k v hv hk
   unfold put7
   rw [World.cell?_setCell_other _ _ _ _ (by simp <;> omega),World.cell?_setCell_other _ _ _ _ (by simp <;> omega),World.cell?_setCell_other _ _ _ _ (by simp <;> omega),World.cell?_setCell_other _ _ _ _ (by simp <;> omega),World.cell?_setCell_other _ _ _ _ (by simp <;> omega),World.cell?_setCell_other _ _ _ _ (by simp <;> omega),World.cell?_setCell_other _ _ _ _ (by simp <;> omega)]
   exact hv
  exact ⟨key 0 _ hd.c0 (by omega),key 1 _ hd.c1 (by omega),key 2 _ hd.c2 (by omega),key 3 _ hd.c3 (by omega),key 4 _ hd.c4 (by omega),key 5 _ hd.c5 (by omega),key 6 _ hd.c6 (by omega)⟩
theorem chan_ok {C:Conf} (h:ckC C=0) {c:Nat} (hc:c<C.ch.length):(0≤C.ch[c].1∧C.ch[c].1<C.d)∧(0≤C.ch[c].2.1∧C.ch[c].2.1<C.d)∧C.ch[c].1≠C.ch[c].2.1:=by
 have h1:=fe_eq_zero (ck_ok h).2.2.2.2.2.1 c hc
 unfold ckCh at h1
 rw [List.getElem?_eq_getElem hc] at h1
 dsimp only at h1
 generalize C.ch[c]=x at *
 split at h1
 ·rename_i hd
  simp only [isD,inR,Bool.and_eq_true,decide_eq_true_eq] at hd
  split at h1
  ·omega
  ·rename_i hne
   exact ⟨by omega,by omega,hne⟩
 ·omega
structure CpS (w0:World) (gA n k:Nat) (w:World) (Ds:Nat→Dom) (As:Nat→DMem) (gI gO q bnd:Nat→Nat):Prop where
 row:DRow w gA n
 at_:∀ i,i<k→DomsAt w gA 0 i (Ds i) (As i)
 own:∀ i,i<k→∃ m p,DomOwn (bnd i) w (As i) (Ds i) (gI i) (gO i) m p (q i)
 lo:∀ i,i≤k→gA<bnd i
 up:∀ i,i<k→q i≤bnd (i+1)∧bnd i≤bnd (i+1)
 hi:bnd k≤w.heap.size
 low:Below w0.heap.size w0 w
 gA:w0.heap.size≤gA
theorem CpS.keep {w0:World} {gA n k:Nat} {w w':World} {Ds:Nat→Dom} {As:Nat→DMem} {gI gO q bnd:Nat→Nat} (h:CpS w0 gA n k w Ds As gI gO q bnd) (hb:Below w.heap.size w w'):CpS w0 gA n k w' Ds As gI gO q bnd:=
 ⟨h.row.keep hb,fun i hi=>(h.at_ i hi).keep hb,fun i hi=>by obtain ⟨m,p,ho⟩:=h.own i hi;exact ⟨m,p,ho.keep hb⟩,h.lo,h.up,Nat.le_trans h.hi hb.size,btrans h.low hb,h.gA⟩
theorem CpS.next {w0:World} {gA n k:Nat} {w w':World} {Ds:Nat→Dom} {As:Nat→DMem} {gI gO q bnd:Nat→Nat} (h:CpS w0 gA n k w Ds As gI gO q bnd) (hk:k<n) (hb:Below w.heap.size w w') {A:DMem} {gi go m p q':Nat} (ho:DomOwn w.heap.size w' A (Ds k) gi go m p q') :
  CpS w0 gA n (k+1) (put7 w' gA (k * 7) (.slice A.aJ (Ds k).jobs.length A.cJ) (.slice A.aR (Ds k).rel.length A.cR) (.int .i64 (Ds k).nxt) (.slice A.aI (Ds k).ins.length A.cI) (.slice A.aT (Ds k).tak.length A.cT) (.slice A.aO (Ds k).out.length A.cO) (.slice A.aE (Ds k).evs.length A.cE)) Ds (putF As k A) (putF gI k gi) (putF gO k go) (putF q k q') (putF (putF bnd k w.heap.size) (k+1) w'.heap.size):=by
 have h':=h.keep hb
 have hp:=put7_at h'.row hk (Ds k) A
 have hne:=put7_ne w' gA (k * 7) (.slice A.aJ (Ds k).jobs.length A.cJ) (.slice A.aR (Ds k).rel.length A.cR) (.int .i64 (Ds k).nxt) (.slice A.aI (Ds k).ins.length A.cI) (.slice A.aT (Ds k).tak.length A.cT) (.slice A.aO (Ds k).out.length A.cO) (.slice A.aE (Ds k).evs.length A.cE)
 have hsz:=put7_size w' gA (k * 7) (.slice A.aJ (Ds k).jobs.length A.cJ) (.slice A.aR (Ds k).rel.length A.cR) (.int .i64 (Ds k).nxt) (.slice A.aI (Ds k).ins.length A.cI) (.slice A.aT (Ds k).tak.length A.cT) (.slice A.aO (Ds k).out.length A.cO) (.slice A.aE (Ds k).evs.length A.cE)
 have hbl:=put7_below h'.low h'.gA (k * 7) (.slice A.aJ (Ds k).jobs.length A.cJ) (.slice A.aR (Ds k).rel.length A.cR) (.int .i64 (Ds k).nxt) (.slice A.aI (Ds k).ins.length A.cI) (.slice A.aT (Ds k).tak.length A.cT) (.slice A.aO (Ds k).out.length A.cO) (.slice A.aE (Ds k).evs.length A.cE)
 generalize put7 w' gA (k * 7) (.slice A.aJ (Ds k).jobs.length A.cJ) (.slice A.aR (Ds k).rel.length A.cR) (.int .i64 (Ds k).nxt) (.slice A.aI (Ds k).ins.length A.cI) (.slice A.aT (Ds k).tak.length A.cT) (.slice A.aO (Ds k).out.length A.cO) (.slice A.aE (Ds k).evs.length A.cE)=w2 at *
 have hgA:=h.row.lt
 have hk1:=h.hi
 have hws:=hb.size
 have hq:=ho.mp
 refine ⟨hp.1,fun i hi=>?_,fun i hi=>?_,fun i hi=>?_,fun i hi=>?_,?_,hbl,h.gA⟩
 ·by_cases e:i=k
  ·subst e;rw [putF_eq];exact hp.2.1
  ·rw [putF_ne _ _ e];exact hp.2.2 i _ _ e (h'.at_ i (by omega))
 ·by_cases e:i=k
  ·subst e
   rw [putF_ne _ _ (show i≠i+1 by omega),putF_eq,putF_eq,putF_eq,putF_eq,putF_eq]
   exact ⟨m,p,ho.agree (by omega) fun x hx _=>hne x (by omega)⟩
  ·rw [putF_ne _ _ (show i≠k+1 by omega),putF_ne _ _ e,putF_ne _ _ e,putF_ne _ _ e,putF_ne _ _ e,putF_ne _ _ e]
   obtain ⟨m',p',ho'⟩:=h'.own i (by omega)
   have:=h.lo i (by omega)
   exact ⟨m',p',ho'.agree (by omega) fun x hx _=>hne x (by omega)⟩
 ·by_cases e:i=k+1
  ·subst e;rw [putF_eq];omega
  ·rw [putF_ne _ _ e]
   by_cases e':i=k
   ·subst e';rw [putF_eq];exact hgA
   ·rw [putF_ne _ _ e'];exact h.lo i (by omega)
 ·by_cases e:i=k
  ·subst e
   rw [putF_eq,putF_eq,putF_ne _ _ (show i≠i+1 by omega),putF_eq]
   omega
  ·rw [putF_ne _ _ e,putF_ne _ _ (show i+1≠k+1 by omega),putF_ne _ _ (show i≠k+1 by omega),putF_ne _ _ e]
   have:=h.up i (by omega)
   by_cases e':i+1=k
   ·rw [e',putF_eq]
    rw [e'] at this
    omega
   ·rw [putF_ne _ _ e']
    exact this
 ·rw [putF_eq];omega
theorem bnd_le {k:Nat} {bnd:Nat→Nat} (h:∀ i,i<k→bnd i≤bnd (i+1)):∀ i j,i≤j→j≤k→bnd i≤bnd j:=mono_le h
theorem CpS.all {w0:World} {gA n:Nat} {w:World} {Ds:Nat→Dom} {As:Nat→DMem} {gI gO q bnd:Nat→Nat} (h:CpS w0 gA n n w Ds As gI gO q bnd) (hI:∀ i,i<n→(Ds i).ins.length≤9223372036854775807) (hO:∀ i,i<n→(Ds i).out.length≤9223372036854775807) :
  ClS (fun k=>k≤gA∨∃ j,j<n∧(k=gI j∨k=gO j)) w gA n Ds As gI gO∧(∀ i,i<n→gA<gI i∧gA<gO i∧gI i<w.heap.size∧gO i<w.heap.size):=by
 have hr:∀ i,i<n→bnd i≤gI i∧gI i<q i∧bnd i≤gO i∧gO i<q i:=fun i hi=>by
  obtain ⟨m,p,ho⟩:=h.own i hi
  have:=ho.bI;have:=ho.bO;have:=ho.mp
  omega
 have hm:=bnd_le fun i hi=>(h.up i hi).2
 have dis:∀ i j,i<n→j<n→i<j→q i≤bnd j:=fun i j hi hj hij=>by
  have:=(h.up i hi).1
  have:=hm (i+1) j (by omega) (by omega)
  omega
 have hA:∀ i,i<n→gA<gI i∧gA<gO i∧gI i<w.heap.size∧gO i<w.heap.size:=fun i hi=>by
  have:=hr i hi
  have:=h.lo i (by omega)
  obtain ⟨m,p,ho⟩:=h.own i hi
  have:=ho.mp
  omega
 refine ⟨⟨h.at_,fun i hi=>?_,fun i j hi hj hne=>?_,fun i hi=>?_,fun i j hi hj=>?_⟩,hA⟩
 ·obtain ⟨m,p,ho⟩:=h.own i hi
  refine ClD.of ho (hI i hi) (hO i hi) (.inr ⟨i,hi,.inl rfl⟩) (.inr ⟨i,hi,.inr rfl⟩) ?_
  rintro k k1 k2 k3 k4 (hx|⟨j,hj,hx⟩)
  ·have:=h.lo i (by omega)
   omega
  ·have r:=hr j hj
   rcases Nat.lt_trichotomy i j with hij|hij|hij
   ·have:=dis i j hi hj hij
    omega
   ·subst hij
    rcases hx with rfl|rfl
    ·exact k3 rfl
    ·exact k4 rfl
   ·have:=dis j i hj hi hij
    omega
 ·have r:=hr i hi
  have s:=hr j hj
  rcases Nat.lt_or_gt_of_ne hne with hij|hij
  ·have:=dis i j hi hj hij
   omega
  ·have:=dis j i hj hi hij
   omega
 ·have:=hA i hi
  omega
 ·by_cases e:i=j
  ·subst e
   obtain ⟨m,p,ho⟩:=h.own i hi
   obtain ⟨cs,v,i1,_⟩:=ho.i
   obtain ⟨ds,u,o1,_⟩:=ho.o
   exact row_ne i1 o1 (by decide)
  ·have r:=hr i hi
   have s:=hr j hj
   rcases Nat.lt_or_gt_of_ne e with hij|hij
   ·have:=dis i j hi hj hij
    omega
   ·have:=dis j i hj hi hij
    omega
def ownA (C:Conf) (a:Int×Int):Nat:=(C.ow.getD a.2.toNat 0).toNat
theorem came_keep {C:Conf} {rb:Nat→Bool} {i:Nat} (hi:rb i=true) (arr:List (Int×Int)) (fr te:Int) (l:Nat):cameN C (arr.filter fun a=>rb (ownA C a)) (i:Int) fr te l=cameN C arr (i:Int) fr te l:=by
 unfold cameN
 rw [List.filter_filter]
 congr 2
 refine List.filter_congr fun a ha=>?_
 unfold hitA
 cases hq:(decide (a.2=(l:Int)) && (decide (C.ow.getD l 0=(i:Int)) && (decide (fr≤a.1) && decide (a.1<te)))) with
 | false=>rfl
 | true=>
  simp only [Bool.and_eq_true,decide_eq_true_eq] at hq
  obtain ⟨h1,h2,_⟩:=hq
  have:ownA C a=i:=by
   unfold ownA
   rw [h1,Int.toNat_natCast,h2,Int.toNat_natCast]
  rw [this,hi]
  rfl
def onlyS (C:Conf) (rb:Nat→Bool) (n:Nat) (S:Scr):Scr:=⟨(List.range n).map fun i=>if rb i then S.acts.getD i [] else [],S.arr.filter fun a=>rb (ownA C a),S.rounds⟩
theorem only_same {C:Conf} {rb:Nat→Bool} {n:Nat} {S:Scr} (hn:S.acts.length=n):SameTo C (fun i=>rb i=true) (onlyS C rb n S) S:=by
 refine ⟨rfl,fun i hi=>?_,fun i hi fr te l=>came_keep hi S.arr fr te l⟩
 show ((List.range n).map fun i=>if rb i then S.acts.getD i [] else []).getD i []=_
 by_cases h:i<n
 ·simp only [List.getD,List.getElem?_map,List.getElem?_range h,Option.map_some,Option.getD_some]
  rw [if_pos hi]
 ·simp only [List.getD]
  rw [List.getElem?_eq_none (by simp;omega),List.getElem?_eq_none (by omega)]
end Go.Proofs.YtejhccmclanlmaaGreatDoor
