/- Texts joined: Oe. -/
import Derived.Deep.OwnRows
import Derived.Test.YtejhccmclanlmaaGreatDoorK08
set_option linter.unusedVariables false
set_option maxRecDepth 100000
namespace Go.Proofs.YtejhccmclanlmaaGreatDoor
open Go.RowKit
structure Mat (w:World) (r D k:Nat) (M:Nat→List Bool):Prop where
 outer:∃ L,RowAt w r 55 L∧L.length=D∧∀ i,i<k→L[i]? = some (.slice (some ⟨r+1+i,0,none⟩) D D)
 rows:∀ i,i<k→RowAt w (r+1+i) 4 (bl (M i))
 len:∀ i,i<k→(M i).length=D
theorem Mat.grown {w w':World} {r D k:Nat} {M:Nat→List Bool} {row:Option Nat} (h:Mat w r D k M) (hg:w.grownBy w' row) (hr:∀ j,row=some j→j<r):Mat w' r D k M:=by
 obtain ⟨L,h1,h2,h3⟩:=h.outer
 refine ⟨⟨L,h1.grown' hg (fun e=>?_),h2,h3⟩,fun i hi=>(h.rows i hi).grown' hg (fun e=>?_),h.len⟩
 ·have:=hr _ e.symm;omega
 ·have:=hr _ e.symm;omega
theorem Mat.below {w w':World} {r D k:Nat} {M:Nat→List Bool} (h:Mat w r D k M) (hb:Below w.heap.size w w'):Mat w' r D k M:=
 h.grown (row:=none) ⟨hb.os,hb.tape,hb.output,hb.size,fun k hk _=>hb.block k hk⟩ (by simp)
theorem Mat.step {w w':World} {r D:Nat} {M:Nat→List Bool} {x:Int×Int×Int} (h:Mat w r D D M) (h1:x.1.toNat<D) (h2:x.2.1.toNat<D) (hr:RowAt w' (r+1+x.1.toNat) 4 (bl (orR (M x.1.toNat) (M x.2.1.toNat)))) (hg:w.grownBy w' (some (r+1+x.1.toNat))):Mat w' r D D (stepM M x):=by
 obtain ⟨L,q1,q2,q3⟩:=h.outer
 refine ⟨⟨L,q1.grown' hg (by simp;omega),q2,q3⟩,fun i hi=>?_,stepM_len h.len x h1 h2⟩
 unfold stepM
 split
 ·rename_i e;rw [e];exact hr
 ·rename_i e;exact (h.rows i hi).grown' hg (by simp;omega)
structure MatN (w:World) (r D k:Nat):Prop where
 outer:RowAt w r 55 ((List.range k).map (fun i=>Value.slice (some ⟨r+1+i,0,none⟩) D D)++List.replicate (D - k) (Value.slice none 0 0))
 rows:∀ i,i<k→RowAt w (r+1+i) 4 (bl (idM D i))
 size:w.heap.size=r+1+k
theorem idM_len (D i:Nat):(idM D i).length=D:=by simp [idM]
theorem MatN.mat {w:World} {r D:Nat} (h:MatN w r D D):Mat w r D D (idM D):=by
 refine ⟨⟨_,h.outer,by simp,fun i hi=>?_⟩,h.rows,fun i _=>idM_len D i⟩
 rw [List.getElem?_append_left (by simpa using hi)]
 simp [hi]
theorem idM_arr (D k:Nat):(Array.replicate D (Value.bool false)).setIfInBounds k (.bool true)=(bl (idM D k)).toArray:=by
 apply Array.ext'
 simp [bl,idM,List.map_set]
theorem follow_at (n f t:Nat) (F T:List Bool) (c1 c2:Nat) (w:World) (hF:RowAt w f 4 (bl F)) (hT:RowAt w t 4 (bl T)) (h1:F.length=n) (h2:T.length=n) (hne:f≠t) (h4:n≤4) :
  Calls Tryz.prog 33 #[.slice (some ⟨f,0,none⟩) n c1,.slice (some ⟨t,0,none⟩) n c2] w fun e w'=>e=.returned (.tuple #[])∧RowAt w' f 4 (bl (orR F T))∧w.grownBy w' (some f):=by
 have q:=follow_any f t F T c1 c2 w hF hT (by omega) hne (by omega)
 rw [h1,h2] at q
 exact q
theorem MatN.next {w:World} {r D k:Nat} (h:MatN w r D k) (hk:k<D) :
  MatN ((w.setCell ⟨r,k,none⟩ (.slice (some ⟨w.heap.size,0,none⟩) D D)).alloc (.cells ((Array.replicate D (Value.bool false)).setIfInBounds k (.bool true)) 4)) r D (k+1):=by
 have hs:=h.size
 have hlt:=h.outer.lt
 rw [idM_arr]
 refine ⟨?_,fun i hi=>?_,by simp [World.setCell];omega⟩
 ·have q:=(h.outer.setCell k (.slice (some ⟨w.heap.size,0,none⟩) D D)).alloc (.cells (bl (idM D k)).toArray 4)
  have e:((List.range k).map (fun i=>Value.slice (some ⟨r+1+i,0,none⟩) D D)++List.replicate (D - k) (Value.slice none 0 0)).set k (.slice (some ⟨w.heap.size,0,none⟩) D D)=(List.range (k+1)).map (fun i=>Value.slice (some ⟨r+1+i,0,none⟩) D D)++List.replicate (D - (k+1)) (Value.slice none 0 0):=by
   rw [List.set_append_right _ _ (by simp)]
   obtain ⟨m,hm⟩:∃ m,D - k=m+1:=⟨D - k - 1,by omega⟩
   have hm2:D - (k+1)=m:=by omega
   rw [hm,hm2,List.range_succ,hs]
   simp [List.replicate_succ]
  rw [e] at q
  exact q
 ·by_cases e:i=k
  ·subst e
   have hz:(w.setCell ⟨r,i,none⟩ (.slice (some ⟨w.heap.size,0,none⟩) D D)).heap.size=r+1+i:=by simp [World.setCell];omega
   exact rowAt_new2 _ _ _ _ hz
  ·exact ((h.rows i (by omega)).setOther _ _ (by show r+1+i≠r;omega)).alloc _
theorem Tryz.info55b:(Tryz.prog.info? 55).map (fun i=>(i.zero,i.size,i.bytes))=some (some (.slice none 0 0),1,24):=by kernel_rfl
theorem Tryz.info4b:(Tryz.prog.info? 4).map (fun i=>(i.zero,i.size,i.bytes))=some (some (.bool false),1,1):=by kernel_rfl
theorem make49 (D:Nat) (h:D≤4) (w:World):(Instr.makeSlice 51 (.int .i64 D) (.int .i64 D)).run Tryz.prog w=.ok (.slice (some ⟨w.heap.size,0,none⟩) D D) (w.alloc (.cells (List.replicate D (Value.slice none 0 0)).toArray 55)):=by
 have q:=run_make_row' (P:=Tryz.prog) 51 55 (.slice none 0 0) 24 Tryz.underlying51 Tryz.info55b rfl .i64 .i64 D (by omega) (by omega) w
 rw [q]
 have e:madeCells #[Value.slice none 0 0] D=(List.replicate D (Value.slice none 0 0)).toArray:=by
  apply Array.ext
  ·simp [madeCells]
  ·intro i h1 h2
   simp [madeCells,Nat.mod_one]
 rw [e]
theorem make54 (D:Nat) (h:D≤4) (w:World):(Instr.makeSlice 55 (.int .i64 D) (.int .i64 D)).run Tryz.prog w=.ok (.slice (some ⟨w.heap.size,0,none⟩) D D) (w.alloc (.cells (bl (List.replicate D false)).toArray 4)):=by
 have q:=run_make_row' (P:=Tryz.prog) 55 4 (.bool false) 1 Tryz.underlying55 Tryz.info4b rfl .i64 .i64 D (by omega) (by omega) w
 rw [q]
 have e:madeCells #[Value.bool false] D=(bl (List.replicate D false)).toArray:=by
  apply Array.ext
  ·simp [madeCells]
  ·intro i h1 h2
   simp [madeCells,Nat.mod_one]
 rw [e]
set_option maxHeartbeats 400000 in
theorem reach_ok (C:Conf) (A:Mem) (w:World) (hC:ConfIn w A C) (h0:ckC C=0) (D:Nat) (hD:C.d=D) :
  Calls Tryz.prog 14 #[cv C A] w fun e w'=>∃ r,e=.returned (.tuple #[.slice (some ⟨r,0,none⟩) D D,.int .i64 0])∧Mat w' r D D (itM C.ch (idM D) D)∧w.heap.size≤r∧Below w.heap.size w w':=by
 have q1:=below_new w (.cells (cl C A) 27)
 have HC:=hid (hC.keep q1)
 have HB:=hid (boxC_new w C A)
 have HQ:=hid q1
 have HF:=hid (fits_of h0)
 have HN:=hid (ch_ne (ck_ok h0).2.2.2.2.2.1)
 have hD1:1≤D:=by have:=HF.out.d;omega
 have hD4:D≤4:=by have:=HF.out.d;omega
 have l7:=HF.out.l7
 have hmk49:=make49 D hD4
 have hmk54:=make54 D hD4
 have H0:=hid h0
 have HD:=hid hD
 clear q1 hC h0 hD
 obtain ⟨a5,a6,a7,a8,c5,c6,c7,c8⟩:=A
 dsimp only [cv,cl] at *
 go_enter Tryz.func14,Tryz.ntmps14
 go_wp2_with fail
 refine (checkC_any C ⟨a5,a6,a7,a8,c5,c6,c7,c8⟩ _ HC.out).mono ?_
 rintro e w1 ⟨rfl,hb1⟩
 have HC1:=hid (HC.out.keep hb1)
 have HB1:=hid (HB.out.keep hb1)
 have HQ1:=hid (btrans HQ.out hb1)
 clear hb1 HC HB HQ
 rw [H0.out]
 have hB1:w.heap.size<w1.heap.size:=HB1.out.lt
 obtain ⟨g0,g1,g2,g3,g4,g5,g6,g7,g8⟩:=HB1.out
 dsimp only at g5 g6 g7 g8
 rw [HD.out] at g2
 have Hm0:Hid (MatN (w1.alloc (.cells (List.replicate D (Value.slice none 0 0)).toArray 55)) w1.heap.size D 0):=by
  refine hid ⟨?_,fun i hi=>by omega,by simp⟩
  have:=rowAt_new2 w1 _ (List.replicate D (Value.slice none 0 0)) 55 rfl
  simpa using this
 have Hb0:=hid (below_new w1 (.cells (List.replicate D (Value.slice none 0 0)).toArray 55))
 go_wp2
 go_loopw [19] (fun i wr=>∃ k:Nat,k≤D∧i=.int .i64 k∧MatN wr w1.heap.size D k∧Below w1.heap.size w1 wr) (fun i _=>D - (intOf i).toNat)
 case atStart=>exact ⟨0,Nat.zero_le _,rfl,Hm0.out,Hb0.out⟩
 case round=>
  clear Hm0 Hb0 hmk49 g0 g1 g2 g3 g4 g5 g6 g7 g8
  obtain ⟨k,hk,rfl,hM,hb⟩:=hrel
  obtain ⟨g0,g1,g2,g3,g4,g5,g6,g7,g8⟩:=HB1.out.keep hb
  dsimp only at g5 g6 g7 g8
  rw [HD.out] at g2
  have hrl:=hM.outer.lt
  by_cases hlt:k<D
  ·have hc1:=hM.outer.cell k (.slice none 0 0) (by
    rw [List.getElem?_append_right (by simp),List.getElem?_replicate]
    simp only [List.length_map,List.length_range,Nat.sub_self]
    rw [if_pos (by omega)])
   have hf1:=hM.outer.frozen k
   have Hnx:=hid (hM.next hlt)
   have hkD:((k:Nat):Int)<(D:Int):=by omega
   have Hb2:Hid (Below w1.heap.size w1 ((wr.setCell ⟨w1.heap.size,k,none⟩ (.slice (some ⟨wr.heap.size,0,none⟩) D D)).alloc (.cells ((Array.replicate D (Value.bool false)).setIfInBounds k (.bool true)) 4))):=
    (hb.setCell lr _).alloc (by simp [World.setCell];omega) _
   have hnw:(wr.alloc (.cells (bl (List.replicate D false)).toArray 4)).cell? ⟨wr.heap.size,k,none⟩=some (.bool false):=by
    rw [cell_new _ _ _ _ _ rfl];simp [hlt]
   have hne1:¬ w1.heap.size=wr.heap.size:=by omega
   have hne2:¬ wr.heap.size=w1.heap.size:=by omega
   clear hM
   go_wp2
   go_roundw
   case rel=>exact ⟨k+1,by omega,by go_num,Hnx.out,Hb2.out⟩
   case measure=>simp [intOf];omega
  ·obtain rfl:k=D:=by omega
   have HM:=hid hM.mat
   have HB2:=hid hb
   clear hM hb hmk54
   go_wp2
   go_loopw [37] (fun i wr=>∃ (n:Nat),n≤k∧i=.int .i64 n∧Mat wr w1.heap.size k k (itM C.ch (idM k) n)∧Below w1.heap.size w1 wr) (fun i _=>k - (intOf i).toNat)
   case atStart=>exact ⟨0,Nat.zero_le _,rfl,HM.out,HB2.out⟩
   case round=>
    clear HM HB2 g0 g1 g2 g3 g4 g5 g6 g7 g8
    obtain ⟨n,hn,rfl,hM,hb⟩:=hrel
    have HM:=hid hM
    have HB2:=hid hb
    clear hM
    obtain ⟨g0,g1,g2,g3,g4,g5,g6,g7,g8⟩:=HB1.out.keep hb
    dsimp only at g5 g6 g7 g8
    clear hb
    by_cases hnk:n<k
    ·go_wp2
     go_loopw [42] (fun i wr=>∃ (m:Nat),m≤C.ch.length∧i=.int .i64 m∧Mat wr w1.heap.size k k ((C.ch.take m).foldl stepM (itM C.ch (idM k) n))∧Below w1.heap.size w1 wr) (fun i _=>C.ch.length - (intOf i).toNat)
     case atStart=>exact ⟨0,Nat.zero_le _,rfl,by simpa using HM.out,HB2.out⟩
     case round=>
      clear HM HB2 g0 g1 g2 g3 g4 g5 g6 g7 g8
      obtain ⟨m,hm,rfl,hM,hb⟩:=hrel
      have HM:=hid hM
      have HB2:=hid hb
      clear hM hb
      by_cases hmk:m<C.ch.length
      ·obtain ⟨b,o,rfl,hc1,hc2,hc3⟩:=(HC1.out.keep HB2.out).ch m hmk
       have HR:=HF.out.ch _ (List.getElem_mem hmk)
       have HN2:=HN.out _ (List.getElem_mem hmk)
       have HL:=(HF.out.d)
       rw [HD.out] at HL
       have HRd:=ch_ok (ck_ok H0.out).2.2.2.2.2.1 _ (List.getElem_mem hmk)
       rw [HD.out] at HRd
       obtain ⟨f,hf⟩:∃ f:Nat,C.ch[m].1=f:=⟨C.ch[m].1.toNat,by omega⟩
       obtain ⟨t,ht⟩:∃ t:Nat,C.ch[m].2.1=t:=⟨C.ch[m].2.1.toNat,by omega⟩
       have hfk:f<k:=by omega
       have htk:t<k:=by omega
       have hft:f≠t:=by omega
       have Hst:Hid (∀ M,stepM M C.ch[m]=stepM M ((f:Int),(t:Int),C.ch[m].2.2)):=by
        intro M;rw [← hf,← ht]
       rw [hf] at hc1
       rw [ht] at hc2
       clear HR HN2 HL HRd hf ht
       generalize C.ch[m].2.2=z at *
       obtain ⟨L,q1,q2,q3⟩:=HM.out.outer
       have hrf:=q1.cell f _ (q3 f hfk)
       have hrt:=q1.cell t _ (q3 t htk)
       have hrlt:=q1.lt
       generalize hMM:(C.ch.take m).foldl stepM (itM C.ch (idM k) n)=M at *
       have HMM:=hid hMM
       clear hMM
       have hq1':=q1.alloc (.cells #[.int .i64 f,.int .i64 t,.int .i64 z] 99)
       have hrf:=hq1'.cell f _ (q3 f hfk)
       have hrt:=hq1'.cell t _ (q3 t htk)
       have HRF:Hid (RowAt (wr.alloc (.cells #[.int .i64 f,.int .i64 t,.int .i64 z] 99)).drew (w1.heap.size+1+f) 4 (bl (M f))):=(HM.out.rows f hfk).alloc _
       have HRT:Hid (RowAt (wr.alloc (.cells #[.int .i64 f,.int .i64 t,.int .i64 z] 99)).drew (w1.heap.size+1+t) 4 (bl (M t))):=(HM.out.rows t htk).alloc _
       have HLf:=hid (HM.out.len f hfk)
       have HLt:=hid (HM.out.len t htk)
       have hrfl:=HRF.out.lt
       have HRl:Hid (w1.heap.size+1+f<wr.heap.size):=(HM.out.rows f hfk).lt
       have hfk':((f:Nat):Int)<(k:Int):=by omega
       have htk':((t:Nat):Int)<(k:Int):=by omega
       have hne1:¬ w1.heap.size+1+f=wr.heap.size:=by have:=HRl.out;omega
       have hne2:¬ wr.heap.size=w1.heap.size+1+f:=by have:=HRl.out;omega
       have hne3:¬ w1.heap.size=w1.heap.size+1+f:=by omega
       go_wp2_with fail
       go_region_held3 (fun w'=>w'.cell? ⟨wr.heap.size,0,none⟩=some (.int .i64 f)∧w'.cell? ⟨wr.heap.size,1,none⟩=some (.int .i64 t)∧w'.cell? ⟨w1.heap.size,f,none⟩=some (.slice (some ⟨w1.heap.size+1+f,0,none⟩) k k)∧w'.cell? ⟨w1.heap.size,t,none⟩=some (.slice (some ⟨w1.heap.size+1+t,0,none⟩) k k)) (first|go_keep|exact ⟨hg5.cell (by simp) (by simp;omega),hg5.cell (by simp) (by simp;omega),hg5.cell hrf (by simp;omega),hg5.cell hrt (by simp;omega)⟩)
        (first|(go_at_call 33;refine (follow_at k (w1.heap.size+1+f) (w1.heap.size+1+t) (M f) (M t) k k _ HRF.out HRT.out HLf.out HLt.out (by omega) (by omega)).mono ?_;rintro e w5 ⟨rfl,ho5,hg5⟩))
       have HM5:Hid (Mat w5 w1.heap.size k k ((C.ch.take (m+1)).foldl stepM (itM C.ch (idM k) n))∧Below w1.heap.size w1 w5):=by
        refine hid ⟨?_,?_⟩
        ·rw [List.take_succ_eq_append_getElem hmk,List.foldl_append,HMM.out]
         simp only [List.foldl_cons,List.foldl_nil]
         rw [Hst.out]
         have q:=(HM.out.below (below_new wr (.cells #[.int .i64 f,.int .i64 t,.int .i64 z] 99))).grown (w':=(wr.alloc (.cells #[.int .i64 f,.int .i64 t,.int .i64 z] 99)).drew) (row:=none) (grow_drew _ _) (by simp)
         exact q.step (x:=((f:Int),(t:Int),z)) (by simpa using hfk) (by simpa using htk) (by simpa using ho5) (by simpa using hg5)
        ·exact ((HB2.out.alloc (by omega) _).drew).grown hg5 (by simp;omega) (fun j hj=>by simp at hj;omega)
       clear HRF HRT ho5 hg5 HM HB2
       go_wp2
       go_roundw
       case rel=>exact ⟨m+1,by omega,by go_num,HM5.out⟩
       case measure=>simp [intOf];omega
      ·obtain rfl:m=C.ch.length:=by omega
       have HM2:Hid (Mat wr w1.heap.size k k (itM C.ch (idM k) (n+1))):=by
        have:=HM.out
        rw [List.take_length] at this
        exact this
       clear HM
       go_wp2
       go_roundw
       case rel=>exact ⟨n+1,by omega,by go_num,HM2.out,HB2.out⟩
       case measure=>simp [intOf];omega
    ·obtain rfl:n=k:=by omega
     go_wp2
     exact bodyPost_ret (v:=.tuple #[.slice (some ⟨w1.heap.size,0,none⟩) n n,.int .i64 0]) (by simp [results,Tryz.results14,go_sem]) rfl ⟨w1.heap.size,rfl,HM.out,by omega,btrans HQ1.out HB2.out⟩
end Go.Proofs.YtejhccmclanlmaaGreatDoor
