/- Texts joined: Wv Ga Wz. -/
import Derived.Deep.LoopGhost
import Derived.Deep.MidRow
import Derived.Test.YtejhccmclanlmaaGreatDoorK14
import Derived.Test.YtejhccmclanlmaaGreatDoorK18
import Derived.Test.YtejhccmclanlmaaGreatDoorK24
import Derived.Test.YtejhccmclanlmaaGreatDoorK26
import Derived.Test.YtejhccmclanlmaaGreatDoorK36
import Derived.Test.YtejhccmclanlmaaGreatDoorK38
import Derived.Test.YtejhccmclanlmaaGreatDoorK39
set_option linter.unusedVariables false
set_option maxRecDepth 100000
namespace Go.Proofs.YtejhccmclanlmaaGreatDoor
open Go.RowKit
theorem stepW_ok (X:RC) (M:RM) (D:Dom) (K:KT) (now:Int) (w:World) (h:RO X w M D K now) (hz:ckD X.C X.dn (shownD D)=0) (hK:ck K=0) (hAs:∀ a∈X.L,ckA a=0) (hn:0≤now∧now≤100000) (hto:0≤X.tq∧X.tq≤100000) (hl:D.evs.length≤100000000000) (hout:∀ l∈D.out,l.length≤100000000) :
  Calls Tryz.prog 101 #[.pointer (some ⟨X.rb,0,none⟩)] w fun e w'=>e=.returned (.tuple #[])∧∃ M',RO X w' M' (stD X.C X.dn X.L X.tq D K now) (stK X.C X.L X.tq D K now) (stN X.C X.dn X.L X.tq D K now):=by
 have hnx:=(ckNums_iff.1 (ckD_iff.1 hz).2.2.1).2.1
 simp only [shownD,inR,Bool.and_eq_true] at hnx
 have hnx0:0≤D.nxt:=of_decide_eq_true hnx.1
 obtain ⟨m,hm⟩:∃ m:Nat,D.nxt=(m:Int):=⟨D.nxt.toNat,by omega⟩
 by_cases hp:pickI X.C D.jobs<0
 ·have hd:does X.C X.L X.tq D now=false:=by unfold does;simp;intro h';omega
  unfold stD stK stN
  simp only [hd,Bool.false_eq_true,if_false,if_pos hp]
  exact (step_idle X M D K now w h hz hp).mono fun e w' ⟨h1,h2⟩=>⟨h1,M,h2⟩
 ·have hp':0≤pickI X.C D.jobs:=by omega
  by_cases hx:(X.L.length:Int)≤D.nxt
  ·have hd:does X.C X.L X.tq D now=false:=by unfold does;simp;intro _ h';omega
   unfold stD stK stN
   simp only [hd,Bool.false_eq_true,if_false,if_neg hp]
   exact (step_done X M D K now w h hz hp' hx).mono fun e w' ⟨h1,h2⟩=>⟨h1,M,h2⟩
  ·have hml:m<X.L.length:=by omega
   have ha:aAt X.L D=X.L[m]:=by unfold aAt;rw [hm];simp [hml]
   by_cases hw:X.tq - now<wstA X.L[m]
   ·have hd:does X.C X.L X.tq D now=false:=by unfold does;rw [ha];simp;intro _ _;omega
    unfold stD stK stN
    simp only [hd,Bool.false_eq_true,if_false,if_neg hp]
    exact (step_late X M D K now m w h hz hp' hm hml hn hto hw).mono fun e w' ⟨h1,h2⟩=>⟨h1,M,h2⟩
   ·have hd:does X.C X.L X.tq D now=true:=by
     unfold does
     rw [ha]
     simp only [Bool.and_eq_true,decide_eq_true_eq]
     omega
    obtain ⟨k,hk,hpk⟩:∃ k:Nat,k<D.jobs.length∧pickI X.C D.jobs=(k:Int):=by
     rcases pickI_spec X.C D.jobs with ⟨_,h'⟩|⟨k,h1,h2,_⟩
     ·omega
     ·exact ⟨k,h1,h2⟩
    unfold stD stK stN
    simp only [hd,if_true]
    rw [ha,hpk,Int.toNat_natCast]
    exact step_act X M D K now m w h hz hp' hm hml hn hto k hpk hk hK (hAs _ (List.getElem_mem hml)) (by omega) hl hout
def runD (C:Conf) (dn:Int) (L:List ActT) (te:Int):Nat→Dom→KT→Int→Dom×KT
 | 0,D,K,_=>(relW C dn te D,K)
 | n+1,D,K,now=>if now<te then runD C dn L te n (stD C dn L te (relW C dn now D) K now) (stK C L te (relW C dn now D) K now) (stN C dn L te (relW C dn now D) K now) else (relW C dn te D,K)
theorem runD_end (C:Conf) (dn:Int) (L:List ActT) (te:Int) (n:Nat) (D:Dom) (K:KT) (now:Int) (h:¬ now<te):runD C dn L te n D K now=(relW C dn te D,K):=by
 cases n with
 | zero=>rfl
 | succ n=>unfold runD;rw [if_neg h]
set_option maxHeartbeats 2000000 in
theorem runW_ok (X:RC) (M:RM) (D D0:Dom) (K:KT) (fr:Int) (w:World) (h:RO X w M D K fr) (hS:SI X.C X.dn D0 fr X.tq 0 D K fr) (hAs:∀ a∈X.L,ckA a=0) (hL:X.L.length≤60) (hfr:0≤fr) (hto:X.tq≤100000) (hD0:D0.evs.length≤10000000000) :
  Calls Tryz.prog 71 #[.pointer (some ⟨X.rb,0,none⟩)] w fun e w'=>e=.returned (.tuple #[])∧∃ M',RO X w' M' (runD X.C X.dn X.L X.tq (X.tq - fr).toNat D K fr).1 (runD X.C X.dn X.L X.tq (X.tq - fr).toNat D K fr).2 X.tq∧SI X.C X.dn D0 fr X.tq 40 (runD X.C X.dn X.L X.tq (X.tq - fr).toNat D K fr).1 (runD X.C X.dn X.L X.tq (X.tq - fr).toNat D K fr).2 X.tq:=by
 have hlo0:fr≤X.tq:=hS.win.hi
 have HH:=hid h
 have HSS:=hid hS
 have HAs:=hid hAs
 clear h hS hAs
 generalize hN:(X.tq - fr).toNat=N at *
 generalize hR:runD X.C X.dn X.L X.tq N D K fr=R at *
 have HN:=hid hN
 have HR:=hid hR
 clear hN hR
 go_enter Tryz.func71,Tryz.ntmps71
 go_wp2
 go_loopg [] N (fun gk wr=>∃ M' D' K' now',RO X wr M' D' K' now'∧SI X.C X.dn D0 fr X.tq 0 D' K' now'∧(X.tq - now').toNat≤gk∧runD X.C X.dn X.L X.tq gk D' K' now'=R)
 case atStart=>exact ⟨M,D,K,fr,HH.out,HSS.out,by rw [HN.out];exact Nat.le_refl _,HR.out⟩
 case round=>
  obtain ⟨M1,D1,K1,n1,h1,hS1,hg1,hR1⟩:=hrel
  have hlo:=hS1.win.lo
  have hhi:=hS1.win.hi
  have hev:=hS1.ev
  have hrb:X.rb<wr.heap.size:=h1.row.lt
  have x19:=h1.row.cell 19 _ rfl
  have x20:=h1.row.cell 20 _ rfl
  have H1:=hid h1
  have HS1:=hid hS1
  have hnx:=hS1.nx
  have hout:∀ l∈D1.out,l.length≤100000000:=fun l hl=>by have:=hS1.out l hl;omega
  have HZ:=hid hS1.win.ck
  have HR1:=hid hR1
  have HOut:=hid hout
  have CR:Hid (∀ t wx,0≤t→t≤100000→Below wr.heap.size wr wx→Calls Tryz.prog 100 #[.pointer (some ⟨X.rb,0,none⟩),.int .i64 t] wx fun e w'=>e=.returned (.tuple #[])∧∃ M',RO X w' M' (relW X.C X.dn t D1) K1 n1):=hid fun t wx h0 h9 hb=>releaseW_ok X M1 D1 K1 n1 t wx (H1.out.below hb) HZ.out (by simp [inR,h0,h9]) (by omega)
  clear h1 hS1 hR1 hout
  by_cases hlt:n1<X.tq
  ·have hin:inR n1 0 100000=true:=by simp [inR];omega
   have SR:=HS1.out.release hin (by omega)
   have hevR:=SR.ev
   have CS:Hid (∀ M' wx,RO X wx M' (relW X.C X.dn n1 D1) K1 n1→Calls Tryz.prog 101 #[.pointer (some ⟨X.rb,0,none⟩)] wx fun e w'=>e=.returned (.tuple #[])∧∃ M',RO X w' M' (stD X.C X.dn X.L X.tq (relW X.C X.dn n1 D1) K1 n1) (stK X.C X.L X.tq (relW X.C X.dn n1 D1) K1 n1) (stN X.C X.dn X.L X.tq (relW X.C X.dn n1 D1) K1 n1)):=hid fun M' wx hx=>stepW_ok X M' _ K1 n1 wx hx SR.win.ck SR.ck HAs.out (by omega) (by omega) (by omega) HOut.out
   have HST:=hid (SI.step (L:=X.L) SR HZ.out hfr hlt hto hL HAs.out)
   obtain ⟨g,hg⟩:∃ g,gk=g+1:=⟨gk - 1,by omega⟩
   have HG:=hid hg
   have HRn:Hid (runD X.C X.dn X.L X.tq g (stD X.C X.dn X.L X.tq (relW X.C X.dn n1 D1) K1 n1) (stK X.C X.L X.tq (relW X.C X.dn n1 D1) K1 n1) (stN X.C X.dn X.L X.tq (relW X.C X.dn n1 D1) K1 n1)=R):=by
    have:=HR1.out
    rw [hg] at this
    unfold runD at this
    rw [if_pos hlt] at this
    exact hid this
   have hg1':(X.tq - n1).toNat≤g+1:=by omega
   have CR2:Hid (∀ wx,Below wr.heap.size wr wx→Calls Tryz.prog 100 #[.pointer (some ⟨X.rb,0,none⟩),.int .i64 n1] wx fun e w'=>e=.returned (.tuple #[])∧∃ M',RO X w' M' (relW X.C X.dn n1 D1) K1 n1):=hid fun wx hb=>CR.out n1 wx (by omega) (by omega) hb
   clear SR hevR hg hg1 CR
   generalize relW X.C X.dn n1 D1=DR at *
   generalize stD X.C X.dn X.L X.tq DR K1 n1=D2 at *
   generalize stK X.C X.L X.tq DR K1 n1=K2 at *
   generalize stN X.C X.dn X.L X.tq DR K1 n1=n2 at *
   go_wp2_with fail
   go_quiet (fail)
   go_upto_region 1 with fail
   generalize hW:World.drewN wr _=W at *
   have HBW:Hid (Below wr.heap.size wr W):=by rw [← hW];exact hid (below_drewN (Below.refl _ _) _)
   clear hW
   have hB:Below wr.heap.size wr W.drew:=HBW.out.drew
   have z19:W.cell? ⟨X.rb,19,none⟩=some (.int .i64 n1):=bkeep HBW.out x19 lr
   clear x19 x20
   go_region_held3 (fun w'=>w'.cell? ⟨X.rb,19,none⟩=some (.int .i64 n1))
    (first|exact z19|exact y19|go_keep)
    (first
     | (go_at_call 100;with_reducible refine Calls.mono (CR2.out _ hB) ?_;rintro e w2 ⟨rfl,M2,h2⟩;have y19:=h2.row.cell 19 _ rfl;have H2:=hid h2;clear h2))
   all_goals
    clear z19 hB CR2
    go_wp2_with fail
    refine Calls.mono (CS.out _ _ H2.out) ?_
    rintro e w3 ⟨rfl,M3,h3⟩
    have H3:=hid h3
    clear h3 CS
    go_wp2
    go_roundg g
    case measure=>have:=HG.out;omega
    case rel=>exact ⟨M3,D2,K2,n2,H3.out,HST.out.1,by have:=HST.out.2;omega,HRn.out⟩
  ·have he:n1=X.tq:=by omega
   subst he
   have hin:inR X.tq 0 100000=true:=by simp [inR];omega
   have HSR:=hid (HS1.out.release hin (Int.le_refl _))
   have CR2:Hid (∀ wx,Below wr.heap.size wr wx→Calls Tryz.prog 100 #[.pointer (some ⟨X.rb,0,none⟩),.int .i64 X.tq] wx fun e w'=>e=.returned (.tuple #[])∧∃ M',RO X w' M' (relW X.C X.dn X.tq D1) K1 X.tq):=hid fun wx hb=>CR.out X.tq wx (by omega) (by omega) hb
   have HRe:Hid (R=(relW X.C X.dn X.tq D1,K1)):=hid (by rw [← HR1.out,runD_end _ _ _ _ _ _ _ _ hlt])
   clear CR
   go_wp2_with fail
   go_quiet (fail)
   go_upto_region 3 with fail
   generalize hW:World.drewN wr _=W at *
   have HBW:Hid (Below wr.heap.size wr W):=by rw [← hW];exact hid (below_drewN (Below.refl _ _) _)
   clear hW
   have hB:Below wr.heap.size wr W.drew:=HBW.out.drew
   have z20:W.cell? ⟨X.rb,20,none⟩=some (.int .i64 X.tq):=bkeep HBW.out x20 lr
   clear x19 x20
   go_region_held3 (fun w'=>w'.cell? ⟨X.rb,20,none⟩=some (.int .i64 X.tq))
    (first|exact z20|exact y20|go_keep)
    (first
     | (go_at_call 100;with_reducible refine Calls.mono (CR2.out _ hB) ?_;rintro e w2 ⟨rfl,M2,h2⟩;have y20:=h2.row.cell 20 _ rfl;have H2:=hid h2;clear h2))
   all_goals
    clear z20 hB CR2
    go_wp2
    go_end0
    exact ⟨rfl,M2,by rw [HRe.out];exact H2.out,by rw [HRe.out];exact HSR.out⟩
structure Scr where
 acts:List (List ActT)
 arr:List (Int×Int)
 rounds:Nat
def putF {α:Type} (f:Nat→α) (k:Nat) (v:α):Nat→α:=fun i=>if i=k then v else f i
theorem putF_eq {α:Type} (f:Nat→α) (k:Nat) (v:α):putF f k v k=v:=if_pos rfl
theorem putF_ne {α:Type} (f:Nat→α) {k i:Nat} (v:α) (h:i≠k):putF f k v i=f i:=if_neg h
def openF (C:Conf) (arr:List (Int×Int)) (dn:Int) (slot:Nat) (D:Dom) (last now:Int):Dom:=
 ⟨D.jobs,D.rel,D.nxt,D.ins,(List.range D.tak.length).map fun l=>min (D.tak.getD l 0+cameN C arr dn last now l) 15,D.out,D.evs++[(now,1,(slot:Int),0)]⟩
def shutE (D:Dom) (te:Int):Dom:=⟨D.jobs,D.rel,D.nxt,D.ins,D.tak,D.out,D.evs++[(te,13,0,0)]⟩
def slD (C:Conf) (slot:Nat):Nat:=(C.sl.getD slot (0,0)).1.toNat
def winF (C:Conf) (arr:List (Int×Int)) (L:List ActT) (slot:Nat) (fr te last:Int) (D:Dom):Dom:=
 shutE (runD C (slD C slot) L te (te - fr).toNat (openF C arr (slD C slot) slot D last fr) (emptyC C.s.toNat C.w.toNat) fr).1 te
def chF (C:Conf) (c:Nat):Nat:=(C.ch.getD c (0,0,0)).1.toNat
def chT (C:Conf) (c:Nat):Nat:=(C.ch.getD c (0,0,0)).2.1.toNat
def getIn (D E:Dom) (c:Nat) (size:Int):Dom:=
 ⟨D.jobs,D.rel,D.nxt,D.ins.set c (comV (D.ins.getD c ([],0)).1 (E.out.getD c []) (size.toNat - (D.ins.getD c ([],0)).1.length) (E.out.getD c []).length,comL (D.ins.getD c ([],0)).2 (size.toNat - (D.ins.getD c ([],0)).1.length) (E.out.getD c []).length),D.tak,D.out,D.evs⟩
def noOut (D:Dom) (c:Nat):Dom:=⟨D.jobs,D.rel,D.nxt,D.ins,D.tak,D.out.set c [],D.evs⟩
def delF (C:Conf) (c:Nat) (Ds:Nat→Dom):Nat→Dom:=
 let Ds1:=putF Ds (chT C c) (getIn (Ds (chT C c)) (Ds (chF C c)) c (C.ch.getD c (0,0,0)).2.2)
 putF Ds1 (chF C c) (noOut (Ds1 (chF C c)) c)
def closeF (C:Conf) (dn:Nat) (Ds:Nat→Dom):Nat→Dom:=
 (List.range C.ch.length).foldl (fun Ds c=>if chF C c=dn then delF C c Ds else Ds) Ds
def turnF (C:Conf) (S:Scr) (t:Nat×Int×Int) (X:(Nat→Dom)×(Nat→Int)):(Nat→Dom)×(Nat→Int):=
 (closeF C (slD C t.1) (putF X.1 (slD C t.1) (winF C S.arr (S.acts.getD (slD C t.1) []) t.1 t.2.1 t.2.2 (X.2 (slD C t.1)) (X.1 (slD C t.1)))),putF X.2 (slD C t.1) t.2.1)
def turnsL (C:Conf) (rounds:Nat):List (Nat×Int×Int):=
 (List.range rounds).flatMap fun (r:Nat)=>(List.range C.sl.length).map fun (k:Nat)=>(k,(r:Int) * sumS C.sl+sumS (C.sl.take k),(r:Int) * sumS C.sl+sumS (C.sl.take k)+(C.sl.getD k (0,0)).2 - C.p)
def machF (C:Conf) (S:Scr):(Nat→Dom)×(Nat→Int):=(turnsL C S.rounds).foldl (fun X t=>turnF C S t X) (fun _=>newD C,fun _=>0)
def Agree (R:Nat→Prop) (X Y:(Nat→Dom)×(Nat→Int)):Prop:=∀ i,R i→X.1 i=Y.1 i∧X.2 i=Y.2 i
structure SameTo (C:Conf) (R:Nat→Prop) (S T:Scr):Prop where
 rounds:S.rounds=T.rounds
 acts:∀ i,R i→S.acts.getD i []=T.acts.getD i []
 came:∀ i,R i→∀ fr te l,cameN C S.arr (i:Int) fr te l=cameN C T.arr (i:Int) fr te l
theorem delF_agree {C:Conf} {R:Nat→Prop} {c:Nat} {Ds Es:Nat→Dom} (hR:R (chT C c)→R (chF C c)) (h:∀ i,R i→Ds i=Es i):∀ i,R i→delF C c Ds i=delF C c Es i:=by
 intro i hi
 unfold delF
 have h1:∀ j,R j→putF Ds (chT C c) (getIn (Ds (chT C c)) (Ds (chF C c)) c (C.ch.getD c (0,0,0)).2.2) j=putF Es (chT C c) (getIn (Es (chT C c)) (Es (chF C c)) c (C.ch.getD c (0,0,0)).2.2) j:=by
  intro j hj
  by_cases e:j=chT C c
  ·subst e
   rw [putF_eq,putF_eq,h _ hj,h _ (hR hj)]
  ·rw [putF_ne _ _ e,putF_ne _ _ e,h _ hj]
 by_cases e:i=chF C c
 ·subst e
  rw [putF_eq,putF_eq,h1 _ hi]
 ·rw [putF_ne _ _ e,putF_ne _ _ e,h1 _ hi]
theorem closeF_agree {C:Conf} {R:Nat→Prop} (hR:∀ c,c<C.ch.length→R (chT C c)→R (chF C c)) (dn:Nat) {Ds Es:Nat→Dom} (h:∀ i,R i→Ds i=Es i):∀ i,R i→closeF C dn Ds i=closeF C dn Es i:=by
 unfold closeF
 have key:∀ (l:List Nat),(∀ c∈l,c<C.ch.length)→∀ Ds Es:Nat→Dom,(∀ i,R i→Ds i=Es i)→∀ i,R i→l.foldl (fun Ds c=>if chF C c=dn then delF C c Ds else Ds) Ds i=l.foldl (fun Ds c=>if chF C c=dn then delF C c Ds else Ds) Es i:=by
  intro l
  induction l with
  | nil=>intro _ Ds Es h i hi;exact h i hi
  | cons c l ih=>
   intro hl Ds Es h i hi
   simp only [List.foldl_cons]
   refine ih (fun x hx=>hl x (List.mem_cons_of_mem _ hx)) _ _ ?_ i hi
   intro j hj
   split
   ·exact delF_agree (hR c (hl c (List.mem_cons_self ..))) h j hj
   ·exact h j hj
 exact key _ (fun c hc=>List.mem_range.1 hc) Ds Es h
theorem runArgs {C:Conf} {S T:List (Int×Int)} {dn:Nat} {slot:Nat} {D:Dom} {last now:Int} (h:∀ fr te l,cameN C S (dn:Int) fr te l=cameN C T (dn:Int) fr te l):openF C S (dn:Int) slot D last now=openF C T (dn:Int) slot D last now:=by
 unfold openF
 simp only [h]
theorem turnF_agree {C:Conf} {R:Nat→Prop} {S T:Scr} (hR:∀ c,c<C.ch.length→R (chT C c)→R (chF C c)) (hS:SameTo C R S T) (t:Nat×Int×Int) {X Y:(Nat→Dom)×(Nat→Int)} (h:Agree R X Y):Agree R (turnF C S t X) (turnF C T t Y):=by
 intro i hi
 unfold turnF
 dsimp only
 constructor
 ·refine closeF_agree hR _ ?_ i hi
  intro j hj
  by_cases e:j=slD C t.1
  ·subst e
   rw [putF_eq,putF_eq,hS.acts _ hj,(h _ hj).1,(h _ hj).2]
   unfold winF
   rw [runArgs (hS.came _ hj)]
  ·rw [putF_ne _ _ e,putF_ne _ _ e,(h _ hj).1]
 ·by_cases e:i=slD C t.1
  ·subst e;rw [putF_eq,putF_eq]
  ·rw [putF_ne _ _ e,putF_ne _ _ e,(h _ hi).2]
theorem machF_agree {C:Conf} {R:Nat→Prop} {S T:Scr} (hR:∀ c,c<C.ch.length→R (chT C c)→R (chF C c)) (hS:SameTo C R S T):Agree R (machF C S) (machF C T):=by
 unfold machF
 rw [hS.rounds]
 have key:∀ (l:List (Nat×Int×Int)) (X Y:(Nat→Dom)×(Nat→Int)),Agree R X Y→Agree R (l.foldl (fun X t=>turnF C S t X) X) (l.foldl (fun X t=>turnF C T t X) Y):=by
  intro l
  induction l with
  | nil=>intro X Y h;exact h
  | cons t l ih=>intro X Y h;exact ih _ _ (turnF_agree hR hS t h)
 exact key _ _ _ (fun i _=>⟨rfl,rfl⟩)
theorem run_parts {C:Conf} {dn:Int} {D:Dom} {K:KT} {L:List ActT} {fr te:Int} (h:ckRun C dn D K L fr te=0):ckD C dn D=0∧ck K=0∧(List.length L≤60∧∀ a∈L,ckA a=0)∧0≤fr∧fr≤te∧te≤100000:=by
 unfold ckRun at h
 split at h
 ·rename_i h1;exact absurd h h1
 ·rename_i h1
  split at h
  ·rename_i h2;exact absurd h h2
  ·rename_i h2
   split at h
   ·rename_i h3;exact absurd h h3
   ·rename_i h3
    split at h
    ·omega
    ·rename_i h4
     refine ⟨by omega,by omega,?_,by omega,by omega,by omega⟩
     have h5:ckAs L=0:=by omega
     unfold ckAs at h5
     split at h5
     ·omega
     ·refine ⟨by omega,fun a ha=>?_⟩
      obtain ⟨i,hi,rfl⟩:=List.getElem_of_mem ha
      have:=fe_eq_zero h5 i hi
      rw [show L.getD i (0,0,0)=L[i] by simp [hi]] at this
      exact this
theorem si_begin {C:Conf} {dn:Int} {D:Dom} {K:KT} {fr te:Int} (hz:ckD C dn D=0) (hK:ck K=0) (h:fr≤te):SI C dn D fr te 0 D K fr:=by
 refine ⟨Win.begin hz h,hK,by omega,fun l hl=>?_⟩
 have h1:=(dom_small hz).2.2.2.2 l hl
 have h2:=(ckNums_iff.1 (ckD_iff.1 hz).2.2.1).2.1
 simp only [inR,Bool.and_eq_true] at h2
 have h3:0≤D.nxt:=of_decide_eq_true h2.1
 omega
theorem innerK_agree2 {w w':World} {m p:Nat} {F:Nat→List Int} {v:Nat→Value} {k rb t:Nat} {l:List Value} (h:InnerK w m p F v k) (hr:RowAt w rb t l) (ht:t≠3) (hk:∀ x,x≠rb→w'.heap[x]? = w.heap[x]?):InnerK w' m p F v k:=by
 obtain ⟨B,h1,h2,h3,h4⟩:=h
 exact ⟨B,fun j hj=>⟨owns_agree (h1 j hj).1 (fun x hx=>hk x (owns_ne (h1 j hj).1 hr (Ne.symm ht) x hx)),(h1 j hj).2⟩,h2,h3,h4⟩
theorem row_ne {w:World} {g g' t t':Nat} {l l':List Value} (h:RowAt w g t l) (h':RowAt w g' t' l') (hne:t≠t'):g≠g':=fun e=>by
 subst e
 have h1:w.heap[g]? = _:=h
 have h2:w.heap[g]? = _:=h'
 rw [h1] at h2
 simp at h2
 exact hne h2.2
theorem domOwn_agree2 {base:Nat} {w w':World} {A:DMem} {D:Dom} {gI gO m p q rb:Nat} {l:List Value} (h:DomOwn base w A D gI gO m p q) (hr:RowAt w rb 152 l) (_ht:152≠3) (hs:w.heap.size≤w'.heap.size) (hk:∀ x,x≠rb→w'.heap[x]? = w.heap[x]?):DomOwn base w' A D gI gO m p q:=by
 have hm:=h.mp
 refine ⟨owns_agree h.j (fun x hx=>hk x (owns_ne h.j hr (by decide) x hx)),owns_agree h.r (fun x hx=>hk x (owns_ne h.r hr (by decide) x hx)),owns_agree h.t (fun x hx=>hk x (owns_ne h.t hr (by decide) x hx)),owns_agree h.e (fun x hx=>hk x (owns_ne h.e hr (by decide) x hx)),h.rt,?_,?_,h.aI,h.aO,h.cI,h.cO,h.bI,h.bO,⟨hm.1,hm.2.1,Nat.le_trans hm.2.2 hs⟩,h.lt⟩
 ·obtain ⟨cs,v,h1,h2,h3,h4⟩:=h.i
  exact ⟨cs,v,(hk gI (row_ne h1 hr (by decide))).trans h1,h2,h3,innerK_agree2 h4 hr (by decide) hk⟩
 ·obtain ⟨cs,v,h1,h2,h3,h4⟩:=h.o
  exact ⟨cs,v,(hk gO (row_ne h1 hr (by decide))).trans h1,h2,h3,innerK_agree2 h4 hr (by decide) hk⟩
theorem ownC_agree2 {w w':World} {g0 k rb:Nat} {K:KT} {l:List Value} (h:OwnC w g0 K k) (hr:RowAt w rb 152 l) (hk:∀ x,x≠rb→w'.heap[x]? = w.heap[x]?):OwnC w' g0 K k:=by
 obtain ⟨L,G,cp,k1,k2,k4,k5⟩:=h
 exact ⟨L,G,cp,(hk g0 (row_ne k1 hr (by decide))).trans k1,k2,fun j hj hl=>⟨(k4 j hj hl).1,owns_agree (k4 j hj hl).2 (fun x hx=>hk x (owns_ne (k4 j hj hl).2 hr (by decide) x hx))⟩,k5⟩
theorem res1 {w:World} {b:Nat} {l:List Value} (h:RowAt w b 72 l) (u:Value):RowAt (w.setCell ⟨b,0,none⟩ u).drew b 72 (l.set 0 u):=(rowAt_set1 h 0 u).drew
theorem res_ne {w:World} {b' x:Nat} (hx:x≠b') (u:Value):(w.setCell ⟨b',0,none⟩ u).drew.heap[x]? = w.heap[x]? := heap_set_ne w b' 0 u x hx
theorem res7 {w:World} {b b':Nat} (h:RowAt w b 46 [.slice none 0 0,.slice none 0 0,.int .i64 0,.slice none 0 0,.slice none 0 0,.slice none 0 0,.slice none 0 0]) (hne:b≠b') (v0 v1 v2 v3 v4 v5 v6 u:Value):RowAt ((((((((w.setCell ⟨b,0,none⟩ v0).setCell ⟨b,1,none⟩ v1).setCell ⟨b,2,none⟩ v2).setCell ⟨b,3,none⟩ v3).setCell ⟨b,4,none⟩ v4).setCell ⟨b,5,none⟩ v5).setCell ⟨b,6,none⟩ v6).setCell ⟨b',0,none⟩ u).drew b 46 [v0,v1,v2,v3,v4,v5,v6]:=by
 have h1:RowAt (((((((w.setCell ⟨b,0,none⟩ v0).setCell ⟨b,1,none⟩ v1).setCell ⟨b,2,none⟩ v2).setCell ⟨b,3,none⟩ v3).setCell ⟨b,4,none⟩ v4).setCell ⟨b,5,none⟩ v5).setCell ⟨b,6,none⟩ v6) b 46 [v0,v1,v2,v3,v4,v5,v6]:=row_setCells [v0,v1,v2,v3,v4,v5,v6] [] [.slice none 0 0,.slice none 0 0,.int .i64 0,.slice none 0 0,.slice none 0 0,.slice none 0 0,.slice none 0 0] w h rfl
 have h2:RowAt ((((((((w.setCell ⟨b,0,none⟩ v0).setCell ⟨b,1,none⟩ v1).setCell ⟨b,2,none⟩ v2).setCell ⟨b,3,none⟩ v3).setCell ⟨b,4,none⟩ v4).setCell ⟨b,5,none⟩ v5).setCell ⟨b,6,none⟩ v6).setCell ⟨b',0,none⟩ u) b 46 [v0,v1,v2,v3,v4,v5,v6]:=(heap_set_ne (((((((w.setCell ⟨b,0,none⟩ v0).setCell ⟨b,1,none⟩ v1).setCell ⟨b,2,none⟩ v2).setCell ⟨b,3,none⟩ v3).setCell ⟨b,4,none⟩ v4).setCell ⟨b,5,none⟩ v5).setCell ⟨b,6,none⟩ v6) b' 0 u b hne).trans h1
 exact h2.drew
theorem step_wanted {c A B:Prop} [Decidable c] (hc:c) (h:A):if c then A else B:=by rw [if_pos hc];exact h
def dSR:Nat→Nat
 | 0=>32
 | 1=>33
 | 2=>34
 | 3=>35
 | 4=>36
 | 5=>37
 | 6=>38
 | 7=>39
 | 8=>40
 | 9=>41
 | 10=>42
 | 11=>18
 | _=>99
def dOR:Nat→List Nat:=fun i=>[i]
def FCR (C:Conf) (B:Mem) (dn:Int) (D:Dom) (A:DMem) (aK:Option Addr) (K:KT) (cK:Nat) (aL:Option Addr) (L:List ActT) (cL:Nat) (fr te:Int) (n0:Nat) (i:Nat) (x:Nat→Value) (w:World):Prop:=
 match i with
 | 0=>x 32=.agg #[.slice A.aJ D.jobs.length A.cJ,.slice A.aR D.rel.length A.cR,.int .i64 D.nxt,.slice A.aI D.ins.length A.cI,.slice A.aT D.tak.length A.cT,.slice A.aO D.out.length A.cO,.slice A.aE D.evs.length A.cE]
 | 1=>∃ jJ jR jI jT jO jE kJ kR kI kT kO kE gI gO m p q,x 33=.agg #[.slice jJ D.jobs.length kJ,.slice jR D.rel.length kR,.int .i64 D.nxt,.slice jI D.ins.length kI,.slice jT D.tak.length kT,.slice jO D.out.length kO,.slice jE D.evs.length kE]∧DomOwn n0 w ⟨jJ,jR,jI,jT,jO,jE,kJ,kR,kI,kT,kO,kE⟩ D gI gO m p q
 | 2=>x 34=.agg #[.int .i64 C.s,.int .i64 C.w,.int .i64 C.d,.int .i64 C.p,.int .i64 C.q,.slice B.a5 C.sl.length B.c5,.slice B.a6 C.ow.length B.c6,.slice B.a7 C.ch.length B.c7,.slice B.a8 C.ta.length B.c8]
 | 3=>x 35=.int .i64 dn
 | 4=>∃ jJ jR jI jT jO jE kJ kR kI kT kO kE gI gO m p q,x 36=.agg #[.slice jJ D.jobs.length kJ,.slice jR D.rel.length kR,.int .i64 D.nxt,.slice jI D.ins.length kI,.slice jT D.tak.length kT,.slice jO D.out.length kO,.slice jE D.evs.length kE,.int .i64 C.s,.int .i64 C.w,.int .i64 C.d,.int .i64 C.p,.int .i64 C.q,.slice B.a5 C.sl.length B.c5,.slice B.a6 C.ow.length B.c6,.slice B.a7 C.ch.length B.c7,.slice B.a8 C.ta.length B.c8,.int .i64 dn]∧DomOwn n0 w ⟨jJ,jR,jI,jT,jO,jE,kJ,kR,kI,kT,kO,kE⟩ D gI gO m p q
 | 5=>x 37=.agg #[.slice aK (List.length K) cK]
 | 6=>∃ g0,x 38=.agg #[.slice (some ⟨g0,0,none⟩) (List.length K) (List.length K)]∧n0≤g0∧OwnC w g0 K (List.length K)
 | 7=>x 39=.slice aL (List.length L) cL
 | 8=>x 40=.int .i64 fr
 | 9=>x 41=.int .i64 te
 | 10=>∃ jJ jR jI jT jO jE kJ kR kI kT kO kE gI gO m p q g0,x 42=.agg #[.slice jJ D.jobs.length kJ,.slice jR D.rel.length kR,.int .i64 D.nxt,.slice jI D.ins.length kI,.slice jT D.tak.length kT,.slice jO D.out.length kO,.slice jE D.evs.length kE,.int .i64 C.s,.int .i64 C.w,.int .i64 C.d,.int .i64 C.p,.int .i64 C.q,.slice B.a5 C.sl.length B.c5,.slice B.a6 C.ow.length B.c6,.slice B.a7 C.ch.length B.c7,.slice B.a8 C.ta.length B.c8,.int .i64 dn,.slice (some ⟨g0,0,none⟩) (List.length K) (List.length K),.slice aL (List.length L) cL,.int .i64 fr,.int .i64 te]∧DomOwn n0 w ⟨jJ,jR,jI,jT,jO,jE,kJ,kR,kI,kT,kO,kE⟩ D gI gO m p q∧n0≤g0∧OwnC w g0 K (List.length K)
 | 11=>∃ rb,x 18=.pointer (some ⟨rb,0,none⟩)∧n0≤rb∧RowAt w rb 152 [.slice none 0 0,.slice none 0 0,.int .i64 0,.slice none 0 0,.slice none 0 0,.slice none 0 0,.slice none 0 0,.int .i64 0,.int .i64 0,.int .i64 0,.int .i64 0,.int .i64 0,.slice none 0 0,.slice none 0 0,.slice none 0 0,.slice none 0 0,.int .i64 0,.slice none 0 0,.slice none 0 0,.int .i64 0,.int .i64 0]
 | _=>True
def AFR (C:Conf) (B:Mem) (dn:Int) (D:Dom) (A:DMem) (aK:Option Addr) (K:KT) (cK:Nat) (aL:Option Addr) (L:List ActT) (cL:Nat) (fr te:Int) (n:Nat) (x:Nat→Value):Act:={ tmps:=#[cv C B,.int .i64 dn,dv D A,.agg #[.slice aK (List.length K) cK],.slice aL (List.length L) cL,.int .i64 fr,.int .i64 te,.pointer (some ⟨n,0,none⟩),undef,.pointer (some ⟨n+1,0,none⟩),.pointer (some ⟨n+1+1,0,none⟩),undef,undef,undef,.pointer (some ⟨n+1+1+1,0,none⟩),.pointer (some ⟨n+1+1+1+1,0,none⟩),.int .i64 0,.int .i64 0,x 18,.agg #[.int .i64 C.s,.int .i64 C.w,.int .i64 C.d,.int .i64 C.p,.int .i64 C.q,.slice B.a5 C.sl.length B.c5,.slice B.a6 C.ow.length B.c6,.slice B.a7 C.ch.length B.c7,.slice B.a8 C.ta.length B.c8],.int .i64 dn,.agg #[.slice A.aJ D.jobs.length A.cJ,.slice A.aR D.rel.length A.cR,.int .i64 D.nxt,.slice A.aI D.ins.length A.cI,.slice A.aT D.tak.length A.cT,.slice A.aO D.out.length A.cO,.slice A.aE D.evs.length A.cE],.agg #[.slice aK (List.length K) cK],.slice aL (List.length L) cL,.int .i64 fr,.int .i64 te,.int .i64 0,.int .i64 0,.bool false,undef,undef,undef,x 32,x 33,x 34,x 35,x 36,x 37,x 38,x 39,x 40,x 41,x 42,undef,undef,undef,undef,undef,undef],defers:=[] }
def DNR (C:Conf) (B:Mem) (dn:Int) (D:Dom) (A:DMem) (aK:Option Addr) (K:KT) (cK:Nat) (aL:Option Addr) (L:List ActT) (cL:Nat) (fr te:Int) (n0:Nat) (x:Nat→Value) (w:World):Prop:=∃ jJ jR jI jT jO jE kJ kR kI kT kO kE gI gO m p q g0 rb,x 18=.pointer (some ⟨rb,0,none⟩)∧RowAt w rb 152 [.slice jJ D.jobs.length kJ,.slice jR D.rel.length kR,.int .i64 D.nxt,.slice jI D.ins.length kI,.slice jT D.tak.length kT,.slice jO D.out.length kO,.slice jE D.evs.length kE,.int .i64 C.s,.int .i64 C.w,.int .i64 C.d,.int .i64 C.p,.int .i64 C.q,.slice B.a5 C.sl.length B.c5,.slice B.a6 C.ow.length B.c6,.slice B.a7 C.ch.length B.c7,.slice B.a8 C.ta.length B.c8,.int .i64 dn,.slice (some ⟨g0,0,none⟩) (List.length K) (List.length K),.slice aL (List.length L) cL,.int .i64 fr,.int .i64 te]∧DomOwn n0 w ⟨jJ,jR,jI,jT,jO,jE,kJ,kR,kI,kT,kO,kE⟩ D gI gO m p q∧OwnC w g0 K (List.length K)∧n0≤g0∧n0≤rb
theorem fcr_keep {C:Conf} {B:Mem} {dn:Int} {D:Dom} {A:DMem} {aK:Option Addr} {K:KT} {cK:Nat} {aL:Option Addr} {L:List ActT} {cL:Nat} {fr te:Int} {n0:Nat} (i:Nat) (x x':Nat→Value) (w w':World) (hb:Below w.heap.size w w') (hx:∀ j∈dOR i,x' (dSR j)=x (dSR j)) (h:FCR C B dn D A aK K cK aL L cL fr te n0 i x w):FCR C B dn D A aK K cK aL L cL fr te n0 i x' w':=by
 match i with
 | 0=>exact (hx 0 (by simp [dOR])).trans h
 | 1=>
  have e:x' 33=x 33:=hx 1 (by simp [dOR])
  obtain ⟨jJ,jR,jI,jT,jO,jE,kJ,kR,kI,kT,kO,kE,gI,gO,m,p,q,h1,h2⟩:=h
  exact ⟨jJ,jR,jI,jT,jO,jE,kJ,kR,kI,kT,kO,kE,gI,gO,m,p,q,e.trans h1,h2.keep hb⟩
 | 2=>exact (hx 2 (by simp [dOR])).trans h
 | 3=>exact (hx 3 (by simp [dOR])).trans h
 | 4=>
  have e:x' 36=x 36:=hx 4 (by simp [dOR])
  obtain ⟨jJ,jR,jI,jT,jO,jE,kJ,kR,kI,kT,kO,kE,gI,gO,m,p,q,h1,h2⟩:=h
  exact ⟨jJ,jR,jI,jT,jO,jE,kJ,kR,kI,kT,kO,kE,gI,gO,m,p,q,e.trans h1,h2.keep hb⟩
 | 5=>exact (hx 5 (by simp [dOR])).trans h
 | 6=>
  have e:x' 38=x 38:=hx 6 (by simp [dOR])
  obtain ⟨g0,h1,h2,h3⟩:=h
  exact ⟨g0,e.trans h1,h2,h3.below hb⟩
 | 7=>exact (hx 7 (by simp [dOR])).trans h
 | 8=>exact (hx 8 (by simp [dOR])).trans h
 | 9=>exact (hx 9 (by simp [dOR])).trans h
 | 10=>
  have e:x' 42=x 42:=hx 10 (by simp [dOR])
  obtain ⟨jJ,jR,jI,jT,jO,jE,kJ,kR,kI,kT,kO,kE,gI,gO,m,p,q,g0,h1,h2,h3,h4⟩:=h
  exact ⟨jJ,jR,jI,jT,jO,jE,kJ,kR,kI,kT,kO,kE,gI,gO,m,p,q,g0,e.trans h1,h2.keep hb,h3,h4.below hb⟩
 | 11=>
  have e:x' 18=x 18:=hx 11 (by simp [dOR])
  obtain ⟨rb,h1,h2,h3⟩:=h
  exact ⟨rb,e.trans h1,h2,h3.below hb lr⟩
 | n+12=>trivial
theorem dSR_inj:∀ i,i<12→∀ j,j<12→i≠j→dSR i≠dSR j:=by decide
theorem dOR_lt:∀ i,i<12→∀ j∈dOR i,j<12:=by decide
theorem all_set12 {l:Array Bool} (hs:l.size=13) (h:∀ i,i<12→l.getD i false=true):∀ i,i<13→(l.setIfInBounds 12 true).getD i false=true:=by
 intro i hi
 by_cases e:i=12
 ·subst e;exact getD_set_self (by omega)
 ·exact getD_set_true (h i (by omega))
set_option maxHeartbeats 8000000 in
theorem runWin_ok (C:Conf) (B:Mem) (dn:Int) (D:Dom) (A:DMem) (K:KT) (aK:Option Addr) (cK:Nat) (L:List ActT) (aL:Option Addr) (cL:Nat) (fr te:Int) (w:World) (hC:ConfIn w B C) (hD:DomIn w A D) (hK:CacheIn w aK K) (hL:ChansIn w aL L) (h0:ckRun C dn D K L fr te=0) (hev:D.evs.length≤10000000000) :
  Calls Tryz.prog 46 #[cv C B,.int .i64 dn,dv D A,.agg #[.slice aK K.length cK],.slice aL L.length cL,.int .i64 fr,.int .i64 te] w fun e w'=>∃ A' aK' cK',e=.returned (.tuple #[dv (runD C dn L te (te - fr).toNat D K fr).1 A',.agg #[.slice aK' (List.length (runD C dn L te (te - fr).toNat D K fr).2) cK'],.int .i64 0])∧(∀ wx:World,(∀ x,w.heap.size≤x→wx.heap[x]? = w'.heap[x]?)→DomIn wx A' (runD C dn L te (te - fr).toNat D K fr).1∧CacheIn wx aK' (runD C dn L te (te - fr).toNat D K fr).2)∧Below w.heap.size w w'∧SI C dn D fr te 40 (runD C dn L te (te - fr).toNat D K fr).1 (runD C dn L te (te - fr).toNat D K fr).2 te∧EvO w.heap.size w' A' (runD C dn L te (te - fr).toNat D K fr).1 aK' (runD C dn L te (te - fr).toNat D K fr).2:=by
 obtain ⟨hz,hkz,⟨hL60,hAs⟩,hf0,hfe,hte⟩:=run_parts h0
 have HAs:=hid hAs
 have HSI:=hid (si_begin hz hkz hfe)
 have hsm:=dom_small hz
 obtain ⟨_,hK1,hK4,hKn⟩:=ckK_ok hkz
 have HKn:=hid hKn
 have q1:=below_new w (.cells (cl C B) 27)
 have q2:=below_new (w.alloc (.cells (cl C B) 27)) (.cells (dl D A) 46)
 have q3:=below_new ((w.alloc (.cells (cl C B) 27)).alloc (.cells (dl D A) 46)) (.cells #[.slice aK (List.length K) cK] 72)
 have q4:=below_new (((w.alloc (.cells (cl C B) 27)).alloc (.cells (dl D A) 46)).alloc (.cells #[.slice aK (List.length K) cK] 72)) (.cells #[.slice none 0 0,.slice none 0 0,.int .i64 0,.slice none 0 0,.slice none 0 0,.slice none 0 0,.slice none 0 0] 46)
 have q5:=below_new ((((w.alloc (.cells (cl C B) 27)).alloc (.cells (dl D A) 46)).alloc (.cells #[.slice aK (List.length K) cK] 72)).alloc (.cells #[.slice none 0 0,.slice none 0 0,.int .i64 0,.slice none 0 0,.slice none 0 0,.slice none 0 0,.slice none 0 0] 46)) (.cells #[.slice none 0 0] 72)
 have hb:=btrans (btrans (btrans (btrans q1 q2) q3) q4) q5
 have HB:=hid hb
 have HCW:=hid hC
 have HLW:=hid hL
 have HC:=hid (hC.keep hb)
 have HD:=hid (hD.keep hb)
 have HK:=hid (hK.keep hb)
 have HL:=hid (hL.keep hb)
 have R1:=hid (((((rowAt_new w _ (cl C B).toList 27 rfl).below q2 lr).below q3 lr).below q4 lr).below q5 lr)
 have R2:=hid ((((rowAt_new (w.alloc (.cells (cl C B) 27)) (w.heap.size+1) (dl D A).toList 46 (by simp)).below q3 lr).below q4 lr).below q5 lr)
 have R3:=hid (((rowAt_new ((w.alloc (.cells (cl C B) 27)).alloc (.cells (dl D A) 46)) (w.heap.size+1+1) [.slice aK (List.length K) cK] 72 (by simp)).below q4 lr).below q5 lr)
 have R4:=hid ((rowAt_new (((w.alloc (.cells (cl C B) 27)).alloc (.cells (dl D A) 46)).alloc (.cells #[.slice aK (List.length K) cK] 72)) (w.heap.size+1+1+1) [.slice none 0 0,.slice none 0 0,.int .i64 0,.slice none 0 0,.slice none 0 0,.slice none 0 0,.slice none 0 0] 46 (by simp)).below q5 lr)
 have R5:=hid (rowAt_new ((((w.alloc (.cells (cl C B) 27)).alloc (.cells (dl D A) 46)).alloc (.cells #[.slice aK (List.length K) cK] 72)).alloc (.cells #[.slice none 0 0,.slice none 0 0,.int .i64 0,.slice none 0 0,.slice none 0 0,.slice none 0 0,.slice none 0 0] 46)) (w.heap.size+1+1+1+1) [.slice none 0 0] 72 (by simp))
 clear q1 q2 q3 q4 q5 hb hC hD hK hL hKn hAs
 have H0:=hid h0
 have HRn:Hid ((te - fr).toNat=(te - fr).toNat):=hid rfl
 clear h0
 go_enter Tryz.func46,Tryz.ntmps46
 go_wp2_with fail
 refine (checkRun_any C B dn D A K aK cK L aL cL fr te _ HC.out HD.out HK.out (by omega) HL.out (by omega)).mono ?_
 rintro e w1 ⟨rfl,hb1⟩
 rw [H0.out]
 generalize hW:World.alloc (World.alloc (World.alloc (World.alloc (World.alloc w _) _) _) _) _=W at *
 clear hW
 have HB1:=hid (btrans HB.out hb1)
 have HD1:=hid (HD.out.keep hb1)
 have HK1:=hid (HK.out.keep hb1)
 have T1:=hid (R1.out.below hb1 lr)
 have T2:=hid (R2.out.below hb1 lr)
 have T3:=hid (R3.out.below hb1 lr)
 have T4:=hid (R4.out.below hb1 lr)
 have T5:=hid (R5.out.below hb1 lr)
 clear R1 R2 R3 R4 R5 HB HC HD HK HL hb1
 have hs1:w.heap.size+1+1+1+1<w1.heap.size:=T5.out.lt
 have HS:Hid (∀ w',Below w1.heap.size w1 w'→w'.cell? ⟨w.heap.size,0,none⟩=some (.int .i64 C.s)∧w'.cell? ⟨w.heap.size,1,none⟩=some (.int .i64 C.w)∧w'.cell? ⟨w.heap.size,2,none⟩=some (.int .i64 C.d)∧w'.cell? ⟨w.heap.size,3,none⟩=some (.int .i64 C.p)∧w'.cell? ⟨w.heap.size,4,none⟩=some (.int .i64 C.q)∧w'.cell? ⟨w.heap.size,5,none⟩=some (.slice B.a5 C.sl.length B.c5)∧w'.cell? ⟨w.heap.size,6,none⟩=some (.slice B.a6 C.ow.length B.c6)∧w'.cell? ⟨w.heap.size,7,none⟩=some (.slice B.a7 C.ch.length B.c7)∧w'.cell? ⟨w.heap.size,8,none⟩=some (.slice B.a8 C.ta.length B.c8)∧w'.cell? ⟨w.heap.size+1,0,none⟩=some (.slice A.aJ D.jobs.length A.cJ)∧w'.cell? ⟨w.heap.size+1,1,none⟩=some (.slice A.aR D.rel.length A.cR)∧w'.cell? ⟨w.heap.size+1,2,none⟩=some (.int .i64 D.nxt)∧w'.cell? ⟨w.heap.size+1,3,none⟩=some (.slice A.aI D.ins.length A.cI)∧w'.cell? ⟨w.heap.size+1,4,none⟩=some (.slice A.aT D.tak.length A.cT)∧w'.cell? ⟨w.heap.size+1,5,none⟩=some (.slice A.aO D.out.length A.cO)∧w'.cell? ⟨w.heap.size+1,6,none⟩=some (.slice A.aE D.evs.length A.cE)∧w'.cell? ⟨w.heap.size+1+1,0,none⟩=some (.slice aK (List.length K) cK)):=hid fun w' hb=>⟨bkeep hb (T1.out.cell 0 _ rfl) lr,bkeep hb (T1.out.cell 1 _ rfl) lr,bkeep hb (T1.out.cell 2 _ rfl) lr,bkeep hb (T1.out.cell 3 _ rfl) lr,bkeep hb (T1.out.cell 4 _ rfl) lr,bkeep hb (T1.out.cell 5 _ rfl) lr,bkeep hb (T1.out.cell 6 _ rfl) lr,bkeep hb (T1.out.cell 7 _ rfl) lr,bkeep hb (T1.out.cell 8 _ rfl) lr,bkeep hb (T2.out.cell 0 _ rfl) lr,bkeep hb (T2.out.cell 1 _ rfl) lr,bkeep hb (T2.out.cell 2 _ rfl) lr,bkeep hb (T2.out.cell 3 _ rfl) lr,bkeep hb (T2.out.cell 4 _ rfl) lr,bkeep hb (T2.out.cell 5 _ rfl) lr,bkeep hb (T2.out.cell 6 _ rfl) lr,bkeep hb (T3.out.cell 0 _ rfl) lr⟩
 have hbz:Below w1.heap.size w1 w1.drew:=(Below.refl _ _).drew
 have hbz2:Below w1.heap.size w1 (w1.alloc (.cells #[.slice none 0 0,.slice none 0 0,.int .i64 0,.slice none 0 0,.slice none 0 0,.slice none 0 0,.slice none 0 0,.int .i64 0,.int .i64 0,.int .i64 0,.int .i64 0,.int .i64 0,.slice none 0 0,.slice none 0 0,.slice none 0 0,.slice none 0 0,.int .i64 0,.slice none 0 0,.slice none 0 0,.int .i64 0,.int .i64 0] 152)).drew:=(below_new _ _).drew
 have RZ:Hid (RowAt (w1.alloc (.cells #[.slice none 0 0,.slice none 0 0,.int .i64 0,.slice none 0 0,.slice none 0 0,.slice none 0 0,.slice none 0 0,.int .i64 0,.int .i64 0,.int .i64 0,.int .i64 0,.int .i64 0,.slice none 0 0,.slice none 0 0,.slice none 0 0,.slice none 0 0,.int .i64 0,.slice none 0 0,.slice none 0 0,.int .i64 0,.int .i64 0] 152)).drew w1.heap.size 152 [.slice none 0 0,.slice none 0 0,.int .i64 0,.slice none 0 0,.slice none 0 0,.slice none 0 0,.slice none 0 0,.int .i64 0,.int .i64 0,.int .i64 0,.int .i64 0,.int .i64 0,.slice none 0 0,.slice none 0 0,.slice none 0 0,.slice none 0 0,.int .i64 0,.slice none 0 0,.slice none 0 0,.int .i64 0,.int .i64 0]):=hid (rowAt_new2 w1 _ [.slice none 0 0,.slice none 0 0,.int .i64 0,.slice none 0 0,.slice none 0 0,.slice none 0 0,.slice none 0 0,.int .i64 0,.int .i64 0,.int .i64 0,.int .i64 0,.int .i64 0,.slice none 0 0,.slice none 0 0,.slice none 0 0,.slice none 0 0,.int .i64 0,.slice none 0 0,.slice none 0 0,.int .i64 0,.int .i64 0] 152 rfl)
 have CX:=hid (fun wx (hb:Below w1.heap.size w1 wx)=>cloneD_any D A wx (HD1.out.keep hb) ⟨by omega,by omega,by omega,by omega⟩ (by omega) (by omega) (fun r hr=>by have:=hsm.2.2.2.1 r hr;omega) (fun r hr=>by have:=hsm.2.2.2.2 r hr;omega))
 have CY:=hid (fun wx (hb:Below w1.heap.size w1 wx)=>clone_any aK K cK wx (HK1.out.keep hb) (by omega) (by omega) HKn.out)
 dsimp only [dv,dl] at CX
 go_upto_region 4 with fail
 go_cut [18] (fun t wx=>∃ rb jJ jR jI jT jO jE kJ kR kI kT kO kE gI gO m p q g0,t=.pointer (some ⟨rb,0,none⟩)∧Below w1.heap.size w1 wx∧RowAt wx rb 152 [.slice jJ D.jobs.length kJ,.slice jR D.rel.length kR,.int .i64 D.nxt,.slice jI D.ins.length kI,.slice jT D.tak.length kT,.slice jO D.out.length kO,.slice jE D.evs.length kE,.int .i64 C.s,.int .i64 C.w,.int .i64 C.d,.int .i64 C.p,.int .i64 C.q,.slice B.a5 C.sl.length B.c5,.slice B.a6 C.ow.length B.c6,.slice B.a7 C.ch.length B.c7,.slice B.a8 C.ta.length B.c8,.int .i64 dn,.slice (some ⟨g0,0,none⟩) (List.length K) (List.length K),.slice aL (List.length L) cL,.int .i64 fr,.int .i64 te]∧DomOwn w1.heap.size wx ⟨jJ,jR,jI,jT,jO,jE,kJ,kR,kI,kT,kO,kE⟩ D gI gO m p q∧OwnC wx g0 K (List.length K)∧w1.heap.size≤g0∧w1.heap.size≤rb)
 case first=>
  refine wp_region_any (by kernel_rfl) ?_
  change wpAny _ _ _ _ _ _ _ (World.drew _)
  refine wpAny_inv (fun l a w'=>∃ x,a=AFR C B dn D A aK K cK aL L cL fr te w.heap.size x∧(RPg (FCR C B dn D A aK K cK aL L cL fr te w1.drew.heap.size) dOR 12 13 w1.drew l x w'∨((∀ i,i<13→l.getD i false=true)∧l.size=13∧Below w1.drew.heap.size w1.drew w'∧DNR C B dn D A aK K cK aL L cL fr te w1.drew.heap.size x w'))) (by kernel_rfl) ?step ?fin _ _ _ _ rfl (by decide) ?start
  case start=>exact ⟨fun _=>undef,rfl,.inl ⟨rfl,Below.refl _ _,fun i hi=>by simp [Array.getD_eq_getD_getElem?,Array.getElem?_replicate];split <;> simp,fun i h=>absurd h (by simp [Array.getD_eq_getD_getElem?,Array.getElem?_replicate];split <;> simp),fun i h=>absurd h (by simp [Array.getD_eq_getD_getElem?,Array.getElem?_replicate];split <;> simp)⟩⟩
  case step=>
   intro l a w2 i o h ho hl hdep K' hK
   have hi:i<13:=by
    have:=(Array.getElem?_eq_some_iff.1 ho).1
    simpa using this
   obtain ⟨x,rfl,h⟩:=h
   have hcs:i=0∨i=1∨i=2∨i=3∨i=4∨i=5∨i=6∨i=7∨i=8∨i=9∨i=10∨i=11∨i=12:=by omega
   rcases hcs with rfl|rfl|rfl|rfl|rfl|rfl|rfl|rfl|rfl|rfl|rfl|rfl|rfl
   ·simp only [List.getElem?_toArray,List.getElem?_cons_zero,Option.some.injEq] at ho
    subst ho
    rcases h with h|⟨hall,-,-⟩
    case inr=>rw [hall 0 (by decide)] at hl;cases hl
    clear hdep
    have HT:=T2.out.below (btrans (Below.refl _ _).drew h.b) lr
    simp only [AFR]
    refine step_wanted (by rfl) ?_
    refine wp_load_mid 46 _ rfl (w.heap.size+1) 0 (by rfl) [.slice A.aJ D.jobs.length A.cJ,.slice A.aR D.rel.length A.cR,.int .i64 D.nxt,.slice A.aI D.ins.length A.cI,.slice A.aT D.tak.length A.cT,.slice A.aO D.out.length A.cO,.slice A.aE D.evs.length A.cE] _ (fun j u hu=>by rw [Nat.zero_add];exact HT.cell j u hu) Tryz.underlying46 rfl (by kernel_rfl) ?_
    exact hK.out _ _ ⟨upd x 32 (.agg #[.slice A.aJ D.jobs.length A.cJ,.slice A.aR D.rel.length A.cR,.int .i64 D.nxt,.slice A.aI D.ins.length A.cI,.slice A.aT D.tak.length A.cT,.slice A.aO D.out.length A.cO,.slice A.aE D.evs.length A.cE]),rfl,.inl (rpg_next fcr_keep dSR_inj dOR_lt h 0 _ (by decide) hl (Below.refl _ _) rfl (fun j hj hne=>absurd hj (by simp [dOR,hne])))⟩
   ·simp only [List.getElem?_toArray,List.getElem?_cons_zero,List.getElem?_cons_succ,Option.some.injEq] at ho
    subst ho
    rcases h with h|⟨hall,-,-⟩
    case inr=>rw [hall 1 (by decide)] at hl;cases hl
    have hd0:=dep_of hdep 0 (by kernel_rfl)
    have f0:x 32=.agg #[.slice A.aJ D.jobs.length A.cJ,.slice A.aR D.rel.length A.cR,.int .i64 D.nxt,.slice A.aI D.ins.length A.cI,.slice A.aT D.tak.length A.cT,.slice A.aO D.out.length A.cO,.slice A.aE D.evs.length A.cE]:=h.fc 0 hd0
    clear hdep
    have hsz:=h.b.size
    simp only [AFR,f0]
    go_simp
    refine Calls.mono (CX.out _ (btrans (Below.refl _ _).drew h.b)) ?_
    rintro e w2 ⟨⟨jJ,jR,jI,jT,jO,jE,kJ,kR,kI,kT,kO,kE⟩,gI,gO,m,p,q,rfl,ho2,hb2⟩
    exact hK.out _ _ ⟨upd x 33 (.agg #[.slice jJ D.jobs.length kJ,.slice jR D.rel.length kR,.int .i64 D.nxt,.slice jI D.ins.length kI,.slice jT D.tak.length kT,.slice jO D.out.length kO,.slice jE D.evs.length kE]),(by simp only [AFR,upd,reduceIte,Nat.reduceEqDiff,f0]),.inl (rpg_next fcr_keep dSR_inj dOR_lt h 1 _ (by decide) hl hb2 ⟨jJ,jR,jI,jT,jO,jE,kJ,kR,kI,kT,kO,kE,gI,gO,m,p,q,rfl,ho2.base hsz⟩ (fun j hj hne=>absurd hj (by simp [dOR,hne])))⟩
   ·simp only [List.getElem?_toArray,List.getElem?_cons_zero,List.getElem?_cons_succ,Option.some.injEq] at ho
    subst ho
    rcases h with h|⟨hall,-,-⟩
    case inr=>rw [hall 2 (by decide)] at hl;cases hl
    clear hdep
    have HT:=T1.out.below (btrans (Below.refl _ _).drew h.b) lr
    simp only [AFR]
    refine step_wanted (by rfl) ?_
    refine wp_load_mid 27 _ rfl (w.heap.size) 0 (by rfl) [.int .i64 C.s,.int .i64 C.w,.int .i64 C.d,.int .i64 C.p,.int .i64 C.q,.slice B.a5 C.sl.length B.c5,.slice B.a6 C.ow.length B.c6,.slice B.a7 C.ch.length B.c7,.slice B.a8 C.ta.length B.c8] _ (fun j u hu=>by rw [Nat.zero_add];exact HT.cell j u hu) Tryz.underlying27 rfl (by kernel_rfl) ?_
    exact hK.out _ _ ⟨upd x 34 (.agg #[.int .i64 C.s,.int .i64 C.w,.int .i64 C.d,.int .i64 C.p,.int .i64 C.q,.slice B.a5 C.sl.length B.c5,.slice B.a6 C.ow.length B.c6,.slice B.a7 C.ch.length B.c7,.slice B.a8 C.ta.length B.c8]),rfl,.inl (rpg_next fcr_keep dSR_inj dOR_lt h 2 _ (by decide) hl (Below.refl _ _) rfl (fun j hj hne=>absurd hj (by simp [dOR,hne])))⟩
   ·simp only [List.getElem?_toArray,List.getElem?_cons_zero,List.getElem?_cons_succ,Option.some.injEq] at ho
    subst ho
    rcases h with h|⟨hall,-,-⟩
    case inr=>rw [hall 3 (by decide)] at hl;cases hl
    clear hdep
    simp only [AFR]
    go_simp
    exact hK.out _ _ ⟨upd x 35 (.int .i64 dn),rfl,.inl (rpg_next fcr_keep dSR_inj dOR_lt h 3 _ (by decide) hl (Below.refl _ _) rfl (fun j hj hne=>absurd hj (by simp [dOR,hne])))⟩
   ·simp only [List.getElem?_toArray,List.getElem?_cons_zero,List.getElem?_cons_succ,Option.some.injEq] at ho
    subst ho
    rcases h with h|⟨hall,-,-⟩
    case inr=>rw [hall 4 (by decide)] at hl;cases hl
    have hd1:=dep_of hdep 1 (by kernel_rfl)
    have hd2:=dep_of hdep 2 (by kernel_rfl)
    have hd3:=dep_of hdep 3 (by kernel_rfl)
    obtain ⟨jJ,jR,jI,jT,jO,jE,kJ,kR,kI,kT,kO,kE,gI,gO,m,p,q,f1,ho1⟩:=h.fc 1 hd1
    have f2:x 34=.agg #[.int .i64 C.s,.int .i64 C.w,.int .i64 C.d,.int .i64 C.p,.int .i64 C.q,.slice B.a5 C.sl.length B.c5,.slice B.a6 C.ow.length B.c6,.slice B.a7 C.ch.length B.c7,.slice B.a8 C.ta.length B.c8]:=h.fc 2 hd2
    have f3:x 35=.int .i64 dn:=h.fc 3 hd3
    clear hdep
    simp only [AFR,f1,f2,f3]
    refine step_wanted (by rfl) ?_
    refine step_run (v:=.agg #[.slice jJ D.jobs.length kJ,.slice jR D.rel.length kR,.int .i64 D.nxt,.slice jI D.ins.length kI,.slice jT D.tak.length kT,.slice jO D.out.length kO,.slice jE D.evs.length kE,.int .i64 C.s,.int .i64 C.w,.int .i64 C.d,.int .i64 C.p,.int .i64 C.q,.slice B.a5 C.sl.length B.c5,.slice B.a6 C.ow.length B.c6,.slice B.a7 C.ch.length B.c7,.slice B.a8 C.ta.length B.c8,.int .i64 dn]) (by kernel_rfl) ?_
    refine hK.out _ _ ⟨upd x 36 (.agg #[.slice jJ D.jobs.length kJ,.slice jR D.rel.length kR,.int .i64 D.nxt,.slice jI D.ins.length kI,.slice jT D.tak.length kT,.slice jO D.out.length kO,.slice jE D.evs.length kE,.int .i64 C.s,.int .i64 C.w,.int .i64 C.d,.int .i64 C.p,.int .i64 C.q,.slice B.a5 C.sl.length B.c5,.slice B.a6 C.ow.length B.c6,.slice B.a7 C.ch.length B.c7,.slice B.a8 C.ta.length B.c8,.int .i64 dn]),?_,.inl (rpg_next fcr_keep dSR_inj dOR_lt h 4 _ (by decide) hl (Below.refl _ _) ⟨jJ,jR,jI,jT,jO,jE,kJ,kR,kI,kT,kO,kE,gI,gO,m,p,q,rfl,ho1⟩ (fun j hj hne=>absurd hj (by simp [dOR,hne])))⟩
    simp only [Act.put,List.setIfInBounds_toArray,List.set_cons_zero,List.set_cons_succ,AFR,upd,f1,f2,f3,reduceIte,Nat.reduceEqDiff]
   ·simp only [List.getElem?_toArray,List.getElem?_cons_zero,List.getElem?_cons_succ,Option.some.injEq] at ho
    subst ho
    rcases h with h|⟨hall,-,-⟩
    case inr=>rw [hall 5 (by decide)] at hl;cases hl
    clear hdep
    have HT:=T3.out.below (btrans (Below.refl _ _).drew h.b) lr
    simp only [AFR]
    refine step_wanted (by rfl) ?_
    refine wp_load_mid 72 _ rfl (w.heap.size+1+1) 0 (by rfl) [.slice aK (List.length K) cK] _ (fun j u hu=>by rw [Nat.zero_add];exact HT.cell j u hu) Tryz.underlying72 rfl (by kernel_rfl) ?_
    exact hK.out _ _ ⟨upd x 37 (.agg #[.slice aK (List.length K) cK]),rfl,.inl (rpg_next fcr_keep dSR_inj dOR_lt h 5 _ (by decide) hl (Below.refl _ _) rfl (fun j hj hne=>absurd hj (by simp [dOR,hne])))⟩
   ·simp only [List.getElem?_toArray,List.getElem?_cons_zero,List.getElem?_cons_succ,Option.some.injEq] at ho
    subst ho
    rcases h with h|⟨hall,-,-⟩
    case inr=>rw [hall 6 (by decide)] at hl;cases hl
    have hd5:=dep_of hdep 5 (by kernel_rfl)
    have f5:x 37=.agg #[.slice aK (List.length K) cK]:=h.fc 5 hd5
    clear hdep
    have hsz:=h.b.size
    simp only [AFR,f5]
    go_simp
    refine Calls.mono (CY.out _ (btrans (Below.refl _ _).drew h.b)) ?_
    rintro e w2 ⟨g0,rfl,hg2,ho2,hb2⟩
    exact hK.out _ _ ⟨upd x 38 (.agg #[.slice (some ⟨g0,0,none⟩) (List.length K) (List.length K)]),(by simp only [AFR,upd,reduceIte,Nat.reduceEqDiff,f5]),.inl (rpg_next fcr_keep dSR_inj dOR_lt h 6 _ (by decide) hl hb2 ⟨g0,rfl,Nat.le_trans hsz hg2,ho2⟩ (fun j hj hne=>absurd hj (by simp [dOR,hne])))⟩
   ·simp only [List.getElem?_toArray,List.getElem?_cons_zero,List.getElem?_cons_succ,Option.some.injEq] at ho
    subst ho
    rcases h with h|⟨hall,-,-⟩
    case inr=>rw [hall 7 (by decide)] at hl;cases hl
    clear hdep
    simp only [AFR]
    go_simp
    exact hK.out _ _ ⟨upd x 39 (.slice aL (List.length L) cL),rfl,.inl (rpg_next fcr_keep dSR_inj dOR_lt h 7 _ (by decide) hl (Below.refl _ _) rfl (fun j hj hne=>absurd hj (by simp [dOR,hne])))⟩
   ·simp only [List.getElem?_toArray,List.getElem?_cons_zero,List.getElem?_cons_succ,Option.some.injEq] at ho
    subst ho
    rcases h with h|⟨hall,-,-⟩
    case inr=>rw [hall 8 (by decide)] at hl;cases hl
    clear hdep
    simp only [AFR]
    go_simp
    exact hK.out _ _ ⟨upd x 40 (.int .i64 fr),rfl,.inl (rpg_next fcr_keep dSR_inj dOR_lt h 8 _ (by decide) hl (Below.refl _ _) rfl (fun j hj hne=>absurd hj (by simp [dOR,hne])))⟩
   ·simp only [List.getElem?_toArray,List.getElem?_cons_zero,List.getElem?_cons_succ,Option.some.injEq] at ho
    subst ho
    rcases h with h|⟨hall,-,-⟩
    case inr=>rw [hall 9 (by decide)] at hl;cases hl
    clear hdep
    simp only [AFR]
    go_simp
    exact hK.out _ _ ⟨upd x 41 (.int .i64 te),rfl,.inl (rpg_next fcr_keep dSR_inj dOR_lt h 9 _ (by decide) hl (Below.refl _ _) rfl (fun j hj hne=>absurd hj (by simp [dOR,hne])))⟩
   ·simp only [List.getElem?_toArray,List.getElem?_cons_zero,List.getElem?_cons_succ,Option.some.injEq] at ho
    subst ho
    rcases h with h|⟨hall,-,-⟩
    case inr=>rw [hall 10 (by decide)] at hl;cases hl
    have hd4:=dep_of hdep 4 (by kernel_rfl)
    have hd6:=dep_of hdep 6 (by kernel_rfl)
    have hd7:=dep_of hdep 7 (by kernel_rfl)
    have hd8:=dep_of hdep 8 (by kernel_rfl)
    have hd9:=dep_of hdep 9 (by kernel_rfl)
    obtain ⟨jJ,jR,jI,jT,jO,jE,kJ,kR,kI,kT,kO,kE,gI,gO,m,p,q,f4,ho4⟩:=h.fc 4 hd4
    obtain ⟨g0,f6,hg6,ho6⟩:=h.fc 6 hd6
    have f7:x 39=.slice aL (List.length L) cL:=h.fc 7 hd7
    have f8:x 40=.int .i64 fr:=h.fc 8 hd8
    have f9:x 41=.int .i64 te:=h.fc 9 hd9
    clear hdep
    simp only [AFR,f4,f6,f7,f8,f9]
    refine step_wanted (by rfl) ?_
    refine step_run (v:=.agg #[.slice jJ D.jobs.length kJ,.slice jR D.rel.length kR,.int .i64 D.nxt,.slice jI D.ins.length kI,.slice jT D.tak.length kT,.slice jO D.out.length kO,.slice jE D.evs.length kE,.int .i64 C.s,.int .i64 C.w,.int .i64 C.d,.int .i64 C.p,.int .i64 C.q,.slice B.a5 C.sl.length B.c5,.slice B.a6 C.ow.length B.c6,.slice B.a7 C.ch.length B.c7,.slice B.a8 C.ta.length B.c8,.int .i64 dn,.slice (some ⟨g0,0,none⟩) (List.length K) (List.length K),.slice aL (List.length L) cL,.int .i64 fr,.int .i64 te]) (by kernel_rfl) ?_
    refine hK.out _ _ ⟨upd x 42 (.agg #[.slice jJ D.jobs.length kJ,.slice jR D.rel.length kR,.int .i64 D.nxt,.slice jI D.ins.length kI,.slice jT D.tak.length kT,.slice jO D.out.length kO,.slice jE D.evs.length kE,.int .i64 C.s,.int .i64 C.w,.int .i64 C.d,.int .i64 C.p,.int .i64 C.q,.slice B.a5 C.sl.length B.c5,.slice B.a6 C.ow.length B.c6,.slice B.a7 C.ch.length B.c7,.slice B.a8 C.ta.length B.c8,.int .i64 dn,.slice (some ⟨g0,0,none⟩) (List.length K) (List.length K),.slice aL (List.length L) cL,.int .i64 fr,.int .i64 te]),?_,.inl (rpg_next fcr_keep dSR_inj dOR_lt h 10 _ (by decide) hl (Below.refl _ _) ⟨jJ,jR,jI,jT,jO,jE,kJ,kR,kI,kT,kO,kE,gI,gO,m,p,q,g0,rfl,ho4,hg6,ho6⟩ (fun j hj hne=>absurd hj (by simp [dOR,hne])))⟩
    simp only [Act.put,List.setIfInBounds_toArray,List.set_cons_zero,List.set_cons_succ,AFR,upd,f4,f6,f7,f8,f9,reduceIte,Nat.reduceEqDiff]
   ·simp only [List.getElem?_toArray,List.getElem?_cons_zero,List.getElem?_cons_succ,Option.some.injEq] at ho
    subst ho
    rcases h with h|⟨hall,-,-⟩
    case inr=>rw [hall 11 (by decide)] at hl;cases hl
    clear hdep
    have hsz:=h.b.size
    simp only [AFR]
    go_simp
    exact hK.out _ _ ⟨upd x 18 (.pointer (some ⟨w2.heap.size,0,none⟩)),rfl,.inl (rpg_next fcr_keep dSR_inj dOR_lt h 11 _ (by decide) hl (below_new _ _) ⟨w2.heap.size,rfl,hsz,rowAt_new w2 _ [.slice none 0 0,.slice none 0 0,.int .i64 0,.slice none 0 0,.slice none 0 0,.slice none 0 0,.slice none 0 0,.int .i64 0,.int .i64 0,.int .i64 0,.int .i64 0,.int .i64 0,.slice none 0 0,.slice none 0 0,.slice none 0 0,.slice none 0 0,.int .i64 0,.slice none 0 0,.slice none 0 0,.int .i64 0,.int .i64 0] 152 rfl⟩ (fun j hj hne=>absurd hj (by simp [dOR,hne])))⟩
   ·simp only [List.getElem?_toArray,List.getElem?_cons_zero,List.getElem?_cons_succ,Option.some.injEq] at ho
    subst ho
    rcases h with h|⟨hall,-,-⟩
    case inr=>rw [hall 12 (by decide)] at hl;cases hl
    have hd10:=dep_of hdep 10 (by kernel_rfl)
    have hd11:=dep_of hdep 11 (by kernel_rfl)
    obtain ⟨jJ,jR,jI,jT,jO,jE,kJ,kR,kI,kT,kO,kE,gI,gO,m,p,q,g0,f10,ho,hg,hc⟩:=h.fc 10 hd10
    obtain ⟨rb,f11,hrb,hrw⟩:=h.fc 11 hd11
    have HALL:Hid (∀ j,j<13→(l.setIfInBounds 12 true).getD j false=true):=hid (all_set12 h.sz (all_dep 12 hdep (by kernel_rfl)))
    have HH:=hid h
    have F10:=hid f10
    have F11:=hid f11
    simp only [AFR,f10,f11]
    refine step_wanted (by rfl) ?_
    refine wp_store_mid 152 _ _ rfl rb 0 #[.slice jJ D.jobs.length kJ,.slice jR D.rel.length kR,.int .i64 D.nxt,.slice jI D.ins.length kI,.slice jT D.tak.length kT,.slice jO D.out.length kO,.slice jE D.evs.length kE,.int .i64 C.s,.int .i64 C.w,.int .i64 C.d,.int .i64 C.p,.int .i64 C.q,.slice B.a5 C.sl.length B.c5,.slice B.a6 C.ow.length B.c6,.slice B.a7 C.ch.length B.c7,.slice B.a8 C.ta.length B.c8,.int .i64 dn,.slice (some ⟨g0,0,none⟩) (List.length K) (List.length K),.slice aL (List.length L) cL,.int .i64 fr,.int .i64 te] (by rfl) (by rfl) (show w2.there rb 0 21 from there_row hrw) (by kernel_rfl) (by kernel_rfl) ?_
    have hn:=fun k (hk:k≠rb)=>heap_setCells_ne rb [.slice jJ D.jobs.length kJ,.slice jR D.rel.length kR,.int .i64 D.nxt,.slice jI D.ins.length kI,.slice jT D.tak.length kT,.slice jO D.out.length kO,.slice jE D.evs.length kE,.int .i64 C.s,.int .i64 C.w,.int .i64 C.d,.int .i64 C.p,.int .i64 C.q,.slice B.a5 C.sl.length B.c5,.slice B.a6 C.ow.length B.c6,.slice B.a7 C.ch.length B.c7,.slice B.a8 C.ta.length B.c8,.int .i64 dn,.slice (some ⟨g0,0,none⟩) (List.length K) (List.length K),.slice aL (List.length L) cL,.int .i64 fr,.int .i64 te] 0 w2 k hk
    refine hK.out _ _ ⟨x,?_,.inr ⟨HALL.out,by rw [Array.size_setIfInBounds];exact HH.out.sz,below_setCellsx HH.out.b _ hrb _ _,jJ,jR,jI,jT,jO,jE,kJ,kR,kI,kT,kO,kE,gI,gO,m,p,q,g0,rb,F11.out,row_setCells _ [] _ w2 hrw rfl,domOwn_agree2 ho hrw (by decide) (below_setCellsx (Below.refl w2.heap.size w2 |>.mono (Nat.zero_le _)) rb (Nat.zero_le _) _ _).size (fun k hk=>hn k hk),ownC_agree2 hc hrw (fun k hk=>hn k hk),hg,hrb⟩⟩
    simp only [Act.put,AFR,F10.out,F11.out]
  case fin=>
   rintro l a w2 ⟨x,rfl,h|⟨_,_,hb,h⟩⟩ hall
   ·have:=hall 12 (by decide)
    rw [h.un 12 (by decide)] at this
    cases this
   obtain ⟨jJ,jR,jI,jT,jO,jE,kJ,kR,kI,kT,kO,kE,gI,gO,m,p,q,g0,rb,e18,hr,ho,hc,hg,hrb⟩:=h
   have HHR:=hid hr
   have HHO:=hid ho
   have HHC:=hid hc
   have HHB:Hid (Below w1.heap.size w1 w2):=hid (btrans (Below.refl _ _).drew hb)
   have hg':w1.heap.size≤g0:=hg
   have hrb':w1.heap.size≤rb:=hrb
   simp only [AFR,e18]
   clear hr ho hc hb
   go_wp2
   go_meet
   case rel=>exact ⟨rb,jJ,jR,jI,jT,jO,jE,kJ,kR,kI,kT,kO,kE,gI,gO,m,p,q,g0,rfl,HHB.out,HHR.out,HHO.out,HHC.out,hg',hrb'⟩
 case rest=>
  obtain ⟨rb,jJ,jR,jI,jT,jO,jE,kJ,kR,kI,kT,kO,kE,gI,gO,m,p,q,g0,rfl,hbx,hRx,hOx,hCx,hge,hrbg⟩:=hcut
  have hw1:w.heap.size≤w1.heap.size:=HB1.out.size
  have U4:=hid (T4.out.below hbx lr)
  have U5:=hid (T5.out.below hbx lr)
  obtain ⟨M,hRO⟩:=RO.start (X:=⟨w,rb,C,B,dn,L,aL,cL,te,[(w.heap.size+1+1+1,.cells #[.slice none 0 0,.slice none 0 0,.int .i64 0,.slice none 0 0,.slice none 0 0,.slice none 0 0,.slice none 0 0] 46),(w.heap.size+1+1+1+1,.cells #[.slice none 0 0] 72)]⟩) (w:=wc) (fr0:=fr) (hOx.base hw1) hRx (by show w.heap.size≤rb;omega) hCx (fun ls hm=>(HKn.out ls hm).2) (by show w.heap.size≤g0;omega) (btrans HB1.out hbx) (fun pr hp=>by
   simp only [List.mem_cons,List.not_mem_nil,or_false] at hp
   rcases hp with rfl|rfl
   ·exact ⟨U4.out,.inr (.inl (tyAt_row U4.out))⟩
   ·exact ⟨U5.out,.inr (.inr (tyAt_row U5.out))⟩) HCW.out HLW.out (by show List.length L≤1000;omega) (by omega) (by omega)
  have CR:=hid (runW_ok _ M D D K fr wc hRO HSI.out HAs.out hL60 hf0 hte hev)
  clear hRO hRx hOx hCx HS CX CY RZ hbz hbz2 T1 T2 T3 T4 T5 U4 U5
  dsimp only at CR
  generalize hR:runD C dn L te (te - fr).toNat D K fr=R at *
  have HR:=hid hR
  clear hR
  obtain ⟨RD,RK⟩:=R
  dsimp only at CR
  go_wp2_with fail
  refine Calls.mono CR.out ?_
  rintro e w5 ⟨rfl,M5,h5,hS5⟩
  have F4:=hid (show RowAt w5 (w.heap.size+1+1+1) 46 [.slice none 0 0,.slice none 0 0,.int .i64 0,.slice none 0 0,.slice none 0 0,.slice none 0 0,.slice none 0 0] from h5.px.frame (w.heap.size+1+1+1,.cells #[.slice none 0 0,.slice none 0 0,.int .i64 0,.slice none 0 0,.slice none 0 0,.slice none 0 0,.slice none 0 0] 46) (by simp))
  have F5:=hid (show RowAt w5 (w.heap.size+1+1+1+1) 72 [.slice none 0 0] from h5.px.frame (w.heap.size+1+1+1+1,.cells #[.slice none 0 0] 72) (by simp))
  have H5:=hid h5
  have HS5:=hid hS5
  have x0:=h5.row.cell 0 _ rfl
  have x1:=h5.row.cell 1 _ rfl
  have x2:=h5.row.cell 2 _ rfl
  have x3:=h5.row.cell 3 _ rfl
  have x4:=h5.row.cell 4 _ rfl
  have x5:=h5.row.cell 5 _ rfl
  have x6:=h5.row.cell 6 _ rfl
  have x17:=h5.row.cell 17 _ rfl
  have y0:=F4.out.cell 0 _ rfl
  have y1:=F4.out.cell 1 _ rfl
  have y2:=F4.out.cell 2 _ rfl
  have y3:=F4.out.cell 3 _ rfl
  have y4:=F4.out.cell 4 _ rfl
  have y5:=F4.out.cell 5 _ rfl
  have y6:=F4.out.cell 6 _ rfl
  have z0:=F5.out.cell 0 _ rfl
  have f0:=F4.out.frozen 0
  have f1:=F4.out.frozen 1
  have f2:=F4.out.frozen 2
  have f3:=F4.out.frozen 3
  have f4:=F4.out.frozen 4
  have f5:=F4.out.frozen 5
  have f6:=F4.out.frozen 6
  have k0:=F5.out.frozen 0
  have n1:¬ w.heap.size+1+1+1=rb:=by omega
  have n2:¬ w.heap.size+1+1+1+1=rb:=by omega
  have n3:¬ rb=w.heap.size+1+1+1:=by omega
  have n4:¬ rb=w.heap.size+1+1+1+1:=by omega
  have n5:¬ w.heap.size+1+1+1=w.heap.size+1+1+1+1:=by omega
  have n6:¬ w.heap.size+1+1+1+1=w.heap.size+1+1+1:=by omega
  clear h5 hS5 CR
  dsimp only at x0 x1 x2 x3 x4 x5 x6 x17
  go_wp2_with fail
  go_region
  all_goals
   have NE:Hid (∀ x,x≠w.heap.size+1+1+1→(((((((w5.setCell ⟨w.heap.size+1+1+1,0,none⟩ (.slice M5.A.aJ RD.jobs.length M5.A.cJ)).setCell ⟨w.heap.size+1+1+1,1,none⟩ (.slice M5.A.aR RD.rel.length M5.A.cR)).setCell ⟨w.heap.size+1+1+1,2,none⟩ (.int .i64 RD.nxt)).setCell ⟨w.heap.size+1+1+1,3,none⟩ (.slice M5.A.aI RD.ins.length M5.A.cI)).setCell ⟨w.heap.size+1+1+1,4,none⟩ (.slice M5.A.aT RD.tak.length M5.A.cT)).setCell ⟨w.heap.size+1+1+1,5,none⟩ (.slice M5.A.aO RD.out.length M5.A.cO)).setCell ⟨w.heap.size+1+1+1,6,none⟩ (.slice M5.A.aE RD.evs.length M5.A.cE)).heap[x]? = w5.heap[x]?):=hid fun x hx=>((heap_set_ne _ _ 6 _ x hx).trans ((heap_set_ne _ _ 5 _ x hx).trans ((heap_set_ne _ _ 4 _ x hx).trans ((heap_set_ne _ _ 3 _ x hx).trans ((heap_set_ne _ _ 2 _ x hx).trans ((heap_set_ne _ _ 1 _ x hx).trans (heap_set_ne _ _ 0 _ x hx)))))))
   have Q4:RowAt ((((((((w5.setCell ⟨w.heap.size+1+1+1,0,none⟩ (.slice M5.A.aJ RD.jobs.length M5.A.cJ)).setCell ⟨w.heap.size+1+1+1,1,none⟩ (.slice M5.A.aR RD.rel.length M5.A.cR)).setCell ⟨w.heap.size+1+1+1,2,none⟩ (.int .i64 RD.nxt)).setCell ⟨w.heap.size+1+1+1,3,none⟩ (.slice M5.A.aI RD.ins.length M5.A.cI)).setCell ⟨w.heap.size+1+1+1,4,none⟩ (.slice M5.A.aT RD.tak.length M5.A.cT)).setCell ⟨w.heap.size+1+1+1,5,none⟩ (.slice M5.A.aO RD.out.length M5.A.cO)).setCell ⟨w.heap.size+1+1+1,6,none⟩ (.slice M5.A.aE RD.evs.length M5.A.cE)).setCell ⟨w.heap.size+1+1+1+1,0,none⟩ (.slice M5.aK (List.length RK) M5.cK)).drew (w.heap.size+1+1+1) 46 [.slice M5.A.aJ RD.jobs.length M5.A.cJ,.slice M5.A.aR RD.rel.length M5.A.cR,.int .i64 RD.nxt,.slice M5.A.aI RD.ins.length M5.A.cI,.slice M5.A.aT RD.tak.length M5.A.cT,.slice M5.A.aO RD.out.length M5.A.cO,.slice M5.A.aE RD.evs.length M5.A.cE]:=res7 F4.out n5 _ _ _ _ _ _ _ _
   have Q5:RowAt ((((((((w5.setCell ⟨w.heap.size+1+1+1,0,none⟩ (.slice M5.A.aJ RD.jobs.length M5.A.cJ)).setCell ⟨w.heap.size+1+1+1,1,none⟩ (.slice M5.A.aR RD.rel.length M5.A.cR)).setCell ⟨w.heap.size+1+1+1,2,none⟩ (.int .i64 RD.nxt)).setCell ⟨w.heap.size+1+1+1,3,none⟩ (.slice M5.A.aI RD.ins.length M5.A.cI)).setCell ⟨w.heap.size+1+1+1,4,none⟩ (.slice M5.A.aT RD.tak.length M5.A.cT)).setCell ⟨w.heap.size+1+1+1,5,none⟩ (.slice M5.A.aO RD.out.length M5.A.cO)).setCell ⟨w.heap.size+1+1+1,6,none⟩ (.slice M5.A.aE RD.evs.length M5.A.cE)).setCell ⟨w.heap.size+1+1+1+1,0,none⟩ (.slice M5.aK (List.length RK) M5.cK)).drew (w.heap.size+1+1+1+1) 72 [.slice M5.aK (List.length RK) M5.cK]:=res1 (show RowAt _ _ 72 [.slice none 0 0] from (NE.out _ n6).trans F5.out) _
   have d0:=Q4.cell 0 _ rfl
   have d1:=Q4.cell 1 _ rfl
   have d2:=Q4.cell 2 _ rfl
   have d3:=Q4.cell 3 _ rfl
   have d4:=Q4.cell 4 _ rfl
   have d5:=Q4.cell 5 _ rfl
   have d6:=Q4.cell 6 _ rfl
   have d7:=Q5.cell 0 _ rfl
   have HBF:Hid (Below w.heap.size w ((((((((w5.setCell ⟨w.heap.size+1+1+1,0,none⟩ (.slice M5.A.aJ RD.jobs.length M5.A.cJ)).setCell ⟨w.heap.size+1+1+1,1,none⟩ (.slice M5.A.aR RD.rel.length M5.A.cR)).setCell ⟨w.heap.size+1+1+1,2,none⟩ (.int .i64 RD.nxt)).setCell ⟨w.heap.size+1+1+1,3,none⟩ (.slice M5.A.aI RD.ins.length M5.A.cI)).setCell ⟨w.heap.size+1+1+1,4,none⟩ (.slice M5.A.aT RD.tak.length M5.A.cT)).setCell ⟨w.heap.size+1+1+1,5,none⟩ (.slice M5.A.aO RD.out.length M5.A.cO)).setCell ⟨w.heap.size+1+1+1,6,none⟩ (.slice M5.A.aE RD.evs.length M5.A.cE)).setCell ⟨w.heap.size+1+1+1+1,0,none⟩ (.slice M5.aK (List.length RK) M5.cK)).drew):=hid ((((((((H5.out.ag.setCell (p:=⟨w.heap.size+1+1+1,0,none⟩) (by show w.heap.size≤w.heap.size+1+1+1;omega) _).setCell (p:=⟨w.heap.size+1+1+1,1,none⟩) (by show w.heap.size≤w.heap.size+1+1+1;omega) _).setCell (p:=⟨w.heap.size+1+1+1,2,none⟩) (by show w.heap.size≤w.heap.size+1+1+1;omega) _).setCell (p:=⟨w.heap.size+1+1+1,3,none⟩) (by show w.heap.size≤w.heap.size+1+1+1;omega) _).setCell (p:=⟨w.heap.size+1+1+1,4,none⟩) (by show w.heap.size≤w.heap.size+1+1+1;omega) _).setCell (p:=⟨w.heap.size+1+1+1,5,none⟩) (by show w.heap.size≤w.heap.size+1+1+1;omega) _).setCell (p:=⟨w.heap.size+1+1+1,6,none⟩) (by show w.heap.size≤w.heap.size+1+1+1;omega) _).setCell (p:=⟨w.heap.size+1+1+1+1,0,none⟩) (by show w.heap.size≤w.heap.size+1+1+1+1;omega) _).drew
   have HNF:Hid (∀ x,x≠w.heap.size+1+1+1→x≠w.heap.size+1+1+1+1→((((((((w5.setCell ⟨w.heap.size+1+1+1,0,none⟩ (.slice M5.A.aJ RD.jobs.length M5.A.cJ)).setCell ⟨w.heap.size+1+1+1,1,none⟩ (.slice M5.A.aR RD.rel.length M5.A.cR)).setCell ⟨w.heap.size+1+1+1,2,none⟩ (.int .i64 RD.nxt)).setCell ⟨w.heap.size+1+1+1,3,none⟩ (.slice M5.A.aI RD.ins.length M5.A.cI)).setCell ⟨w.heap.size+1+1+1,4,none⟩ (.slice M5.A.aT RD.tak.length M5.A.cT)).setCell ⟨w.heap.size+1+1+1,5,none⟩ (.slice M5.A.aO RD.out.length M5.A.cO)).setCell ⟨w.heap.size+1+1+1,6,none⟩ (.slice M5.A.aE RD.evs.length M5.A.cE)).setCell ⟨w.heap.size+1+1+1+1,0,none⟩ (.slice M5.aK (List.length RK) M5.cK)).drew.heap[x]? = w5.heap[x]?):=hid fun x hx hx'=>(res_ne hx' _).trans (NE.out x hx)
   clear Q4 Q5 x0 x1 x2 x3 x4 x5 x6 x17 y0 y1 y2 y3 y4 y5 y6 z0 f0 f1 f2 f3 f4 f5 f6 k0 F4 F5 NE
   generalize World.drew (World.setCell (World.setCell (World.setCell (World.setCell (World.setCell (World.setCell (World.setCell (World.setCell w5 _ _) _ _) _ _) _ _) _ _) _ _) _ _) _ _)=W9 at *
   go_wp2
   refine bodyPost_ret (v:=.tuple #[.agg #[.slice M5.A.aJ RD.jobs.length M5.A.cJ,.slice M5.A.aR RD.rel.length M5.A.cR,.int .i64 RD.nxt,.slice M5.A.aI RD.ins.length M5.A.cI,.slice M5.A.aT RD.tak.length M5.A.cT,.slice M5.A.aO RD.out.length M5.A.cO,.slice M5.A.aE RD.evs.length M5.A.cE],.agg #[.slice M5.aK (List.length RK) M5.cK],.int .i64 0]) (by simp [results,Tryz.results46,go_sem,d0,d1,d2,d3,d4,d5,d6,d7]) rfl ⟨M5.A,M5.aK,M5.cK,by rw [HR.out],fun wx hwx=>?_,HBF.out,by rw [HR.out];exact HS5.out,?_⟩
   ·rw [HR.out]
    exact H5.out.domAt (fun x hx hnf=>(hwx x hx).trans (HNF.out x (fun e=>hnf _ (List.mem_cons_self ..) e.symm) (fun e=>hnf _ (List.mem_cons_of_mem _ (List.mem_cons_self ..)) e.symm)))
   ·rw [HR.out]
    exact H5.out.domE (fun x hx hnf=>HNF.out x (fun e=>hnf _ (List.mem_cons_self ..) e.symm) (fun e=>hnf _ (List.mem_cons_of_mem _ (List.mem_cons_self ..)) e.symm))
end Go.Proofs.YtejhccmclanlmaaGreatDoor
