/- Ya Za Yc Xir Yar -/
import Derived.OrdersHeld
import Derived.Test.YtejhccmclanlmaaGreatDoorV05
set_option linter.all false
set_option maxRecDepth 100000
set_option maxHeartbeats 8000000
namespace Go.Proofs.YtejhccmclanlmaaGreatDoor
open Go.RowKit Go.Proofs.Tryz
variable {xs:List Value} {base e n sz:Nat} {a:Option Addr} {v:Value} {w w':World} {C:Zm}
abbrev J6:=Int×Int×Int×Int×Bool×Bool
abbrev EvT:=Int×Int×Int×Int
structure Dom where
 jobs:List J6
 rel:List Int
 nxt:Int
 ins:List (List Int×Int)
 tak:List Int
 out:List (List Int)
 evs:List EvT
structure Yk where
 aJ:Option Addr
 aR:Option Addr
 aI:Option Addr
 aT:Option Addr
 aO:Option Addr
 aE:Option Addr
 cJ:Nat
 cR:Nat
 cI:Nat
 cT:Nat
 cO:Nat
 cE:Nat
abbrev dl (D:Dom) (A:Yk):Array Value:=#[.slice A.aJ D.jobs.length A.cJ,.slice A.aR D.rel.length A.cR,.int .i64 D.nxt,.slice A.aI D.ins.length A.cI,.slice A.aT D.tak.length A.cT,.slice A.aO D.out.length A.cO,.slice A.aE D.evs.length A.cE]
abbrev dv (D:Dom) (A:Yk):Value:=.agg (dl D A)
def Zcp (w:World) (a:Option Addr) (ls:List J6):Prop:=
 ∀ i (h:i<ls.length),∃ b o,a=some ⟨b,o,none⟩∧w.cell? ⟨b,o+i*6,none⟩=some (.int .i64 ls[i].1)∧w.cell? ⟨b,o+i*6+1,none⟩=some (.int .i64 ls[i].2.1)∧w.cell? ⟨b,o+i*6+2,none⟩=some (.int .i64 ls[i].2.2.1)∧w.cell? ⟨b,o+i*6+3,none⟩=some (.int .i64 ls[i].2.2.2.1)∧w.cell? ⟨b,o+i*6+4,none⟩=some (.bool ls[i].2.2.2.2.1)∧w.cell? ⟨b,o+i*6+5,none⟩=some (.bool ls[i].2.2.2.2.2)
def Zev (w:World) (a:Option Addr) (ls:List EvT):Prop:=
 ∀ i (h:i<ls.length),∃ b o,a=some ⟨b,o,none⟩∧w.cell? ⟨b,o+i*4,none⟩=some (.int .i64 ls[i].1)∧w.cell? ⟨b,o+i*4+1,none⟩=some (.int .i64 ls[i].2.1)∧w.cell? ⟨b,o+i*4+2,none⟩=some (.int .i64 ls[i].2.2.1)∧w.cell? ⟨b,o+i*4+3,none⟩=some (.int .i64 ls[i].2.2.2)
def Za7 (w:World) (a:Option Addr) (ls:List (List Int×Int)):Prop:=
 ∀ i (h:i<ls.length),∃ b o a' c',a=some ⟨b,o,none⟩∧w.cell? ⟨b,o+i*2,none⟩=some (.slice a' ls[i].1.length c')∧w.cell? ⟨b,o+i*2+1,none⟩=some (.int .i64 ls[i].2)∧Z4 w a' ls[i].1∧ls[i].1.length≤c'∧ls[i].1.length≤9223372036854775807
def Jq (w:World) (a:Option Addr) (ls:List (List Int)):Prop:=
 ∀ i (h:i<ls.length),∃ b o a' c',a=some ⟨b,o,none⟩∧w.cell? ⟨b,o+i,none⟩=some (.slice a' ls[i].length c')∧Z4 w a' ls[i]∧ls[i].length≤c'∧ls[i].length≤9223372036854775807
section
variable {w w':World} {a:Option Addr}
theorem Zcp.keep {ls:List J6} (h:Zcp w a ls) (hb:Below w.heap.size w w'):Zcp w' a ls:=by
 intro i hi;obtain ⟨b,o,e,h1,h2,h3,h4,h5,h6⟩:=h i hi;exact ⟨b,o,e,Zg hb h1 lr,Zg hb h2 lr,Zg hb h3 lr,Zg hb h4 lr,Zg hb h5 lr,Zg hb h6 lr⟩
theorem Zev.keep {ls:List EvT} (h:Zev w a ls) (hb:Below w.heap.size w w'):Zev w' a ls:=by
 intro i hi;obtain ⟨b,o,e,h1,h2,h3,h4⟩:=h i hi;exact ⟨b,o,e,Zg hb h1 lr,Zg hb h2 lr,Zg hb h3 lr,Zg hb h4 lr⟩
theorem Za7.keep {ls:List (List Int×Int)} (h:Za7 w a ls) (hb:Below w.heap.size w w'):Za7 w' a ls:=by
 intro i hi;obtain ⟨b,o,a',c',e,h1,h2,h3,h4⟩:=h i hi;exact ⟨b,o,a',c',e,Zg hb h1 lr,Zg hb h2 lr,h3.keep hb,h4⟩
theorem Jq.keep {ls:List (List Int)} (h:Jq w a ls) (hb:Below w.heap.size w w'):Jq w' a ls:=by
 intro i hi;obtain ⟨b,o,a',c',e,h1,h2,h3⟩:=h i hi;exact ⟨b,o,a',c',e,Zg hb h1 lr,h2.keep hb,h3⟩
end
structure Yz (w:World) (A:Yk) (D:Dom):Prop where
 jobs:Zcp w A.aJ D.jobs
 rel:Z4 w A.aR D.rel
 ins:Za7 w A.aI D.ins
 tak:Z4 w A.aT D.tak
 out:Jq w A.aO D.out
 evs:Zev w A.aE D.evs
 lJ:D.jobs.length≤9223372036854775807
 lR:D.rel.length≤9223372036854775807
 lI:D.ins.length≤9223372036854775807
 lT:D.tak.length≤9223372036854775807
 lO:D.out.length≤9223372036854775807
 lE:D.evs.length≤9223372036854775807
theorem Yz.keep {A:Yk} {D:Dom} (h:Yz w A D) (hb:Below w.heap.size w w'):Yz w' A D:=
 ⟨h.jobs.keep hb,h.rel.keep hb,h.ins.keep hb,h.tak.keep hb,h.out.keep hb,h.evs.keep hb,h.lJ,h.lR,h.lI,h.lT,h.lO,h.lE⟩
theorem Zz5 (x y z u:Int) (p q:Bool) (w:World):(Op.equalIn 10000 87 (.agg #[.int .i64 x,.int .i64 y,.int .i64 z,.int .i64 u,.bool p,.bool q]) (.agg #[.int .i64 x,.int .i64 y,.int .i64 z,.int .i64 u,.bool p,.bool q])).run prog w=.ok true w:=by
 have u3:=underlying3;have a3:=Tryz.isAgg3;have z3:=Tryz.sizeOf3;have u4:=underlying4;have a4:=Tryz.isAgg4;have z4:=Tryz.sizeOf4;have hS:prog.underlying 87=some (.struct (prog.fieldsOf 87)):=by kernel_rfl
 have hp:prog.stoodInHeld 87=false:=by kernel_rfl
 rw [show (10000:Nat)=9999+1 from rfl,run_equalIn_agg w 9999 87 _ _ hS hp];simp only [Program.fieldsOf,underlying87];go_simp
theorem Yah (x y z u:Int) (w:World):(Op.equalIn 10000 92 (.agg #[.int .i64 x,.int .i64 y,.int .i64 z,.int .i64 u]) (.agg #[.int .i64 x,.int .i64 y,.int .i64 z,.int .i64 u])).run prog w=.ok true w:=by
 have u3:=underlying3;have a3:=Tryz.isAgg3;have z3:=Tryz.sizeOf3;have hS:prog.underlying 92=some (.struct (prog.fieldsOf 92)):=by kernel_rfl
 have hp:prog.stoodInHeld 92=false:=by kernel_rfl
 rw [show (10000:Nat)=9999+1 from rfl,run_equalIn_agg w 9999 92 _ _ hS hp];simp only [Program.fieldsOf,underlying92];go_simp
theorem Za4 {α:Type} (f:α→List Value) (n:Nat) (hf:∀ x,(f x).length=n) (l:List α):(l.flatMap f).length=l.length*n:=by
 induction l with
 | nil=>simp
 | cons x r ih=>simp only [List.flatMap_cons,List.length_append,hf,ih,List.length_cons,Nat.add_mul];omega
theorem Zav {α:Type} (f:α→List Value) (n:Nat) (hf:∀ x,(f x).length=n) (l:List α) (i r:Nat) (h:i<l.length) (hr:r<n):(l.flatMap f)[i*n+r]? = (f l[i])[r]? := by
 induction l generalizing i with
 | nil=>simp at h
 | cons x t ih=>
  cases i with
  | zero=>simp [List.getElem?_append,hf,hr]
  | succ i=>
   have h2:=ih i (by simpa using h);have e1:(i+1)*n+r=n+(i*n+r):=by rw [Nat.add_mul];omega
   rw [List.flatMap_cons,e1,List.getElem?_append_right (by rw [hf];omega),hf,Nat.add_sub_cancel_left,h2];simp
theorem Zeo {α:Type} (f:α→List Value) (p:Value→Prop) (hf:∀ x,∀ u∈f x,p u) (l:List α):∀ u∈l.flatMap f,p u:=by
 intro u hu;obtain ⟨x,_,h⟩:=List.mem_flatMap.1 hu;exact hf x u h
def jc (j:J6):List Value:=[.int .i64 j.1,.int .i64 j.2.1,.int .i64 j.2.2.1,.int .i64 j.2.2.2.1,.bool j.2.2.2.2.1,.bool j.2.2.2.2.2]
def ec (x:EvT):List Value:=[.int .i64 x.1,.int .i64 x.2.1,.int .i64 x.2.2.1,.int .i64 x.2.2.2]
def fJ (J:List J6):List Value:=J.flatMap jc
def fE (E:List EvT):List Value:=E.flatMap ec
theorem Zdf (J:List J6):(fJ J).length=J.length*6:=Za4 jc 6 (fun _=>rfl) J
theorem Zn2 (J:List EvT):(fE J).length=J.length*4:=Za4 ec 4 (fun _=>rfl) J
theorem Zod (J K:List J6):fJ (J++K)=fJ J++fJ K:=by simp [fJ]
theorem Zla (J K:List EvT):fE (J++K)=fE J++fE K:=by simp [fE]
theorem Zqi (J:List J6):∀ u∈fJ J,u.oneCell'=true:=Zeo jc _ (fun x u hu=>by
 simp only [jc,List.mem_cons,List.not_mem_nil,or_false] at hu;rcases hu with rfl|rfl|rfl|rfl|rfl|rfl<;>rfl) J
theorem Ziv (J:List EvT):∀ u∈fE J,u.oneCell'=true:=Zeo ec _ (fun x u hu=>by
 simp only [ec,List.mem_cons,List.not_mem_nil,or_false] at hu;rcases hu with rfl|rfl|rfl|rfl<;>rfl) J
def Q9 (w:World) (a:Option Addr) (xs:List Value):Prop:=xs≠[]→∃ b o,a=some ⟨b,o,none⟩∧∀ j u,xs[j]? = some u→w.cell? ⟨b,o+j,none⟩=some u
theorem Zcp.cells {J:List J6} (h:Zcp w a J):Q9 w a (fJ J):=by
 intro a2;have hp:0<J.length:=List.length_pos_iff.2 (fun e=>a2 (by rw [e];rfl));obtain ⟨b,o,rfl,_⟩:=h 0 hp;refine ⟨b,o,rfl,fun j u hu=>?_⟩;have hj:j<J.length*6:=by rw [← Zdf];exact (List.getElem?_eq_some_iff.1 hu).1
 have hi:j/6<J.length:=by omega
 obtain ⟨b',o',e,h0,h1,h2,h3,h4,h5⟩:=h (j/6) hi;simp only [Option.some.injEq,Addr.mk.injEq,and_true] at e;obtain ⟨rfl,rfl⟩:=e;have a1:=Zav jc 6 (fun _=>rfl) J (j/6) (j%6) hi (Nat.mod_lt _ (by omega));have ej:j/6*6+j%6=j:=by omega
 rw [ej] at a1;have a0:(jc J[j/6])[j%6]? = some u:=by rw [← a1];exact hu
 have hc:j%6=0∨j%6=1∨j%6=2∨j%6=3∨j%6=4∨j%6=5:=by omega
 rcases hc with hc|hc|hc|hc|hc|hc<;>rw [hc] at a0<;>simp [jc] at a0<;>subst a0
 ·rw [show o+j=o+j/6*6 from by omega];exact h0
 ·rw [show o+j=o+j/6*6+1 from by omega];exact h1
 ·rw [show o+j=o+j/6*6+2 from by omega];exact h2
 ·rw [show o+j=o+j/6*6+3 from by omega];exact h3
 ·rw [show o+j=o+j/6*6+4 from by omega];exact h4
 ·rw [show o+j=o+j/6*6+5 from by omega];exact h5
theorem Zev.cells {J:List EvT} (h:Zev w a J):Q9 w a (fE J):=by
 intro a2;have hp:0<J.length:=List.length_pos_iff.2 (fun e=>a2 (by rw [e];rfl));obtain ⟨b,o,rfl,_⟩:=h 0 hp;refine ⟨b,o,rfl,fun j u hu=>?_⟩;have hj:j<J.length*4:=by rw [← Zn2];exact (List.getElem?_eq_some_iff.1 hu).1
 have hi:j/4<J.length:=by omega
 obtain ⟨b',o',e,h0,h1,h2,h3⟩:=h (j/4) hi;simp only [Option.some.injEq,Addr.mk.injEq,and_true] at e;obtain ⟨rfl,rfl⟩:=e;have a1:=Zav ec 4 (fun _=>rfl) J (j/4) (j%4) hi (Nat.mod_lt _ (by omega));have ej:j/4*4+j%4=j:=by omega
 rw [ej] at a1;have a0:(ec J[j/4])[j%4]? = some u:=by rw [← a1];exact hu
 have hc:j%4=0∨j%4=1∨j%4=2∨j%4=3:=by omega
 rcases hc with hc|hc|hc|hc<;>rw [hc] at a0<;>simp [ec] at a0<;>subst a0
 ·rw [show o+j=o+j/4*4 from by omega];exact h0
 ·rw [show o+j=o+j/4*4+1 from by omega];exact h1
 ·rw [show o+j=o+j/4*4+2 from by omega];exact h2
 ·rw [show o+j=o+j/4*4+3 from by omega];exact h3
theorem Zu (h:w.ownsRow base e sz v n xs):∃ a c,v=.slice a n c∧n≤c∧n≤maxLen∧Q9 w a xs∧(∀ b o,a=some ⟨b,o,none⟩→o=0∧base≤b∧b<w.heap.size):=by
 have h':=h;obtain ⟨hl,hv⟩:=h;rcases hv with ⟨rfl,hn⟩|⟨g,a0,a2,rfl,hb,hg,a1,hm,a3,ht⟩
 ·exact ⟨none,0,by rw [hn],by omega,by omega,fun hne=>absurd (List.length_eq_zero_iff.1 (by rw [hl,hn];omega)) hne,fun b o e=>by simp at e⟩
 ·refine ⟨_,a0,rfl,a1,by omega,fun _=>⟨g,0,rfl,fun j u hu=>?_⟩,fun b o e=>?_⟩
  ·have:=h'.cells (g:=g) rfl j u hu
   rw [Zvb] at this;rw [Nat.zero_add];exact this
  ·simp at e
   obtain ⟨rfl,rfl⟩:=e;exact ⟨rfl,hb,(Array.getElem?_eq_some_iff.1 hg).1⟩
theorem Zy (h:w.ownsRow base e sz v n xs) (hb:Below w.heap.size w w'):w'.ownsRow base e sz v n xs:=by
 refine ⟨h.1,?_⟩;rcases h.2 with q|⟨g,a0,a1,e1,e2,e3,r⟩
 ·exact .inl q
 ·have a2:g<w.heap.size:=(Array.getElem?_eq_some_iff.1 e3).1
  exact .inr ⟨g,a0,a1,e1,e2,by rw [hb.block g a2];exact e3,r⟩
theorem Za5 {J:List J6} (h:Q9 w a (fJ J)):Zcp w a J:=by
 intro i hi;have a1:fJ J≠[]:=fun e=>by have:=Zdf J;rw [e] at this;simp at this;omega
 obtain ⟨b,o,rfl,hc⟩:=h a1;have a0:=fun r hr=>Zav jc 6 (fun _=>rfl) J i r hi hr
 refine ⟨b,o,rfl,?_,?_,?_,?_,?_,?_⟩
 ·exact hc (i*6) _ ((a0 0 (by omega)).trans rfl)
 ·rw [Nat.add_assoc];exact hc _ _ ((a0 1 (by omega)).trans rfl)
 ·rw [Nat.add_assoc];exact hc _ _ ((a0 2 (by omega)).trans rfl)
 ·rw [Nat.add_assoc];exact hc _ _ ((a0 3 (by omega)).trans rfl)
 ·rw [Nat.add_assoc];exact hc _ _ ((a0 4 (by omega)).trans rfl)
 ·rw [Nat.add_assoc];exact hc _ _ ((a0 5 (by omega)).trans rfl)
theorem Zb4 {J:List EvT} (h:Q9 w a (fE J)):Zev w a J:=by
 intro i hi;have a1:fE J≠[]:=fun e=>by have:=Zn2 J;rw [e] at this;simp at this;omega
 obtain ⟨b,o,rfl,hc⟩:=h a1;have a0:=fun r hr=>Zav ec 4 (fun _=>rfl) J i r hi hr
 refine ⟨b,o,rfl,?_,?_,?_,?_⟩
 ·exact hc (i*4) _ ((a0 0 (by omega)).trans rfl)
 ·rw [Nat.add_assoc];exact hc _ _ ((a0 1 (by omega)).trans rfl)
 ·rw [Nat.add_assoc];exact hc _ _ ((a0 2 (by omega)).trans rfl)
 ·rw [Nat.add_assoc];exact hc _ _ ((a0 3 (by omega)).trans rfl)
theorem Yc {L:List Int} (h:Q9 w a (ivs L)):Z4 w a L:=by
 intro i hi;have a0:ivs L≠[]:=fun e=>by have:=Zqf L;rw [e] at this;simp at this;omega
 obtain ⟨b,o,rfl,hc⟩:=h a0;exact ⟨b,o,rfl,hc i _ (by simp [ivs,hi])⟩
theorem Js {ops:Array Oper} {rest:List Oper} {o:Oper} {a:Act} {w:World} {Q:Exit→Act→World→Prop} (hgd:o.guard=none) (s x:Operand) (t e:TypeId)
  (ho:o.op=.call {callee:=.builtin .append,args:=#[s,x],argTypes:=#[t,t]}) (z:Value) (sz by_:Nat) (ht:prog.underlying t=some (.slice e)) (hI:(prog.info? e).map (fun i=>(i.zero,i.size,i.bytes))=some (some z,sz,by_)) (hzs:z.cells.size=sz) (hsz:0<sz)
  (base:Nat) (v:Value) (n:Nat) (xs:List Value) (hs:a.eval s=v) (hown:w.ownsRow base e sz v n xs)
  (m:Nat) (news:List Value) (hlen:news.length=m*sz) (h1:∀ u∈news,u.oneCell'=true) (a6:Option Addr) (c6:Nat) (hx:a.eval x=.slice a6 m c6) (hL:Q9 w a6 news) (h63:n+m≤maxLen) (hbytes:(n+m)*by_≤140737488355328) (hbase:base≤w.heap.size)
  (h:∀ v' w',w'.ownsRow base e sz v' (n+m) (xs++news)→w.grownBy w' v.ownBlock→wpList prog ops Q rest (a.put o.dst v') w'):wpList prog ops Q (o::rest) a w:=by
 obtain ⟨i3,hi,hz,a1,a5⟩:=Zbk hI;by_cases hL0:m=0
 ·subst hL0
  have a7:news=[]:=List.length_eq_zero_iff.1 (by rw [hlen];omega);subst a7;have a0:∃ p cap,v=.slice p n cap∧n≤cap:=by
   rcases hown.2 with ⟨e,e2⟩|⟨g,cap,_,e,_,_,h,_⟩
   ·exact ⟨none,0,by rw [e,e2],by omega⟩
   ·exact ⟨_,cap,e,h⟩
  obtain ⟨p,cap,rfl,hr⟩:=a0;refine wpList_plain hgd fun K hK=>?_
  have a2:=Zg1 (P:=prog) w t o.type e i3 ht hi p n cap a6 c6 hr;unfold Oper.wp;simp [execOp,ho,resolve,invoke,builtin,hs,hx,a2,Result.andThen];exact hK _ _ (h _ _ (by simpa using hown) ⟨rfl,rfl,rfl,lr,fun _ _ _=>rfl⟩)
 ·have a8:news≠[]:=fun e=>by
   have hp:=Nat.mul_pos (Nat.pos_of_ne_zero hL0) hsz;rw [← hlen,e] at hp;exact absurd hp (by simp)
  obtain ⟨b,a3,rfl,hc⟩:=hL a8;refine wpList_append_own w hgd s x t ho base e i3 z sz by_ ht hi hz a1 a5 hzs hsz v n xs hs hown ⟨b,a3,none⟩ m c6 news hx hlen ?_ h1 h63 hbytes hbase (fun v' w' h1 h2 _=>h v' w' h1 h2);intro j u hu;have a4:(⟨b,a3,none⟩:Addr).add j=⟨b,a3+j,none⟩:=by unfold Addr.add;split<;>simp_all
  rw [a4];exact hc j u hu
theorem Tryz.info87x:(prog.info? 87).map (fun i=>(i.zero,i.size,i.bytes))=some (some (.agg #[.int .i64 0,.int .i64 0,.int .i64 0,.int .i64 0,.bool false,.bool false]),6,40):=by kernel_rfl
theorem Tryz.info92x:(prog.info? 92).map (fun i=>(i.zero,i.size,i.bytes))=some (some (.agg #[.int .i64 0,.int .i64 0,.int .i64 0,.int .i64 0]),4,32):=by kernel_rfl
section
set_option maxRecDepth 100000
set_option maxHeartbeats 400000
theorem Zlj (a:Option Addr) (J:List J6) (cap:Nat) (w:World) (hw:Zcp w a J) (hl:J.length≤1000000000000):
  Calls prog 96 #[.slice a J.length cap] w fun e w'=>∃ v,e=.returned v∧w'.ownsRow w.heap.size 87 6 v J.length (fJ J)∧Below w.heap.size w w':=by
 have a3:=fun (w:World) (a:Option Addr) (n c:Nat)=>Lib.run_eql_slice_nil (P:=prog) w 41 87 a n c 0 0 underlying41
 cases a with
 | none=>
  have hJ:J=[]:=by
   cases J with
   | nil=>rfl
   | cons x r=>obtain ⟨b,o,e,_⟩:=hw 0 (by simp);cases e
  subst hJ;go_enter func96,ntmps96;go_wp2;go_ret;exact ⟨_,rfl,World.ownsRow_nil _ _ _ _,br⟩
 | some p=>
  have h1:Below w.heap.size w (w.alloc (.cells #[] 87)):=Za _ _;have a2:Hid ((w.alloc (.cells #[] 87)).ownsRow w.heap.size 87 6 (.slice (some ⟨w.heap.size,0,none⟩) 0 0) 0 []):=hid (World.ownsRow_made w #[] 0 lr (by simp [maxLen]) rfl);have Hw:=hid (hw.keep h1).cells;go_enter func96,ntmps96;go_wp2_with (at_builtin;refine Js rfl _ _ 41 87 rfl _ 6 40 underlying41 Tryz.info87x rfl (by omega) w.heap.size (.slice (some ⟨w.heap.size,0,none⟩) 0 0) 0 [] rfl a2.out J.length (fJ J) (Zdf J) (Zqi J) _ _ rfl Hw.out (by simp [maxLen];omega) (by omega) (by simp) ?_);intro v' w1 a0 a1;have HE:=hid (show w1.ownsRow w.heap.size 87 6 v' J.length (fJ J)∧Below w.heap.size w w1 from ⟨by simpa using a0,h1.grown a1 (by simp) (fun k hk=>by simp [Value.ownBlock] at hk;omega)⟩);clear a0 a1 a2 h1 Hw;go_wp2;go_ret;exact ⟨_,rfl,HE.out⟩
theorem Zko (a:Option Addr) (J:List EvT) (cap:Nat) (w:World) (hw:Zev w a J) (hl:J.length≤1000000000000):
  Calls prog 98 #[.slice a J.length cap] w fun e w'=>∃ v,e=.returned v∧w'.ownsRow w.heap.size 92 4 v J.length (fE J)∧Below w.heap.size w w':=by
 have a3:=fun (w:World) (a:Option Addr) (n c:Nat)=>Lib.run_eql_slice_nil (P:=prog) w 44 92 a n c 0 0 underlying44
 cases a with
 | none=>
  have hJ:J=[]:=by
   cases J with
   | nil=>rfl
   | cons x r=>obtain ⟨b,o,e,_⟩:=hw 0 (by simp);cases e
  subst hJ;go_enter func98,ntmps98;go_wp2;go_ret;exact ⟨_,rfl,World.ownsRow_nil _ _ _ _,br⟩
 | some p=>
  have h1:Below w.heap.size w (w.alloc (.cells #[] 92)):=Za _ _;have a2:Hid ((w.alloc (.cells #[] 92)).ownsRow w.heap.size 92 4 (.slice (some ⟨w.heap.size,0,none⟩) 0 0) 0 []):=hid (World.ownsRow_made w #[] 0 lr (by simp [maxLen]) rfl);have Hw:=hid (hw.keep h1).cells;go_enter func98,ntmps98;go_wp2_with (at_builtin;refine Js rfl _ _ 44 92 rfl _ 4 32 underlying44 Tryz.info92x rfl (by omega) w.heap.size (.slice (some ⟨w.heap.size,0,none⟩) 0 0) 0 [] rfl a2.out J.length (fE J) (Zn2 J) (Ziv J) _ _ rfl Hw.out (by simp [maxLen];omega) (by omega) (by simp) ?_);intro v' w1 a0 a1;have HE:=hid (show w1.ownsRow w.heap.size 92 4 v' J.length (fE J)∧Below w.heap.size w w1 from ⟨by simpa using a0,h1.grown a1 (by simp) (fun k hk=>by simp [Value.ownBlock] at hk;omega)⟩);clear a0 a1 a2 h1 Hw;go_wp2;go_ret;exact ⟨_,rfl,HE.out⟩
theorem Zbh (a:Option Addr) (L:List Int) (cap:Nat) (w:World) (hw:Z4 w a L) (hl:L.length≤1000000000000):
  Calls prog 97 #[.slice a L.length cap] w fun e w'=>∃ v,e=.returned v∧w'.ownsRow w.heap.size 3 1 v L.length (ivs L)∧Below w.heap.size w w':=by
 have a3:=fun (w:World) (a:Option Addr) (n c:Nat)=>Lib.run_eql_slice_nil (P:=prog) w 23 3 a n c 0 0 underlying23
 cases a with
 | none=>
  have hJ:L=[]:=by
   cases L with
   | nil=>rfl
   | cons x r=>obtain ⟨b,o,e,_⟩:=hw 0 (by simp);cases e
  subst hJ;go_enter func97,ntmps97;go_wp2;go_ret;exact ⟨_,rfl,World.ownsRow_nil _ _ _ _,br⟩
 | some p=>
  have h1:Below w.heap.size w (w.alloc (.cells #[] 3)):=Za _ _;have a2:Hid ((w.alloc (.cells #[] 3)).ownsRow w.heap.size 3 1 (.slice (some ⟨w.heap.size,0,none⟩) 0 0) 0 []):=hid (World.ownsRow_made w #[] 0 lr (by simp [maxLen]) rfl);have Hw:=hid (hw.keep h1);go_enter func97,ntmps97;go_wp2_with (at_builtin;refine Zb7 rfl _ _ rfl w.heap.size (.slice (some ⟨w.heap.size,0,none⟩) 0 0) 0 [] rfl a2.out L _ _ rfl Hw.out (by simp [maxLen];omega) (by omega) (by simp) ?_);intro v' w1 a0 a1;have HE:=hid (show w1.ownsRow w.heap.size 3 1 v' L.length (ivs L)∧Below w.heap.size w w1 from ⟨by simpa using a0,h1.grown a1 (by simp) (fun k hk=>by simp [Value.ownBlock] at hk;omega)⟩);clear a0 a1 a2 h1 Hw;go_wp2;go_ret;exact ⟨_,rfl,HE.out⟩
end
def Q6 (C:Zm) (dn:Int):Int:=if ckC C=0 then (if inR dn 0 (C.d-1) then 0 else 5) else ckC C
def Zj7 (C:Zm) (D:Dom):Int:=if D.rel.length=C.ta.length∧D.ins.length=C.ch.length∧D.out.length=C.ch.length∧D.tak.length=C.ow.length then 0 else 1
def Zd8 (D:Dom):Int:=if Zbc D.rel 0 100000&&inR D.nxt 0 100000&&Zbc D.tak 0 15 then 0 else 3
def Zbj (l:List Int):Bool:=decide (60<l.length)
def Zcv (l:List Int):Bool:=!Zbc l 0 255
def Zcz (D:Dom):Int:=if D.out.any Zbj then 2 else if D.out.any Zcv then 3 else 0
theorem Zz1 (h:ckC C=0):1≤C.d∧C.d≤4:=by
 have h1:=(Zcr h).1;unfold Zep at h1
 split at h1
 ·rename_i h2
  simp [inR] at h2;omega
 ·omega
abbrev kl (D:Dom) (A:Yk) (C:Zm) (B:Mem) (dn:Int):List Value:=[.slice A.aJ D.jobs.length A.cJ,.slice A.aR D.rel.length A.cR,.int .i64 D.nxt,.slice A.aI D.ins.length A.cI,.slice A.aT D.tak.length A.cT,.slice A.aO D.out.length A.cO,.slice A.aE D.evs.length A.cE,.int .i64 C.s,.int .i64 C.w,.int .i64 C.d,.int .i64 C.p,.int .i64 C.q,.slice B.a5 C.sl.length B.c5,.slice B.a6 C.ow.length B.c6,.slice B.a7 C.ch.length B.c7,.slice B.a8 C.ta.length B.c8,.int .i64 dn]
structure Jf (w:World) (kb:Nat) (D:Dom) (A:Yk) (C:Zm) (B:Mem) (dn:Int):Prop where
 row:Zf w kb 179 (kl D A C B dn)
 dom:Yz w A D
 con:Z1 w B C
theorem Jf.keep {kb:Nat} {D:Dom} {A:Yk} {B:Mem} {dn:Int} (h:Jf w kb D A C B dn) (hb:Below w.heap.size w w'):Jf w' kb D A C B dn:=
 ⟨h.row.below hb lr,h.dom.keep hb,h.con.keep hb⟩
theorem Zdk (C:Zm) (B:Mem) (dn:Int) (w:World) (hC:Z1 w B C):
  Calls prog 64 #[cv C B,.int .i64 dn] w fun e w'=>e=.returned (.int .i64 (Q6 C dn))∧Below w.heap.size w w':=by
 have q1:=Za w (.cells (cl C B) 27);have HC:=hid (hC.keep q1);have HX:=hid (Yq w C B);have HB:=hid q1;clear q1 hC;obtain ⟨a5,a6,a7,a8,c5,c6,c7,c8⟩:=B;dsimp only [cv,cl] at *
 go_enter func64,ntmps64;go_wp2_with fail;refine (Qz C ⟨a5,a6,a7,a8,c5,c6,c7,c8⟩ _ HC).mono ?_;rintro e w1 ⟨rfl,a0⟩;have a1:=hid (Zb HB a0);have g2:=(HX.out.keep a0).h2;by_cases h0:ckC C=0
 ·have H0:=hid h0
  have hd:=Zz1 h0;rw [h0];clear h0 a0 HX HC HB;have a2:wrap64 (C.d-1)=C.d-1:=by unfold wrap64;omega
  go_wp2_with fail;refine (Zs _ _ _ _).mono ?_;rintro e w' ⟨rfl,rfl⟩
  cases h1:inR dn 0 (C.d-1) with
  | true=>
   go_wp2;go_ret;exact ⟨Zh (by simp [Q6,H0.out,h1]),a1.out⟩
  | false=>
   go_wp2;go_ret;exact ⟨Zh (by simp [Q6,H0.out,h1]),a1.out⟩
 ·have hx:(ckC C != 0)=true:=by simp [h0]
  have HE:Hid (Q6 C dn=ckC C):=hid (by simp [Q6,h0]);clear h0 a0 HX HC HB g2;generalize ckC C=q at *
  go_wp2;go_ret;exact ⟨Zh HE.out.symm,a1.out⟩
theorem Zji (kb:Nat) (D:Dom) (A:Yk) (C:Zm) (B:Mem) (dn:Int) (w:World) (hK:Jf w kb D A C B dn):
  Calls prog 92 #[.pointer (some ⟨kb,0,none⟩)] w fun e w'=>e=.returned (.int .i64 (Zd8 D))∧Below w.heap.size w w':=by
 have HK:=hid hK;have c1:=hK.row.cell 1 _ rfl;clear hK;go_enter func92,ntmps92;go_wp2_with fail;refine (Zhe 0 100000 A.aR D.rel A.cR _ HK.out.dom.rel HK.out.dom.lR).mono ?_;rintro e w1 ⟨rfl,a1⟩;have a0:=hid (HK.out.keep a1);have a2:=hid a1
 cases h1:Zbc D.rel 0 100000 with
 | false=>
  go_wp2;go_ret;exact ⟨Zh (by simp [Zd8,h1]),a2.out⟩
 | true=>
  have H1:=hid h1;clear h1 a1 c1;have c2:=a0.out.row.cell 2 _ rfl;have c4:=a0.out.row.cell 4 _ rfl;go_wp2_with fail;refine (Zs _ _ _ _).mono ?_;rintro e w' ⟨rfl,rfl⟩
  cases h2:inR D.nxt 0 100000 with
  | false=>
   go_wp2;go_ret;exact ⟨Zh (by simp [Zd8,h2]),a2.out⟩
  | true=>
   have H2:=hid h2;clear h2;go_wp2_with fail;refine (Zhe 0 15 A.aT D.tak A.cT _ a0.out.dom.tak a0.out.dom.lT).mono ?_;rintro e w2 ⟨rfl,a4⟩;have a3:=hid (Zb a2 a4)
   cases h3:Zbc D.tak 0 15 with
   | false=>
    go_wp2;go_ret;exact ⟨Zh (by simp [Zd8,h3]),a3.out⟩
   | true=>
    go_wp2;go_ret;exact ⟨Zh (by simp [Zd8,H1.out,H2.out,h3]),a3.out⟩
theorem Zss (a:Option Addr) (L:List Int) (cap:Nat) (hl:L.length≤9223372036854775807) (w:World):
  Calls prog 131 #[.slice a L.length cap] w fun e w'=>e=.returned (.bool (Zbj L))∧Below w.heap.size w w':=by
 go_enter func131,ntmps131;go_wp2;go_ret;exact ⟨Yh (by rw [Zbj,Bool.eq_iff_iff];simp;omega),br⟩
theorem Zr8 (a:Option Addr) (L:List Int) (cap:Nat) (hl:L.length≤9223372036854775807) (w:World) (hi:Z4 w a L):
  Calls prog 132 #[.slice a L.length cap] w (RB (.bool (Zcv L)) w):=by
 go_enter func132,ntmps132;go_wp2_with fail;refine (Zhe 0 255 a L cap _ hi hl).mono ?_;rintro e w1 ⟨rfl,a0⟩;go_wp2;go_ret;exact ⟨rfl,a0⟩
theorem Zk5 (a:Option Addr) (LL:List (List Int)) (cap:Nat) (w:World) (hw:Jq w a LL) (hl:LL.length≤9223372036854775807):
  Calls prog 152 #[.slice a LL.length cap,.func (.func 131) #[] #[]] w fun e w'=>(∃ r:Int,e=.returned (.int .i64 r)∧(0≤r↔LL.any Zbj=true))∧Below w.heap.size w w':=by
 go_enter func152,ntmps152;go_wp2;go_loopw [8] (fun i wr=>∃ k:Nat,k≤LL.length∧i=.int .i64 k∧Below w.heap.size w wr∧∀ j (hj:j<LL.length),j<k→Zbj LL[j]=false) (fun i _=>LL.length-(intOf i).toNat)
 case atStart=>exact ⟨0,zl,rfl,br,by omega⟩
 case round=>
  obtain ⟨k,hk,rfl,a0,a4⟩:=hrel;have a5:=hid a4;clear a4;by_cases hlt:k<LL.length
  ·obtain ⟨b',o',a2,a1,rfl,a7,a8,a9,a3⟩:=hw k hlt
   have aa:=Zg a0 a7 lr;have ab:=a8.keep a0;go_wp2_with fail;refine (Zss a2 LL[k] a1 a3 _).mono ?_;rintro e w' ⟨rfl,a6⟩
   cases hx:Zbj LL[k] with
   | true=>
    have HX:=hid hx;clear hx;go_wp2;go_ret;refine ⟨⟨k,rfl,?_⟩,Zb a0 a6⟩;exact ⟨fun _=>List.any_eq_true.2 ⟨_,List.getElem_mem hlt,HX.out⟩,fun _=>by omega⟩
   | false=>
    have HX:=hid hx;clear hx;go_wp2;go_roundw
    case rel=>
     refine ⟨k+1,by omega,by go_num,Zb a0 a6,fun j hj hlt2=>?_⟩;by_cases e:j=k
     ·subst e;exact HX.out
     ·exact a5.out j hj (by omega)
    case measure=>simp [intOf];omega
  ·go_wp2
   go_ret;refine ⟨⟨-1,rfl,?_⟩,a0⟩;refine ⟨fun h=>absurd h (by omega),fun h=>?_⟩;obtain ⟨x,hx,hp⟩:=List.any_eq_true.1 h;obtain ⟨j,hj,rfl⟩:=List.getElem_of_mem hx;rw [a5.out j hj (by omega)] at hp;exact absurd hp (by simp)
theorem Zgv (a:Option Addr) (LL:List (List Int)) (cap:Nat) (w:World) (hw:Jq w a LL) (hl:LL.length≤9223372036854775807):
  Calls prog 130 #[.slice a LL.length cap,.func (.func 131) #[] #[]] w fun e w'=>e=.returned (.bool (LL.any Zbj))∧Below w.heap.size w w':=by
 go_enter func130,ntmps130;go_wp2_with fail;refine (Zk5 a LL cap _ hw hl).mono ?_;rintro e w' ⟨⟨r,rfl,hr⟩,hb⟩;have HR:=hid hr;clear hr;go_wp2;go_ret;exact ⟨Yh (by rw [Bool.eq_iff_iff];simpa using HR.out),hb⟩
theorem Zlt (a:Option Addr) (LL:List (List Int)) (cap:Nat) (w:World) (hw:Jq w a LL) (hl:LL.length≤9223372036854775807):
  Calls prog 152 #[.slice a LL.length cap,.func (.func 132) #[] #[]] w fun e w'=>(∃ r:Int,e=.returned (.int .i64 r)∧(0≤r↔LL.any Zcv=true))∧Below w.heap.size w w':=by
 go_enter func152,ntmps152;go_wp2;go_loopw [8] (fun i wr=>∃ k:Nat,k≤LL.length∧i=.int .i64 k∧Below w.heap.size w wr∧∀ j (hj:j<LL.length),j<k→Zcv LL[j]=false) (fun i _=>LL.length-(intOf i).toNat)
 case atStart=>exact ⟨0,zl,rfl,br,by omega⟩
 case round=>
  obtain ⟨k,hk,rfl,a0,a5⟩:=hrel;have a6:=hid a5;clear a5;by_cases hlt:k<LL.length
  ·obtain ⟨b',o',a2,a1,rfl,a8,a9,aa,a3⟩:=hw k hlt
   have ab:=Zg a0 a8 lr;have a4:=a9.keep a0;go_wp2_with fail;refine (Zr8 a2 LL[k] a1 a3 _ a4).mono ?_;rintro e w' ⟨rfl,a7⟩
   cases hx:Zcv LL[k] with
   | true=>
    have HX:=hid hx;clear hx;go_wp2;go_ret;refine ⟨⟨k,rfl,?_⟩,Zb a0 a7⟩;exact ⟨fun _=>List.any_eq_true.2 ⟨_,List.getElem_mem hlt,HX.out⟩,fun _=>by omega⟩
   | false=>
    have HX:=hid hx;clear hx;go_wp2;go_roundw
    case rel=>
     refine ⟨k+1,by omega,by go_num,Zb a0 a7,fun j hj hlt2=>?_⟩;by_cases e:j=k
     ·subst e;exact HX.out
     ·exact a6.out j hj (by omega)
    case measure=>simp [intOf];omega
  ·go_wp2
   go_ret;refine ⟨⟨-1,rfl,?_⟩,a0⟩;refine ⟨fun h=>absurd h (by omega),fun h=>?_⟩;obtain ⟨x,hx,hp⟩:=List.any_eq_true.1 h;obtain ⟨j,hj,rfl⟩:=List.getElem_of_mem hx;rw [a6.out j hj (by omega)] at hp;exact absurd hp (by simp)
theorem Zgp (a:Option Addr) (LL:List (List Int)) (cap:Nat) (w:World) (hw:Jq w a LL) (hl:LL.length≤9223372036854775807):
  Calls prog 130 #[.slice a LL.length cap,.func (.func 132) #[] #[]] w fun e w'=>e=.returned (.bool (LL.any Zcv))∧Below w.heap.size w w':=by
 go_enter func130,ntmps130;go_wp2_with fail;refine (Zlt a LL cap _ hw hl).mono ?_;rintro e w' ⟨⟨r,rfl,hr⟩,hb⟩;have HR:=hid hr;clear hr;go_wp2;go_ret;exact ⟨Yh (by rw [Bool.eq_iff_iff];simpa using HR.out),hb⟩
theorem Zj0 (kb:Nat) (D:Dom) (A:Yk) (C:Zm) (B:Mem) (dn:Int) (w:World) (hK:Jf w kb D A C B dn):
  Calls prog 95 #[.pointer (some ⟨kb,0,none⟩)] w fun e w'=>e=.returned (.int .i64 (Zcz D))∧Below w.heap.size w w':=by
 have HK:=hid hK;have c5:=hK.row.cell 5 _ rfl;clear hK;go_enter func95,ntmps95;go_wp2_with fail;refine (Zgv A.aO D.out A.cO _ HK.out.dom.out HK.out.dom.lO).mono ?_;rintro e w1 ⟨rfl,a0⟩;have a1:=hid (HK.out.keep a0);have a2:=hid a0
 cases h1:D.out.any Zbj with
 | true=>
  go_wp2;go_ret;exact ⟨Zh (by rw [Zcz,if_pos h1]),a2.out⟩
 | false=>
  have H1:=hid h1;clear h1 a0 c5;have c5:=a1.out.row.cell 5 _ rfl;go_wp2_with fail;refine (Zgp A.aO D.out A.cO _ a1.out.dom.out a1.out.dom.lO).mono ?_;rintro e w2 ⟨rfl,a4⟩;have a3:=hid (Zb a2 a4)
  cases h2:D.out.any Zcv with
  | true=>
   go_wp2;go_ret;exact ⟨Zh (by rw [Zcz,H1.out,if_neg (by simp),if_pos h2]),a3.out⟩
  | false=>
   go_wp2;go_ret;exact ⟨Zh (by rw [Zcz,H1.out,if_neg (by simp),h2];rfl),a3.out⟩
theorem Zaf (a a':Option Addr) (L:List Int) (cap cap':Nat) (w:World) (h1:Z4 w a L) (h2:Z4 w a' L) (hl:L.length≤9223372036854775807):
  Calls prog 27 #[.slice a L.length cap,.slice a' L.length cap'] w fun e w'=>e=.returned (.bool true)∧Below w.heap.size w w':=by
 go_enter func27,ntmps27;go_wp2;go_loopw [5] (fun i wr=>(∃ n,wr=w.drewN n)∧∃ k:Nat,k≤L.length∧i=.int .i64 k) (fun i _=>L.length-(intOf i).toNat)
 case atStart=>exact ⟨⟨0,rfl⟩,0,zl,rfl⟩
 case round=>
  obtain ⟨⟨nd,rfl⟩,k,hk,rfl⟩:=hrel;by_cases hlt:k<L.length
  ·obtain ⟨b1,o1,rfl,e1⟩:=h1 k hlt
   obtain ⟨b2,o2,rfl,e2⟩:=h2 k hlt;have a0:(k:Int)<L.length:=by omega
   have a1:(0:Int)≤k:=by omega
   generalize L[k]=y at *
   go_wp2;go_quiet (fail)
   go_wp2;go_roundw
   case rel=>exact ⟨⟨_,rfl⟩,k+1,by omega,by go_num⟩
   case measure=>simp [intOf];omega
  ·go_wp2
   go_ret;exact ⟨rfl,below_drewN br _⟩
theorem Zjn (a a':Option Addr) (V:List Int) (cap cap':Nat) (l:Int) (w:World) (h1:Z4 w a V) (h2:Z4 w a' V) (hl:V.length≤9223372036854775807):
  Calls prog 28 #[.agg #[.slice a V.length cap,.int .i64 l],.agg #[.slice a' V.length cap',.int .i64 l]] w (RB (.bool true) w):=by
 have q:=Zb (Za w (.cells #[.slice a V.length cap,.int .i64 l] 90)) (Za (w.alloc (.cells #[.slice a V.length cap,.int .i64 l] 90)) (.cells #[.slice a' V.length cap',.int .i64 l] 90));have H1:=hid (h1.keep q);have H2:=hid (h2.keep q);have HB:=hid q;clear q h1 h2;go_enter func28,ntmps28;go_wp2_with fail;refine (Zaf a a' V cap cap' _ H1 H2 hl).mono ?_;rintro e w1 ⟨rfl,hb⟩;have a0:=hid (Zb HB hb);clear hb HB;go_wp2;go_ret;exact ⟨rfl,a0.out⟩
theorem Zcy (D:Dom) (A A':Yk) (w:World) (h1:Yz w A D) (h2:Yz w A' D):
  Calls prog 12 #[dv D A,dv D A'] w fun e w'=>e=.returned (.bool true)∧Below w.heap.size w w':=by
 have q1:=Za w (.cells (dl D A) 46);have q2:=Za (w.alloc (.cells (dl D A) 46)) (.cells (dl D A') 46);have HQ:=hid (Zb q1 q2);have a4:=hid (h1.keep (Zb q1 q2));have a5:=hid (h2.keep (Zb q1 q2));have R1:Hid (Zf ((w.alloc (.cells (dl D A) 46)).alloc (.cells (dl D A') 46)) w.heap.size 46 (dl D A).toList):=hid ((Zc w _ (dl D A).toList 46 rfl).alloc _);have R2:Hid (Zf ((w.alloc (.cells (dl D A) 46)).alloc (.cells (dl D A') 46)) (w.heap.size+1) 46 (dl D A').toList):=hid (Zc _ _ (dl D A').toList 46 (by simp));have ak:=Zz5;have al:=Yah;have af:prog.eqGuardType prog.depth 87=false:=by kernel_rfl
 have ag:prog.eqGuardType prog.depth 92=false:=by kernel_rfl
 have lJ:=h1.lJ;have lR:=h1.lR;have lI:=h1.lI;have lT:=h1.lT;have lO:=h1.lO;have lE:=h1.lE;clear q1 q2 h1 h2;obtain ⟨aJ,aR,aI,aT,aO,aE,cJ,cR,cI,cT,cO,cE⟩:=A;obtain ⟨bJ,bR,bI,bT,bO,bE,dJ,dR,dI,dT,dO,dE⟩:=A';dsimp only [dv,dl] at *
 go_enter func12,ntmps12;go_wp2_with fail;refine (Zaf aR bR D.rel cR dR _ a4.out.rel a5.out.rel lR).mono ?_;rintro e w1 ⟨rfl,a7⟩;replace HQ:=hid (Zb HQ a7);replace a4:=hid (a4.out.keep a7);replace a5:=hid (a5.out.keep a7);replace R1:=hid (R1.out.below a7 lr);replace R2:=hid (R2.out.below a7 lr);clear a7;have k0:=R1.out.cell 0 _ rfl;have k3:=R1.out.cell 3 _ rfl;have k4:=R1.out.cell 4 _ rfl;have k5:=R1.out.cell 5 _ rfl;have k6:=R1.out.cell 6 _ rfl;have m0:=R2.out.cell 0 _ rfl;have m3:=R2.out.cell 3 _ rfl;have m4:=R2.out.cell 4 _ rfl;have m5:=R2.out.cell 5 _ rfl;have m6:=R2.out.cell 6 _ rfl;go_wp2_with fail;refine (Zaf aT bT D.tak cT dT _ a4.out.tak a5.out.tak lT).mono ?_;rintro e w2 ⟨rfl,a8⟩;replace HQ:=hid (Zb HQ a8);replace a4:=hid (a4.out.keep a8);replace a5:=hid (a5.out.keep a8);replace R1:=hid (R1.out.below a8 lr);replace R2:=hid (R2.out.below a8 lr);clear a8 k0 k3 k4 k5 k6 m0 m3 m4 m5 m6;have k0:=R1.out.cell 0 _ rfl;have k3:=R1.out.cell 3 _ rfl;have k5:=R1.out.cell 5 _ rfl;have k6:=R1.out.cell 6 _ rfl;have m0:=R2.out.cell 0 _ rfl;have m3:=R2.out.cell 3 _ rfl;have m5:=R2.out.cell 5 _ rfl;have m6:=R2.out.cell 6 _ rfl;have am:=R1.out.lt;have an:=R2.out.lt;go_wp2;go_loopw [5] (fun i wr=>(∃ n,wr=w2.drewN n)∧∃ k:Nat,k≤D.jobs.length∧i=.int .i64 k) (fun i _=>D.jobs.length-(intOf i).toNat)
 case atStart=>exact ⟨⟨0,rfl⟩,0,zl,rfl⟩
 case round=>
  obtain ⟨⟨nd,rfl⟩,k,hk,rfl⟩:=hrel;by_cases hlt:k<D.jobs.length
  ·obtain ⟨b1,o1,rfl,p0,p1,p2,p3,p4,p5⟩:=a4.out.jobs k hlt
   obtain ⟨b2,o2,rfl,q0,q1,q2,q3,q4,q5⟩:=a5.out.jobs k hlt;have ab:(k:Int)<D.jobs.length:=by omega
   have ac:(0:Int)≤k:=by omega
   generalize D.jobs[k].1=y0 at *
   generalize D.jobs[k].2.1=y1 at *
   generalize D.jobs[k].2.2.1=y2 at *
   generalize D.jobs[k].2.2.2.1=y3 at *
   generalize D.jobs[k].2.2.2.2.1=y4 at *
   generalize D.jobs[k].2.2.2.2.2=y5 at *
   go_wp2;go_quiet (fail)
   go_wp2;go_roundw
   case rel=>exact ⟨⟨_,rfl⟩,k+1,by omega,by go_num⟩
   case measure=>simp [intOf];omega
  ·go_wp2
   go_loopw [6] (fun i wr=>Below w2.heap.size w2 wr∧∃ k:Nat,k≤D.ins.length∧i=.int .i64 k) (fun i _=>D.ins.length-(intOf i).toNat)
   case atStart=>exact ⟨below_drewN br _,0,zl,rfl⟩
   case round=>
    obtain ⟨a0,k,hk,rfl⟩:=hrel;have a6:=hid a0;clear hlt;by_cases hlt:k<D.ins.length
    ·obtain ⟨b1,o1,a1,c1,rfl,p0,p1,p2,p3,p4⟩:=(a4.out.keep a0).ins k hlt
     obtain ⟨b2,o2,a2,c2,rfl,q0,q1,q2,q3,q4⟩:=(a5.out.keep a0).ins k hlt;have ab:(k:Int)<D.ins.length:=by omega
     have ac:(0:Int)≤k:=by omega
     have aa:=Zg a0 k3 lr;have ah:=Zg a0 m3 lr;have P2:=hid p2;have Q2:=hid q2;clear p2 q2 a0;generalize D.ins[k].1=V at *
     generalize D.ins[k].2=l at *
     have HS:Hid (∀ w',Below wr.heap.size wr w'→w'.cell? ⟨w.heap.size,3,none⟩=some (.slice (some ⟨b1,o1,none⟩) D.ins.length cI)∧w'.cell? ⟨w.heap.size+1,3,none⟩=some (.slice (some ⟨b2,o2,none⟩) D.ins.length dI)∧w'.cell? ⟨b1,o1+k*2,none⟩=some (.slice a1 V.length c1)∧w'.cell? ⟨b1,o1+k*2+1,none⟩=some (.int .i64 l)∧w'.cell? ⟨b2,o2+k*2,none⟩=some (.slice a2 V.length c2)∧w'.cell? ⟨b2,o2+k*2+1,none⟩=some (.int .i64 l)):=hid fun w' hb=>⟨Zg hb aa lr,Zg hb ah lr,Zg hb p0 lr,Zg hb p1 lr,Zg hb q0 lr,Zg hb q1 lr⟩
     have a3:Below wr.heap.size wr wr.drew:=br.drew;go_wp2_with fail;go_region_held3 (fun w'=>w'.cell? ⟨w.heap.size,3,none⟩=some (.slice (some ⟨b1,o1,none⟩) D.ins.length cI)∧w'.cell? ⟨w.heap.size+1,3,none⟩=some (.slice (some ⟨b2,o2,none⟩) D.ins.length dI)∧w'.cell? ⟨b1,o1+k*2,none⟩=some (.slice a1 V.length c1)∧w'.cell? ⟨b1,o1+k*2+1,none⟩=some (.int .i64 l)∧w'.cell? ⟨b2,o2+k*2,none⟩=some (.slice a2 V.length c2)∧w'.cell? ⟨b2,o2+k*2+1,none⟩=some (.int .i64 l))
      (first|exact HS.out _ hB3|exact HS.out _ a3|go_keep)
      (first|(go_at_call 28;refine (Zjn a1 a2 V c1 c2 l _ (P2.out.keep a3) (Q2.out.keep a3) p4).mono ?_;rintro e w3 ⟨rfl,ad⟩;have hB3:=Zb a3 ad))
     have ae:=hid (Zb a6 hB3);clear HS hB3 a3 aa ah p0 p1 q0 q1;go_wp2;go_roundw
     case rel=>exact ⟨ae.out,k+1,by omega,by go_num⟩
     case measure=>simp [intOf];omega
    ·have aa:=Zg a0 k3 lr
     have a9:=Zg a0 k5 lr;clear a0;go_wp2;go_loopw [7] (fun i wr=>Below w2.heap.size w2 wr∧∃ k:Nat,k≤D.out.length∧i=.int .i64 k) (fun i _=>D.out.length-(intOf i).toNat)
     case atStart=>exact ⟨a6.out,0,zl,rfl⟩
     case round=>
      clear a6 aa a9;obtain ⟨a0,k,hk,rfl⟩:=hrel;have a6:=hid a0;clear hlt;by_cases hlt:k<D.out.length
      ·obtain ⟨b1,o1,a1,c1,rfl,p0,p2,p3,p4⟩:=(a4.out.keep a0).out k hlt
       obtain ⟨b2,o2,a2,c2,rfl,q0,q2,q3,q4⟩:=(a5.out.keep a0).out k hlt;have ab:(k:Int)<D.out.length:=by omega
       have ac:(0:Int)≤k:=by omega
       have a9:=Zg a0 k5 lr;have ai:=Zg a0 m5 lr;have P2:=hid p2;have Q2:=hid q2;clear p2 q2 a0;generalize D.out[k]=V at *
       have HS:Hid (∀ w',Below wr.heap.size wr w'→w'.cell? ⟨w.heap.size,5,none⟩=some (.slice (some ⟨b1,o1,none⟩) D.out.length cO)∧w'.cell? ⟨w.heap.size+1,5,none⟩=some (.slice (some ⟨b2,o2,none⟩) D.out.length dO)∧w'.cell? ⟨b1,o1+k,none⟩=some (.slice a1 V.length c1)∧w'.cell? ⟨b2,o2+k,none⟩=some (.slice a2 V.length c2)):=hid fun w' hb=>⟨Zg hb a9 lr,Zg hb ai lr,Zg hb p0 lr,Zg hb q0 lr⟩
       have a3:Below wr.heap.size wr wr.drew:=br.drew;go_wp2_with fail;go_region_held3 (fun w'=>w'.cell? ⟨w.heap.size,5,none⟩=some (.slice (some ⟨b1,o1,none⟩) D.out.length cO)∧w'.cell? ⟨w.heap.size+1,5,none⟩=some (.slice (some ⟨b2,o2,none⟩) D.out.length dO)∧w'.cell? ⟨b1,o1+k,none⟩=some (.slice a1 V.length c1)∧w'.cell? ⟨b2,o2+k,none⟩=some (.slice a2 V.length c2))
        (first|exact HS.out _ hB3|exact HS.out _ a3|go_keep)
        (first|(go_at_call 27;refine (Zaf a1 a2 V c1 c2 _ (P2.out.keep a3) (Q2.out.keep a3) p4).mono ?_;rintro e w3 ⟨rfl,ad⟩;have hB3:=Zb a3 ad))
       have ae:=hid (Zb a6 hB3);clear HS hB3 a3 a9 ai p0 q0;go_wp2;go_roundw
       case rel=>exact ⟨ae.out,k+1,by omega,by go_num⟩
       case measure=>simp [intOf];omega
      ·have a9:=Zg a0 k5 lr
       have aj:=Zg a0 k6 lr;clear a0;go_wp2;go_loopw [8] (fun i wr=>Below w2.heap.size w2 wr∧∃ k:Nat,k≤D.evs.length∧i=.int .i64 k) (fun i _=>D.evs.length-(intOf i).toNat)
       case atStart=>exact ⟨a6.out,0,zl,rfl⟩
       case round=>
        clear a6 a9 aj;obtain ⟨a0,k,hk,rfl⟩:=hrel;have a6:=hid a0;have aj:=Zg a0 k6 lr;have ao:=Zg a0 m6 lr;clear hlt;by_cases hlt:k<D.evs.length
        ·obtain ⟨b1,o1,rfl,p0,p1,p2,p3⟩:=(a4.out.keep a0).evs k hlt
         obtain ⟨b2,o2,rfl,q0,q1,q2,q3⟩:=(a5.out.keep a0).evs k hlt;have ab:(k:Int)<D.evs.length:=by omega
         have ac:(0:Int)≤k:=by omega
         generalize D.evs[k].1=y0 at *
         generalize D.evs[k].2.1=y1 at *
         generalize D.evs[k].2.2.1=y2 at *
         generalize D.evs[k].2.2.2=y3 at *
         clear a0;go_wp2;go_quiet (fail)
         go_wp2;go_roundw
         case rel=>exact ⟨below_drewN a6 _,k+1,by omega,by go_num⟩
         case measure=>simp [intOf];omega
        ·clear a0
         go_wp2;go_ret;exact ⟨rfl,HQ.out.trans (a6.out.mono HQ.out.size)⟩
end Go.Proofs.YtejhccmclanlmaaGreatDoor
