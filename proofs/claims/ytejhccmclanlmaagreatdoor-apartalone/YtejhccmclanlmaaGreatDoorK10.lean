/- Texts joined: Xf Xi Ya Za Yc Xfr Xir Yar. -/
import Derived.Deep.AppendLies
import Derived.OrdersHeld
import Derived.Test.YtejhccmclanlmaaGreatDoorK08
set_option linter.unusedVariables false
set_option maxRecDepth 100000
namespace Go.Proofs.YtejhccmclanlmaaGreatDoor
open Go.RowKit
theorem IntsIn.takex {w:World} {a:Option Addr} {ls:List Int} (h:IntsIn w a ls) (k:Nat):IntsIn w a (ls.take k):=by
 intro i hi
 have:i<ls.length:=by simp at hi;omega
 obtain ⟨b,o,e,h1⟩:=h i this
 exact ⟨b,o,e,by simpa using h1⟩
abbrev JobT:=Int×Int×Int×Int×Bool×Bool
abbrev EvT:=Int×Int×Int×Int
structure Dom where
 jobs:List JobT
 rel:List Int
 nxt:Int
 ins:List (List Int×Int)
 tak:List Int
 out:List (List Int)
 evs:List EvT
structure DMem where
 aJ:Option Addr
 aR:Option Addr
 aI:Option Addr
 aT:Option Addr
 aO:Option Addr
 aE:Option Addr
 cJ:Nat
 cR:Nat
 cI:Nat
 cT:Nat
 cO:Nat
 cE:Nat
abbrev dl (D:Dom) (A:DMem):Array Value:=#[.slice A.aJ D.jobs.length A.cJ,.slice A.aR D.rel.length A.cR,.int .i64 D.nxt,.slice A.aI D.ins.length A.cI,.slice A.aT D.tak.length A.cT,.slice A.aO D.out.length A.cO,.slice A.aE D.evs.length A.cE]
abbrev dv (D:Dom) (A:DMem):Value:=.agg (dl D A)
def JobsIn (w:World) (a:Option Addr) (ls:List JobT):Prop:=
 ∀ i (h:i<ls.length),∃ b o,a=some ⟨b,o,none⟩∧w.cell? ⟨b,o+i * 6,none⟩=some (.int .i64 ls[i].1)∧w.cell? ⟨b,o+i * 6+1,none⟩=some (.int .i64 ls[i].2.1)∧w.cell? ⟨b,o+i * 6+2,none⟩=some (.int .i64 ls[i].2.2.1)∧w.cell? ⟨b,o+i * 6+3,none⟩=some (.int .i64 ls[i].2.2.2.1)∧w.cell? ⟨b,o+i * 6+4,none⟩=some (.bool ls[i].2.2.2.2.1)∧w.cell? ⟨b,o+i * 6+5,none⟩=some (.bool ls[i].2.2.2.2.2)
def EvsIn (w:World) (a:Option Addr) (ls:List EvT):Prop:=
 ∀ i (h:i<ls.length),∃ b o,a=some ⟨b,o,none⟩∧w.cell? ⟨b,o+i * 4,none⟩=some (.int .i64 ls[i].1)∧w.cell? ⟨b,o+i * 4+1,none⟩=some (.int .i64 ls[i].2.1)∧w.cell? ⟨b,o+i * 4+2,none⟩=some (.int .i64 ls[i].2.2.1)∧w.cell? ⟨b,o+i * 4+3,none⟩=some (.int .i64 ls[i].2.2.2)
def RingsIn (w:World) (a:Option Addr) (ls:List (List Int×Int)):Prop:=
 ∀ i (h:i<ls.length),∃ b o a' c',a=some ⟨b,o,none⟩∧w.cell? ⟨b,o+i * 2,none⟩=some (.slice a' ls[i].1.length c')∧w.cell? ⟨b,o+i * 2+1,none⟩=some (.int .i64 ls[i].2)∧IntsIn w a' ls[i].1∧ls[i].1.length≤c'∧ls[i].1.length≤9223372036854775807
def ListsIn (w:World) (a:Option Addr) (ls:List (List Int)):Prop:=
 ∀ i (h:i<ls.length),∃ b o a' c',a=some ⟨b,o,none⟩∧w.cell? ⟨b,o+i,none⟩=some (.slice a' ls[i].length c')∧IntsIn w a' ls[i]∧ls[i].length≤c'∧ls[i].length≤9223372036854775807
section
variable {w w':World} {a:Option Addr}
theorem JobsIn.keep {ls:List JobT} (h:JobsIn w a ls) (hb:Below w.heap.size w w'):JobsIn w' a ls:=by
 intro i hi
 obtain ⟨b,o,e,h1,h2,h3,h4,h5,h6⟩:=h i hi
 exact ⟨b,o,e,bkeep hb h1 lr,bkeep hb h2 lr,bkeep hb h3 lr,bkeep hb h4 lr,bkeep hb h5 lr,bkeep hb h6 lr⟩
theorem EvsIn.keep {ls:List EvT} (h:EvsIn w a ls) (hb:Below w.heap.size w w'):EvsIn w' a ls:=by
 intro i hi
 obtain ⟨b,o,e,h1,h2,h3,h4⟩:=h i hi
 exact ⟨b,o,e,bkeep hb h1 lr,bkeep hb h2 lr,bkeep hb h3 lr,bkeep hb h4 lr⟩
theorem RingsIn.keep {ls:List (List Int×Int)} (h:RingsIn w a ls) (hb:Below w.heap.size w w'):RingsIn w' a ls:=by
 intro i hi
 obtain ⟨b,o,a',c',e,h1,h2,h3,h4⟩:=h i hi
 exact ⟨b,o,a',c',e,bkeep hb h1 lr,bkeep hb h2 lr,h3.keep hb,h4⟩
theorem ListsIn.keep {ls:List (List Int)} (h:ListsIn w a ls) (hb:Below w.heap.size w w'):ListsIn w' a ls:=by
 intro i hi
 obtain ⟨b,o,a',c',e,h1,h2,h3⟩:=h i hi
 exact ⟨b,o,a',c',e,bkeep hb h1 lr,h2.keep hb,h3⟩
end
structure DomIn (w:World) (A:DMem) (D:Dom):Prop where
 jobs:JobsIn w A.aJ D.jobs
 rel:IntsIn w A.aR D.rel
 ins:RingsIn w A.aI D.ins
 tak:IntsIn w A.aT D.tak
 out:ListsIn w A.aO D.out
 evs:EvsIn w A.aE D.evs
 lJ:D.jobs.length≤9223372036854775807
 lR:D.rel.length≤9223372036854775807
 lI:D.ins.length≤9223372036854775807
 lT:D.tak.length≤9223372036854775807
 lO:D.out.length≤9223372036854775807
 lE:D.evs.length≤9223372036854775807
theorem DomIn.keep {w w':World} {A:DMem} {D:Dom} (h:DomIn w A D) (hb:Below w.heap.size w w'):DomIn w' A D:=
 ⟨h.jobs.keep hb,h.rel.keep hb,h.ins.keep hb,h.tak.keep hb,h.out.keep hb,h.evs.keep hb,h.lJ,h.lR,h.lI,h.lT,h.lO,h.lE⟩
theorem eq106 (x y z u:Int) (p q:Bool) (w:World):(Op.equalIn 10000 87 (.agg #[.int .i64 x,.int .i64 y,.int .i64 z,.int .i64 u,.bool p,.bool q]) (.agg #[.int .i64 x,.int .i64 y,.int .i64 z,.int .i64 u,.bool p,.bool q])).run Tryz.prog w=.ok true w:=by
 have u3:=Tryz.underlying3
 have a3:=Tryz.isAgg3
 have z3:=Tryz.sizeOf3
 have u4:=Tryz.underlying4
 have a4:=Tryz.isAgg4
 have z4:=Tryz.sizeOf4
 have hS:Tryz.prog.underlying 87=some (.struct (Tryz.prog.fieldsOf 87)):=by kernel_rfl
 have hp:Tryz.prog.stoodInHeld 87=false:=by kernel_rfl
 rw [show (10000:Nat)=9999+1 from rfl,run_equalIn_agg w 9999 87 _ _ hS hp]
 simp only [Program.fieldsOf,Tryz.underlying87]
 go_simp
theorem eq146 (x y z u:Int) (w:World):(Op.equalIn 10000 92 (.agg #[.int .i64 x,.int .i64 y,.int .i64 z,.int .i64 u]) (.agg #[.int .i64 x,.int .i64 y,.int .i64 z,.int .i64 u])).run Tryz.prog w=.ok true w:=by
 have u3:=Tryz.underlying3
 have a3:=Tryz.isAgg3
 have z3:=Tryz.sizeOf3
 have hS:Tryz.prog.underlying 92=some (.struct (Tryz.prog.fieldsOf 92)):=by kernel_rfl
 have hp:Tryz.prog.stoodInHeld 92=false:=by kernel_rfl
 rw [show (10000:Nat)=9999+1 from rfl,run_equalIn_agg w 9999 92 _ _ hS hp]
 simp only [Program.fieldsOf,Tryz.underlying92]
 go_simp
theorem flatN_len {α:Type} (f:α→List Value) (n:Nat) (hf:∀ x,(f x).length=n) (l:List α):(l.flatMap f).length=l.length * n:=by
 induction l with
 | nil=>simp
 | cons x r ih=>simp only [List.flatMap_cons,List.length_append,hf,ih,List.length_cons,Nat.add_mul];omega
theorem flatN_at {α:Type} (f:α→List Value) (n:Nat) (hf:∀ x,(f x).length=n) (l:List α) (i r:Nat) (h:i<l.length) (hr:r<n):(l.flatMap f)[i * n+r]? = (f l[i])[r]? := by
 induction l generalizing i with
 | nil=>simp at h
 | cons x t ih=>
  cases i with
  | zero=>simp [List.getElem?_append,hf,hr]
  | succ i=>
   have h2:=ih i (by simpa using h)
   have e1:(i+1) * n+r=n+(i * n+r):=by rw [Nat.add_mul];omega
   rw [List.flatMap_cons,e1,List.getElem?_append_right (by rw [hf];omega),hf,Nat.add_sub_cancel_left,h2]
   simp
theorem flatN_mem {α:Type} (f:α→List Value) (p:Value→Prop) (hf:∀ x,∀ u∈f x,p u) (l:List α):∀ u∈l.flatMap f,p u:=by
 intro u hu
 obtain ⟨x,_,h⟩:=List.mem_flatMap.1 hu
 exact hf x u h
def jc (j:JobT):List Value:=[.int .i64 j.1,.int .i64 j.2.1,.int .i64 j.2.2.1,.int .i64 j.2.2.2.1,.bool j.2.2.2.2.1,.bool j.2.2.2.2.2]
def ec (x:EvT):List Value:=[.int .i64 x.1,.int .i64 x.2.1,.int .i64 x.2.2.1,.int .i64 x.2.2.2]
def fJ (J:List JobT):List Value:=J.flatMap jc
def fE (E:List EvT):List Value:=E.flatMap ec
theorem fJ_len (J:List JobT):(fJ J).length=J.length * 6:=flatN_len jc 6 (fun _=>rfl) J
theorem fE_len (J:List EvT):(fE J).length=J.length * 4:=flatN_len ec 4 (fun _=>rfl) J
theorem fJ_app (J K:List JobT):fJ (J++K)=fJ J++fJ K:=by simp [fJ]
theorem fE_app (J K:List EvT):fE (J++K)=fE J++fE K:=by simp [fE]
theorem fJ_one (J:List JobT):∀ u∈fJ J,u.oneCell'=true:=flatN_mem jc _ (fun x u hu=>by
 simp only [jc,List.mem_cons,List.not_mem_nil,or_false] at hu
 rcases hu with rfl|rfl|rfl|rfl|rfl|rfl <;> rfl) J
theorem fE_one (J:List EvT):∀ u∈fE J,u.oneCell'=true:=flatN_mem ec _ (fun x u hu=>by
 simp only [ec,List.mem_cons,List.not_mem_nil,or_false] at hu
 rcases hu with rfl|rfl|rfl|rfl <;> rfl) J
def CellsIn (w:World) (a:Option Addr) (xs:List Value):Prop:=xs≠[]→∃ b o,a=some ⟨b,o,none⟩∧∀ j u,xs[j]? = some u→w.cell? ⟨b,o+j,none⟩=some u
theorem JobsIn.cells {w:World} {a:Option Addr} {J:List JobT} (h:JobsIn w a J):CellsIn w a (fJ J):=by
 intro hne
 have hp:0<J.length:=List.length_pos_iff.2 (fun e=>hne (by rw [e];rfl))
 obtain ⟨b,o,rfl,_⟩:=h 0 hp
 refine ⟨b,o,rfl,fun j u hu=>?_⟩
 have hj:j<J.length * 6:=by rw [← fJ_len];exact (List.getElem?_eq_some_iff.1 hu).1
 have hi:j / 6<J.length:=by omega
 obtain ⟨b',o',e,h0,h1,h2,h3,h4,h5⟩:=h (j / 6) hi
 simp only [Option.some.injEq,Addr.mk.injEq,and_true] at e
 obtain ⟨rfl,rfl⟩:=e
 have hat:=flatN_at jc 6 (fun _=>rfl) J (j / 6) (j % 6) hi (Nat.mod_lt _ (by omega))
 have ej:j / 6 * 6+j % 6=j:=by omega
 rw [ej] at hat
 have hu':(jc J[j / 6])[j % 6]? = some u:=by rw [← hat];exact hu
 have hc:j % 6=0∨j % 6=1∨j % 6=2∨j % 6=3∨j % 6=4∨j % 6=5:=by omega
 rcases hc with hc|hc|hc|hc|hc|hc <;> rw [hc] at hu' <;> simp [jc] at hu' <;> subst hu'
 ·rw [show o+j=o+j / 6 * 6 from by omega];exact h0
 ·rw [show o+j=o+j / 6 * 6+1 from by omega];exact h1
 ·rw [show o+j=o+j / 6 * 6+2 from by omega];exact h2
 ·rw [show o+j=o+j / 6 * 6+3 from by omega];exact h3
 ·rw [show o+j=o+j / 6 * 6+4 from by omega];exact h4
 ·rw [show o+j=o+j / 6 * 6+5 from by omega];exact h5
theorem EvsIn.cells {w:World} {a:Option Addr} {J:List EvT} (h:EvsIn w a J):CellsIn w a (fE J):=by
 intro hne
 have hp:0<J.length:=List.length_pos_iff.2 (fun e=>hne (by rw [e];rfl))
 obtain ⟨b,o,rfl,_⟩:=h 0 hp
 refine ⟨b,o,rfl,fun j u hu=>?_⟩
 have hj:j<J.length * 4:=by rw [← fE_len];exact (List.getElem?_eq_some_iff.1 hu).1
 have hi:j / 4<J.length:=by omega
 obtain ⟨b',o',e,h0,h1,h2,h3⟩:=h (j / 4) hi
 simp only [Option.some.injEq,Addr.mk.injEq,and_true] at e
 obtain ⟨rfl,rfl⟩:=e
 have hat:=flatN_at ec 4 (fun _=>rfl) J (j / 4) (j % 4) hi (Nat.mod_lt _ (by omega))
 have ej:j / 4 * 4+j % 4=j:=by omega
 rw [ej] at hat
 have hu':(ec J[j / 4])[j % 4]? = some u:=by rw [← hat];exact hu
 have hc:j % 4=0∨j % 4=1∨j % 4=2∨j % 4=3:=by omega
 rcases hc with hc|hc|hc|hc <;> rw [hc] at hu' <;> simp [ec] at hu' <;> subst hu'
 ·rw [show o+j=o+j / 4 * 4 from by omega];exact h0
 ·rw [show o+j=o+j / 4 * 4+1 from by omega];exact h1
 ·rw [show o+j=o+j / 4 * 4+2 from by omega];exact h2
 ·rw [show o+j=o+j / 4 * 4+3 from by omega];exact h3
theorem owns_cells {w:World} {base e sz n:Nat} {v:Value} {xs:List Value} (h:w.ownsRow base e sz v n xs):∃ a c,v=.slice a n c∧n≤c∧n≤maxLen∧CellsIn w a xs∧(∀ b o,a=some ⟨b,o,none⟩→o=0∧base≤b∧b<w.heap.size):=by
 have h':=h
 obtain ⟨hl,hv⟩:=h
 rcases hv with ⟨rfl,hn⟩|⟨g,cap,cur,rfl,hb,hg,hnc,hm,hcs,ht⟩
 ·exact ⟨none,0,by rw [hn],by omega,by omega,fun hne=>absurd (List.length_eq_zero_iff.1 (by rw [hl,hn];omega)) hne,fun b o e=>by simp at e⟩
 ·refine ⟨_,cap,rfl,hnc,by omega,fun _=>⟨g,0,rfl,fun j u hu=>?_⟩,fun b o e=>?_⟩
  ·have:=h'.cells (g:=g) rfl j u hu
   rw [addZ] at this
   rw [Nat.zero_add];exact this
  ·simp at e
   obtain ⟨rfl,rfl⟩:=e
   exact ⟨rfl,hb,(Array.getElem?_eq_some_iff.1 hg).1⟩
theorem owns_below {w w':World} {base e sz n:Nat} {v:Value} {xs:List Value} (h:w.ownsRow base e sz v n xs) (hb:Below w.heap.size w w'):w'.ownsRow base e sz v n xs:=by
 refine ⟨h.1,?_⟩
 rcases h.2 with q|⟨g,cap,cur,e1,e2,e3,r⟩
 ·exact .inl q
 ·have hlt:g<w.heap.size:=(Array.getElem?_eq_some_iff.1 e3).1
  exact .inr ⟨g,cap,cur,e1,e2,by rw [hb.block g hlt];exact e3,r⟩
theorem jobsIn_of {w:World} {a:Option Addr} {J:List JobT} (h:CellsIn w a (fJ J)):JobsIn w a J:=by
 intro i hi
 have hne:fJ J≠[]:=fun e=>by have:=fJ_len J;rw [e] at this;simp at this;omega
 obtain ⟨b,o,rfl,hc⟩:=h hne
 have hat:=fun r hr=>flatN_at jc 6 (fun _=>rfl) J i r hi hr
 refine ⟨b,o,rfl,?_,?_,?_,?_,?_,?_⟩
 ·exact hc (i * 6) _ ((hat 0 (by omega)).trans rfl)
 ·rw [Nat.add_assoc];exact hc _ _ ((hat 1 (by omega)).trans rfl)
 ·rw [Nat.add_assoc];exact hc _ _ ((hat 2 (by omega)).trans rfl)
 ·rw [Nat.add_assoc];exact hc _ _ ((hat 3 (by omega)).trans rfl)
 ·rw [Nat.add_assoc];exact hc _ _ ((hat 4 (by omega)).trans rfl)
 ·rw [Nat.add_assoc];exact hc _ _ ((hat 5 (by omega)).trans rfl)
theorem evsIn_of {w:World} {a:Option Addr} {J:List EvT} (h:CellsIn w a (fE J)):EvsIn w a J:=by
 intro i hi
 have hne:fE J≠[]:=fun e=>by have:=fE_len J;rw [e] at this;simp at this;omega
 obtain ⟨b,o,rfl,hc⟩:=h hne
 have hat:=fun r hr=>flatN_at ec 4 (fun _=>rfl) J i r hi hr
 refine ⟨b,o,rfl,?_,?_,?_,?_⟩
 ·exact hc (i * 4) _ ((hat 0 (by omega)).trans rfl)
 ·rw [Nat.add_assoc];exact hc _ _ ((hat 1 (by omega)).trans rfl)
 ·rw [Nat.add_assoc];exact hc _ _ ((hat 2 (by omega)).trans rfl)
 ·rw [Nat.add_assoc];exact hc _ _ ((hat 3 (by omega)).trans rfl)
theorem intsIn_of {w:World} {a:Option Addr} {L:List Int} (h:CellsIn w a (ivs L)):IntsIn w a L:=by
 intro i hi
 have hne:ivs L≠[]:=fun e=>by have:=ivs_len L;rw [e] at this;simp at this;omega
 obtain ⟨b,o,rfl,hc⟩:=h hne
 exact ⟨b,o,rfl,hc i _ (by simp [ivs,hi])⟩
theorem wpList_appG {ops:Array Oper} {rest:List Oper} {o:Oper} {a:Act} {w:World} {Q:Exit→Act→World→Prop} (hgd:o.guard=none) (s x:Operand) (t e:TypeId)
  (ho:o.op=.call { callee:=.builtin .append,args:=#[s,x],argTypes:=#[t,t] }) (z:Value) (sz by_:Nat) (ht:Tryz.prog.underlying t=some (.slice e)) (hI:(Tryz.prog.info? e).map (fun i=>(i.zero,i.size,i.bytes))=some (some z,sz,by_)) (hzs:z.cells.size=sz) (hsz:0<sz)
  (base:Nat) (v:Value) (n:Nat) (xs:List Value) (hs:a.eval s=v) (hown:w.ownsRow base e sz v n xs)
  (m:Nat) (news:List Value) (hlen:news.length=m * sz) (h1:∀ u∈news,u.oneCell'=true) (a6:Option Addr) (c6:Nat) (hx:a.eval x=.slice a6 m c6) (hL:CellsIn w a6 news) (h63:n+m≤maxLen) (hbytes:(n+m) * by_≤140737488355328) (hbase:base≤w.heap.size)
  (h:∀ v' w',w'.ownsRow base e sz v' (n+m) (xs++news)→w.grownBy w' v.ownBlock→wpList Tryz.prog ops Q rest (a.put o.dst v') w'):wpList Tryz.prog ops Q (o :: rest) a w:=by
 obtain ⟨i3,hi,hz,hsz',hby⟩:=infoOf hI
 by_cases hL0:m=0
 ·subst hL0
  have hn0:news=[]:=List.length_eq_zero_iff.1 (by rw [hlen];omega)
  subst hn0
  have hroom:∃ p cap,v=.slice p n cap∧n≤cap:=by
   rcases hown.2 with ⟨e,e2⟩|⟨g,cap,_,e,_,_,h,_⟩
   ·exact ⟨none,0,by rw [e,e2],by omega⟩
   ·exact ⟨_,cap,e,h⟩
  obtain ⟨p,cap,rfl,hr⟩:=hroom
  refine wpList_plain hgd fun K hK=>?_
  have hrun:=append_none (P:=Tryz.prog) w t o.type e i3 ht hi p n cap a6 c6 hr
  unfold Oper.wp
  simp [execOp,ho,resolve,invoke,builtin,hs,hx,hrun,Result.andThen]
  exact hK _ _ (h _ _ (by simpa using hown) ⟨rfl,rfl,rfl,Nat.le_refl _,fun _ _ _=>rfl⟩)
 ·have hne:news≠[]:=fun e=>by
   have hp:=Nat.mul_pos (Nat.pos_of_ne_zero hL0) hsz
   rw [← hlen,e] at hp
   exact absurd hp (by simp)
  obtain ⟨b,off,rfl,hc⟩:=hL hne
  refine wpList_append_own w hgd s x t ho base e i3 z sz by_ ht hi hz hsz' hby hzs hsz v n xs hs hown ⟨b,off,none⟩ m c6 news hx hlen ?_ h1 h63 hbytes hbase (fun v' w' h1 h2 _=>h v' w' h1 h2)
  intro j u hu
  have hadd:(⟨b,off,none⟩:Addr).add j=⟨b,off+j,none⟩:=by unfold Addr.add;split <;> simp_all
  rw [hadd]
  exact hc j u hu
theorem Tryz.info87x:(Tryz.prog.info? 87).map (fun i=>(i.zero,i.size,i.bytes))=some (some (.agg #[.int .i64 0,.int .i64 0,.int .i64 0,.int .i64 0,.bool false,.bool false]),6,40):=by kernel_rfl
theorem Tryz.info92x:(Tryz.prog.info? 92).map (fun i=>(i.zero,i.size,i.bytes))=some (some (.agg #[.int .i64 0,.int .i64 0,.int .i64 0,.int .i64 0]),4,32):=by kernel_rfl
section
set_option maxRecDepth 100000
set_option maxHeartbeats 400000
theorem clone123_any (a:Option Addr) (J:List JobT) (cap:Nat) (w:World) (hw:JobsIn w a J) (hl:J.length≤1000000000000) :
  Calls Tryz.prog 96 #[.slice a J.length cap] w fun e w'=>∃ v,e=.returned v∧w'.ownsRow w.heap.size 87 6 v J.length (fJ J)∧Below w.heap.size w w':=by
 have hnilq:=fun (w:World) (a:Option Addr) (n c:Nat)=>Lib.run_eql_slice_nil (P:=Tryz.prog) w 41 87 a n c 0 0 Tryz.underlying41
 cases a with
 | none=>
  have hJ:J=[]:=by
   cases J with
   | nil=>rfl
   | cons x r=>obtain ⟨b,o,e,_⟩:=hw 0 (by simp);cases e
  subst hJ
  go_enter Tryz.func96,Tryz.ntmps96
  go_wp2
  go_ret
  exact ⟨_,rfl,World.ownsRow_nil _ _ _ _,Below.refl _ _⟩
 | some p=>
  have h1:Below w.heap.size w (w.alloc (.cells #[] 87)):=below_new _ _
  have hown:Hid ((w.alloc (.cells #[] 87)).ownsRow w.heap.size 87 6 (.slice (some ⟨w.heap.size,0,none⟩) 0 0) 0 []):=hid (World.ownsRow_made w #[] 0 lr (by simp [maxLen]) rfl)
  have Hw:=hid (hw.keep h1).cells
  go_enter Tryz.func96,Tryz.ntmps96
  go_wp2_with (at_builtin;refine wpList_appG rfl _ _ 41 87 rfl _ 6 40 Tryz.underlying41 Tryz.info87x rfl (by omega) w.heap.size (.slice (some ⟨w.heap.size,0,none⟩) 0 0) 0 [] rfl hown.out J.length (fJ J) (fJ_len J) (fJ_one J) _ _ rfl Hw.out (by simp [maxLen];omega) (by omega) (by simp) ?_)
  intro v' w1 hown1 hgrow
  have HE:=hid (show w1.ownsRow w.heap.size 87 6 v' J.length (fJ J)∧Below w.heap.size w w1 from ⟨by simpa using hown1,h1.grown hgrow (by simp) (fun k hk=>by simp [Value.ownBlock] at hk;omega)⟩)
  clear hown1 hgrow hown h1 Hw
  go_wp2
  go_ret
  exact ⟨_,rfl,HE.out⟩
theorem clone124_any (a:Option Addr) (J:List EvT) (cap:Nat) (w:World) (hw:EvsIn w a J) (hl:J.length≤1000000000000) :
  Calls Tryz.prog 98 #[.slice a J.length cap] w fun e w'=>∃ v,e=.returned v∧w'.ownsRow w.heap.size 92 4 v J.length (fE J)∧Below w.heap.size w w':=by
 have hnilq:=fun (w:World) (a:Option Addr) (n c:Nat)=>Lib.run_eql_slice_nil (P:=Tryz.prog) w 44 92 a n c 0 0 Tryz.underlying44
 cases a with
 | none=>
  have hJ:J=[]:=by
   cases J with
   | nil=>rfl
   | cons x r=>obtain ⟨b,o,e,_⟩:=hw 0 (by simp);cases e
  subst hJ
  go_enter Tryz.func98,Tryz.ntmps98
  go_wp2
  go_ret
  exact ⟨_,rfl,World.ownsRow_nil _ _ _ _,Below.refl _ _⟩
 | some p=>
  have h1:Below w.heap.size w (w.alloc (.cells #[] 92)):=below_new _ _
  have hown:Hid ((w.alloc (.cells #[] 92)).ownsRow w.heap.size 92 4 (.slice (some ⟨w.heap.size,0,none⟩) 0 0) 0 []):=hid (World.ownsRow_made w #[] 0 lr (by simp [maxLen]) rfl)
  have Hw:=hid (hw.keep h1).cells
  go_enter Tryz.func98,Tryz.ntmps98
  go_wp2_with (at_builtin;refine wpList_appG rfl _ _ 44 92 rfl _ 4 32 Tryz.underlying44 Tryz.info92x rfl (by omega) w.heap.size (.slice (some ⟨w.heap.size,0,none⟩) 0 0) 0 [] rfl hown.out J.length (fE J) (fE_len J) (fE_one J) _ _ rfl Hw.out (by simp [maxLen];omega) (by omega) (by simp) ?_)
  intro v' w1 hown1 hgrow
  have HE:=hid (show w1.ownsRow w.heap.size 92 4 v' J.length (fE J)∧Below w.heap.size w w1 from ⟨by simpa using hown1,h1.grown hgrow (by simp) (fun k hk=>by simp [Value.ownBlock] at hk;omega)⟩)
  clear hown1 hgrow hown h1 Hw
  go_wp2
  go_ret
  exact ⟨_,rfl,HE.out⟩
theorem clone87b_any (a:Option Addr) (L:List Int) (cap:Nat) (w:World) (hw:IntsIn w a L) (hl:L.length≤1000000000000) :
  Calls Tryz.prog 97 #[.slice a L.length cap] w fun e w'=>∃ v,e=.returned v∧w'.ownsRow w.heap.size 3 1 v L.length (ivs L)∧Below w.heap.size w w':=by
 have hnilq:=fun (w:World) (a:Option Addr) (n c:Nat)=>Lib.run_eql_slice_nil (P:=Tryz.prog) w 23 3 a n c 0 0 Tryz.underlying23
 cases a with
 | none=>
  have hJ:L=[]:=by
   cases L with
   | nil=>rfl
   | cons x r=>obtain ⟨b,o,e,_⟩:=hw 0 (by simp);cases e
  subst hJ
  go_enter Tryz.func97,Tryz.ntmps97
  go_wp2
  go_ret
  exact ⟨_,rfl,World.ownsRow_nil _ _ _ _,Below.refl _ _⟩
 | some p=>
  have h1:Below w.heap.size w (w.alloc (.cells #[] 3)):=below_new _ _
  have hown:Hid ((w.alloc (.cells #[] 3)).ownsRow w.heap.size 3 1 (.slice (some ⟨w.heap.size,0,none⟩) 0 0) 0 []):=hid (World.ownsRow_made w #[] 0 lr (by simp [maxLen]) rfl)
  have Hw:=hid (hw.keep h1)
  go_enter Tryz.func97,Tryz.ntmps97
  go_wp2_with (at_builtin;refine wpList_appI rfl _ _ rfl w.heap.size (.slice (some ⟨w.heap.size,0,none⟩) 0 0) 0 [] rfl hown.out L _ _ rfl Hw.out (by simp [maxLen];omega) (by omega) (by simp) ?_)
  intro v' w1 hown1 hgrow
  have HE:=hid (show w1.ownsRow w.heap.size 3 1 v' L.length (ivs L)∧Below w.heap.size w w1 from ⟨by simpa using hown1,h1.grown hgrow (by simp) (fun k hk=>by simp [Value.ownBlock] at hk;omega)⟩)
  clear hown1 hgrow hown h1 Hw
  go_wp2
  go_ret
  exact ⟨_,rfl,HE.out⟩
end
def ckPlace (C:Conf) (dn:Int):Int:=if ckC C=0 then (if inR dn 0 (C.d - 1) then 0 else 5) else ckC C
def ckShp (C:Conf) (D:Dom):Int:=if D.rel.length=C.ta.length∧D.ins.length=C.ch.length∧D.out.length=C.ch.length∧D.tak.length=C.ow.length then 0 else 1
def ckNums (D:Dom):Int:=if allR D.rel 0 100000 && inR D.nxt 0 100000 && allR D.tak 0 15 then 0 else 3
def long60 (l:List Int):Bool:=decide (60<l.length)
def bad255 (l:List Int):Bool:=!allR l 0 255
def ckOuts (D:Dom):Int:=if D.out.any long60 then 2 else if D.out.any bad255 then 3 else 0
theorem ckC_d {C:Conf} (h:ckC C=0):1≤C.d∧C.d≤4:=by
 have h1:=(ck_ok h).1
 unfold ckNum at h1
 split at h1
 ·rename_i h2
  simp [inR] at h2
  omega
 ·omega
abbrev kl (D:Dom) (A:DMem) (C:Conf) (B:Mem) (dn:Int):List Value:=[.slice A.aJ D.jobs.length A.cJ,.slice A.aR D.rel.length A.cR,.int .i64 D.nxt,.slice A.aI D.ins.length A.cI,.slice A.aT D.tak.length A.cT,.slice A.aO D.out.length A.cO,.slice A.aE D.evs.length A.cE,.int .i64 C.s,.int .i64 C.w,.int .i64 C.d,.int .i64 C.p,.int .i64 C.q,.slice B.a5 C.sl.length B.c5,.slice B.a6 C.ow.length B.c6,.slice B.a7 C.ch.length B.c7,.slice B.a8 C.ta.length B.c8,.int .i64 dn]
structure KeepIn (w:World) (kb:Nat) (D:Dom) (A:DMem) (C:Conf) (B:Mem) (dn:Int):Prop where
 row:RowAt w kb 179 (kl D A C B dn)
 dom:DomIn w A D
 con:ConfIn w B C
theorem KeepIn.keep {w w':World} {kb:Nat} {D:Dom} {A:DMem} {C:Conf} {B:Mem} {dn:Int} (h:KeepIn w kb D A C B dn) (hb:Below w.heap.size w w'):KeepIn w' kb D A C B dn:=
 ⟨h.row.below hb lr,h.dom.keep hb,h.con.keep hb⟩
set_option maxHeartbeats 1000000 in
theorem checkPlace_any (C:Conf) (B:Mem) (dn:Int) (w:World) (hC:ConfIn w B C) :
  Calls Tryz.prog 64 #[cv C B,.int .i64 dn] w fun e w'=>e=.returned (.int .i64 (ckPlace C dn))∧Below w.heap.size w w':=by
 have q1:=below_new w (.cells (cl C B) 27)
 have HC:=hid (hC.keep q1)
 have HX:=hid (boxC_new w C B)
 have HB:=hid q1
 clear q1 hC
 obtain ⟨a5,a6,a7,a8,c5,c6,c7,c8⟩:=B
 dsimp only [cv,cl] at *
 go_enter Tryz.func64,Tryz.ntmps64
 go_wp2_with fail
 refine (checkC_any C ⟨a5,a6,a7,a8,c5,c6,c7,c8⟩ _ HC.out).mono ?_
 rintro e w1 ⟨rfl,hb1⟩
 have HB1:=hid (btrans HB.out hb1)
 have g2:=(HX.out.keep hb1).h2
 by_cases h0:ckC C=0
 ·have H0:=hid h0
  have hd:=ckC_d h0
  rw [h0]
  clear h0 hb1 HX HC HB
  have hw1:wrap64 (C.d - 1)=C.d - 1:=by unfold wrap64;omega
  go_wp2_with fail
  refine (within_any _ _ _ _).mono ?_
  rintro e w' ⟨rfl,rfl⟩
  cases h1:inR dn 0 (C.d - 1) with
  | true=>
   go_wp2
   go_ret
   exact ⟨ret_int (by simp [ckPlace,H0.out,h1]),HB1.out⟩
  | false=>
   go_wp2
   go_ret
   exact ⟨ret_int (by simp [ckPlace,H0.out,h1]),HB1.out⟩
 ·have hx:(ckC C != 0)=true:=by simp [h0]
  have HE:Hid (ckPlace C dn=ckC C):=hid (by simp [ckPlace,h0])
  clear h0 hb1 HX HC HB g2
  generalize ckC C=q at *
  go_wp2
  go_ret
  exact ⟨ret_int HE.out.symm,HB1.out⟩
set_option maxHeartbeats 2000000 in
theorem checkNums_any (kb:Nat) (D:Dom) (A:DMem) (C:Conf) (B:Mem) (dn:Int) (w:World) (hK:KeepIn w kb D A C B dn) :
  Calls Tryz.prog 92 #[.pointer (some ⟨kb,0,none⟩)] w fun e w'=>e=.returned (.int .i64 (ckNums D))∧Below w.heap.size w w':=by
 have HK:=hid hK
 have c1:=hK.row.cell 1 _ rfl
 clear hK
 go_enter Tryz.func92,Tryz.ntmps92
 go_wp2_with fail
 refine (all_any 0 100000 A.aR D.rel A.cR _ HK.out.dom.rel HK.out.dom.lR).mono ?_
 rintro e w1 ⟨rfl,hb1⟩
 have HK1:=hid (HK.out.keep hb1)
 have HB1:=hid hb1
 cases h1:allR D.rel 0 100000 with
 | false=>
  go_wp2
  go_ret
  exact ⟨ret_int (by simp [ckNums,h1]),HB1.out⟩
 | true=>
  have H1:=hid h1
  clear h1 hb1 c1
  have c2:=HK1.out.row.cell 2 _ rfl
  have c4:=HK1.out.row.cell 4 _ rfl
  go_wp2_with fail
  refine (within_any _ _ _ _).mono ?_
  rintro e w' ⟨rfl,rfl⟩
  cases h2:inR D.nxt 0 100000 with
  | false=>
   go_wp2
   go_ret
   exact ⟨ret_int (by simp [ckNums,h2]),HB1.out⟩
  | true=>
   have H2:=hid h2
   clear h2
   go_wp2_with fail
   refine (all_any 0 15 A.aT D.tak A.cT _ HK1.out.dom.tak HK1.out.dom.lT).mono ?_
   rintro e w2 ⟨rfl,hb2⟩
   have HB2:=hid (btrans HB1.out hb2)
   cases h3:allR D.tak 0 15 with
   | false=>
    go_wp2
    go_ret
    exact ⟨ret_int (by simp [ckNums,h3]),HB2.out⟩
   | true=>
    go_wp2
    go_ret
    exact ⟨ret_int (by simp [ckNums,H1.out,H2.out,h3]),HB2.out⟩
set_option maxHeartbeats 400000 in
theorem outs1_any (a:Option Addr) (L:List Int) (cap:Nat) (hl:L.length≤9223372036854775807) (w:World) :
  Calls Tryz.prog 131 #[.slice a L.length cap] w fun e w'=>e=.returned (.bool (long60 L))∧Below w.heap.size w w':=by
 go_enter Tryz.func131,Tryz.ntmps131
 go_wp2
 go_ret
 exact ⟨ret_bool (by rw [long60,Bool.eq_iff_iff];simp;omega),Below.refl _ _⟩
set_option maxHeartbeats 400000 in
theorem outs2_any (a:Option Addr) (L:List Int) (cap:Nat) (hl:L.length≤9223372036854775807) (w:World) (hi:IntsIn w a L) :
  Calls Tryz.prog 132 #[.slice a L.length cap] w fun e w'=>e=.returned (.bool (bad255 L))∧Below w.heap.size w w':=by
 go_enter Tryz.func132,Tryz.ntmps132
 go_wp2_with fail
 refine (all_any 0 255 a L cap _ hi hl).mono ?_
 rintro e w1 ⟨rfl,hb1⟩
 go_wp2
 go_ret
 exact ⟨rfl,hb1⟩
set_option maxHeartbeats 400000 in
theorem index156_135 (a:Option Addr) (LL:List (List Int)) (cap:Nat) (w:World) (hw:ListsIn w a LL) (hl:LL.length≤9223372036854775807) :
  Calls Tryz.prog 152 #[.slice a LL.length cap,.func (.func 131) #[] #[]] w fun e w'=>(∃ r:Int,e=.returned (.int .i64 r)∧(0≤r↔LL.any long60=true))∧Below w.heap.size w w':=by
 go_enter Tryz.func152,Tryz.ntmps152
 go_wp2
 go_loopw [8] (fun i wr=>∃ k:Nat,k≤LL.length∧i=.int .i64 k∧Below w.heap.size w wr∧∀ j (hj:j<LL.length),j<k→long60 LL[j]=false) (fun i _=>LL.length - (intOf i).toNat)
 case atStart=>exact ⟨0,Nat.zero_le _,rfl,Below.refl _ _,by omega⟩
 case round=>
  obtain ⟨k,hk,rfl,hbl,hno⟩:=hrel
  have Hno:=hid hno
  clear hno
  by_cases hlt:k<LL.length
  ·obtain ⟨b',o',a2,cap2,rfl,hc1,hIs,hcap,hlen⟩:=hw k hlt
   have hc1':=bkeep hbl hc1 lr
   have hIs':=hIs.keep hbl
   go_wp2_with fail
   refine (outs1_any a2 LL[k] cap2 hlen _).mono ?_
   rintro e w' ⟨rfl,hb2⟩
   cases hx:long60 LL[k] with
   | true=>
    have HX:=hid hx
    clear hx
    go_wp2
    go_ret
    refine ⟨⟨k,rfl,?_⟩,btrans hbl hb2⟩
    exact ⟨fun _=>List.any_eq_true.2 ⟨_,List.getElem_mem hlt,HX.out⟩,fun _=>by omega⟩
   | false=>
    have HX:=hid hx
    clear hx
    go_wp2
    go_roundw
    case rel=>
     refine ⟨k+1,by omega,by go_num,btrans hbl hb2,fun j hj hlt2=>?_⟩
     by_cases e:j=k
     ·subst e;exact HX.out
     ·exact Hno.out j hj (by omega)
    case measure=>simp [intOf];omega
  ·go_wp2
   go_ret
   refine ⟨⟨-1,rfl,?_⟩,hbl⟩
   refine ⟨fun h=>absurd h (by omega),fun h=>?_⟩
   obtain ⟨x,hx,hp⟩:=List.any_eq_true.1 h
   obtain ⟨j,hj,rfl⟩:=List.getElem_of_mem hx
   rw [Hno.out j hj (by omega)] at hp
   exact absurd hp (by simp)
set_option maxHeartbeats 400000 in
theorem contains134_135 (a:Option Addr) (LL:List (List Int)) (cap:Nat) (w:World) (hw:ListsIn w a LL) (hl:LL.length≤9223372036854775807) :
  Calls Tryz.prog 130 #[.slice a LL.length cap,.func (.func 131) #[] #[]] w fun e w'=>e=.returned (.bool (LL.any long60))∧Below w.heap.size w w':=by
 go_enter Tryz.func130,Tryz.ntmps130
 go_wp2_with fail
 refine (index156_135 a LL cap _ hw hl).mono ?_
 rintro e w' ⟨⟨r,rfl,hr⟩,hb⟩
 have HR:=hid hr
 clear hr
 go_wp2
 go_ret
 exact ⟨ret_bool (by rw [Bool.eq_iff_iff];simpa using HR.out),hb⟩
set_option maxHeartbeats 400000 in
theorem index156_136 (a:Option Addr) (LL:List (List Int)) (cap:Nat) (w:World) (hw:ListsIn w a LL) (hl:LL.length≤9223372036854775807) :
  Calls Tryz.prog 152 #[.slice a LL.length cap,.func (.func 132) #[] #[]] w fun e w'=>(∃ r:Int,e=.returned (.int .i64 r)∧(0≤r↔LL.any bad255=true))∧Below w.heap.size w w':=by
 go_enter Tryz.func152,Tryz.ntmps152
 go_wp2
 go_loopw [8] (fun i wr=>∃ k:Nat,k≤LL.length∧i=.int .i64 k∧Below w.heap.size w wr∧∀ j (hj:j<LL.length),j<k→bad255 LL[j]=false) (fun i _=>LL.length - (intOf i).toNat)
 case atStart=>exact ⟨0,Nat.zero_le _,rfl,Below.refl _ _,by omega⟩
 case round=>
  obtain ⟨k,hk,rfl,hbl,hno⟩:=hrel
  have Hno:=hid hno
  clear hno
  by_cases hlt:k<LL.length
  ·obtain ⟨b',o',a2,cap2,rfl,hc1,hIs,hcap,hlen⟩:=hw k hlt
   have hc1':=bkeep hbl hc1 lr
   have hIs':=hIs.keep hbl
   go_wp2_with fail
   refine (outs2_any a2 LL[k] cap2 hlen _ hIs').mono ?_
   rintro e w' ⟨rfl,hb2⟩
   cases hx:bad255 LL[k] with
   | true=>
    have HX:=hid hx
    clear hx
    go_wp2
    go_ret
    refine ⟨⟨k,rfl,?_⟩,btrans hbl hb2⟩
    exact ⟨fun _=>List.any_eq_true.2 ⟨_,List.getElem_mem hlt,HX.out⟩,fun _=>by omega⟩
   | false=>
    have HX:=hid hx
    clear hx
    go_wp2
    go_roundw
    case rel=>
     refine ⟨k+1,by omega,by go_num,btrans hbl hb2,fun j hj hlt2=>?_⟩
     by_cases e:j=k
     ·subst e;exact HX.out
     ·exact Hno.out j hj (by omega)
    case measure=>simp [intOf];omega
  ·go_wp2
   go_ret
   refine ⟨⟨-1,rfl,?_⟩,hbl⟩
   refine ⟨fun h=>absurd h (by omega),fun h=>?_⟩
   obtain ⟨x,hx,hp⟩:=List.any_eq_true.1 h
   obtain ⟨j,hj,rfl⟩:=List.getElem_of_mem hx
   rw [Hno.out j hj (by omega)] at hp
   exact absurd hp (by simp)
set_option maxHeartbeats 400000 in
theorem contains134_136 (a:Option Addr) (LL:List (List Int)) (cap:Nat) (w:World) (hw:ListsIn w a LL) (hl:LL.length≤9223372036854775807) :
  Calls Tryz.prog 130 #[.slice a LL.length cap,.func (.func 132) #[] #[]] w fun e w'=>e=.returned (.bool (LL.any bad255))∧Below w.heap.size w w':=by
 go_enter Tryz.func130,Tryz.ntmps130
 go_wp2_with fail
 refine (index156_136 a LL cap _ hw hl).mono ?_
 rintro e w' ⟨⟨r,rfl,hr⟩,hb⟩
 have HR:=hid hr
 clear hr
 go_wp2
 go_ret
 exact ⟨ret_bool (by rw [Bool.eq_iff_iff];simpa using HR.out),hb⟩
set_option maxHeartbeats 1000000 in
theorem checkOuts_any (kb:Nat) (D:Dom) (A:DMem) (C:Conf) (B:Mem) (dn:Int) (w:World) (hK:KeepIn w kb D A C B dn) :
  Calls Tryz.prog 95 #[.pointer (some ⟨kb,0,none⟩)] w fun e w'=>e=.returned (.int .i64 (ckOuts D))∧Below w.heap.size w w':=by
 have HK:=hid hK
 have c5:=hK.row.cell 5 _ rfl
 clear hK
 go_enter Tryz.func95,Tryz.ntmps95
 go_wp2_with fail
 refine (contains134_135 A.aO D.out A.cO _ HK.out.dom.out HK.out.dom.lO).mono ?_
 rintro e w1 ⟨rfl,hb1⟩
 have HK1:=hid (HK.out.keep hb1)
 have HB1:=hid hb1
 cases h1:D.out.any long60 with
 | true=>
  go_wp2
  go_ret
  exact ⟨ret_int (by rw [ckOuts,if_pos h1]),HB1.out⟩
 | false=>
  have H1:=hid h1
  clear h1 hb1 c5
  have c5:=HK1.out.row.cell 5 _ rfl
  go_wp2_with fail
  refine (contains134_136 A.aO D.out A.cO _ HK1.out.dom.out HK1.out.dom.lO).mono ?_
  rintro e w2 ⟨rfl,hb2⟩
  have HB2:=hid (btrans HB1.out hb2)
  cases h2:D.out.any bad255 with
  | true=>
   go_wp2
   go_ret
   exact ⟨ret_int (by rw [ckOuts,H1.out,if_neg (by simp),if_pos h2]),HB2.out⟩
  | false=>
   go_wp2
   go_ret
   exact ⟨ret_int (by rw [ckOuts,H1.out,if_neg (by simp),h2];rfl),HB2.out⟩
set_option maxHeartbeats 1000000 in
theorem commit_bad (a:Option Addr) (V:List Int) (cap:Nat) (lost size:Int) (p:Option Addr) (L:List Int) (c:Nat) (w:World) (hw:IntsIn w a V) (hl:V.length≤9223372036854775807) (hL:IntsIn w p L) (hm:L.length≤9223372036854775807) (h0:ckR V lost size≠0) :
  Calls Tryz.prog 106 #[.agg #[.slice a V.length cap,.int .i64 lost],.int .i64 size,.slice p L.length c] w fun e w'=>e=.returned (.tuple #[.agg #[.slice none 0 0,.int .i64 0],.int .i64 (ckR V lost size)])∧Below w.heap.size w w':=by
 have q1:=below_new w (.cells #[.slice a V.length cap,.int .i64 lost] 90)
 have q2:=below_new (w.alloc (.cells #[.slice a V.length cap,.int .i64 lost] 90)) (.cells #[.slice none 0 0,.int .i64 0] 90)
 have HB:=hid (btrans q1 q2)
 have HW:=hid (hw.keep (btrans q1 q2))
 have HL:=hid (hL.keep (btrans q1 q2))
 have R2:Hid (RowAt ((w.alloc (.cells #[.slice a V.length cap,.int .i64 lost] 90)).alloc (.cells #[.slice none 0 0,.int .i64 0] 90)) w.heap.size 90 [.slice a V.length cap,.int .i64 lost]):=hid ((rowAt_new2 w _ [.slice a V.length cap,.int .i64 lost] 90 rfl).alloc _)
 have R4:Hid (RowAt ((w.alloc (.cells #[.slice a V.length cap,.int .i64 lost] 90)).alloc (.cells #[.slice none 0 0,.int .i64 0] 90)) (w.heap.size+1) 90 [.slice none 0 0,.int .i64 0]):=hid (rowAt_new2 _ _ [.slice none 0 0,.int .i64 0] 90 (by simp))
 clear q1 q2 hw hL
 go_enter Tryz.func106,Tryz.ntmps106
 go_wp2_with fail
 refine (ringCheck_any a V cap lost size _ HW.out hl).mono ?_
 rintro e w2 ⟨rfl,hb2⟩
 have R3:=hid (R2.out.below hb2 lr)
 have R5:=hid (R4.out.below hb2 lr)
 have B5:=hid (btrans HB.out hb2)
 have W5:=hid (HW.out.keep hb2)
 have L5:=hid (HL.out.keep hb2)
 clear hb2 HB HW HL R2 R4
 have hx:(ckR V lost size != 0)=true:=by simp [h0]
 have x0:=R5.out.cell 0 _ rfl
 have y0:=R5.out.frozen 0
 have x1:=R5.out.cell 1 _ rfl
 have y1:=R5.out.frozen 1
 clear h0
 generalize hq:ckR V lost size=q at *
 have HQ:=hid hq
 clear hq
 have R6:=hid ((R5.out.setCell 0 (.slice none 0 0)).setCell 1 (.int .i64 0))
 have B6:=hid ((B5.out.setCell (p:=⟨w.heap.size+1,0,none⟩) (by show w.heap.size≤w.heap.size+1;omega) (.slice none 0 0)).setCell (p:=⟨w.heap.size+1,1,none⟩) (by show w.heap.size≤w.heap.size+1;omega) (.int .i64 0))
 clear R5 B5
 go_wp2
 have d0:=R6.out.cell 0 _ rfl
 have d1:=R6.out.cell 1 _ rfl
 exact bodyPost_ret (v:=.tuple #[.agg #[.slice none 0 0,.int .i64 0],.int .i64 q]) (by simp [results,Tryz.results106,go_sem,d0,d1]) rfl ⟨by rw [HQ.out],B6.out⟩
set_option maxHeartbeats 2000000 in
theorem commit_ok (a:Option Addr) (V:List Int) (cap:Nat) (lost size:Int) (p:Option Addr) (L:List Int) (c:Nat) (w:World) (hw:IntsIn w a V) (hl:V.length≤9223372036854775807) (hL:IntsIn w p L) (hm:L.length≤140737488355328) (hcp:L.length≤c) (h0:ckR V lost size=0) (h1:allR L 0 255=true) (R:Nat) (hR:size=((V.length+R:Nat):Int)) :
  Calls Tryz.prog 106 #[.agg #[.slice a V.length cap,.int .i64 lost],.int .i64 size,.slice p L.length c] w fun e w'=>∃ v,e=.returned (.tuple #[.agg #[v,.int .i64 (comL lost R L.length)],.int .i64 0])∧w'.ownsRow w.heap.size 3 1 v (comV V L R L.length).length (ivs (comV V L R L.length))∧Below w.heap.size w w':=by
 have HR0:=hid hR
 clear hR
 have hk:=ckR_ok h0
 obtain ⟨⟨hs1,hs4⟩,hvs,-,hlo,hlo2⟩:=hk
 have HCL:Hid (comL lost R L.length=min (lost+((L.length:Int) - min (R:Int) (L.length:Int))) 100000):=hid (by unfold comL;omega)
 have HCV:Hid (comV V L R L.length=V++L.take (min R L.length)):=hid (by unfold comV;rw [Nat.min_comm])
 have q1:=below_new w (.cells #[.slice a V.length cap,.int .i64 lost] 90)
 have q2:=below_new (w.alloc (.cells #[.slice a V.length cap,.int .i64 lost] 90)) (.cells #[.slice none 0 0,.int .i64 0] 90)
 have HB:=hid (btrans q1 q2)
 have HW:=hid (hw.keep (btrans q1 q2))
 have HL:=hid (hL.keep (btrans q1 q2))
 have R2:Hid (RowAt ((w.alloc (.cells #[.slice a V.length cap,.int .i64 lost] 90)).alloc (.cells #[.slice none 0 0,.int .i64 0] 90)) w.heap.size 90 [.slice a V.length cap,.int .i64 lost]):=hid ((rowAt_new2 w _ [.slice a V.length cap,.int .i64 lost] 90 rfl).alloc _)
 have R4:Hid (RowAt ((w.alloc (.cells #[.slice a V.length cap,.int .i64 lost] 90)).alloc (.cells #[.slice none 0 0,.int .i64 0] 90)) (w.heap.size+1) 90 [.slice none 0 0,.int .i64 0]):=hid (rowAt_new2 _ _ [.slice none 0 0,.int .i64 0] 90 (by simp))
 clear q1 q2 hw hL
 go_enter Tryz.func106,Tryz.ntmps106
 go_wp2_with fail
 refine (ringCheck_any a V cap lost size _ HW.out hl).mono ?_
 rintro e w2 ⟨rfl,hb2⟩
 have R3:=hid (R2.out.below hb2 lr)
 have R5:=hid (R4.out.below hb2 lr)
 have B5:=hid (btrans HB.out hb2)
 have W5:=hid (HW.out.keep hb2)
 have L5:=hid (HL.out.keep hb2)
 clear hb2 HB HW HL R2 R4
 rw [h0]
 have H1:=hid h1
 clear h0 h1
 go_wp2_with fail
 refine (all_any 0 255 p L c _ L5.out (by omega)).mono ?_
 rintro e w3 ⟨rfl,hb3⟩
 rw [H1.out]
 replace R3:=hid (R3.out.below hb3 lr)
 replace R5:=hid (R5.out.below hb3 lr)
 replace B5:=hid (btrans B5.out hb3)
 replace W5:=hid (W5.out.keep hb3)
 replace L5:=hid (L5.out.keep hb3)
 clear hb3
 have z0:=R3.out.cell 0 _ rfl
 have z1:=R3.out.cell 1 _ rfl
 have hR4:V.length+R≤4:=by have:=HR0.out;omega
 have e1:size - (V.length:Int)=(R:Int):=by have:=HR0.out;omega
 have hsz3:w.heap.size≤w3.heap.size:=B5.out.size
 have hlt5:=R5.out.lt
 have hne:¬ w.heap.size+1=w.heap.size:=by omega
 have HS:Hid (∀ w',Below w3.heap.size w3 w'→w'.cell? ⟨w.heap.size,0,none⟩=some (.slice a V.length cap)∧w'.cell? ⟨w.heap.size,1,none⟩=some (.int .i64 lost)):=hid fun w' hb=>⟨bkeep hb z0 lr,bkeep hb z1 lr⟩
 have HR:Hid (∀ w',Below w3.heap.size w3 w'→RowAt w' (w.heap.size+1) 90 [.slice none 0 0,.int .i64 0]):=hid fun w' hb=>R5.out.below hb lr
 have hA:∀ n:Nat,Below w3.heap.size w3 (w3.alloc (.cells #[.slice a V.length cap,.slice p n c] 23)).drew:=fun n=>(below_new _ _).drew
 clear R3
 by_cases hle:R≤L.length
 ·have hle1:size - (V.length:Int)≤(L.length:Int):=by omega
  have hle2:(R:Int)≤(L.length:Int):=by omega
  by_cases hsum:lost+((L.length:Int) - (R:Int))≤100000
  ·have HT:Hid ((L.take R).length=R):=hid (by simp;try omega)
   have HCLc:Hid (comL lost R L.length=lost+((L.length:Int) - (R:Int))):=hid (by unfold comL;omega)
   have HCVc:Hid (comV V L R L.length=V++L.take R):=hid (by unfold comV;rw [show min L.length R=R by omega];try simp)
   have hn0:(0:Int)≤((R:Nat):Int):=by omega
   have hnc:((R:Nat):Int)≤(c:Int):=by omega
   have hw1:IntKind.i64.wrap (lost+((L.length:Int) - (R:Int)))=lost+((L.length:Int) - (R:Int)):=by rw [IntKind.wrap_i64];omega
   go_wp2_with fail
   go_region_held3 (fun w'=>w'.cell? ⟨w.heap.size,0,none⟩=some (.slice a V.length cap)∧w'.cell? ⟨w.heap.size,1,none⟩=some (.int .i64 lost))
    (first|exact HS.out _ hB4|exact HS.out _ (hA _)|go_keep)
    (first
     | (go_at_call 144;refine (concat86_any w3.heap.size a p V (L.take R) cap c _ (W5.out.keep (hA R)) ((L5.out.keep (hA R)).takex R) (by rw [HT.out];omega) (by simp) (by rw [HT.out];simp)).mono ?_;rintro e w4 ⟨v,rfl,hown4,hb4⟩;have hB4:=btrans (hA R) hb4;have u0:=(HR.out _ hB4).cell 0 _ rfl;have u1:=(HR.out _ hB4).cell 1 _ rfl;have f0:=(HR.out _ hB4).frozen 0;have f1:=(HR.out _ hB4).frozen 1;have HO4:=hid hown4;obtain ⟨a4,k4,rfl,-,-,-,-,-⟩:=ints_own hown4;clear hown4))
   all_goals
    have HE:Hid ((V++L.take R).length=V.length+R):=hid (by rw [List.length_append,HT.out])
    have HO5:Hid (w4.ownsRow (w3.heap.size+1) 3 1 (.slice a4 (V.length+R) k4) (V.length+R) (ivs (V++L.take R))):=by
     have q:=HO4.out
     rw [HE.out] at q
     exact hid (by simpa using q)
    have R6:=hid (((HR.out _ hB4).setCell 0 (.slice a4 (V.length+R) k4)).setCell 1 (.int .i64 (lost+((L.length:Int) - (R:Int)))))
    have B6:=hid (((btrans B5.out hB4).setCell (p:=⟨w.heap.size+1,0,none⟩) (by show w.heap.size≤w.heap.size+1;omega) (.slice a4 (V.length+R) k4)).setCell (p:=⟨w.heap.size+1,1,none⟩) (by show w.heap.size≤w.heap.size+1;omega) (.int .i64 (lost+((L.length:Int) - (R:Int)))))
    have O6:=hid (ownsx_mono (ownsx_set (ownsx_set HO5.out 0 (.slice a4 (V.length+R) k4) (b:=w.heap.size+1) (by omega)) 1 (.int .i64 (lost+((L.length:Int) - (R:Int)))) (b:=w.heap.size+1) (by omega)) (base':=w.heap.size) (by omega))
    clear HO4 HO5 HR HS u0 u1 f0 f1 hB4 hb4
    go_wp2
    have d0:=R6.out.cell 0 _ rfl
    have d1:=R6.out.cell 1 _ rfl
    refine bodyPost_ret (v:=.tuple #[.agg #[.slice a4 (V.length+R) k4,.int .i64 (lost+((L.length:Int) - (R:Int)))],.int .i64 0]) (by simp [results,Tryz.results106,go_sem,d0,d1]) rfl ⟨_,by rw [HCLc.out],?_,B6.out⟩
    rw [HCVc.out,HE.out]
    exact O6.out
  ·have HT:Hid ((L.take R).length=R):=hid (by simp;try omega)
   have HCLc:Hid (comL lost R L.length=100000):=hid (by unfold comL;omega)
   have HCVc:Hid (comV V L R L.length=V++L.take R):=hid (by unfold comV;rw [show min L.length R=R by omega];try simp)
   have hn0:(0:Int)≤((R:Nat):Int):=by omega
   have hnc:((R:Nat):Int)≤(c:Int):=by omega
   have hw1:IntKind.i64.wrap (lost+((L.length:Int) - (R:Int)))=lost+((L.length:Int) - (R:Int)):=by rw [IntKind.wrap_i64];omega
   go_wp2_with fail
   go_region_held3 (fun w'=>w'.cell? ⟨w.heap.size,0,none⟩=some (.slice a V.length cap)∧w'.cell? ⟨w.heap.size,1,none⟩=some (.int .i64 lost))
    (first|exact HS.out _ hB4|exact HS.out _ (hA _)|go_keep)
    (first
     | (go_at_call 144;refine (concat86_any w3.heap.size a p V (L.take R) cap c _ (W5.out.keep (hA R)) ((L5.out.keep (hA R)).takex R) (by rw [HT.out];omega) (by simp) (by rw [HT.out];simp)).mono ?_;rintro e w4 ⟨v,rfl,hown4,hb4⟩;have hB4:=btrans (hA R) hb4;have u0:=(HR.out _ hB4).cell 0 _ rfl;have u1:=(HR.out _ hB4).cell 1 _ rfl;have f0:=(HR.out _ hB4).frozen 0;have f1:=(HR.out _ hB4).frozen 1;have HO4:=hid hown4;obtain ⟨a4,k4,rfl,-,-,-,-,-⟩:=ints_own hown4;clear hown4))
   all_goals
    have HE:Hid ((V++L.take R).length=V.length+R):=hid (by rw [List.length_append,HT.out])
    have HO5:Hid (w4.ownsRow (w3.heap.size+1) 3 1 (.slice a4 (V.length+R) k4) (V.length+R) (ivs (V++L.take R))):=by
     have q:=HO4.out
     rw [HE.out] at q
     exact hid (by simpa using q)
    have R6:=hid (((HR.out _ hB4).setCell 0 (.slice a4 (V.length+R) k4)).setCell 1 (.int .i64 (100000)))
    have B6:=hid (((btrans B5.out hB4).setCell (p:=⟨w.heap.size+1,0,none⟩) (by show w.heap.size≤w.heap.size+1;omega) (.slice a4 (V.length+R) k4)).setCell (p:=⟨w.heap.size+1,1,none⟩) (by show w.heap.size≤w.heap.size+1;omega) (.int .i64 (100000)))
    have O6:=hid (ownsx_mono (ownsx_set (ownsx_set HO5.out 0 (.slice a4 (V.length+R) k4) (b:=w.heap.size+1) (by omega)) 1 (.int .i64 (100000)) (b:=w.heap.size+1) (by omega)) (base':=w.heap.size) (by omega))
    clear HO4 HO5 HR HS u0 u1 f0 f1 hB4 hb4
    go_wp2
    have d0:=R6.out.cell 0 _ rfl
    have d1:=R6.out.cell 1 _ rfl
    refine bodyPost_ret (v:=.tuple #[.agg #[.slice a4 (V.length+R) k4,.int .i64 (100000)],.int .i64 0]) (by simp [results,Tryz.results106,go_sem,d0,d1]) rfl ⟨_,by rw [HCLc.out],?_,B6.out⟩
    rw [HCVc.out,HE.out]
    exact O6.out
 ·have hle1:¬ size - (V.length:Int)≤(L.length:Int):=by omega
  have hle2:(L.length:Int)<size - (V.length:Int):=by omega
  have HT:Hid ((L).length=L.length):=hid (by simp;try omega)
  have HCLc:Hid (comL lost R L.length=lost):=hid (by unfold comL;omega)
  have HCVc:Hid (comV V L R L.length=V++L):=hid (by unfold comV;rw [show min L.length R=L.length by omega];try simp)
  have hn0:(0:Int)≤((L.length:Nat):Int):=by omega
  have hnc:((L.length:Nat):Int)≤(c:Int):=by omega
  have hw1:IntKind.i64.wrap lost=lost:=by rw [IntKind.wrap_i64];omega
  have hw2:IntKind.i64.wrap (lost+0)=lost:=by rw [IntKind.wrap_i64];omega
  clear HT
  go_wp2_with fail
  go_region_held3 (fun w'=>w'.cell? ⟨w.heap.size,0,none⟩=some (.slice a V.length cap)∧w'.cell? ⟨w.heap.size,1,none⟩=some (.int .i64 lost))
   (first|exact HS.out _ hB4|exact HS.out _ (hA _)|go_keep)
   (first
    | (go_at_call 144;refine (concat86_any w3.heap.size a p V (L) cap c _ (W5.out.keep (hA L.length)) (L5.out.keep (hA L.length)) (by omega) (by simp) (by simp)).mono ?_;rintro e w4 ⟨v,rfl,hown4,hb4⟩;have hB4:=btrans (hA L.length) hb4;have u0:=(HR.out _ hB4).cell 0 _ rfl;have u1:=(HR.out _ hB4).cell 1 _ rfl;have f0:=(HR.out _ hB4).frozen 0;have f1:=(HR.out _ hB4).frozen 1;have HO4:=hid hown4;obtain ⟨a4,k4,rfl,-,-,-,-,-⟩:=ints_own hown4;clear hown4))
  all_goals
   have HE:Hid ((V++L).length=V.length+L.length):=hid (by rw [List.length_append])
   have HO5:Hid (w4.ownsRow (w3.heap.size+1) 3 1 (.slice a4 (V.length+L.length) k4) (V.length+L.length) (ivs (V++L))):=by
    have q:=HO4.out
    rw [HE.out] at q
    exact hid (by simpa using q)
   have R6:=hid (((HR.out _ hB4).setCell 0 (.slice a4 (V.length+L.length) k4)).setCell 1 (.int .i64 (lost)))
   have B6:=hid (((btrans B5.out hB4).setCell (p:=⟨w.heap.size+1,0,none⟩) (by show w.heap.size≤w.heap.size+1;omega) (.slice a4 (V.length+L.length) k4)).setCell (p:=⟨w.heap.size+1,1,none⟩) (by show w.heap.size≤w.heap.size+1;omega) (.int .i64 (lost)))
   have O6:=hid (ownsx_mono (ownsx_set (ownsx_set HO5.out 0 (.slice a4 (V.length+L.length) k4) (b:=w.heap.size+1) (by omega)) 1 (.int .i64 (lost)) (b:=w.heap.size+1) (by omega)) (base':=w.heap.size) (by omega))
   clear HO4 HO5 HR HS u0 u1 f0 f1 hB4 hb4
   go_wp2
   have d0:=R6.out.cell 0 _ rfl
   have d1:=R6.out.cell 1 _ rfl
   refine bodyPost_ret (v:=.tuple #[.agg #[.slice a4 (V.length+L.length) k4,.int .i64 (lost)],.int .i64 0]) (by simp [results,Tryz.results106,go_sem,d0,d1]) rfl ⟨_,by rw [HCLc.out],?_,B6.out⟩
   rw [HCVc.out,HE.out]
   exact O6.out
set_option maxHeartbeats 1000000 in
theorem sameIntsx_true (a a':Option Addr) (L:List Int) (cap cap':Nat) (w:World) (h1:IntsIn w a L) (h2:IntsIn w a' L) (hl:L.length≤9223372036854775807) :
  Calls Tryz.prog 27 #[.slice a L.length cap,.slice a' L.length cap'] w fun e w'=>e=.returned (.bool true)∧Below w.heap.size w w':=by
 go_enter Tryz.func27,Tryz.ntmps27
 go_wp2
 go_loopw [5] (fun i wr=>(∃ n,wr=w.drewN n)∧∃ k:Nat,k≤L.length∧i=.int .i64 k) (fun i _=>L.length - (intOf i).toNat)
 case atStart=>exact ⟨⟨0,rfl⟩,0,Nat.zero_le _,rfl⟩
 case round=>
  obtain ⟨⟨nd,rfl⟩,k,hk,rfl⟩:=hrel
  by_cases hlt:k<L.length
  ·obtain ⟨b1,o1,rfl,e1⟩:=h1 k hlt
   obtain ⟨b2,o2,rfl,e2⟩:=h2 k hlt
   have hk1:(k:Int)<L.length:=by omega
   have hk0:(0:Int)≤k:=by omega
   generalize L[k]=y at *
   go_wp2
   go_quiet (fail)
   go_wp2
   go_roundw
   case rel=>exact ⟨⟨_,rfl⟩,k+1,by omega,by go_num⟩
   case measure=>simp [intOf];omega
  ·go_wp2
   go_ret
   exact ⟨rfl,below_drewN (Below.refl _ _) _⟩
set_option maxHeartbeats 1000000 in
theorem sameRing_true (a a':Option Addr) (V:List Int) (cap cap':Nat) (l:Int) (w:World) (h1:IntsIn w a V) (h2:IntsIn w a' V) (hl:V.length≤9223372036854775807) :
  Calls Tryz.prog 28 #[.agg #[.slice a V.length cap,.int .i64 l],.agg #[.slice a' V.length cap',.int .i64 l]] w fun e w'=>e=.returned (.bool true)∧Below w.heap.size w w':=by
 have q:=btrans (below_new w (.cells #[.slice a V.length cap,.int .i64 l] 90)) (below_new (w.alloc (.cells #[.slice a V.length cap,.int .i64 l] 90)) (.cells #[.slice a' V.length cap',.int .i64 l] 90))
 have H1:=hid (h1.keep q)
 have H2:=hid (h2.keep q)
 have HB:=hid q
 clear q h1 h2
 go_enter Tryz.func28,Tryz.ntmps28
 go_wp2_with fail
 refine (sameIntsx_true a a' V cap cap' _ H1.out H2.out hl).mono ?_
 rintro e w1 ⟨rfl,hb⟩
 have HB1:=hid (btrans HB.out hb)
 clear hb HB
 go_wp2
 go_ret
 exact ⟨rfl,HB1.out⟩
set_option maxHeartbeats 4000000 in
theorem sameDomain_true (D:Dom) (A A':DMem) (w:World) (h1:DomIn w A D) (h2:DomIn w A' D) :
  Calls Tryz.prog 12 #[dv D A,dv D A'] w fun e w'=>e=.returned (.bool true)∧Below w.heap.size w w':=by
 have q1:=below_new w (.cells (dl D A) 46)
 have q2:=below_new (w.alloc (.cells (dl D A) 46)) (.cells (dl D A') 46)
 have HQ:=hid (btrans q1 q2)
 have HC1:=hid (h1.keep (btrans q1 q2))
 have HC2:=hid (h2.keep (btrans q1 q2))
 have R1:Hid (RowAt ((w.alloc (.cells (dl D A) 46)).alloc (.cells (dl D A') 46)) w.heap.size 46 (dl D A).toList):=hid ((rowAt_new2 w _ (dl D A).toList 46 rfl).alloc _)
 have R2:Hid (RowAt ((w.alloc (.cells (dl D A) 46)).alloc (.cells (dl D A') 46)) (w.heap.size+1) 46 (dl D A').toList):=hid (rowAt_new2 _ _ (dl D A').toList 46 (by simp))
 have n106:=eq106
 have n146:=eq146
 have gu106:Tryz.prog.eqGuardType Tryz.prog.depth 87=false:=by kernel_rfl
 have gu146:Tryz.prog.eqGuardType Tryz.prog.depth 92=false:=by kernel_rfl
 have lJ:=h1.lJ
 have lR:=h1.lR
 have lI:=h1.lI
 have lT:=h1.lT
 have lO:=h1.lO
 have lE:=h1.lE
 clear q1 q2 h1 h2
 obtain ⟨aJ,aR,aI,aT,aO,aE,cJ,cR,cI,cT,cO,cE⟩:=A
 obtain ⟨bJ,bR,bI,bT,bO,bE,dJ,dR,dI,dT,dO,dE⟩:=A'
 dsimp only [dv,dl] at *
 go_enter Tryz.func12,Tryz.ntmps12
 go_wp2_with fail
 refine (sameIntsx_true aR bR D.rel cR dR _ HC1.out.rel HC2.out.rel lR).mono ?_
 rintro e w1 ⟨rfl,hb1⟩
 replace HQ:=hid (btrans HQ.out hb1)
 replace HC1:=hid (HC1.out.keep hb1)
 replace HC2:=hid (HC2.out.keep hb1)
 replace R1:=hid (R1.out.below hb1 lr)
 replace R2:=hid (R2.out.below hb1 lr)
 clear hb1
 have k0:=R1.out.cell 0 _ rfl
 have k3:=R1.out.cell 3 _ rfl
 have k4:=R1.out.cell 4 _ rfl
 have k5:=R1.out.cell 5 _ rfl
 have k6:=R1.out.cell 6 _ rfl
 have m0:=R2.out.cell 0 _ rfl
 have m3:=R2.out.cell 3 _ rfl
 have m4:=R2.out.cell 4 _ rfl
 have m5:=R2.out.cell 5 _ rfl
 have m6:=R2.out.cell 6 _ rfl
 go_wp2_with fail
 refine (sameIntsx_true aT bT D.tak cT dT _ HC1.out.tak HC2.out.tak lT).mono ?_
 rintro e w2 ⟨rfl,hb2⟩
 replace HQ:=hid (btrans HQ.out hb2)
 replace HC1:=hid (HC1.out.keep hb2)
 replace HC2:=hid (HC2.out.keep hb2)
 replace R1:=hid (R1.out.below hb2 lr)
 replace R2:=hid (R2.out.below hb2 lr)
 clear hb2 k0 k3 k4 k5 k6 m0 m3 m4 m5 m6
 have k0:=R1.out.cell 0 _ rfl
 have k3:=R1.out.cell 3 _ rfl
 have k5:=R1.out.cell 5 _ rfl
 have k6:=R1.out.cell 6 _ rfl
 have m0:=R2.out.cell 0 _ rfl
 have m3:=R2.out.cell 3 _ rfl
 have m5:=R2.out.cell 5 _ rfl
 have m6:=R2.out.cell 6 _ rfl
 have hlt1:=R1.out.lt
 have hlt2:=R2.out.lt
 go_wp2
 go_loopw [5] (fun i wr=>(∃ n,wr=w2.drewN n)∧∃ k:Nat,k≤D.jobs.length∧i=.int .i64 k) (fun i _=>D.jobs.length - (intOf i).toNat)
 case atStart=>exact ⟨⟨0,rfl⟩,0,Nat.zero_le _,rfl⟩
 case round=>
  obtain ⟨⟨nd,rfl⟩,k,hk,rfl⟩:=hrel
  by_cases hlt:k<D.jobs.length
  ·obtain ⟨b1,o1,rfl,p0,p1,p2,p3,p4,p5⟩:=HC1.out.jobs k hlt
   obtain ⟨b2,o2,rfl,q0,q1,q2,q3,q4,q5⟩:=HC2.out.jobs k hlt
   have hk1:(k:Int)<D.jobs.length:=by omega
   have hk0:(0:Int)≤k:=by omega
   generalize D.jobs[k].1=y0 at *
   generalize D.jobs[k].2.1=y1 at *
   generalize D.jobs[k].2.2.1=y2 at *
   generalize D.jobs[k].2.2.2.1=y3 at *
   generalize D.jobs[k].2.2.2.2.1=y4 at *
   generalize D.jobs[k].2.2.2.2.2=y5 at *
   go_wp2
   go_quiet (fail)
   go_wp2
   go_roundw
   case rel=>exact ⟨⟨_,rfl⟩,k+1,by omega,by go_num⟩
   case measure=>simp [intOf];omega
  ·go_wp2
   go_loopw [6] (fun i wr=>Below w2.heap.size w2 wr∧∃ k:Nat,k≤D.ins.length∧i=.int .i64 k) (fun i _=>D.ins.length - (intOf i).toNat)
   case atStart=>exact ⟨below_drewN (Below.refl _ _) _,0,Nat.zero_le _,rfl⟩
   case round=>
    obtain ⟨hbl,k,hk,rfl⟩:=hrel
    have HBL:=hid hbl
    clear hlt
    by_cases hlt:k<D.ins.length
    ·obtain ⟨b1,o1,a1,c1,rfl,p0,p1,p2,p3,p4⟩:=(HC1.out.keep hbl).ins k hlt
     obtain ⟨b2,o2,a2,c2,rfl,q0,q1,q2,q3,q4⟩:=(HC2.out.keep hbl).ins k hlt
     have hk1:(k:Int)<D.ins.length:=by omega
     have hk0:(0:Int)≤k:=by omega
     have k3':=bkeep hbl k3 lr
     have m3':=bkeep hbl m3 lr
     have P2:=hid p2
     have Q2:=hid q2
     clear p2 q2 hbl
     generalize D.ins[k].1=V at *
     generalize D.ins[k].2=l at *
     have HS:Hid (∀ w',Below wr.heap.size wr w'→w'.cell? ⟨w.heap.size,3,none⟩=some (.slice (some ⟨b1,o1,none⟩) D.ins.length cI)∧w'.cell? ⟨w.heap.size+1,3,none⟩=some (.slice (some ⟨b2,o2,none⟩) D.ins.length dI)∧w'.cell? ⟨b1,o1+k * 2,none⟩=some (.slice a1 V.length c1)∧w'.cell? ⟨b1,o1+k * 2+1,none⟩=some (.int .i64 l)∧w'.cell? ⟨b2,o2+k * 2,none⟩=some (.slice a2 V.length c2)∧w'.cell? ⟨b2,o2+k * 2+1,none⟩=some (.int .i64 l)):=hid fun w' hb=>⟨bkeep hb k3' lr,bkeep hb m3' lr,bkeep hb p0 lr,bkeep hb p1 lr,bkeep hb q0 lr,bkeep hb q1 lr⟩
     have hbz:Below wr.heap.size wr wr.drew:=(Below.refl _ _).drew
     go_wp2_with fail
     go_region_held3 (fun w'=>w'.cell? ⟨w.heap.size,3,none⟩=some (.slice (some ⟨b1,o1,none⟩) D.ins.length cI)∧w'.cell? ⟨w.heap.size+1,3,none⟩=some (.slice (some ⟨b2,o2,none⟩) D.ins.length dI)∧w'.cell? ⟨b1,o1+k * 2,none⟩=some (.slice a1 V.length c1)∧w'.cell? ⟨b1,o1+k * 2+1,none⟩=some (.int .i64 l)∧w'.cell? ⟨b2,o2+k * 2,none⟩=some (.slice a2 V.length c2)∧w'.cell? ⟨b2,o2+k * 2+1,none⟩=some (.int .i64 l))
      (first|exact HS.out _ hB3|exact HS.out _ hbz|go_keep)
      (first|(go_at_call 28;refine (sameRing_true a1 a2 V c1 c2 l _ (P2.out.keep hbz) (Q2.out.keep hbz) p4).mono ?_;rintro e w3 ⟨rfl,hb3⟩;have hB3:=btrans hbz hb3))
     have HB3:=hid (btrans HBL.out hB3)
     clear HS hB3 hbz k3' m3' p0 p1 q0 q1
     go_wp2
     go_roundw
     case rel=>exact ⟨HB3.out,k+1,by omega,by go_num⟩
     case measure=>simp [intOf];omega
    ·have k3':=bkeep hbl k3 lr
     have k5':=bkeep hbl k5 lr
     clear hbl
     go_wp2
     go_loopw [7] (fun i wr=>Below w2.heap.size w2 wr∧∃ k:Nat,k≤D.out.length∧i=.int .i64 k) (fun i _=>D.out.length - (intOf i).toNat)
     case atStart=>exact ⟨HBL.out,0,Nat.zero_le _,rfl⟩
     case round=>
      clear HBL k3' k5'
      obtain ⟨hbl,k,hk,rfl⟩:=hrel
      have HBL:=hid hbl
      clear hlt
      by_cases hlt:k<D.out.length
      ·obtain ⟨b1,o1,a1,c1,rfl,p0,p2,p3,p4⟩:=(HC1.out.keep hbl).out k hlt
       obtain ⟨b2,o2,a2,c2,rfl,q0,q2,q3,q4⟩:=(HC2.out.keep hbl).out k hlt
       have hk1:(k:Int)<D.out.length:=by omega
       have hk0:(0:Int)≤k:=by omega
       have k5':=bkeep hbl k5 lr
       have m5':=bkeep hbl m5 lr
       have P2:=hid p2
       have Q2:=hid q2
       clear p2 q2 hbl
       generalize D.out[k]=V at *
       have HS:Hid (∀ w',Below wr.heap.size wr w'→w'.cell? ⟨w.heap.size,5,none⟩=some (.slice (some ⟨b1,o1,none⟩) D.out.length cO)∧w'.cell? ⟨w.heap.size+1,5,none⟩=some (.slice (some ⟨b2,o2,none⟩) D.out.length dO)∧w'.cell? ⟨b1,o1+k,none⟩=some (.slice a1 V.length c1)∧w'.cell? ⟨b2,o2+k,none⟩=some (.slice a2 V.length c2)):=hid fun w' hb=>⟨bkeep hb k5' lr,bkeep hb m5' lr,bkeep hb p0 lr,bkeep hb q0 lr⟩
       have hbz:Below wr.heap.size wr wr.drew:=(Below.refl _ _).drew
       go_wp2_with fail
       go_region_held3 (fun w'=>w'.cell? ⟨w.heap.size,5,none⟩=some (.slice (some ⟨b1,o1,none⟩) D.out.length cO)∧w'.cell? ⟨w.heap.size+1,5,none⟩=some (.slice (some ⟨b2,o2,none⟩) D.out.length dO)∧w'.cell? ⟨b1,o1+k,none⟩=some (.slice a1 V.length c1)∧w'.cell? ⟨b2,o2+k,none⟩=some (.slice a2 V.length c2))
        (first|exact HS.out _ hB3|exact HS.out _ hbz|go_keep)
        (first|(go_at_call 27;refine (sameIntsx_true a1 a2 V c1 c2 _ (P2.out.keep hbz) (Q2.out.keep hbz) p4).mono ?_;rintro e w3 ⟨rfl,hb3⟩;have hB3:=btrans hbz hb3))
       have HB3:=hid (btrans HBL.out hB3)
       clear HS hB3 hbz k5' m5' p0 q0
       go_wp2
       go_roundw
       case rel=>exact ⟨HB3.out,k+1,by omega,by go_num⟩
       case measure=>simp [intOf];omega
      ·have k5':=bkeep hbl k5 lr
       have k6':=bkeep hbl k6 lr
       clear hbl
       go_wp2
       go_loopw [8] (fun i wr=>Below w2.heap.size w2 wr∧∃ k:Nat,k≤D.evs.length∧i=.int .i64 k) (fun i _=>D.evs.length - (intOf i).toNat)
       case atStart=>exact ⟨HBL.out,0,Nat.zero_le _,rfl⟩
       case round=>
        clear HBL k5' k6'
        obtain ⟨hbl,k,hk,rfl⟩:=hrel
        have HBL:=hid hbl
        have k6':=bkeep hbl k6 lr
        have m6':=bkeep hbl m6 lr
        clear hlt
        by_cases hlt:k<D.evs.length
        ·obtain ⟨b1,o1,rfl,p0,p1,p2,p3⟩:=(HC1.out.keep hbl).evs k hlt
         obtain ⟨b2,o2,rfl,q0,q1,q2,q3⟩:=(HC2.out.keep hbl).evs k hlt
         have hk1:(k:Int)<D.evs.length:=by omega
         have hk0:(0:Int)≤k:=by omega
         generalize D.evs[k].1=y0 at *
         generalize D.evs[k].2.1=y1 at *
         generalize D.evs[k].2.2.1=y2 at *
         generalize D.evs[k].2.2.2=y3 at *
         clear hbl
         go_wp2
         go_quiet (fail)
         go_wp2
         go_roundw
         case rel=>exact ⟨below_drewN HBL.out _,k+1,by omega,by go_num⟩
         case measure=>simp [intOf];omega
        ·clear hbl
         go_wp2
         go_ret
         exact ⟨rfl,HQ.out.trans (HBL.out.mono HQ.out.size)⟩
end Go.Proofs.YtejhccmclanlmaaGreatDoor
