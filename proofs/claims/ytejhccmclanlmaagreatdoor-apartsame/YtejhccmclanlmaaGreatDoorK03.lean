/- Texts joined: Cd Ce Cg Nb Ch10 Ch20 Ch21 Ch30 Ch31. -/
import Derived.Deep.AppendLies
import Derived.Deep.RegionLaw
import Derived.Deep.RegionHeld3
import Derived.Test.YtejhccmclanlmaaGreatDoorK00
import Derived.Test.YtejhccmclanlmaaGreatDoorK02
set_option linter.unusedVariables false
set_option maxRecDepth 100000
namespace Go.Proofs.YtejhccmclanlmaaGreatDoor
open Go.RowKit
theorem ckSet_def (C:List (List (Int×Bool))) (j:Nat) (h:j<C.length):ckSet C j=fe C[j].length fun i=>ckWay C[j] i j C.length:=by
 have e:C.getD j []=C[j]:=by simp [h]
 rw [ckSet,e]
set_option maxHeartbeats 1000000 in
theorem check_any (a:Option Addr) (C:List (List (Int×Bool))) (cap:Nat) (w:World) (hw:CacheIn w a C) (hl:C.length≤9223372036854775807) :
  Calls Tryz.prog 47 #[.agg #[.slice a C.length cap]] w fun e w'=>e=.returned (.int .i64 (ck C))∧Below w.heap.size w w':=by
 have h1:Below w.heap.size w (w.alloc (.cells #[.slice a C.length cap] 72)):=(Below.refl _ _).alloc lr _
 have hw1:=hw.keep h1
 have hc:(w.alloc (.cells #[.slice a C.length cap] 72)).cell? ⟨w.heap.size,0,none⟩=some (.slice a C.length cap):=by simp
 go_enter Tryz.func47,Tryz.ntmps47
 go_wp2_with fail
 refine (checkShape_any a C cap _ hw1 hl).mono ?_
 rintro e w2 ⟨rfl,hb2⟩
 by_cases hs:ckShape C=0
 ·have HS:=hid hs
  have hlen4:(C.length:Int)≤4∧(1:Int)≤C.length:=by
   unfold ckShape at hs
   split at hs
   ·omega
   ·rename_i h;simp [inR] at h;omega
  obtain ⟨hl4,hl1⟩:=hlen4
  rw [hs]
  clear hs
  have hc2:=bkeep hb2 hc (by simp)
  have hw2:=hw1.keep hb2
  have h2:=btrans h1 hb2
  clear hw1 hb2 h1 hc
  go_wp2
  go_loopw [17] (fun i wr=>∃ k:Nat,k≤C.length∧i=.int .i64 k∧Below w2.heap.size w2 wr∧∀ j,j<k→ckSet C j=0) (fun i _=>C.length - (intOf i).toNat)
  case atStart=>exact ⟨0,Nat.zero_le _,rfl,Below.refl _ _,by omega⟩
  case round=>
   obtain ⟨k,hk,rfl,hbl,hno⟩:=hrel
   have Hno:=hid hno
   clear hno
   have hc3:=bkeep hbl hc2 lr
   by_cases hlt:k<C.length
   ·obtain ⟨b',o',a2,cap2,rfl,hc1,hws,hcap,hlen⟩:=hw2 k hlt
    have hc1':=bkeep hbl hc1 lr
    have hws':=hws.keep hbl
    go_wp2
    go_loopw [24] (fun i wi=>∃ m:Nat,m≤C[k].length∧i=.int .i64 m∧Below wr.heap.size wr wi∧∀ j,j<m→ckWay C[k] j k C.length=0) (fun i _=>C[k].length - (intOf i).toNat)
    case atStart=>exact ⟨0,Nat.zero_le _,rfl,Below.refl _ _,by omega⟩
    case round=>
     obtain ⟨m,hm,rfl,hbi,hno2⟩:=hrel
     have Hno2:=hid hno2
     clear hno2
     by_cases hlm:m<C[k].length
     ·obtain ⟨b2,o2,e2,hd1,hd2⟩:=hws m hlm
      subst e2
      have hc4:=bkeep hbi hc3 lr
      go_wp2_with fail
      refine (checkWay_any b2 o2 C[k] cap2 m k C.length _ (hws'.keep hbi) hlm hcap hlen hl1 hl4).mono ?_
      rintro e w5 ⟨rfl,hb5⟩
      by_cases hx:ckWay C[k] m k C.length=0
      ·have HX:=hid hx
       rw [hx]
       clear hx
       go_wp2
       go_roundw
       case rel=>
        refine ⟨m+1,by omega,by go_num,btrans hbi hb5,fun j hj=>?_⟩
        by_cases e:j=m
        ·subst e;exact HX.out
        ·exact Hno2.out j (by omega)
       case measure=>simp [intOf];omega
      ·have HX:=hid hx
       have hx':(ckWay C[k] m k C.length != 0)=true:=by simp [hx]
       have HX2:Hid (ck C=ckWay C[k] m k C.length):=by
        have e1:ckSet C k=ckWay C[k] m k C.length:=by
         rw [ckSet_def C k hlt]
         exact fe_at _ m _ hlm hx (fun j hj=>Hno2.out j hj)
        show ck C=_
        rw [ck,HS.out]
        simp only [ne_eq,not_true_eq_false,if_false]
        rw [fe_at C.length k (ckSet C) hlt (by rw [e1];exact hx) (fun j hj=>Hno.out j hj),e1]
       clear hx
       generalize ckWay C[k] m k C.length=q at *
       go_wp2
       go_ret
       exact ⟨ret_int HX2.out.symm,btrans h2 (btrans hbl (btrans hbi hb5))⟩
     ·go_wp2
      go_roundw
      case rel=>
       refine ⟨k+1,by omega,by go_num,btrans hbl hbi,fun j hj=>?_⟩
       by_cases e:j=k
       ·subst e
        rw [ckSet_def C j hlt]
        exact fe_zero _ _ (fun i hi=>Hno2.out i (by omega))
       ·exact Hno.out j (by omega)
      case measure=>simp [intOf];omega
   ·go_wp2
    go_ret
    exact ⟨ret_int (by rw [ck,HS.out];simp [fe_zero C.length _ (fun j hj=>Hno.out j (by omega))]),btrans h2 hbl⟩
 ·have HS:Hid (ck C=ckShape C):=by show ck C=_;rw [ck];simp [hs]
  have hs':(ckShape C != 0)=true:=by simp [hs]
  clear hs
  generalize ckShape C=q at *
  go_wp2
  go_ret
  exact ⟨ret_int HS.out.symm,btrans h1 hb2⟩
def flat (ls:List (Int×Bool)):List Value:=ls.flatMap fun x=>[.int .i64 x.1,.bool x.2]
theorem flat_len (ls:List (Int×Bool)):(flat ls).length=ls.length * 2:=by
 induction ls with
 | nil=>rfl
 | cons x r ih=>simp only [flat,List.flatMap_cons,List.length_append,List.length_cons,List.length_nil] at *;omega
theorem flat_at (ls:List (Int×Bool)) (i:Nat) (h:i<ls.length):(flat ls)[i * 2]? = some (.int .i64 ls[i].1)∧(flat ls)[i * 2+1]? = some (.bool ls[i].2):=by
 induction ls generalizing i with
 | nil=>simp at h
 | cons x r ih=>
  cases i with
  | zero=>simp [flat]
  | succ i=>
   have:=ih i (by simpa using h)
   have e1:(i+1) * 2=i * 2+2:=by omega
   simpa [flat,e1,List.getElem?_cons] using this
theorem flat_mem (ls:List (Int×Bool)):∀ u∈flat ls,u.oneCell'=true:=by
 intro u hu
 simp only [flat,List.mem_flatMap,List.mem_cons,List.not_mem_nil,or_false] at hu
 obtain ⟨x,_,rfl|rfl⟩:=hu <;> rfl
theorem Tryz.info125:(Tryz.prog.info? 125).map (fun i=>(i.zero,i.size,i.bytes))=some (some (.agg #[.int .i64 0,.bool false]),2,16):=by kernel_rfl
theorem infoOf {P:Program} {t:TypeId} {z:Value} {sz b:Nat} (h:(P.info? t).map (fun i=>(i.zero,i.size,i.bytes))=some (some z,sz,b)) :
  ∃ i,P.info? t=some i∧i.zero=some z∧i.size=sz∧i.bytes=b:=by
 obtain ⟨i,hi,h0⟩:=Option.map_eq_some_iff.1 h
 simp only [Prod.mk.injEq] at h0
 exact ⟨i,hi,h0.1,h0.2.1,h0.2.2⟩
theorem WaysIn.news {w:World} {b o:Nat} {ls:List (Int×Bool)} (h:WaysIn w (some ⟨b,o,none⟩) ls):∀ j u,(flat ls)[j]? = some u→w.cell? ((⟨b,o,none⟩:Addr).add j)=some u:=by
 intro j u hu
 have hj:j<ls.length * 2:=by rw [← flat_len];exact (List.getElem?_eq_some_iff.1 hu).1
 have hadd:(⟨b,o,none⟩:Addr).add j=⟨b,o+j,none⟩:=by unfold Addr.add;split <;> simp_all
 rw [hadd]
 have hi:j / 2<ls.length:=by omega
 obtain ⟨b',o',e,h1,h2⟩:=h (j / 2) hi
 simp only [Option.some.injEq,Addr.mk.injEq,and_true] at e
 obtain ⟨rfl,rfl⟩:=e
 obtain ⟨f1,f2⟩:=flat_at ls (j / 2) hi
 by_cases hm:j % 2=0
 ·have e:j / 2 * 2=j:=by omega
  rw [e] at h1 f1
  rw [hu] at f1
  rw [h1,f1]
 ·have e:j / 2 * 2+1=j:=by omega
  rw [e] at f2
  have e2:o+j / 2 * 2+1=o+j:=by omega
  rw [e2] at h2
  rw [hu] at f2
  rw [h2,f2]
theorem waysIn_of_owns {w:World} {base g n cap:Nat} {ls:List (Int×Bool)} (h:w.ownsRow base 125 2 (.slice (some ⟨g,0,none⟩) n cap) n (flat ls)):WaysIn w (some ⟨g,0,none⟩) ls:=by
 intro i hi
 obtain ⟨f1,f2⟩:=flat_at ls i hi
 have c1:=h.cells (g:=g) rfl _ _ f1
 have c2:=h.cells (g:=g) rfl _ _ f2
 have hadd:∀ j,(⟨g,0,none⟩:Addr).add j=⟨g,0+j,none⟩:=fun j=>by unfold Addr.add;split <;> simp_all
 rw [hadd] at c1 c2
 exact ⟨g,0,rfl,c1,by rw [Nat.add_assoc];exact c2⟩
set_option maxHeartbeats 400000 in
theorem clone53_any (b o:Nat) (ls:List (Int×Bool)) (cap:Nat) (w:World) (hw:WaysIn w (some ⟨b,o,none⟩) ls) (hpos:0<ls.length) (hl:ls.length≤3) :
  Calls Tryz.prog 99 #[.slice (some ⟨b,o,none⟩) ls.length cap] w fun e w'=>∃ g cap',e=.returned (.slice (some ⟨g,0,none⟩) ls.length cap')∧w'.ownsRow w.heap.size 125 2 (.slice (some ⟨g,0,none⟩) ls.length cap') ls.length (flat ls)∧Below w.heap.size w w':=by
 have hnil:=fun (w:World) (a:Option Addr) (n c:Nat)=>Lib.run_eql_slice_nil (P:=Tryz.prog) w 123 125 a n c 0 0 Tryz.underlying123
 obtain ⟨i,hi,hz,hs,hby⟩:=infoOf Tryz.info125
 have h1:Below w.heap.size w (w.alloc (.cells #[] 125)):=(Below.refl _ _).alloc lr _
 have hown:(w.alloc (.cells #[] 125)).ownsRow w.heap.size 125 2 (.slice (some ⟨w.heap.size,0,none⟩) 0 0) 0 []:=World.ownsRow_made w #[] 0 lr (by simp [maxLen]) rfl
 have Hw:=hid (hw.keep h1).news
 go_enter Tryz.func99,Tryz.ntmps99
 go_wp2_with (at_builtin;refine wpList_append_lies _ rfl _ _ _ (by rfl) w.heap.size 125 i _ 2 16 Tryz.underlying123 hi hz hs hby rfl (by omega) (.slice (some ⟨w.heap.size,0,none⟩) 0 0) 0 [] (by rfl) hown ⟨b,o,none⟩ ls.length cap (flat ls) (by rfl) (flat_len ls) Hw.out (flat_mem ls) hpos (by simp [maxLen];omega) (by omega) (by simp) (w.heap.size+1) (by simp) ?_)
 intro g cap' w1 hown1 hgrow hat hlt
 go_wp2
 go_ret
 exact ⟨g,cap',rfl,hown1,h1.grown hgrow (by simp) (fun k hk=>by simp [Value.ownBlock] at hk;omega)⟩
set_option maxHeartbeats 400000 in
theorem writeBack_any (l:Int) (d:Bool) (w:World) :
  Calls Tryz.prog 48 #[.agg #[.int .i64 l,.bool d]] w fun e w'=>e=.returned (.int .i64 (wb d))∧Below w.heap.size w w':=by
 cases d with
 | true=>
  go_enter Tryz.func48,Tryz.ntmps48
  go_wp2
  go_ret
  exact ⟨rfl,(Below.refl _ _).alloc lr _⟩
 | false=>
  go_enter Tryz.func48,Tryz.ntmps48
  go_wp2
  go_ret
  exact ⟨rfl,(Below.refl _ _).alloc lr _⟩
def RowAt (w:World) (g:Nat) (t:TypeId) (L:List Value):Prop:=w.heap[g]? = some (.cells L.toArray t (0,0))
theorem RowAt.cell {w:World} {g:Nat} {t:TypeId} {L:List Value} (h:RowAt w g t L) (i:Nat) (v:Value) (hv:L[i]? = some v):w.cell? ⟨g,i,none⟩=some v:=by
 simp [World.cell?,show w.heap[g]? = _ from h,hv]
theorem RowAt.frozen {w:World} {g:Nat} {t:TypeId} {L:List Value} (h:RowAt w g t L) (i:Nat):w.frozen? ⟨g,i,none⟩=false:=by
 simp [World.frozen?,show w.heap[g]? = _ from h]
theorem RowAt.lt {w:World} {g:Nat} {t:TypeId} {L:List Value} (h:RowAt w g t L):g<w.heap.size:=(Array.getElem?_eq_some_iff.1 h).1
theorem RowAt.setCell {w:World} {g:Nat} {t:TypeId} {L:List Value} (h:RowAt w g t L) (i:Nat) (v:Value):RowAt (w.setCell ⟨g,i,none⟩ v) g t (L.set i v):=by
 have hh:w.heap[g]? = _:=h
 show (w.setCell ⟨g,i,none⟩ v).heap[g]? = _
 simp only [World.setCell,Array.getElem?_modify]
 simp [hh]
theorem RowAt.setOther {w:World} {g:Nat} {t:TypeId} {L:List Value} (h:RowAt w g t L) (a:Addr) (v:Value) (hne:g≠a.block):RowAt (w.setCell a v) g t L:=by
 show (w.setCell a v).heap[g]? = _
 rw [Below.heap_setCell _ _ _ _ hne];exact h
theorem RowAt.alloc {w:World} {g:Nat} {t:TypeId} {L:List Value} (h:RowAt w g t L) (o:Obj):RowAt (w.alloc o) g t L:=by
 show (w.alloc o).heap[g]? = _
 rw [Below.heap_alloc _ _ _ h.lt];exact h
theorem RowAt.below {w w':World} {g B:Nat} {t:TypeId} {L:List Value} (h:RowAt w g t L) (hb:Below B w w') (hB:w.heap.size≤B):RowAt w' g t L:=by
 show w'.heap[g]? = _
 rw [hb.block g (Nat.lt_of_lt_of_le h.lt hB)];exact h
theorem rowAt_of_owns {w:World} {base g n cap:Nat} {ls:List (Int×Bool)} (h:w.ownsRow base 125 2 (.slice (some ⟨g,0,none⟩) n cap) n (flat ls)) :
  ∃ r:List Value,RowAt w g 125 (flat ls++r)∧(flat ls++r).length=cap * 2∧n≤cap∧cap≤maxLen∧base≤g:=by
 obtain ⟨hl,hv⟩:=h
 rcases hv with ⟨e,_⟩|⟨g',cap',cur,e,hb,hg,hn,hm,hs,ht⟩
 ·simp at e
 ·simp only [Value.slice.injEq,Option.some.injEq,Addr.mk.injEq,and_true,true_and] at e
  obtain ⟨rfl,rfl⟩:=e
  refine ⟨cur.toList.drop (n * 2),?_,?_,hn,hm,hb⟩
  ·show w.heap[g]? = _
   rw [← ht,List.take_append_drop];simpa using hg
  ·rw [← ht,List.take_append_drop];simpa using hs
theorem owns_of_rowAt {w:World} {base g n cap:Nat} {ls:List (Int×Bool)} {r:List Value} (h:RowAt w g 125 (flat ls++r)) (hl:(flat ls++r).length=cap * 2) (hn:n≤cap) (hm:cap≤maxLen) (hb:base≤g) (hlen:ls.length=n) :
  w.ownsRow base 125 2 (.slice (some ⟨g,0,none⟩) n cap) n (flat ls):=by
 have e:(flat ls).length=n * 2:=by rw [flat_len,hlen]
 refine ⟨e,.inr ⟨g,cap,(flat ls++r).toArray,rfl,hb,h,hn,hm,by simpa using hl,?_⟩⟩
 simp [← e]
theorem Tryz.sz125:(Tryz.prog.info? 125).map (·.size)=some 2:=by kernel_rfl
theorem cell_new (w:World) (n i:Nat) (cs:Array Value) (t:TypeId) (h:w.heap.size=n):(w.alloc (.cells cs t)).cell? ⟨n,i,none⟩=cs[i]? := by subst h;simp only [World.cell?];rw [heap_alloc_new];rfl
theorem grow_below {w w':World} (g:Nat) (h:Below w.heap.size w w'):w.grownBy w' (some g):=⟨h.os,h.tape,h.output,h.size,fun k hk _=>h.block k hk⟩
theorem grow_setCell (w:World) (g i:Nat) (v:Value):w.grownBy (w.setCell ⟨g,i,none⟩ v) (some g):=
 ⟨rfl,rfl,rfl,by simp [World.setCell],fun k _ hk=>Below.heap_setCell _ _ _ _ (by intro e;exact hk (by rw [e]))⟩
theorem grow_drew (w:World) (row:Option Nat):w.grownBy w.drew row:=⟨rfl,rfl,rfl,Nat.le_refl _,fun _ _ _=>rfl⟩
theorem addZ (g j:Nat):(⟨g,0,none⟩:Addr).add j=⟨g,j,none⟩:=by unfold Addr.add;split <;> simp_all
theorem RowAt.news {w:World} {g:Nat} {t:TypeId} {X Y:List Value} (h:RowAt w g t (X++Y)):∀ j v,X[j]? = some v→w.cell? ((⟨g,0,none⟩:Addr).add j)=some v:=by
 intro j v hv
 rw [addZ]
 refine h.cell j v ?_
 rw [List.getElem?_append_left (List.getElem?_eq_some_iff.1 hv).1];exact hv
theorem RowAt.ways {w:World} {g:Nat} {ls:List (Int×Bool)} {r:List Value} (h:RowAt w g 125 (flat ls++r)):WaysIn w (some ⟨g,0,none⟩) ls:=by
 intro i hi
 obtain ⟨f1,f2⟩:=flat_at ls i hi
 have e1:(0+i * 2)=i * 2:=by omega
 refine ⟨g,0,rfl,?_,?_⟩
 ·rw [e1];refine h.cell _ _ ?_
  rw [List.getElem?_append_left (List.getElem?_eq_some_iff.1 f1).1];exact f1
 ·rw [e1];refine h.cell _ _ ?_
  rw [List.getElem?_append_left (List.getElem?_eq_some_iff.1 f2).1];exact f2
structure Mem where
 a5:Option Addr
 a6:Option Addr
 a7:Option Addr
 a8:Option Addr
 c5:Nat
 c6:Nat
 c7:Nat
 c8:Nat
abbrev cl (C:Conf) (A:Mem):Array Value:=#[.int .i64 C.s,.int .i64 C.w,.int .i64 C.d,.int .i64 C.p,.int .i64 C.q,.slice A.a5 C.sl.length A.c5,.slice A.a6 C.ow.length A.c6,.slice A.a7 C.ch.length A.c7,.slice A.a8 C.ta.length A.c8]
abbrev cv (C:Conf) (A:Mem):Value:=.agg (cl C A)
def SlotsIn (w:World) (a:Option Addr) (ls:List (Int×Int)):Prop:=
 ∀ i (h:i<ls.length),∃ b o,a=some ⟨b,o,none⟩∧w.cell? ⟨b,o+i * 2,none⟩=some (.int .i64 ls[i].1)∧w.cell? ⟨b,o+i * 2+1,none⟩=some (.int .i64 ls[i].2)
def IntsIn (w:World) (a:Option Addr) (ls:List Int):Prop:=
 ∀ i (h:i<ls.length),∃ b o,a=some ⟨b,o,none⟩∧w.cell? ⟨b,o+i,none⟩=some (.int .i64 ls[i])
def ChansIn (w:World) (a:Option Addr) (ls:List (Int×Int×Int)):Prop:=
 ∀ i (h:i<ls.length),∃ b o,a=some ⟨b,o,none⟩∧w.cell? ⟨b,o+i * 3,none⟩=some (.int .i64 ls[i].1)∧w.cell? ⟨b,o+i * 3+1,none⟩=some (.int .i64 ls[i].2.1)∧w.cell? ⟨b,o+i * 3+2,none⟩=some (.int .i64 ls[i].2.2)
def TasksIn (w:World) (a:Option Addr) (ls:List (Int×Int×Int×Int)):Prop:=
 ∀ i (h:i<ls.length),∃ b o,a=some ⟨b,o,none⟩∧w.cell? ⟨b,o+i * 4,none⟩=some (.int .i64 ls[i].1)∧w.cell? ⟨b,o+i * 4+1,none⟩=some (.int .i64 ls[i].2.1)∧w.cell? ⟨b,o+i * 4+2,none⟩=some (.int .i64 ls[i].2.2.1)∧w.cell? ⟨b,o+i * 4+3,none⟩=some (.int .i64 ls[i].2.2.2)
theorem SlotsIn.keep {w w':World} {a:Option Addr} {ls:List (Int×Int)} (h:SlotsIn w a ls) (hb:Below w.heap.size w w'):SlotsIn w' a ls:=by
 intro i hi
 obtain ⟨b,o,e,h1,h2⟩:=h i hi
 exact ⟨b,o,e,bkeep hb h1 lr,bkeep hb h2 lr⟩
theorem IntsIn.keep {w w':World} {a:Option Addr} {ls:List Int} (h:IntsIn w a ls) (hb:Below w.heap.size w w'):IntsIn w' a ls:=by
 intro i hi
 obtain ⟨b,o,e,h1⟩:=h i hi
 exact ⟨b,o,e,bkeep hb h1 lr⟩
theorem ChansIn.keep {w w':World} {a:Option Addr} {ls:List (Int×Int×Int)} (h:ChansIn w a ls) (hb:Below w.heap.size w w'):ChansIn w' a ls:=by
 intro i hi
 obtain ⟨b,o,e,h1,h2,h3⟩:=h i hi
 exact ⟨b,o,e,bkeep hb h1 lr,bkeep hb h2 lr,bkeep hb h3 lr⟩
theorem TasksIn.keep {w w':World} {a:Option Addr} {ls:List (Int×Int×Int×Int)} (h:TasksIn w a ls) (hb:Below w.heap.size w w'):TasksIn w' a ls:=by
 intro i hi
 obtain ⟨b,o,e,h1,h2,h3,h4⟩:=h i hi
 exact ⟨b,o,e,bkeep hb h1 lr,bkeep hb h2 lr,bkeep hb h3 lr,bkeep hb h4 lr⟩
structure ConfIn (w:World) (A:Mem) (C:Conf):Prop where
 sl:SlotsIn w A.a5 C.sl
 ow:IntsIn w A.a6 C.ow
 ch:ChansIn w A.a7 C.ch
 ta:TasksIn w A.a8 C.ta
 l5:C.sl.length≤9223372036854775807
 l6:C.ow.length≤9223372036854775807
 l7:C.ch.length≤9223372036854775807
 l8:C.ta.length≤9223372036854775807
 k7:C.ch.length≤A.c7
theorem ConfIn.keep {w w':World} {A:Mem} {C:Conf} (h:ConfIn w A C) (hb:Below w.heap.size w w'):ConfIn w' A C:=
 ⟨h.sl.keep hb,h.ow.keep hb,h.ch.keep hb,h.ta.keep hb,h.l5,h.l6,h.l7,h.l8,h.k7⟩
structure BoxC (w:World) (b:Nat) (C:Conf) (A:Mem):Prop where
 h0:w.cell? ⟨b,0,none⟩=some (.int .i64 C.s)
 h1:w.cell? ⟨b,1,none⟩=some (.int .i64 C.w)
 h2:w.cell? ⟨b,2,none⟩=some (.int .i64 C.d)
 h3:w.cell? ⟨b,3,none⟩=some (.int .i64 C.p)
 h4:w.cell? ⟨b,4,none⟩=some (.int .i64 C.q)
 h5:w.cell? ⟨b,5,none⟩=some (.slice A.a5 C.sl.length A.c5)
 h6:w.cell? ⟨b,6,none⟩=some (.slice A.a6 C.ow.length A.c6)
 h7:w.cell? ⟨b,7,none⟩=some (.slice A.a7 C.ch.length A.c7)
 h8:w.cell? ⟨b,8,none⟩=some (.slice A.a8 C.ta.length A.c8)
theorem BoxC.keep {w w':World} {b:Nat} {A:Mem} {C:Conf} (h:BoxC w b C A) (hb:Below w.heap.size w w'):BoxC w' b C A:=
 ⟨bkeep hb h.h0 lr,bkeep hb h.h1 lr,bkeep hb h.h2 lr,bkeep hb h.h3 lr,bkeep hb h.h4 lr,bkeep hb h.h5 lr,bkeep hb h.h6 lr,bkeep hb h.h7 lr,bkeep hb h.h8 lr⟩
theorem boxC_new (w:World) (C:Conf) (A:Mem):BoxC (w.alloc (.cells (cl C A) 27)) w.heap.size C A:=by
 constructor <;> simp
theorem below_new (w:World) (o:Obj):Below w.heap.size w (w.alloc o):=(Below.refl _ _).alloc lr _
set_option maxHeartbeats 400000 in
theorem isDomain_any (v0 v1 v3 v4 v5 v6 v7 v8:Value) (d x:Int) (hd1:1≤d) (hd4:d≤4) (w:World) :
  Calls Tryz.prog 80 #[.agg #[v0,v1,.int .i64 d,v3,v4,v5,v6,v7,v8],.int .i64 x] w fun e w'=>e=.returned (.bool (isD d x))∧Below w.heap.size w w':=by
 go_enter Tryz.func80,Tryz.ntmps80
 go_wp2_with fail
 refine (within_any _ _ _ _).mono ?_
 rintro e w' ⟨rfl,rfl⟩
 go_wp2
 go_ret
 exact ⟨rfl,below_new _ _⟩
set_option maxHeartbeats 1000000 in
theorem checkNumbers_any (C:Conf) (A:Mem) (w:World) :
  Calls Tryz.prog 52 #[cv C A] w fun e w'=>e=.returned (.int .i64 (ckNum C))∧Below w.heap.size w w':=by
 unfold cv cl
 go_enter Tryz.func52,Tryz.ntmps52
 go_wp2_with fail
 refine (within_any _ _ _ _).mono ?_
 rintro e w' ⟨rfl,rfl⟩
 cases h1:inR C.s 1 4 with
 | false=>
  go_wp2
  go_ret
  exact ⟨ret_int (by simp [ckNum,h1]),below_new _ _⟩
 | true=>
  have H1:=hid h1
  clear h1
  go_wp2_with fail
  refine (within_any _ _ _ _).mono ?_
  rintro e w' ⟨rfl,rfl⟩
  cases h2:inR C.w 1 3 with
  | false=>
   go_wp2
   go_ret
   exact ⟨ret_int (by simp [ckNum,h2]),below_new _ _⟩
  | true=>
   have H2:=hid h2
   clear h2
   go_wp2_with fail
   refine (within_any _ _ _ _).mono ?_
   rintro e w' ⟨rfl,rfl⟩
   cases h3:inR C.d 1 4 with
   | false=>
    go_wp2
    go_ret
    exact ⟨ret_int (by simp [ckNum,h3]),below_new _ _⟩
   | true=>
    have H3:=hid h3
    clear h3
    go_wp2_with fail
    refine (within_any _ _ _ _).mono ?_
    rintro e w' ⟨rfl,rfl⟩
    cases h4:inR C.q 1 100 with
    | false=>
     go_wp2
     go_ret
     exact ⟨ret_int (by simp [ckNum,h4]),below_new _ _⟩
    | true=>
     go_wp2
     go_ret
     exact ⟨ret_int (by simp [ckNum,H1.out,H2.out,H3.out,h4]),below_new _ _⟩
set_option maxHeartbeats 1000000 in
theorem checkPad_any (C:Conf) (A:Mem) (w:World) (h1:1≤C.s) (h2:C.s≤4) (h3:1≤C.w) (h4:C.w≤3) :
  Calls Tryz.prog 53 #[cv C A] w fun e w'=>e=.returned (.int .i64 (ckPad C))∧Below w.heap.size w w':=by
 have hb1:0≤5 * C.s * C.w:=Int.mul_nonneg (by omega) (by omega)
 have hb2:5 * C.s * C.w≤60:=by
  have h5:(5 * C.s) * C.w≤20 * C.w:=Int.mul_le_mul_of_nonneg_right (by omega) (by omega)
  omega
 unfold cv cl
 go_enter Tryz.func53,Tryz.ntmps53
 go_wp2_with fail
 refine (within_any _ _ _ _).mono ?_
 rintro e w' ⟨rfl,rfl⟩
 cases h1:inR C.p (2+5 * C.s * C.w) 99 with
 | false=>
  go_wp2
  go_ret
  exact ⟨ret_int (by simp [ckPad,h1]),below_new _ _⟩
 | true=>
  go_wp2
  go_ret
  exact ⟨ret_int (by simp [ckPad,h1]),below_new _ _⟩
set_option maxHeartbeats 1000000 in
theorem checkCounts_any (C:Conf) (A:Mem) (w:World) (hC:ConfIn w A C) :
  Calls Tryz.prog 54 #[cv C A] w fun e w'=>e=.returned (.int .i64 (ckCnt C))∧Below w.heap.size w w':=by
 have l5:=hC.l5
 have l6:=hC.l6
 have l7:=hC.l7
 have l8:=hC.l8
 unfold cv cl
 go_enter Tryz.func54,Tryz.ntmps54
 go_wp2_with fail
 refine (within_any _ _ _ _).mono ?_
 rintro e w' ⟨rfl,rfl⟩
 cases h1:inR C.sl.length 1 6 with
 | false=>
  go_wp2
  go_ret
  exact ⟨ret_int (by simp [ckCnt,h1]),below_new _ _⟩
 | true=>
  have H1:=hid h1
  clear h1
  by_cases h2:(C.ow.length:Int) > 4
  ·go_wp2
   go_ret
   exact ⟨ret_int (by rw [ckCnt,if_neg];simp;omega),below_new _ _⟩
  ·by_cases h3:(C.ch.length:Int) > 4
   ·go_wp2
    go_ret
    exact ⟨ret_int (by rw [ckCnt,if_neg];simp;omega),below_new _ _⟩
   ·by_cases h4:(C.ta.length:Int) > 6
    ·go_wp2
     go_ret
     exact ⟨ret_int (by rw [ckCnt,if_neg];simp;omega),below_new _ _⟩
    ·go_wp2
     go_ret
     exact ⟨ret_int (by rw [ckCnt,if_pos];simp [H1.out];omega),below_new _ _⟩
set_option maxHeartbeats 1000000 in
theorem use1_miss (g cap:Nat) (a1 ln:Int) (a2 wr:Bool) (r:List Value) (w:World) (hcap:1≤cap) (hm:cap≤maxLen) (hr:RowAt w g 125 (flat [(a1,a2)]++r))
  (hx:idx ln [(a1,a2)]=-1) :
  Calls Tryz.prog 190 #[.slice (some ⟨g,0,none⟩) 1 cap,.int .i64 ln,.bool wr] w fun e w'=>e=.returned (.int .i64 (10+wb a2))∧RowAt w' g 125 (flat [(ln,wr)]++r)∧w.grownBy w' (some g):=by
 have hg:=hr.lt
 have hw:=hr.ways
 have hcap':(1:Int)≤(cap:Int):=by omega
 have hcap0:(0:Int)≤(cap:Int):=by omega
 unfold maxLen at hm
 go_enter Tryz.func190,Tryz.ntmps190
 go_wp2_with fail
 refine (find_any (some ⟨g,0,none⟩) _ cap ln _ hw (by simp)).mono ?_
 rintro e w1 ⟨rfl,hb1⟩
 rw [hx]
 have hr1:=hr.below hb1 lr
 have c4:=hr1.cell 0 _ rfl
 have c5:=hr1.cell 1 _ rfl
 go_wp2_with fail
 refine (writeBack_any _ _ _).mono ?_
 rintro e w2 ⟨rfl,hb2⟩
 have hb02:=btrans hb1 hb2
 have hr2:=hr1.below hb2 lr
 have d0:=hr2.cell 0 _ rfl
 have d1:=hr2.cell 1 _ rfl
 have hf:∀ i,w2.frozen? ⟨g,i,none⟩=false:=fun i=>hr2.frozen i
 have hg2:g<w2.heap.size:=hr2.lt
 have hq1:=(wb_le a2).1
 have hq2:=(wb_le a2).2
 generalize hq0:wb a2=q at *
 have Hq:=hid hq0
 clear hq0
 clear hx hw hr hr1 c4 c5 hb1 hb2
 go_wp2_with fail
 have Hr3:=hid (((hr2.setCell 0 (.int .i64 ln)).setCell 1 (.bool false)).alloc (.cells #[.int .i64 ln,.bool wr] 125))
 have Hg3:=hid ((((grow_below g hb02).trans (grow_setCell _ g 0 (.int .i64 ln))).trans (grow_setCell _ g 1 (.bool false))).trans (World.grownBy_alloc _ (.cells #[.int .i64 ln,.bool wr] 125) _))
 have hL:((flat [(a1,a2)]++r).set 0 (.int .i64 ln)).set 1 (.bool false)=flat [(ln,false)]++r:=rfl
 rw [hL] at Hr3
 clear hL
 have Hsrc:Hid (RowAt _ g 125 (flat ([]:List (Int×Bool))++(flat [(ln,false)]++r))):=Hr3
 go_region_law (refine step_copyz (by rfl) (.tmp 40) (.tmp 43) 123 123 (by rfl) 125 2 Tryz.underlying123 Tryz.sz125 _ _ _ _ _ _ (by rfl) (by rfl) g 2 (flat [(ln,false)]++r) 125 (by exact Hr3.out) (flat ([]:List (Int×Bool))) (by rfl) (by omega) (fun h0=>⟨absurd h0 (by simp [flat]),_,by rfl,by exact Hsrc.out.news⟩) (by simp [flat] <;> omega) (flat_mem _) 0 (by rfl) ?_;intro w4 hg4 hgr hsz)
 have hne:some w2.heap.size≠some g:=by simp;omega
 have e0:w4.cell? ⟨w2.heap.size,0,none⟩=some (.int .i64 ln):=hgr.cell (by show (World.alloc _ _).cell? _=_;rw [cell_new _ _ _ _ _ (by simp)];rfl) hne
 have e1:w4.cell? ⟨w2.heap.size,1,none⟩=some (.bool wr):=hgr.cell (by show (World.alloc _ _).cell? _=_;rw [cell_new _ _ _ _ _ (by simp)];rfl) hne
 have hr4:RowAt w4 g 125 (flat [(ln,false)]++r):=hg4.out
 have f0:=hr4.cell 0 _ rfl
 have f1:=hr4.cell 1 _ rfl
 have hf4:∀ i,w4.frozen? ⟨g,i,none⟩=false:=fun i=>hr4.frozen i
 have Hr5:=hid ((hr4.setCell 0 (.int .i64 ln)).setCell 1 (.bool wr))
 have Hg5:=hid ((((Hg3.out.trans (grow_drew _ _)).trans hgr).trans (grow_setCell _ g 0 (.int .i64 ln))).trans (grow_setCell _ g 1 (.bool wr)))
 clear hr4 hgr hg4 Hr3 Hg3 Hsrc hr2 d0 d1 hf hb02
 go_wp2
 all_goals go_ret
 all_goals exact ⟨ret_int (by rw [← Hq.out]),Hr5.out,Hg5.out⟩
set_option maxHeartbeats 1000000 in
theorem use1_0t (g cap:Nat) (a1 ln:Int) ( wr:Bool) (r:List Value) (w:World) (hcap:1≤cap) (hm:cap≤maxLen) (hr:RowAt w g 125 (flat [(a1,true)]++r))
  (hx:idx ln [(a1,true)]=0) :
  Calls Tryz.prog 190 #[.slice (some ⟨g,0,none⟩) 1 cap,.int .i64 ln,.bool wr] w fun e w'=>e=.returned (.int .i64 1)∧RowAt w' g 125 (flat [(a1,true)]++r)∧w.grownBy w' (some g):=by
 have hg:=hr.lt
 have hw:=hr.ways
 have hcap':(1:Int)≤(cap:Int):=by omega
 have hcap0:(0:Int)≤(cap:Int):=by omega
 unfold maxLen at hm
 go_enter Tryz.func190,Tryz.ntmps190
 go_wp2_with fail
 refine (find_any (some ⟨g,0,none⟩) _ cap ln _ hw (by simp)).mono ?_
 rintro e w1 ⟨rfl,hb1⟩
 rw [hx]
 have hr1:=hr.below hb1 lr
 obtain ⟨w2,hw2⟩:∃ w2,w2=w1:=⟨_,rfl⟩
 subst hw2
 have hb02:=hb1
 have hr2:=hr1
 have d0:=hr2.cell 0 _ rfl
 have d1:=hr2.cell 1 _ rfl
 have hf:∀ i,w2.frozen? ⟨g,i,none⟩=false:=fun i=>hr2.frozen i
 have hg2:g<w2.heap.size:=hr2.lt
 clear hx hw hr hr1 hb1
 go_wp2_with fail
 have Hr3:=hid (hr2.alloc (.cells #[.int .i64 a1,.bool true] 125))
 have Hg3:=hid ((grow_below g hb02).trans (World.grownBy_alloc _ (.cells #[.int .i64 a1,.bool true] 125) _))
 have Hsrc:Hid (RowAt _ g 125 (flat ([]:List (Int×Bool))++(flat [(a1,true)]++r))):=Hr3
 go_region_law (refine step_copyz (by rfl) (.tmp 40) (.tmp 43) 123 123 (by rfl) 125 2 Tryz.underlying123 Tryz.sz125 _ _ _ _ _ _ (by rfl) (by rfl) g 2 (flat [(a1,true)]++r) 125 (by exact Hr3.out) (flat ([]:List (Int×Bool))) (by rfl) (by omega) (fun h0=>⟨absurd h0 (by simp [flat]),_,by rfl,by exact Hsrc.out.news⟩) (by simp [flat] <;> omega) (flat_mem _) 0 (by rfl) ?_;intro w4 hg4 hgr hsz)
 have hne:some w2.heap.size≠some g:=by simp;omega
 have e0:w4.cell? ⟨w2.heap.size,0,none⟩=some (.int .i64 a1):=hgr.cell (by show (World.alloc _ _).cell? _=_;rw [cell_new _ _ _ _ _ (by simp)];rfl) hne
 have e1:w4.cell? ⟨w2.heap.size,1,none⟩=some (.bool true):=hgr.cell (by show (World.alloc _ _).cell? _=_;rw [cell_new _ _ _ _ _ (by simp)];rfl) hne
 have hr4:RowAt w4 g 125 (flat [(a1,true)]++r):=hg4.out
 have f0:=hr4.cell 0 _ rfl
 have f1:=hr4.cell 1 _ rfl
 have hf4:∀ i,w4.frozen? ⟨g,i,none⟩=false:=fun i=>hr4.frozen i
 have Hr5:=hid ((hr4.setCell 0 (.int .i64 a1)).setCell 1 (.bool true))
 have Hg5:=hid ((((Hg3.out.trans (grow_drew _ _)).trans hgr).trans (grow_setCell _ g 0 (.int .i64 a1))).trans (grow_setCell _ g 1 (.bool true)))
 clear hr4 hgr hg4 Hr3 Hg3 Hsrc hr2 d0 d1 hf hb02
 go_wp2
 all_goals go_ret
 all_goals exact ⟨rfl,Hr5.out,Hg5.out⟩
set_option maxHeartbeats 1000000 in
theorem use1_0f (g cap:Nat) (a1 ln:Int) ( wr:Bool) (r:List Value) (w:World) (hcap:1≤cap) (hm:cap≤maxLen) (hr:RowAt w g 125 (flat [(a1,false)]++r))
  (hx:idx ln [(a1,false)]=0) :
  Calls Tryz.prog 190 #[.slice (some ⟨g,0,none⟩) 1 cap,.int .i64 ln,.bool wr] w fun e w'=>e=.returned (.int .i64 1)∧RowAt w' g 125 (flat [(a1,wr)]++r)∧w.grownBy w' (some g):=by
 have hg:=hr.lt
 have hw:=hr.ways
 have hcap':(1:Int)≤(cap:Int):=by omega
 have hcap0:(0:Int)≤(cap:Int):=by omega
 unfold maxLen at hm
 go_enter Tryz.func190,Tryz.ntmps190
 go_wp2_with fail
 refine (find_any (some ⟨g,0,none⟩) _ cap ln _ hw (by simp)).mono ?_
 rintro e w1 ⟨rfl,hb1⟩
 rw [hx]
 have hr1:=hr.below hb1 lr
 obtain ⟨w2,hw2⟩:∃ w2,w2=w1:=⟨_,rfl⟩
 subst hw2
 have hb02:=hb1
 have hr2:=hr1
 have d0:=hr2.cell 0 _ rfl
 have d1:=hr2.cell 1 _ rfl
 have hf:∀ i,w2.frozen? ⟨g,i,none⟩=false:=fun i=>hr2.frozen i
 have hg2:g<w2.heap.size:=hr2.lt
 clear hx hw hr hr1 hb1
 go_wp2_with fail
 have Hr3:=hid (hr2.alloc (.cells #[.int .i64 a1,.bool wr] 125))
 have Hg3:=hid ((grow_below g hb02).trans (World.grownBy_alloc _ (.cells #[.int .i64 a1,.bool wr] 125) _))
 have Hsrc:Hid (RowAt _ g 125 (flat ([]:List (Int×Bool))++(flat [(a1,false)]++r))):=Hr3
 go_region_law (refine step_copyz (by rfl) (.tmp 40) (.tmp 43) 123 123 (by rfl) 125 2 Tryz.underlying123 Tryz.sz125 _ _ _ _ _ _ (by rfl) (by rfl) g 2 (flat [(a1,false)]++r) 125 (by exact Hr3.out) (flat ([]:List (Int×Bool))) (by rfl) (by omega) (fun h0=>⟨absurd h0 (by simp [flat]),_,by rfl,by exact Hsrc.out.news⟩) (by simp [flat] <;> omega) (flat_mem _) 0 (by rfl) ?_;intro w4 hg4 hgr hsz)
 have hne:some w2.heap.size≠some g:=by simp;omega
 have e0:w4.cell? ⟨w2.heap.size,0,none⟩=some (.int .i64 a1):=hgr.cell (by show (World.alloc _ _).cell? _=_;rw [cell_new _ _ _ _ _ (by simp)];rfl) hne
 have e1:w4.cell? ⟨w2.heap.size,1,none⟩=some (.bool wr):=hgr.cell (by show (World.alloc _ _).cell? _=_;rw [cell_new _ _ _ _ _ (by simp)];rfl) hne
 have hr4:RowAt w4 g 125 (flat [(a1,false)]++r):=hg4.out
 have f0:=hr4.cell 0 _ rfl
 have f1:=hr4.cell 1 _ rfl
 have hf4:∀ i,w4.frozen? ⟨g,i,none⟩=false:=fun i=>hr4.frozen i
 have Hr5:=hid ((hr4.setCell 0 (.int .i64 a1)).setCell 1 (.bool wr))
 have Hg5:=hid ((((Hg3.out.trans (grow_drew _ _)).trans hgr).trans (grow_setCell _ g 0 (.int .i64 a1))).trans (grow_setCell _ g 1 (.bool wr)))
 clear hr4 hgr hg4 Hr3 Hg3 Hsrc hr2 d0 d1 hf hb02
 go_wp2
 all_goals go_ret
 all_goals exact ⟨rfl,Hr5.out,Hg5.out⟩
set_option maxHeartbeats 1000000 in
theorem use2_miss (g cap:Nat) (a1 b1 ln:Int) (a2 b2 wr:Bool) (r:List Value) (w:World) (hcap:2≤cap) (hm:cap≤maxLen) (hr:RowAt w g 125 (flat [(a1,a2),(b1,b2)]++r))
  (hx:idx ln [(a1,a2),(b1,b2)]=-1) :
  Calls Tryz.prog 190 #[.slice (some ⟨g,0,none⟩) 2 cap,.int .i64 ln,.bool wr] w fun e w'=>e=.returned (.int .i64 (10+wb b2))∧RowAt w' g 125 (flat [(ln,wr),(a1,a2)]++r)∧w.grownBy w' (some g):=by
 have hg:=hr.lt
 have hw:=hr.ways
 have hcap':(2:Int)≤(cap:Int):=by omega
 have hcap1:(1:Int)≤(cap:Int):=by omega
 have hcap0:(0:Int)≤(cap:Int):=by omega
 have hne1:¬ cap=1:=by omega
 unfold maxLen at hm
 go_enter Tryz.func190,Tryz.ntmps190
 go_wp2_with fail
 refine (find_any (some ⟨g,0,none⟩) _ cap ln _ hw (by simp)).mono ?_
 rintro e w1 ⟨rfl,hb1⟩
 rw [hx]
 have hr1:=hr.below hb1 lr
 have c4:=hr1.cell 2 _ rfl
 have c5:=hr1.cell 3 _ rfl
 go_wp2_with fail
 refine (writeBack_any _ _ _).mono ?_
 rintro e w2 ⟨rfl,hb2⟩
 have hb02:=btrans hb1 hb2
 have hr2:=hr1.below hb2 lr
 have d0:=hr2.cell 0 _ rfl
 have d1:=hr2.cell 1 _ rfl
 have d2:=hr2.cell 2 _ rfl
 have d3:=hr2.cell 3 _ rfl
 have hf:∀ i,w2.frozen? ⟨g,i,none⟩=false:=fun i=>hr2.frozen i
 have hg2:g<w2.heap.size:=hr2.lt
 have hq1:=(wb_le b2).1
 have hq2:=(wb_le b2).2
 generalize hq0:wb b2=q at *
 have Hq:=hid hq0
 clear hq0
 clear hx hw hr hr1 c4 c5 hb1 hb2
 go_wp2_with fail
 have Hr3:=hid (((hr2.setCell 2 (.int .i64 ln)).setCell 3 (.bool false)).alloc (.cells #[.int .i64 ln,.bool wr] 125))
 have Hg3:=hid ((((grow_below g hb02).trans (grow_setCell _ g 2 (.int .i64 ln))).trans (grow_setCell _ g 3 (.bool false))).trans (World.grownBy_alloc _ (.cells #[.int .i64 ln,.bool wr] 125) _))
 have hL:((flat [(a1,a2),(b1,b2)]++r).set 2 (.int .i64 ln)).set 3 (.bool false)=flat [(a1,a2),(ln,false)]++r:=rfl
 rw [hL] at Hr3
 clear hL
 have Hsrc:Hid (RowAt _ g 125 (flat [(a1,a2)]++(flat [(ln,false)]++r))):=Hr3
 go_region_law (refine step_copyz (by rfl) (.tmp 40) (.tmp 43) 123 123 (by rfl) 125 2 Tryz.underlying123 Tryz.sz125 _ _ _ _ _ _ (by rfl) (by rfl) g 2 (flat [(a1,a2),(ln,false)]++r) 125 (by exact Hr3.out) (flat [(a1,a2)]) (by rfl) (by omega) (fun h0=>⟨by rfl,_,by rfl,by exact Hsrc.out.news⟩) (by simp [flat] <;> omega) (flat_mem _) 1 (by rfl) ?_;intro w4 hg4 hgr hsz)
 have hne:some w2.heap.size≠some g:=by simp;omega
 have e0:w4.cell? ⟨w2.heap.size,0,none⟩=some (.int .i64 ln):=hgr.cell (by show (World.alloc _ _).cell? _=_;rw [cell_new _ _ _ _ _ (by simp)];rfl) hne
 have e1:w4.cell? ⟨w2.heap.size,1,none⟩=some (.bool wr):=hgr.cell (by show (World.alloc _ _).cell? _=_;rw [cell_new _ _ _ _ _ (by simp)];rfl) hne
 have hr4:RowAt w4 g 125 (flat [(a1,a2),(a1,a2)]++r):=hg4.out
 have f0:=hr4.cell 0 _ rfl
 have f1:=hr4.cell 1 _ rfl
 have hf4:∀ i,w4.frozen? ⟨g,i,none⟩=false:=fun i=>hr4.frozen i
 have Hr5:=hid ((hr4.setCell 0 (.int .i64 ln)).setCell 1 (.bool wr))
 have Hg5:=hid ((((Hg3.out.trans (grow_drew _ _)).trans hgr).trans (grow_setCell _ g 0 (.int .i64 ln))).trans (grow_setCell _ g 1 (.bool wr)))
 clear hr4 hgr hg4 Hr3 Hg3 Hsrc hr2 d0 d1 d2 d3 hf hb02
 go_wp2
 all_goals go_ret
 all_goals exact ⟨ret_int (by rw [← Hq.out]),Hr5.out,Hg5.out⟩
set_option maxHeartbeats 1000000 in
theorem use2_0t (g cap:Nat) (a1 b1 ln:Int) (b2 wr:Bool) (r:List Value) (w:World) (hcap:2≤cap) (hm:cap≤maxLen) (hr:RowAt w g 125 (flat [(a1,true),(b1,b2)]++r))
  (hx:idx ln [(a1,true),(b1,b2)]=0) :
  Calls Tryz.prog 190 #[.slice (some ⟨g,0,none⟩) 2 cap,.int .i64 ln,.bool wr] w fun e w'=>e=.returned (.int .i64 1)∧RowAt w' g 125 (flat [(a1,true),(b1,b2)]++r)∧w.grownBy w' (some g):=by
 have hg:=hr.lt
 have hw:=hr.ways
 have hcap':(2:Int)≤(cap:Int):=by omega
 have hcap1:(1:Int)≤(cap:Int):=by omega
 have hcap0:(0:Int)≤(cap:Int):=by omega
 have hne1:¬ cap=1:=by omega
 unfold maxLen at hm
 go_enter Tryz.func190,Tryz.ntmps190
 go_wp2_with fail
 refine (find_any (some ⟨g,0,none⟩) _ cap ln _ hw (by simp)).mono ?_
 rintro e w1 ⟨rfl,hb1⟩
 rw [hx]
 have hr1:=hr.below hb1 lr
 obtain ⟨w2,hw2⟩:∃ w2,w2=w1:=⟨_,rfl⟩
 subst hw2
 have hb02:=hb1
 have hr2:=hr1
 have d0:=hr2.cell 0 _ rfl
 have d1:=hr2.cell 1 _ rfl
 have d2:=hr2.cell 2 _ rfl
 have d3:=hr2.cell 3 _ rfl
 have hf:∀ i,w2.frozen? ⟨g,i,none⟩=false:=fun i=>hr2.frozen i
 have hg2:g<w2.heap.size:=hr2.lt
 clear hx hw hr hr1 hb1
 go_wp2_with fail
 have Hr3:=hid (hr2.alloc (.cells #[.int .i64 a1,.bool true] 125))
 have Hg3:=hid ((grow_below g hb02).trans (World.grownBy_alloc _ (.cells #[.int .i64 a1,.bool true] 125) _))
 have Hsrc:Hid (RowAt _ g 125 (flat ([]:List (Int×Bool))++(flat [(a1,true),(b1,b2)]++r))):=Hr3
 go_region_law (refine step_copyz (by rfl) (.tmp 40) (.tmp 43) 123 123 (by rfl) 125 2 Tryz.underlying123 Tryz.sz125 _ _ _ _ _ _ (by rfl) (by rfl) g 2 (flat [(a1,true),(b1,b2)]++r) 125 (by exact Hr3.out) (flat ([]:List (Int×Bool))) (by rfl) (by omega) (fun h0=>⟨absurd h0 (by simp [flat]),_,by rfl,by exact Hsrc.out.news⟩) (by simp [flat] <;> omega) (flat_mem _) 0 (by rfl) ?_;intro w4 hg4 hgr hsz)
 have hne:some w2.heap.size≠some g:=by simp;omega
 have e0:w4.cell? ⟨w2.heap.size,0,none⟩=some (.int .i64 a1):=hgr.cell (by show (World.alloc _ _).cell? _=_;rw [cell_new _ _ _ _ _ (by simp)];rfl) hne
 have e1:w4.cell? ⟨w2.heap.size,1,none⟩=some (.bool true):=hgr.cell (by show (World.alloc _ _).cell? _=_;rw [cell_new _ _ _ _ _ (by simp)];rfl) hne
 have hr4:RowAt w4 g 125 (flat [(a1,true),(b1,b2)]++r):=hg4.out
 have f0:=hr4.cell 0 _ rfl
 have f1:=hr4.cell 1 _ rfl
 have hf4:∀ i,w4.frozen? ⟨g,i,none⟩=false:=fun i=>hr4.frozen i
 have Hr5:=hid ((hr4.setCell 0 (.int .i64 a1)).setCell 1 (.bool true))
 have Hg5:=hid ((((Hg3.out.trans (grow_drew _ _)).trans hgr).trans (grow_setCell _ g 0 (.int .i64 a1))).trans (grow_setCell _ g 1 (.bool true)))
 clear hr4 hgr hg4 Hr3 Hg3 Hsrc hr2 d0 d1 d2 d3 hf hb02
 go_wp2
 all_goals go_ret
 all_goals exact ⟨rfl,Hr5.out,Hg5.out⟩
set_option maxHeartbeats 1000000 in
theorem use2_0f (g cap:Nat) (a1 b1 ln:Int) (b2 wr:Bool) (r:List Value) (w:World) (hcap:2≤cap) (hm:cap≤maxLen) (hr:RowAt w g 125 (flat [(a1,false),(b1,b2)]++r))
  (hx:idx ln [(a1,false),(b1,b2)]=0) :
  Calls Tryz.prog 190 #[.slice (some ⟨g,0,none⟩) 2 cap,.int .i64 ln,.bool wr] w fun e w'=>e=.returned (.int .i64 1)∧RowAt w' g 125 (flat [(a1,wr),(b1,b2)]++r)∧w.grownBy w' (some g):=by
 have hg:=hr.lt
 have hw:=hr.ways
 have hcap':(2:Int)≤(cap:Int):=by omega
 have hcap1:(1:Int)≤(cap:Int):=by omega
 have hcap0:(0:Int)≤(cap:Int):=by omega
 have hne1:¬ cap=1:=by omega
 unfold maxLen at hm
 go_enter Tryz.func190,Tryz.ntmps190
 go_wp2_with fail
 refine (find_any (some ⟨g,0,none⟩) _ cap ln _ hw (by simp)).mono ?_
 rintro e w1 ⟨rfl,hb1⟩
 rw [hx]
 have hr1:=hr.below hb1 lr
 obtain ⟨w2,hw2⟩:∃ w2,w2=w1:=⟨_,rfl⟩
 subst hw2
 have hb02:=hb1
 have hr2:=hr1
 have d0:=hr2.cell 0 _ rfl
 have d1:=hr2.cell 1 _ rfl
 have d2:=hr2.cell 2 _ rfl
 have d3:=hr2.cell 3 _ rfl
 have hf:∀ i,w2.frozen? ⟨g,i,none⟩=false:=fun i=>hr2.frozen i
 have hg2:g<w2.heap.size:=hr2.lt
 clear hx hw hr hr1 hb1
 go_wp2_with fail
 have Hr3:=hid (hr2.alloc (.cells #[.int .i64 a1,.bool wr] 125))
 have Hg3:=hid ((grow_below g hb02).trans (World.grownBy_alloc _ (.cells #[.int .i64 a1,.bool wr] 125) _))
 have Hsrc:Hid (RowAt _ g 125 (flat ([]:List (Int×Bool))++(flat [(a1,false),(b1,b2)]++r))):=Hr3
 go_region_law (refine step_copyz (by rfl) (.tmp 40) (.tmp 43) 123 123 (by rfl) 125 2 Tryz.underlying123 Tryz.sz125 _ _ _ _ _ _ (by rfl) (by rfl) g 2 (flat [(a1,false),(b1,b2)]++r) 125 (by exact Hr3.out) (flat ([]:List (Int×Bool))) (by rfl) (by omega) (fun h0=>⟨absurd h0 (by simp [flat]),_,by rfl,by exact Hsrc.out.news⟩) (by simp [flat] <;> omega) (flat_mem _) 0 (by rfl) ?_;intro w4 hg4 hgr hsz)
 have hne:some w2.heap.size≠some g:=by simp;omega
 have e0:w4.cell? ⟨w2.heap.size,0,none⟩=some (.int .i64 a1):=hgr.cell (by show (World.alloc _ _).cell? _=_;rw [cell_new _ _ _ _ _ (by simp)];rfl) hne
 have e1:w4.cell? ⟨w2.heap.size,1,none⟩=some (.bool wr):=hgr.cell (by show (World.alloc _ _).cell? _=_;rw [cell_new _ _ _ _ _ (by simp)];rfl) hne
 have hr4:RowAt w4 g 125 (flat [(a1,false),(b1,b2)]++r):=hg4.out
 have f0:=hr4.cell 0 _ rfl
 have f1:=hr4.cell 1 _ rfl
 have hf4:∀ i,w4.frozen? ⟨g,i,none⟩=false:=fun i=>hr4.frozen i
 have Hr5:=hid ((hr4.setCell 0 (.int .i64 a1)).setCell 1 (.bool wr))
 have Hg5:=hid ((((Hg3.out.trans (grow_drew _ _)).trans hgr).trans (grow_setCell _ g 0 (.int .i64 a1))).trans (grow_setCell _ g 1 (.bool wr)))
 clear hr4 hgr hg4 Hr3 Hg3 Hsrc hr2 d0 d1 d2 d3 hf hb02
 go_wp2
 all_goals go_ret
 all_goals exact ⟨rfl,Hr5.out,Hg5.out⟩
set_option maxHeartbeats 1000000 in
theorem use2_1t (g cap:Nat) (a1 b1 ln:Int) (a2 wr:Bool) (r:List Value) (w:World) (hcap:2≤cap) (hm:cap≤maxLen) (hr:RowAt w g 125 (flat [(a1,a2),(b1,true)]++r))
  (hx:idx ln [(a1,a2),(b1,true)]=1) :
  Calls Tryz.prog 190 #[.slice (some ⟨g,0,none⟩) 2 cap,.int .i64 ln,.bool wr] w fun e w'=>e=.returned (.int .i64 1)∧RowAt w' g 125 (flat [(b1,true),(a1,a2)]++r)∧w.grownBy w' (some g):=by
 have hg:=hr.lt
 have hw:=hr.ways
 have hcap':(2:Int)≤(cap:Int):=by omega
 have hcap1:(1:Int)≤(cap:Int):=by omega
 have hcap0:(0:Int)≤(cap:Int):=by omega
 have hne1:¬ cap=1:=by omega
 unfold maxLen at hm
 go_enter Tryz.func190,Tryz.ntmps190
 go_wp2_with fail
 refine (find_any (some ⟨g,0,none⟩) _ cap ln _ hw (by simp)).mono ?_
 rintro e w1 ⟨rfl,hb1⟩
 rw [hx]
 have hr1:=hr.below hb1 lr
 obtain ⟨w2,hw2⟩:∃ w2,w2=w1:=⟨_,rfl⟩
 subst hw2
 have hb02:=hb1
 have hr2:=hr1
 have d0:=hr2.cell 0 _ rfl
 have d1:=hr2.cell 1 _ rfl
 have d2:=hr2.cell 2 _ rfl
 have d3:=hr2.cell 3 _ rfl
 have hf:∀ i,w2.frozen? ⟨g,i,none⟩=false:=fun i=>hr2.frozen i
 have hg2:g<w2.heap.size:=hr2.lt
 clear hx hw hr hr1 hb1
 go_wp2_with fail
 have Hr3:=hid (hr2.alloc (.cells #[.int .i64 b1,.bool true] 125))
 have Hg3:=hid ((grow_below g hb02).trans (World.grownBy_alloc _ (.cells #[.int .i64 b1,.bool true] 125) _))
 have Hsrc:Hid (RowAt _ g 125 (flat [(a1,a2)]++(flat [(b1,true)]++r))):=Hr3
 go_region_law (refine step_copyz (by rfl) (.tmp 40) (.tmp 43) 123 123 (by rfl) 125 2 Tryz.underlying123 Tryz.sz125 _ _ _ _ _ _ (by rfl) (by rfl) g 2 (flat [(a1,a2),(b1,true)]++r) 125 (by exact Hr3.out) (flat [(a1,a2)]) (by rfl) (by omega) (fun h0=>⟨by rfl,_,by rfl,by exact Hsrc.out.news⟩) (by simp [flat] <;> omega) (flat_mem _) 1 (by rfl) ?_;intro w4 hg4 hgr hsz)
 have hne:some w2.heap.size≠some g:=by simp;omega
 have e0:w4.cell? ⟨w2.heap.size,0,none⟩=some (.int .i64 b1):=hgr.cell (by show (World.alloc _ _).cell? _=_;rw [cell_new _ _ _ _ _ (by simp)];rfl) hne
 have e1:w4.cell? ⟨w2.heap.size,1,none⟩=some (.bool true):=hgr.cell (by show (World.alloc _ _).cell? _=_;rw [cell_new _ _ _ _ _ (by simp)];rfl) hne
 have hr4:RowAt w4 g 125 (flat [(a1,a2),(a1,a2)]++r):=hg4.out
 have f0:=hr4.cell 0 _ rfl
 have f1:=hr4.cell 1 _ rfl
 have hf4:∀ i,w4.frozen? ⟨g,i,none⟩=false:=fun i=>hr4.frozen i
 have Hr5:=hid ((hr4.setCell 0 (.int .i64 b1)).setCell 1 (.bool true))
 have Hg5:=hid ((((Hg3.out.trans (grow_drew _ _)).trans hgr).trans (grow_setCell _ g 0 (.int .i64 b1))).trans (grow_setCell _ g 1 (.bool true)))
 clear hr4 hgr hg4 Hr3 Hg3 Hsrc hr2 d0 d1 d2 d3 hf hb02
 go_wp2
 all_goals go_ret
 all_goals exact ⟨rfl,Hr5.out,Hg5.out⟩
set_option maxHeartbeats 1000000 in
theorem use2_1f (g cap:Nat) (a1 b1 ln:Int) (a2 wr:Bool) (r:List Value) (w:World) (hcap:2≤cap) (hm:cap≤maxLen) (hr:RowAt w g 125 (flat [(a1,a2),(b1,false)]++r))
  (hx:idx ln [(a1,a2),(b1,false)]=1) :
  Calls Tryz.prog 190 #[.slice (some ⟨g,0,none⟩) 2 cap,.int .i64 ln,.bool wr] w fun e w'=>e=.returned (.int .i64 1)∧RowAt w' g 125 (flat [(b1,wr),(a1,a2)]++r)∧w.grownBy w' (some g):=by
 have hg:=hr.lt
 have hw:=hr.ways
 have hcap':(2:Int)≤(cap:Int):=by omega
 have hcap1:(1:Int)≤(cap:Int):=by omega
 have hcap0:(0:Int)≤(cap:Int):=by omega
 have hne1:¬ cap=1:=by omega
 unfold maxLen at hm
 go_enter Tryz.func190,Tryz.ntmps190
 go_wp2_with fail
 refine (find_any (some ⟨g,0,none⟩) _ cap ln _ hw (by simp)).mono ?_
 rintro e w1 ⟨rfl,hb1⟩
 rw [hx]
 have hr1:=hr.below hb1 lr
 obtain ⟨w2,hw2⟩:∃ w2,w2=w1:=⟨_,rfl⟩
 subst hw2
 have hb02:=hb1
 have hr2:=hr1
 have d0:=hr2.cell 0 _ rfl
 have d1:=hr2.cell 1 _ rfl
 have d2:=hr2.cell 2 _ rfl
 have d3:=hr2.cell 3 _ rfl
 have hf:∀ i,w2.frozen? ⟨g,i,none⟩=false:=fun i=>hr2.frozen i
 have hg2:g<w2.heap.size:=hr2.lt
 clear hx hw hr hr1 hb1
 go_wp2_with fail
 have Hr3:=hid (hr2.alloc (.cells #[.int .i64 b1,.bool wr] 125))
 have Hg3:=hid ((grow_below g hb02).trans (World.grownBy_alloc _ (.cells #[.int .i64 b1,.bool wr] 125) _))
 have Hsrc:Hid (RowAt _ g 125 (flat [(a1,a2)]++(flat [(b1,false)]++r))):=Hr3
 go_region_law (refine step_copyz (by rfl) (.tmp 40) (.tmp 43) 123 123 (by rfl) 125 2 Tryz.underlying123 Tryz.sz125 _ _ _ _ _ _ (by rfl) (by rfl) g 2 (flat [(a1,a2),(b1,false)]++r) 125 (by exact Hr3.out) (flat [(a1,a2)]) (by rfl) (by omega) (fun h0=>⟨by rfl,_,by rfl,by exact Hsrc.out.news⟩) (by simp [flat] <;> omega) (flat_mem _) 1 (by rfl) ?_;intro w4 hg4 hgr hsz)
 have hne:some w2.heap.size≠some g:=by simp;omega
 have e0:w4.cell? ⟨w2.heap.size,0,none⟩=some (.int .i64 b1):=hgr.cell (by show (World.alloc _ _).cell? _=_;rw [cell_new _ _ _ _ _ (by simp)];rfl) hne
 have e1:w4.cell? ⟨w2.heap.size,1,none⟩=some (.bool wr):=hgr.cell (by show (World.alloc _ _).cell? _=_;rw [cell_new _ _ _ _ _ (by simp)];rfl) hne
 have hr4:RowAt w4 g 125 (flat [(a1,a2),(a1,a2)]++r):=hg4.out
 have f0:=hr4.cell 0 _ rfl
 have f1:=hr4.cell 1 _ rfl
 have hf4:∀ i,w4.frozen? ⟨g,i,none⟩=false:=fun i=>hr4.frozen i
 have Hr5:=hid ((hr4.setCell 0 (.int .i64 b1)).setCell 1 (.bool wr))
 have Hg5:=hid ((((Hg3.out.trans (grow_drew _ _)).trans hgr).trans (grow_setCell _ g 0 (.int .i64 b1))).trans (grow_setCell _ g 1 (.bool wr)))
 clear hr4 hgr hg4 Hr3 Hg3 Hsrc hr2 d0 d1 d2 d3 hf hb02
 go_wp2
 all_goals go_ret
 all_goals exact ⟨rfl,Hr5.out,Hg5.out⟩
set_option maxHeartbeats 1000000 in
theorem use3_miss (g cap:Nat) (a1 b1 c1 ln:Int) (a2 b2 c2 wr:Bool) (r:List Value) (w:World) (hcap:3≤cap) (hm:cap≤maxLen) (hr:RowAt w g 125 (flat [(a1,a2),(b1,b2),(c1,c2)]++r))
  (hx:idx ln [(a1,a2),(b1,b2),(c1,c2)]=-1) :
  Calls Tryz.prog 190 #[.slice (some ⟨g,0,none⟩) 3 cap,.int .i64 ln,.bool wr] w fun e w'=>e=.returned (.int .i64 (10+wb c2))∧RowAt w' g 125 (flat [(ln,wr),(a1,a2),(b1,b2)]++r)∧w.grownBy w' (some g):=by
 have hg:=hr.lt
 have hw:=hr.ways
 have hcap':(3:Int)≤(cap:Int):=by omega
 have hcap1:(1:Int)≤(cap:Int):=by omega
 have hcap2:(2:Int)≤(cap:Int):=by omega
 have hcap0:(0:Int)≤(cap:Int):=by omega
 have hne1:¬ cap=1:=by omega
 unfold maxLen at hm
 go_enter Tryz.func190,Tryz.ntmps190
 go_wp2_with fail
 refine (find_any (some ⟨g,0,none⟩) _ cap ln _ hw (by simp)).mono ?_
 rintro e w1 ⟨rfl,hb1⟩
 rw [hx]
 have hr1:=hr.below hb1 lr
 have c4:=hr1.cell 4 _ rfl
 have c5:=hr1.cell 5 _ rfl
 go_wp2_with fail
 refine (writeBack_any _ _ _).mono ?_
 rintro e w2 ⟨rfl,hb2⟩
 have hb02:=btrans hb1 hb2
 have hr2:=hr1.below hb2 lr
 have d0:=hr2.cell 0 _ rfl
 have d1:=hr2.cell 1 _ rfl
 have d2:=hr2.cell 2 _ rfl
 have d3:=hr2.cell 3 _ rfl
 have d4:=hr2.cell 4 _ rfl
 have d5:=hr2.cell 5 _ rfl
 have hf:∀ i,w2.frozen? ⟨g,i,none⟩=false:=fun i=>hr2.frozen i
 have hg2:g<w2.heap.size:=hr2.lt
 have hq1:=(wb_le c2).1
 have hq2:=(wb_le c2).2
 generalize hq0:wb c2=q at *
 have Hq:=hid hq0
 clear hq0
 clear hx hw hr hr1 c4 c5 hb1 hb2
 go_wp2_with fail
 have Hr3:=hid (((hr2.setCell 4 (.int .i64 ln)).setCell 5 (.bool false)).alloc (.cells #[.int .i64 ln,.bool wr] 125))
 have Hg3:=hid ((((grow_below g hb02).trans (grow_setCell _ g 4 (.int .i64 ln))).trans (grow_setCell _ g 5 (.bool false))).trans (World.grownBy_alloc _ (.cells #[.int .i64 ln,.bool wr] 125) _))
 have hL:((flat [(a1,a2),(b1,b2),(c1,c2)]++r).set 4 (.int .i64 ln)).set 5 (.bool false)=flat [(a1,a2),(b1,b2),(ln,false)]++r:=rfl
 rw [hL] at Hr3
 clear hL
 have Hsrc:Hid (RowAt _ g 125 (flat [(a1,a2),(b1,b2)]++(flat [(ln,false)]++r))):=Hr3
 go_region_law (refine step_copyz (by rfl) (.tmp 40) (.tmp 43) 123 123 (by rfl) 125 2 Tryz.underlying123 Tryz.sz125 _ _ _ _ _ _ (by rfl) (by rfl) g 2 (flat [(a1,a2),(b1,b2),(ln,false)]++r) 125 (by exact Hr3.out) (flat [(a1,a2),(b1,b2)]) (by rfl) (by omega) (fun h0=>⟨by rfl,_,by rfl,by exact Hsrc.out.news⟩) (by simp [flat] <;> omega) (flat_mem _) 2 (by rfl) ?_;intro w4 hg4 hgr hsz)
 have hne:some w2.heap.size≠some g:=by simp;omega
 have e0:w4.cell? ⟨w2.heap.size,0,none⟩=some (.int .i64 ln):=hgr.cell (by show (World.alloc _ _).cell? _=_;rw [cell_new _ _ _ _ _ (by simp)];rfl) hne
 have e1:w4.cell? ⟨w2.heap.size,1,none⟩=some (.bool wr):=hgr.cell (by show (World.alloc _ _).cell? _=_;rw [cell_new _ _ _ _ _ (by simp)];rfl) hne
 have hr4:RowAt w4 g 125 (flat [(a1,a2),(a1,a2),(b1,b2)]++r):=hg4.out
 have f0:=hr4.cell 0 _ rfl
 have f1:=hr4.cell 1 _ rfl
 have hf4:∀ i,w4.frozen? ⟨g,i,none⟩=false:=fun i=>hr4.frozen i
 have Hr5:=hid ((hr4.setCell 0 (.int .i64 ln)).setCell 1 (.bool wr))
 have Hg5:=hid ((((Hg3.out.trans (grow_drew _ _)).trans hgr).trans (grow_setCell _ g 0 (.int .i64 ln))).trans (grow_setCell _ g 1 (.bool wr)))
 clear hr4 hgr hg4 Hr3 Hg3 Hsrc hr2 d0 d1 d2 d3 d4 d5 hf hb02
 go_wp2
 all_goals go_ret
 all_goals exact ⟨ret_int (by rw [← Hq.out]),Hr5.out,Hg5.out⟩
set_option maxHeartbeats 1000000 in
theorem use3_0t (g cap:Nat) (a1 b1 c1 ln:Int) (b2 c2 wr:Bool) (r:List Value) (w:World) (hcap:3≤cap) (hm:cap≤maxLen) (hr:RowAt w g 125 (flat [(a1,true),(b1,b2),(c1,c2)]++r))
  (hx:idx ln [(a1,true),(b1,b2),(c1,c2)]=0) :
  Calls Tryz.prog 190 #[.slice (some ⟨g,0,none⟩) 3 cap,.int .i64 ln,.bool wr] w fun e w'=>e=.returned (.int .i64 1)∧RowAt w' g 125 (flat [(a1,true),(b1,b2),(c1,c2)]++r)∧w.grownBy w' (some g):=by
 have hg:=hr.lt
 have hw:=hr.ways
 have hcap':(3:Int)≤(cap:Int):=by omega
 have hcap1:(1:Int)≤(cap:Int):=by omega
 have hcap2:(2:Int)≤(cap:Int):=by omega
 have hcap0:(0:Int)≤(cap:Int):=by omega
 have hne1:¬ cap=1:=by omega
 unfold maxLen at hm
 go_enter Tryz.func190,Tryz.ntmps190
 go_wp2_with fail
 refine (find_any (some ⟨g,0,none⟩) _ cap ln _ hw (by simp)).mono ?_
 rintro e w1 ⟨rfl,hb1⟩
 rw [hx]
 have hr1:=hr.below hb1 lr
 obtain ⟨w2,hw2⟩:∃ w2,w2=w1:=⟨_,rfl⟩
 subst hw2
 have hb02:=hb1
 have hr2:=hr1
 have d0:=hr2.cell 0 _ rfl
 have d1:=hr2.cell 1 _ rfl
 have d2:=hr2.cell 2 _ rfl
 have d3:=hr2.cell 3 _ rfl
 have d4:=hr2.cell 4 _ rfl
 have d5:=hr2.cell 5 _ rfl
 have hf:∀ i,w2.frozen? ⟨g,i,none⟩=false:=fun i=>hr2.frozen i
 have hg2:g<w2.heap.size:=hr2.lt
 clear hx hw hr hr1 hb1
 go_wp2_with fail
 have Hr3:=hid (hr2.alloc (.cells #[.int .i64 a1,.bool true] 125))
 have Hg3:=hid ((grow_below g hb02).trans (World.grownBy_alloc _ (.cells #[.int .i64 a1,.bool true] 125) _))
 have Hsrc:Hid (RowAt _ g 125 (flat ([]:List (Int×Bool))++(flat [(a1,true),(b1,b2),(c1,c2)]++r))):=Hr3
 go_region_law (refine step_copyz (by rfl) (.tmp 40) (.tmp 43) 123 123 (by rfl) 125 2 Tryz.underlying123 Tryz.sz125 _ _ _ _ _ _ (by rfl) (by rfl) g 2 (flat [(a1,true),(b1,b2),(c1,c2)]++r) 125 (by exact Hr3.out) (flat ([]:List (Int×Bool))) (by rfl) (by omega) (fun h0=>⟨absurd h0 (by simp [flat]),_,by rfl,by exact Hsrc.out.news⟩) (by simp [flat] <;> omega) (flat_mem _) 0 (by rfl) ?_;intro w4 hg4 hgr hsz)
 have hne:some w2.heap.size≠some g:=by simp;omega
 have e0:w4.cell? ⟨w2.heap.size,0,none⟩=some (.int .i64 a1):=hgr.cell (by show (World.alloc _ _).cell? _=_;rw [cell_new _ _ _ _ _ (by simp)];rfl) hne
 have e1:w4.cell? ⟨w2.heap.size,1,none⟩=some (.bool true):=hgr.cell (by show (World.alloc _ _).cell? _=_;rw [cell_new _ _ _ _ _ (by simp)];rfl) hne
 have hr4:RowAt w4 g 125 (flat [(a1,true),(b1,b2),(c1,c2)]++r):=hg4.out
 have f0:=hr4.cell 0 _ rfl
 have f1:=hr4.cell 1 _ rfl
 have hf4:∀ i,w4.frozen? ⟨g,i,none⟩=false:=fun i=>hr4.frozen i
 have Hr5:=hid ((hr4.setCell 0 (.int .i64 a1)).setCell 1 (.bool true))
 have Hg5:=hid ((((Hg3.out.trans (grow_drew _ _)).trans hgr).trans (grow_setCell _ g 0 (.int .i64 a1))).trans (grow_setCell _ g 1 (.bool true)))
 clear hr4 hgr hg4 Hr3 Hg3 Hsrc hr2 d0 d1 d2 d3 d4 d5 hf hb02
 go_wp2
 all_goals go_ret
 all_goals exact ⟨rfl,Hr5.out,Hg5.out⟩
set_option maxHeartbeats 1000000 in
theorem use3_0f (g cap:Nat) (a1 b1 c1 ln:Int) (b2 c2 wr:Bool) (r:List Value) (w:World) (hcap:3≤cap) (hm:cap≤maxLen) (hr:RowAt w g 125 (flat [(a1,false),(b1,b2),(c1,c2)]++r))
  (hx:idx ln [(a1,false),(b1,b2),(c1,c2)]=0) :
  Calls Tryz.prog 190 #[.slice (some ⟨g,0,none⟩) 3 cap,.int .i64 ln,.bool wr] w fun e w'=>e=.returned (.int .i64 1)∧RowAt w' g 125 (flat [(a1,wr),(b1,b2),(c1,c2)]++r)∧w.grownBy w' (some g):=by
 have hg:=hr.lt
 have hw:=hr.ways
 have hcap':(3:Int)≤(cap:Int):=by omega
 have hcap1:(1:Int)≤(cap:Int):=by omega
 have hcap2:(2:Int)≤(cap:Int):=by omega
 have hcap0:(0:Int)≤(cap:Int):=by omega
 have hne1:¬ cap=1:=by omega
 unfold maxLen at hm
 go_enter Tryz.func190,Tryz.ntmps190
 go_wp2_with fail
 refine (find_any (some ⟨g,0,none⟩) _ cap ln _ hw (by simp)).mono ?_
 rintro e w1 ⟨rfl,hb1⟩
 rw [hx]
 have hr1:=hr.below hb1 lr
 obtain ⟨w2,hw2⟩:∃ w2,w2=w1:=⟨_,rfl⟩
 subst hw2
 have hb02:=hb1
 have hr2:=hr1
 have d0:=hr2.cell 0 _ rfl
 have d1:=hr2.cell 1 _ rfl
 have d2:=hr2.cell 2 _ rfl
 have d3:=hr2.cell 3 _ rfl
 have d4:=hr2.cell 4 _ rfl
 have d5:=hr2.cell 5 _ rfl
 have hf:∀ i,w2.frozen? ⟨g,i,none⟩=false:=fun i=>hr2.frozen i
 have hg2:g<w2.heap.size:=hr2.lt
 clear hx hw hr hr1 hb1
 go_wp2_with fail
 have Hr3:=hid (hr2.alloc (.cells #[.int .i64 a1,.bool wr] 125))
 have Hg3:=hid ((grow_below g hb02).trans (World.grownBy_alloc _ (.cells #[.int .i64 a1,.bool wr] 125) _))
 have Hsrc:Hid (RowAt _ g 125 (flat ([]:List (Int×Bool))++(flat [(a1,false),(b1,b2),(c1,c2)]++r))):=Hr3
 go_region_law (refine step_copyz (by rfl) (.tmp 40) (.tmp 43) 123 123 (by rfl) 125 2 Tryz.underlying123 Tryz.sz125 _ _ _ _ _ _ (by rfl) (by rfl) g 2 (flat [(a1,false),(b1,b2),(c1,c2)]++r) 125 (by exact Hr3.out) (flat ([]:List (Int×Bool))) (by rfl) (by omega) (fun h0=>⟨absurd h0 (by simp [flat]),_,by rfl,by exact Hsrc.out.news⟩) (by simp [flat] <;> omega) (flat_mem _) 0 (by rfl) ?_;intro w4 hg4 hgr hsz)
 have hne:some w2.heap.size≠some g:=by simp;omega
 have e0:w4.cell? ⟨w2.heap.size,0,none⟩=some (.int .i64 a1):=hgr.cell (by show (World.alloc _ _).cell? _=_;rw [cell_new _ _ _ _ _ (by simp)];rfl) hne
 have e1:w4.cell? ⟨w2.heap.size,1,none⟩=some (.bool wr):=hgr.cell (by show (World.alloc _ _).cell? _=_;rw [cell_new _ _ _ _ _ (by simp)];rfl) hne
 have hr4:RowAt w4 g 125 (flat [(a1,false),(b1,b2),(c1,c2)]++r):=hg4.out
 have f0:=hr4.cell 0 _ rfl
 have f1:=hr4.cell 1 _ rfl
 have hf4:∀ i,w4.frozen? ⟨g,i,none⟩=false:=fun i=>hr4.frozen i
 have Hr5:=hid ((hr4.setCell 0 (.int .i64 a1)).setCell 1 (.bool wr))
 have Hg5:=hid ((((Hg3.out.trans (grow_drew _ _)).trans hgr).trans (grow_setCell _ g 0 (.int .i64 a1))).trans (grow_setCell _ g 1 (.bool wr)))
 clear hr4 hgr hg4 Hr3 Hg3 Hsrc hr2 d0 d1 d2 d3 d4 d5 hf hb02
 go_wp2
 all_goals go_ret
 all_goals exact ⟨rfl,Hr5.out,Hg5.out⟩
set_option maxHeartbeats 1000000 in
theorem use3_1t (g cap:Nat) (a1 b1 c1 ln:Int) (a2 c2 wr:Bool) (r:List Value) (w:World) (hcap:3≤cap) (hm:cap≤maxLen) (hr:RowAt w g 125 (flat [(a1,a2),(b1,true),(c1,c2)]++r))
  (hx:idx ln [(a1,a2),(b1,true),(c1,c2)]=1) :
  Calls Tryz.prog 190 #[.slice (some ⟨g,0,none⟩) 3 cap,.int .i64 ln,.bool wr] w fun e w'=>e=.returned (.int .i64 1)∧RowAt w' g 125 (flat [(b1,true),(a1,a2),(c1,c2)]++r)∧w.grownBy w' (some g):=by
 have hg:=hr.lt
 have hw:=hr.ways
 have hcap':(3:Int)≤(cap:Int):=by omega
 have hcap1:(1:Int)≤(cap:Int):=by omega
 have hcap2:(2:Int)≤(cap:Int):=by omega
 have hcap0:(0:Int)≤(cap:Int):=by omega
 have hne1:¬ cap=1:=by omega
 unfold maxLen at hm
 go_enter Tryz.func190,Tryz.ntmps190
 go_wp2_with fail
 refine (find_any (some ⟨g,0,none⟩) _ cap ln _ hw (by simp)).mono ?_
 rintro e w1 ⟨rfl,hb1⟩
 rw [hx]
 have hr1:=hr.below hb1 lr
 obtain ⟨w2,hw2⟩:∃ w2,w2=w1:=⟨_,rfl⟩
 subst hw2
 have hb02:=hb1
 have hr2:=hr1
 have d0:=hr2.cell 0 _ rfl
 have d1:=hr2.cell 1 _ rfl
 have d2:=hr2.cell 2 _ rfl
 have d3:=hr2.cell 3 _ rfl
 have d4:=hr2.cell 4 _ rfl
 have d5:=hr2.cell 5 _ rfl
 have hf:∀ i,w2.frozen? ⟨g,i,none⟩=false:=fun i=>hr2.frozen i
 have hg2:g<w2.heap.size:=hr2.lt
 clear hx hw hr hr1 hb1
 go_wp2_with fail
 have Hr3:=hid (hr2.alloc (.cells #[.int .i64 b1,.bool true] 125))
 have Hg3:=hid ((grow_below g hb02).trans (World.grownBy_alloc _ (.cells #[.int .i64 b1,.bool true] 125) _))
 have Hsrc:Hid (RowAt _ g 125 (flat [(a1,a2)]++(flat [(b1,true),(c1,c2)]++r))):=Hr3
 go_region_law (refine step_copyz (by rfl) (.tmp 40) (.tmp 43) 123 123 (by rfl) 125 2 Tryz.underlying123 Tryz.sz125 _ _ _ _ _ _ (by rfl) (by rfl) g 2 (flat [(a1,a2),(b1,true),(c1,c2)]++r) 125 (by exact Hr3.out) (flat [(a1,a2)]) (by rfl) (by omega) (fun h0=>⟨by rfl,_,by rfl,by exact Hsrc.out.news⟩) (by simp [flat] <;> omega) (flat_mem _) 1 (by rfl) ?_;intro w4 hg4 hgr hsz)
 have hne:some w2.heap.size≠some g:=by simp;omega
 have e0:w4.cell? ⟨w2.heap.size,0,none⟩=some (.int .i64 b1):=hgr.cell (by show (World.alloc _ _).cell? _=_;rw [cell_new _ _ _ _ _ (by simp)];rfl) hne
 have e1:w4.cell? ⟨w2.heap.size,1,none⟩=some (.bool true):=hgr.cell (by show (World.alloc _ _).cell? _=_;rw [cell_new _ _ _ _ _ (by simp)];rfl) hne
 have hr4:RowAt w4 g 125 (flat [(a1,a2),(a1,a2),(c1,c2)]++r):=hg4.out
 have f0:=hr4.cell 0 _ rfl
 have f1:=hr4.cell 1 _ rfl
 have hf4:∀ i,w4.frozen? ⟨g,i,none⟩=false:=fun i=>hr4.frozen i
 have Hr5:=hid ((hr4.setCell 0 (.int .i64 b1)).setCell 1 (.bool true))
 have Hg5:=hid ((((Hg3.out.trans (grow_drew _ _)).trans hgr).trans (grow_setCell _ g 0 (.int .i64 b1))).trans (grow_setCell _ g 1 (.bool true)))
 clear hr4 hgr hg4 Hr3 Hg3 Hsrc hr2 d0 d1 d2 d3 d4 d5 hf hb02
 go_wp2
 all_goals go_ret
 all_goals exact ⟨rfl,Hr5.out,Hg5.out⟩
set_option maxHeartbeats 1000000 in
theorem use3_1f (g cap:Nat) (a1 b1 c1 ln:Int) (a2 c2 wr:Bool) (r:List Value) (w:World) (hcap:3≤cap) (hm:cap≤maxLen) (hr:RowAt w g 125 (flat [(a1,a2),(b1,false),(c1,c2)]++r))
  (hx:idx ln [(a1,a2),(b1,false),(c1,c2)]=1) :
  Calls Tryz.prog 190 #[.slice (some ⟨g,0,none⟩) 3 cap,.int .i64 ln,.bool wr] w fun e w'=>e=.returned (.int .i64 1)∧RowAt w' g 125 (flat [(b1,wr),(a1,a2),(c1,c2)]++r)∧w.grownBy w' (some g):=by
 have hg:=hr.lt
 have hw:=hr.ways
 have hcap':(3:Int)≤(cap:Int):=by omega
 have hcap1:(1:Int)≤(cap:Int):=by omega
 have hcap2:(2:Int)≤(cap:Int):=by omega
 have hcap0:(0:Int)≤(cap:Int):=by omega
 have hne1:¬ cap=1:=by omega
 unfold maxLen at hm
 go_enter Tryz.func190,Tryz.ntmps190
 go_wp2_with fail
 refine (find_any (some ⟨g,0,none⟩) _ cap ln _ hw (by simp)).mono ?_
 rintro e w1 ⟨rfl,hb1⟩
 rw [hx]
 have hr1:=hr.below hb1 lr
 obtain ⟨w2,hw2⟩:∃ w2,w2=w1:=⟨_,rfl⟩
 subst hw2
 have hb02:=hb1
 have hr2:=hr1
 have d0:=hr2.cell 0 _ rfl
 have d1:=hr2.cell 1 _ rfl
 have d2:=hr2.cell 2 _ rfl
 have d3:=hr2.cell 3 _ rfl
 have d4:=hr2.cell 4 _ rfl
 have d5:=hr2.cell 5 _ rfl
 have hf:∀ i,w2.frozen? ⟨g,i,none⟩=false:=fun i=>hr2.frozen i
 have hg2:g<w2.heap.size:=hr2.lt
 clear hx hw hr hr1 hb1
 go_wp2_with fail
 have Hr3:=hid (hr2.alloc (.cells #[.int .i64 b1,.bool wr] 125))
 have Hg3:=hid ((grow_below g hb02).trans (World.grownBy_alloc _ (.cells #[.int .i64 b1,.bool wr] 125) _))
 have Hsrc:Hid (RowAt _ g 125 (flat [(a1,a2)]++(flat [(b1,false),(c1,c2)]++r))):=Hr3
 go_region_law (refine step_copyz (by rfl) (.tmp 40) (.tmp 43) 123 123 (by rfl) 125 2 Tryz.underlying123 Tryz.sz125 _ _ _ _ _ _ (by rfl) (by rfl) g 2 (flat [(a1,a2),(b1,false),(c1,c2)]++r) 125 (by exact Hr3.out) (flat [(a1,a2)]) (by rfl) (by omega) (fun h0=>⟨by rfl,_,by rfl,by exact Hsrc.out.news⟩) (by simp [flat] <;> omega) (flat_mem _) 1 (by rfl) ?_;intro w4 hg4 hgr hsz)
 have hne:some w2.heap.size≠some g:=by simp;omega
 have e0:w4.cell? ⟨w2.heap.size,0,none⟩=some (.int .i64 b1):=hgr.cell (by show (World.alloc _ _).cell? _=_;rw [cell_new _ _ _ _ _ (by simp)];rfl) hne
 have e1:w4.cell? ⟨w2.heap.size,1,none⟩=some (.bool wr):=hgr.cell (by show (World.alloc _ _).cell? _=_;rw [cell_new _ _ _ _ _ (by simp)];rfl) hne
 have hr4:RowAt w4 g 125 (flat [(a1,a2),(a1,a2),(c1,c2)]++r):=hg4.out
 have f0:=hr4.cell 0 _ rfl
 have f1:=hr4.cell 1 _ rfl
 have hf4:∀ i,w4.frozen? ⟨g,i,none⟩=false:=fun i=>hr4.frozen i
 have Hr5:=hid ((hr4.setCell 0 (.int .i64 b1)).setCell 1 (.bool wr))
 have Hg5:=hid ((((Hg3.out.trans (grow_drew _ _)).trans hgr).trans (grow_setCell _ g 0 (.int .i64 b1))).trans (grow_setCell _ g 1 (.bool wr)))
 clear hr4 hgr hg4 Hr3 Hg3 Hsrc hr2 d0 d1 d2 d3 d4 d5 hf hb02
 go_wp2
 all_goals go_ret
 all_goals exact ⟨rfl,Hr5.out,Hg5.out⟩
set_option maxHeartbeats 1000000 in
theorem use3_2t (g cap:Nat) (a1 b1 c1 ln:Int) (a2 b2 wr:Bool) (r:List Value) (w:World) (hcap:3≤cap) (hm:cap≤maxLen) (hr:RowAt w g 125 (flat [(a1,a2),(b1,b2),(c1,true)]++r))
  (hx:idx ln [(a1,a2),(b1,b2),(c1,true)]=2) :
  Calls Tryz.prog 190 #[.slice (some ⟨g,0,none⟩) 3 cap,.int .i64 ln,.bool wr] w fun e w'=>e=.returned (.int .i64 1)∧RowAt w' g 125 (flat [(c1,true),(a1,a2),(b1,b2)]++r)∧w.grownBy w' (some g):=by
 have hg:=hr.lt
 have hw:=hr.ways
 have hcap':(3:Int)≤(cap:Int):=by omega
 have hcap1:(1:Int)≤(cap:Int):=by omega
 have hcap2:(2:Int)≤(cap:Int):=by omega
 have hcap0:(0:Int)≤(cap:Int):=by omega
 have hne1:¬ cap=1:=by omega
 unfold maxLen at hm
 go_enter Tryz.func190,Tryz.ntmps190
 go_wp2_with fail
 refine (find_any (some ⟨g,0,none⟩) _ cap ln _ hw (by simp)).mono ?_
 rintro e w1 ⟨rfl,hb1⟩
 rw [hx]
 have hr1:=hr.below hb1 lr
 obtain ⟨w2,hw2⟩:∃ w2,w2=w1:=⟨_,rfl⟩
 subst hw2
 have hb02:=hb1
 have hr2:=hr1
 have d0:=hr2.cell 0 _ rfl
 have d1:=hr2.cell 1 _ rfl
 have d2:=hr2.cell 2 _ rfl
 have d3:=hr2.cell 3 _ rfl
 have d4:=hr2.cell 4 _ rfl
 have d5:=hr2.cell 5 _ rfl
 have hf:∀ i,w2.frozen? ⟨g,i,none⟩=false:=fun i=>hr2.frozen i
 have hg2:g<w2.heap.size:=hr2.lt
 clear hx hw hr hr1 hb1
 go_wp2_with fail
 have Hr3:=hid (hr2.alloc (.cells #[.int .i64 c1,.bool true] 125))
 have Hg3:=hid ((grow_below g hb02).trans (World.grownBy_alloc _ (.cells #[.int .i64 c1,.bool true] 125) _))
 have Hsrc:Hid (RowAt _ g 125 (flat [(a1,a2),(b1,b2)]++(flat [(c1,true)]++r))):=Hr3
 go_region_law (refine step_copyz (by rfl) (.tmp 40) (.tmp 43) 123 123 (by rfl) 125 2 Tryz.underlying123 Tryz.sz125 _ _ _ _ _ _ (by rfl) (by rfl) g 2 (flat [(a1,a2),(b1,b2),(c1,true)]++r) 125 (by exact Hr3.out) (flat [(a1,a2),(b1,b2)]) (by rfl) (by omega) (fun h0=>⟨by rfl,_,by rfl,by exact Hsrc.out.news⟩) (by simp [flat] <;> omega) (flat_mem _) 2 (by rfl) ?_;intro w4 hg4 hgr hsz)
 have hne:some w2.heap.size≠some g:=by simp;omega
 have e0:w4.cell? ⟨w2.heap.size,0,none⟩=some (.int .i64 c1):=hgr.cell (by show (World.alloc _ _).cell? _=_;rw [cell_new _ _ _ _ _ (by simp)];rfl) hne
 have e1:w4.cell? ⟨w2.heap.size,1,none⟩=some (.bool true):=hgr.cell (by show (World.alloc _ _).cell? _=_;rw [cell_new _ _ _ _ _ (by simp)];rfl) hne
 have hr4:RowAt w4 g 125 (flat [(a1,a2),(a1,a2),(b1,b2)]++r):=hg4.out
 have f0:=hr4.cell 0 _ rfl
 have f1:=hr4.cell 1 _ rfl
 have hf4:∀ i,w4.frozen? ⟨g,i,none⟩=false:=fun i=>hr4.frozen i
 have Hr5:=hid ((hr4.setCell 0 (.int .i64 c1)).setCell 1 (.bool true))
 have Hg5:=hid ((((Hg3.out.trans (grow_drew _ _)).trans hgr).trans (grow_setCell _ g 0 (.int .i64 c1))).trans (grow_setCell _ g 1 (.bool true)))
 clear hr4 hgr hg4 Hr3 Hg3 Hsrc hr2 d0 d1 d2 d3 d4 d5 hf hb02
 go_wp2
 all_goals go_ret
 all_goals exact ⟨rfl,Hr5.out,Hg5.out⟩
set_option maxHeartbeats 1000000 in
theorem use3_2f (g cap:Nat) (a1 b1 c1 ln:Int) (a2 b2 wr:Bool) (r:List Value) (w:World) (hcap:3≤cap) (hm:cap≤maxLen) (hr:RowAt w g 125 (flat [(a1,a2),(b1,b2),(c1,false)]++r))
  (hx:idx ln [(a1,a2),(b1,b2),(c1,false)]=2) :
  Calls Tryz.prog 190 #[.slice (some ⟨g,0,none⟩) 3 cap,.int .i64 ln,.bool wr] w fun e w'=>e=.returned (.int .i64 1)∧RowAt w' g 125 (flat [(c1,wr),(a1,a2),(b1,b2)]++r)∧w.grownBy w' (some g):=by
 have hg:=hr.lt
 have hw:=hr.ways
 have hcap':(3:Int)≤(cap:Int):=by omega
 have hcap1:(1:Int)≤(cap:Int):=by omega
 have hcap2:(2:Int)≤(cap:Int):=by omega
 have hcap0:(0:Int)≤(cap:Int):=by omega
 have hne1:¬ cap=1:=by omega
 unfold maxLen at hm
 go_enter Tryz.func190,Tryz.ntmps190
 go_wp2_with fail
 refine (find_any (some ⟨g,0,none⟩) _ cap ln _ hw (by simp)).mono ?_
 rintro e w1 ⟨rfl,hb1⟩
 rw [hx]
 have hr1:=hr.below hb1 lr
 obtain ⟨w2,hw2⟩:∃ w2,w2=w1:=⟨_,rfl⟩
 subst hw2
 have hb02:=hb1
 have hr2:=hr1
 have d0:=hr2.cell 0 _ rfl
 have d1:=hr2.cell 1 _ rfl
 have d2:=hr2.cell 2 _ rfl
 have d3:=hr2.cell 3 _ rfl
 have d4:=hr2.cell 4 _ rfl
 have d5:=hr2.cell 5 _ rfl
 have hf:∀ i,w2.frozen? ⟨g,i,none⟩=false:=fun i=>hr2.frozen i
 have hg2:g<w2.heap.size:=hr2.lt
 clear hx hw hr hr1 hb1
 go_wp2_with fail
 have Hr3:=hid (hr2.alloc (.cells #[.int .i64 c1,.bool wr] 125))
 have Hg3:=hid ((grow_below g hb02).trans (World.grownBy_alloc _ (.cells #[.int .i64 c1,.bool wr] 125) _))
 have Hsrc:Hid (RowAt _ g 125 (flat [(a1,a2),(b1,b2)]++(flat [(c1,false)]++r))):=Hr3
 go_region_law (refine step_copyz (by rfl) (.tmp 40) (.tmp 43) 123 123 (by rfl) 125 2 Tryz.underlying123 Tryz.sz125 _ _ _ _ _ _ (by rfl) (by rfl) g 2 (flat [(a1,a2),(b1,b2),(c1,false)]++r) 125 (by exact Hr3.out) (flat [(a1,a2),(b1,b2)]) (by rfl) (by omega) (fun h0=>⟨by rfl,_,by rfl,by exact Hsrc.out.news⟩) (by simp [flat] <;> omega) (flat_mem _) 2 (by rfl) ?_;intro w4 hg4 hgr hsz)
 have hne:some w2.heap.size≠some g:=by simp;omega
 have e0:w4.cell? ⟨w2.heap.size,0,none⟩=some (.int .i64 c1):=hgr.cell (by show (World.alloc _ _).cell? _=_;rw [cell_new _ _ _ _ _ (by simp)];rfl) hne
 have e1:w4.cell? ⟨w2.heap.size,1,none⟩=some (.bool wr):=hgr.cell (by show (World.alloc _ _).cell? _=_;rw [cell_new _ _ _ _ _ (by simp)];rfl) hne
 have hr4:RowAt w4 g 125 (flat [(a1,a2),(a1,a2),(b1,b2)]++r):=hg4.out
 have f0:=hr4.cell 0 _ rfl
 have f1:=hr4.cell 1 _ rfl
 have hf4:∀ i,w4.frozen? ⟨g,i,none⟩=false:=fun i=>hr4.frozen i
 have Hr5:=hid ((hr4.setCell 0 (.int .i64 c1)).setCell 1 (.bool wr))
 have Hg5:=hid ((((Hg3.out.trans (grow_drew _ _)).trans hgr).trans (grow_setCell _ g 0 (.int .i64 c1))).trans (grow_setCell _ g 1 (.bool wr)))
 clear hr4 hgr hg4 Hr3 Hg3 Hsrc hr2 d0 d1 d2 d3 d4 d5 hf hb02
 go_wp2
 all_goals go_ret
 all_goals exact ⟨rfl,Hr5.out,Hg5.out⟩
end Go.Proofs.YtejhccmclanlmaaGreatDoor
