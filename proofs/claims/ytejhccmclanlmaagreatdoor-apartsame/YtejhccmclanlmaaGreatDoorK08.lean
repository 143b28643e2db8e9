/- Texts joined: Xc Xd Ob Oc Xe Xdr Od. -/
import Derived.Lib.AppendZeros
import Derived.Laws.BitsLemmas
import Derived.Laws.IdiomStrings
import Derived.Test.YtejhccmclanlmaaGreatDoorK00
import Derived.Test.YtejhccmclanlmaaGreatDoorK06
import Derived.Test.YtejhccmclanlmaaGreatDoorK07
set_option linter.unusedVariables false
set_option maxRecDepth 100000
namespace Go.Proofs.YtejhccmclanlmaaGreatDoor
open Go.RowKit
theorem Tryz.info3x:(Tryz.prog.info? 3).map (fun i=>(i.zero,i.size,i.bytes))=some (some (.int .i64 0),1,8):=by kernel_rfl
def ivs (l:List Int):List Value:=l.map fun n=>.int .i64 n
theorem ivs_len (l:List Int):(ivs l).length=l.length:=by simp [ivs]
theorem ivs_app (l m:List Int):ivs (l++m)=ivs l++ivs m:=by simp [ivs]
theorem i64x_one (l:List Int):∀ u∈ivs l,u.oneCell'=true:=by
 intro u hu
 simp only [ivs,List.mem_map] at hu
 obtain ⟨n,_,rfl⟩:=hu
 rfl
theorem append_none {P:Program} (w:World) (t ty e:TypeId) (i:TypeInfo) (ht:P.underlying t=some (.slice e)) (hi:P.info? e=some i) (p:Option Addr) (n cap:Nat) (ax:Option Addr) (c:Nat) (hroom:n≤cap) :
  (Builtin.append_ #[t,t] ty #[.slice p n cap,.slice ax 0 c]).run P w=.ok (.slice p n cap) w:=by
 cases p <;> cases ax <;> simp [Builtin.append_,run_underlying ht,sizeOf,typeInfo,hi,Builtin.lenOf,hroom,Builtin.firstCells,loadCells,loadCellsFrom,storeCells]
theorem wpList_appI {ops:Array Oper} {rest:List Oper} {o:Oper} {a:Act} {w:World} {Q:Exit→Act→World→Prop} (hgd:o.guard=none) (s x:Operand)
  (ho:o.op=.call { callee:=.builtin .append,args:=#[s,x],argTypes:=#[23,23] })
  (base:Nat) (v:Value) (n:Nat) (xs:List Value) (hs:a.eval s=v) (hown:w.ownsRow base 3 1 v n xs)
  (L:List Int) (a6:Option Addr) (c6:Nat) (hx:a.eval x=.slice a6 L.length c6) (hL:IntsIn w a6 L) (h63:n+L.length≤maxLen) (hbytes:(n+L.length) * 8≤140737488355328) (hbase:base≤w.heap.size)
  (h:∀ v' w',w'.ownsRow base 3 1 v' (n+L.length) (xs++ivs L)→w.grownBy w' v.ownBlock→wpList Tryz.prog ops Q rest (a.put o.dst v') w'):wpList Tryz.prog ops Q (o :: rest) a w:=by
 obtain ⟨i3,hi,hz,hsz,hby⟩:=infoOf Tryz.info3x
 by_cases hL0:L=[]
 ·subst hL0
  have hroom:∃ p cap,v=.slice p n cap∧n≤cap:=by
   rcases hown.2 with ⟨e,e2⟩|⟨g,cap,_,e,_,_,h,_⟩
   ·exact ⟨none,0,by rw [e,e2],by omega⟩
   ·exact ⟨_,cap,e,h⟩
  obtain ⟨p,cap,rfl,hr⟩:=hroom
  refine wpList_plain hgd fun K hK=>?_
  have hrun:=append_none (P:=Tryz.prog) w 23 o.type 3 i3 Tryz.underlying23 hi p n cap a6 c6 hr
  unfold Oper.wp
  simp [execOp,ho,resolve,invoke,builtin,hs,hx,hrun,Result.andThen]
  exact hK _ _ (h _ _ (by simpa [ivs] using hown) ⟨rfl,rfl,rfl,Nat.le_refl _,fun _ _ _=>rfl⟩)
 ·obtain ⟨b,off,rfl,_⟩:=hL 0 (List.length_pos_iff.2 hL0)
  refine wpList_append_own w hgd s x 23 ho base 3 i3 _ 1 8 Tryz.underlying23 hi hz hsz hby rfl (by decide) v n xs hs hown ⟨b,off,none⟩ L.length c6 (ivs L) hx (by simp [ivs]) ?_ (i64x_one L) h63 hbytes hbase (fun v' w' h1 h2 _=>h v' w' h1 h2)
  intro j u hu
  have hj:j<L.length:=by
   have:=(List.getElem?_eq_some_iff.1 hu).1
   rwa [ivs_len] at this
  obtain ⟨b2,o2,e,hc⟩:=hL j hj
  simp only [Option.some.injEq,Addr.mk.injEq,and_true] at e
  obtain ⟨rfl,rfl⟩:=e
  have hadd:(⟨b,off,none⟩:Addr).add j=⟨b,off+j,none⟩:=by unfold Addr.add;split <;> simp_all
  rw [hadd,hc]
  simp only [ivs,List.getElem?_map,List.getElem?_eq_getElem hj,Option.map_some] at hu
  rw [← hu]
theorem ints_own {w:World} {base n:Nat} {v:Value} {l:List Int} (h:w.ownsRow base 3 1 v n (ivs l)):∃ a c,v=.slice a l.length c∧n=l.length∧IntsIn w a l∧l.length≤c∧l.length≤9223372036854775807∧∀ b o,a=some ⟨b,o,none⟩→base≤b∧b<w.heap.size:=by
 have hlen:n=l.length:=by have:=h.1;simp [ivs] at this;omega
 subst hlen
 have h':=h
 obtain ⟨hl,hv⟩:=h
 rcases hv with ⟨rfl,hn⟩|⟨g,cap,cur,rfl,hb,hg,hnc,hm,hcs,ht⟩
 ·exact ⟨none,0,by rw [hn],rfl,fun i hi=>by omega,by omega,by omega,fun b o e=>by simp at e⟩
 ·refine ⟨_,cap,rfl,rfl,fun i hi=>?_,hnc,by simp only [maxLen] at hm;omega,fun b o e=>?_⟩
  ·refine ⟨g,0,rfl,?_⟩
   have:=h'.cells (g:=g) rfl i (.int .i64 l[i]) (by simp [ivs,hi])
   rw [addZ] at this
   rw [Nat.zero_add];exact this
  ·simp at e
   obtain ⟨rfl,_⟩:=e
   exact ⟨hb,(Array.getElem?_eq_some_iff.1 hg).1⟩
theorem ownsx_mono {w:World} {base base' e size n:Nat} {v:Value} {xs:List Value} (h:w.ownsRow base e size v n xs) (hb:base'≤base):w.ownsRow base' e size v n xs:=by
 refine ⟨h.1,?_⟩
 rcases h.2 with q|⟨g,cap,cur,e1,e2,r⟩
 ·exact .inl q
 ·exact .inr ⟨g,cap,cur,e1,by omega,r⟩
theorem ownsx_kept {w w':World} {base e size n b:Nat} {v:Value} {xs:List Value} (h:w.ownsRow base e size v n xs) (hg:w.grownBy w' (some b)) (hb:b<base):w'.ownsRow base e size v n xs:=by
 refine h.kept hg ?_
 cases hv:v.ownBlock with
 | none=>exact .inl rfl
 | some g=>right;have:=(h.lt g hv).1;simp;omega
theorem ownsx_set {w:World} {base e size n b:Nat} {v:Value} {xs:List Value} (h:w.ownsRow base e size v n xs) (i:Nat) (u:Value) (hb:b<base):(w.setCell ⟨b,i,none⟩ u).ownsRow base e size v n xs:=ownsx_kept h (grow_setCell _ _ _ _) hb
set_option maxHeartbeats 400000 in
theorem clone87_any (a:Option Addr) (L:List Int) (cap:Nat) (w:World) (hw:IntsIn w a L) (hl:L.length≤4) (hnil:a=none→L=[]) :
  Calls Tryz.prog 97 #[.slice a L.length cap] w fun e w'=>∃ v,e=.returned v∧w'.ownsRow w.heap.size 3 1 v L.length (ivs L)∧Below w.heap.size w w':=by
 have hnilq:=fun (w:World) (a:Option Addr) (n c:Nat)=>Lib.run_eql_slice_nil (P:=Tryz.prog) w 23 3 a n c 0 0 Tryz.underlying23
 cases a with
 | none=>
  obtain rfl:=hnil rfl
  go_enter Tryz.func97,Tryz.ntmps97
  go_wp2
  go_ret
  exact ⟨_,rfl,World.ownsRow_nil _ _ _ _,Below.refl _ _⟩
 | some p=>
  have h1:Below w.heap.size w (w.alloc (.cells #[] 3)):=below_new _ _
  have hown:Hid ((w.alloc (.cells #[] 3)).ownsRow w.heap.size 3 1 (.slice (some ⟨w.heap.size,0,none⟩) 0 0) 0 []):=hid (World.ownsRow_made w #[] 0 lr (by simp [maxLen]) rfl)
  have Hw:=hid (hw.keep h1)
  go_enter Tryz.func97,Tryz.ntmps97
  go_wp2_with (at_builtin;refine wpList_appI rfl _ _ rfl w.heap.size (.slice (some ⟨w.heap.size,0,none⟩) 0 0) 0 [] rfl hown.out L _ _ rfl Hw.out (by simp [maxLen];omega) (by omega) (by simp) ?_)
  intro v' w1 hown1 hgrow
  have HE:=hid (show w1.ownsRow w.heap.size 3 1 v' L.length (ivs L)∧Below w.heap.size w w1 from ⟨by simpa using hown1,h1.grown hgrow (by simp) (fun k hk=>by simp [Value.ownBlock] at hk;omega)⟩)
  clear hown1 hgrow hown h1 Hw
  go_wp2
  go_ret
  exact ⟨_,rfl,HE.out⟩
def recvV (V:List Int) (lost size:Int):List Int:=if ckR V lost size=0 then V.drop 1 else []
def recvL (V:List Int) (lost size:Int):Int:=if ckR V lost size=0 then lost else 0
def recvX (V:List Int) (lost size:Int):Int:=if ckR V lost size=0 then V.headD (-1) else 0
set_option maxHeartbeats 1000000 in
theorem receive_bad (a:Option Addr) (V:List Int) (cap:Nat) (lost size:Int) (w:World) (hw:IntsIn w a V) (hl:V.length≤9223372036854775807) (h0:ckR V lost size≠0) :
  Calls Tryz.prog 178 #[.agg #[.slice a V.length cap,.int .i64 lost],.int .i64 size] w fun e w'=>e=.returned (.tuple #[.agg #[.slice none 0 0,.int .i64 0],.int .i64 0,.int .i64 (ckR V lost size)])∧Below w.heap.size w w':=by
 have q1:=below_new w (.cells #[.slice a V.length cap,.int .i64 lost] 90)
 have q2:=below_new (w.alloc (.cells #[.slice a V.length cap,.int .i64 lost] 90)) (.cells #[.slice none 0 0,.int .i64 0] 90)
 have HB:=hid (btrans q1 q2)
 have HW:=hid (hw.keep (btrans q1 q2))
 have R4:Hid (RowAt ((w.alloc (.cells #[.slice a V.length cap,.int .i64 lost] 90)).alloc (.cells #[.slice none 0 0,.int .i64 0] 90)) (w.heap.size+1) 90 [.slice none 0 0,.int .i64 0]):=hid (rowAt_new2 _ _ [.slice none 0 0,.int .i64 0] 90 (by simp))
 clear q1 q2 hw
 go_enter Tryz.func178,Tryz.ntmps178
 go_wp2_with fail
 refine (ringCheck_any a V cap lost size _ HW.out hl).mono ?_
 rintro e w2 ⟨rfl,hb2⟩
 have hx:(ckR V lost size != 0)=true:=by simp [h0]
 have R5:=hid (R4.out.below hb2 lr)
 have B5:=hid (btrans HB.out hb2)
 have x0:=R5.out.cell 0 _ rfl
 have y0:=R5.out.frozen 0
 have x1:=R5.out.cell 1 _ rfl
 have y1:=R5.out.frozen 1
 clear h0 hb2 HB HW R4
 generalize hq:ckR V lost size=q at *
 have HQ:=hid hq
 clear hq
 have R6:=hid ((R5.out.setCell 0 (.slice none 0 0)).setCell 1 (.int .i64 0))
 have B6:=hid ((B5.out.setCell (p:=⟨w.heap.size+1,0,none⟩) (by show w.heap.size≤w.heap.size+1;omega) (.slice none 0 0)).setCell (p:=⟨w.heap.size+1,1,none⟩) (by show w.heap.size≤w.heap.size+1;omega) (.int .i64 0))
 clear R5 B5
 go_wp2
 have d0:=R6.out.cell 0 _ rfl
 have d1:=R6.out.cell 1 _ rfl
 exact bodyPost_ret (v:=.tuple #[.agg #[.slice none 0 0,.int .i64 0],.int .i64 0,.int .i64 q]) (by simp [results,Tryz.results178,go_sem,d0,d1]) rfl ⟨by rw [HQ.out],B6.out⟩
set_option maxHeartbeats 1000000 in
theorem receive_none (a:Option Addr) (cap:Nat) (lost size:Int) (w:World) (h0:ckR [] lost size=0) :
  Calls Tryz.prog 178 #[.agg #[.slice a 0 cap,.int .i64 lost],.int .i64 size] w fun e w'=>e=.returned (.tuple #[.agg #[.slice none 0 0,.int .i64 lost],.int .i64 (-1),.int .i64 0])∧Below w.heap.size w w':=by
 have q1:=below_new w (.cells #[.slice a 0 cap,.int .i64 lost] 90)
 have q2:=below_new (w.alloc (.cells #[.slice a 0 cap,.int .i64 lost] 90)) (.cells #[.slice none 0 0,.int .i64 0] 90)
 have HB:=hid (btrans q1 q2)
 have R2:Hid (RowAt ((w.alloc (.cells #[.slice a 0 cap,.int .i64 lost] 90)).alloc (.cells #[.slice none 0 0,.int .i64 0] 90)) w.heap.size 90 [.slice a 0 cap,.int .i64 lost]):=hid ((rowAt_new2 w _ [.slice a 0 cap,.int .i64 lost] 90 rfl).alloc _)
 have R4:Hid (RowAt ((w.alloc (.cells #[.slice a 0 cap,.int .i64 lost] 90)).alloc (.cells #[.slice none 0 0,.int .i64 0] 90)) (w.heap.size+1) 90 [.slice none 0 0,.int .i64 0]):=hid (rowAt_new2 _ _ [.slice none 0 0,.int .i64 0] 90 (by simp))
 clear q1 q2
 go_enter Tryz.func178,Tryz.ntmps178
 go_wp2_with fail
 refine (ringCheck_any a [] cap lost size _ (fun i hi=>absurd hi (by simp)) (by simp)).mono ?_
 rintro e w2 ⟨rfl,hb2⟩
 rw [h0]
 have R3:=hid (R2.out.below hb2 lr)
 have R5:=hid (R4.out.below hb2 lr)
 have B5:=hid (btrans HB.out hb2)
 have z0:=R3.out.cell 0 _ rfl
 have z1:=R3.out.cell 1 _ rfl
 have x0:=R5.out.cell 0 _ rfl
 have y0:=R5.out.frozen 0
 have x1:=R5.out.cell 1 _ rfl
 have y1:=R5.out.frozen 1
 clear h0 hb2 HB R4 R2
 have R6:=hid ((R5.out.setCell 0 (.slice none 0 0)).setCell 1 (.int .i64 lost))
 have B6:=hid ((B5.out.setCell (p:=⟨w.heap.size+1,0,none⟩) (by show w.heap.size≤w.heap.size+1;omega) (.slice none 0 0)).setCell (p:=⟨w.heap.size+1,1,none⟩) (by show w.heap.size≤w.heap.size+1;omega) (.int .i64 lost))
 clear R5 B5
 go_wp2
 have d0:=R6.out.cell 0 _ rfl
 have d1:=R6.out.cell 1 _ rfl
 exact bodyPost_ret (v:=.tuple #[.agg #[.slice none 0 0,.int .i64 lost],.int .i64 (-1),.int .i64 0]) (by simp [results,Tryz.results178,go_sem,d0,d1]) rfl ⟨rfl,B6.out⟩
set_option maxHeartbeats 2000000 in
theorem receive_one (b o:Nat) (x:Int) (V:List Int) (cap:Nat) (lost size:Int) (w:World) (hw:IntsIn w (some ⟨b,o,none⟩) (x :: V)) (hl:(x :: V).length≤cap) (h0:ckR (x :: V) lost size=0) :
  Calls Tryz.prog 178 #[.agg #[.slice (some ⟨b,o,none⟩) (x :: V).length cap,.int .i64 lost],.int .i64 size] w fun e w'=>∃ v,e=.returned (.tuple #[.agg #[v,.int .i64 lost],.int .i64 x,.int .i64 0])∧w'.ownsRow w.heap.size 3 1 v V.length (ivs V)∧Below w.heap.size w w':=by
 have q1:=below_new w (.cells #[.slice (some ⟨b,o,none⟩) (x :: V).length cap,.int .i64 lost] 90)
 have q2:=below_new (w.alloc (.cells #[.slice (some ⟨b,o,none⟩) (x :: V).length cap,.int .i64 lost] 90)) (.cells #[.slice none 0 0,.int .i64 0] 90)
 have HB:=hid (btrans q1 q2)
 have HW:=hid (hw.keep (btrans q1 q2))
 have R2:Hid (RowAt ((w.alloc (.cells #[.slice (some ⟨b,o,none⟩) (x :: V).length cap,.int .i64 lost] 90)).alloc (.cells #[.slice none 0 0,.int .i64 0] 90)) w.heap.size 90 [.slice (some ⟨b,o,none⟩) (x :: V).length cap,.int .i64 lost]):=hid ((rowAt_new2 w _ [.slice (some ⟨b,o,none⟩) (x :: V).length cap,.int .i64 lost] 90 rfl).alloc _)
 have R4:Hid (RowAt ((w.alloc (.cells #[.slice (some ⟨b,o,none⟩) (x :: V).length cap,.int .i64 lost] 90)).alloc (.cells #[.slice none 0 0,.int .i64 0] 90)) (w.heap.size+1) 90 [.slice none 0 0,.int .i64 0]):=hid (rowAt_new2 _ _ [.slice none 0 0,.int .i64 0] 90 (by simp))
 have hk:=ckR_ok h0
 have h4:V.length+1≤4:=by have:=hk.1.2;have:=hk.2.1;simp at this;omega
 have hbl:b<w.heap.size:=by
  obtain ⟨b',o',e,hc⟩:=hw 0 (by simp)
  simp only [Option.some.injEq,Addr.mk.injEq,and_true] at e
  obtain ⟨rfl,rfl⟩:=e
  exact World.block_lt_of_cell? _ _ hc
 simp only [List.length_cons] at *
 clear q1 q2 hw hk
 go_enter Tryz.func178,Tryz.ntmps178
 go_wp2_with fail
 refine (ringCheck_any (some ⟨b,o,none⟩) (x :: V) cap lost size _ HW.out (by simp;omega)).mono ?_
 rintro e w2 ⟨rfl,hb2⟩
 rw [h0]
 have R3:=hid (R2.out.below hb2 lr)
 have R5:=hid (R4.out.below hb2 lr)
 have B5:=hid (btrans HB.out hb2)
 have W5:=hid (HW.out.keep hb2)
 have z0:=R3.out.cell 0 _ rfl
 have z1:=R3.out.cell 1 _ rfl
 have hc0:w2.cell? ⟨b,o,none⟩=some (.int .i64 x):=by
  obtain ⟨b',o',e,hc⟩:=W5.out 0 (by simp)
  simp only [Option.some.injEq,Addr.mk.injEq,and_true] at e
  obtain ⟨rfl,rfl⟩:=e
  simpa using hc
 have W6:Hid (IntsIn w2 (some ⟨b,o+1,none⟩) V):=hid (by
  intro i hi
  obtain ⟨b',o',e,hc⟩:=W5.out (i+1) (by simp;omega)
  simp only [Option.some.injEq,Addr.mk.injEq,and_true] at e
  obtain ⟨rfl,rfl⟩:=e
  exact ⟨b,o+1,rfl,by simpa [Nat.add_assoc,Nat.add_comm 1] using hc⟩)
 have hi1:(1:Int)≤((V.length+1:Nat):Int):=by omega
 have hi2:((V.length+1:Nat):Int)≤(cap:Int):=by omega
 have hi3:(0:Int)<((V.length+1:Nat):Int):=by omega
 have hi4:(1:Int)≤(V.length:Int)+1:=by omega
 have hi5:(0:Int)<(V.length:Int)+1:=by omega
 clear h0 hb2 HB HW R4 R2
 have hbz:Below w2.heap.size w2 w2.drew:=(Below.refl _ _).drew
 have hne:¬ w.heap.size+1=w.heap.size:=by omega
 have hneb:¬ w.heap.size+1=b:=by omega
 have HS:Hid (∀ w',Below w2.heap.size w2 w'→w'.cell? ⟨w.heap.size,0,none⟩=some (.slice (some ⟨b,o,none⟩) (V.length+1) cap)∧w'.cell? ⟨w.heap.size,1,none⟩=some (.int .i64 lost)∧w'.cell? ⟨b,o,none⟩=some (.int .i64 x)):=hid fun w' hb=>⟨bkeep hb z0 lr,bkeep hb z1 lr,bkeep hb hc0 lr⟩
 have HR:Hid (∀ w',Below w2.heap.size w2 w'→RowAt w' (w.heap.size+1) 90 [.slice none 0 0,.int .i64 0]):=hid fun w' hb=>R5.out.below hb lr
 have hsz2:w.heap.size≤w2.heap.size:=B5.out.size
 by_cases hcap:cap=1
 ·subst hcap
  obtain rfl:V=[]:=List.eq_nil_of_length_eq_zero (by omega)
  have W7:Hid (IntsIn w2 (some ⟨b,o,none⟩) []):=hid fun i hi=>absurd hi (by simp)
  simp only [List.length_nil,Nat.zero_add] at *
  go_wp2_with fail
  go_region_held3 (fun w'=>w'.cell? ⟨w.heap.size,0,none⟩=some (.slice (some ⟨b,o,none⟩) 1 1)∧w'.cell? ⟨w.heap.size,1,none⟩=some (.int .i64 lost)∧w'.cell? ⟨b,o,none⟩=some (.int .i64 x))
   (first|exact HS.out _ hB3|exact HS.out _ hbz|go_keep)
   (first
    | (go_at_call 97;refine (clone87_any (some ⟨b,o,none⟩) [] _ _ (by exact W7.out) (by simp) (by simp)).mono ?_;rintro e w3 ⟨v,rfl,hown3,hb3⟩;have hB3:=btrans hbz hb3;have u0:=(HR.out _ hB3).cell 0 _ rfl;have u1:=(HR.out _ hB3).cell 1 _ rfl;have f0:=(HR.out _ hB3).frozen 0;have f1:=(HR.out _ hB3).frozen 1;have HO3:=hid hown3;obtain ⟨a3,k3,rfl,-,-,-,-,-⟩:=ints_own hown3;clear hown3))
  have hlt5:=R5.out.lt
  have R6:=hid (((HR.out _ hB3).setCell 0 (.slice a3 0 k3)).setCell 1 (.int .i64 lost))
  have B6:=hid (((btrans B5.out hB3).setCell (p:=⟨w.heap.size+1,0,none⟩) (by show w.heap.size≤w.heap.size+1;omega) (.slice a3 0 k3)).setCell (p:=⟨w.heap.size+1,1,none⟩) (by show w.heap.size≤w.heap.size+1;omega) (.int .i64 lost))
  have O6:=hid (ownsx_mono (ownsx_set (ownsx_set HO3.out 0 (.slice a3 0 k3) (b:=w.heap.size+1) hlt5) 1 (.int .i64 lost) (b:=w.heap.size+1) hlt5) (base':=w.heap.size) hsz2)
  clear HO3 HR HS u0 u1 f0 f1
  go_wp2
  have d0:=R6.out.cell 0 _ rfl
  have d1:=R6.out.cell 1 _ rfl
  exact bodyPost_ret (v:=.tuple #[.agg #[.slice a3 0 k3,.int .i64 lost],.int .i64 x,.int .i64 0]) (by simp [results,Tryz.results178,go_sem,d0,d1]) rfl ⟨_,rfl,O6.out,B6.out⟩
 ·go_wp2_with fail
  go_region_held3 (fun w'=>w'.cell? ⟨w.heap.size,0,none⟩=some (.slice (some ⟨b,o,none⟩) (V.length+1) cap)∧w'.cell? ⟨w.heap.size,1,none⟩=some (.int .i64 lost)∧w'.cell? ⟨b,o,none⟩=some (.int .i64 x))
   (first|exact HS.out _ hB3|exact HS.out _ hbz|go_keep)
   (first
    | (go_at_call 97;refine (clone87_any (some ⟨b,o+1,none⟩) V _ _ (by exact W6.out) (by omega) (by simp)).mono ?_;rintro e w3 ⟨v,rfl,hown3,hb3⟩;have hB3:=btrans hbz hb3;have u0:=(HR.out _ hB3).cell 0 _ rfl;have u1:=(HR.out _ hB3).cell 1 _ rfl;have f0:=(HR.out _ hB3).frozen 0;have f1:=(HR.out _ hB3).frozen 1;have HO3:=hid hown3;obtain ⟨a3,k3,rfl,-,-,-,-,-⟩:=ints_own hown3;clear hown3))
  have hlt5:=R5.out.lt
  have R6:=hid (((HR.out _ hB3).setCell 0 (.slice a3 V.length k3)).setCell 1 (.int .i64 lost))
  have B6:=hid (((btrans B5.out hB3).setCell (p:=⟨w.heap.size+1,0,none⟩) (by show w.heap.size≤w.heap.size+1;omega) (.slice a3 V.length k3)).setCell (p:=⟨w.heap.size+1,1,none⟩) (by show w.heap.size≤w.heap.size+1;omega) (.int .i64 lost))
  have O6:=hid (ownsx_mono (ownsx_set (ownsx_set HO3.out 0 (.slice a3 V.length k3) (b:=w.heap.size+1) hlt5) 1 (.int .i64 lost) (b:=w.heap.size+1) hlt5) (base':=w.heap.size) hsz2)
  clear HO3 HR HS u0 u1 f0 f1
  go_wp2
  have d0:=R6.out.cell 0 _ rfl
  have d1:=R6.out.cell 1 _ rfl
  exact bodyPost_ret (v:=.tuple #[.agg #[.slice a3 V.length k3,.int .i64 lost],.int .i64 x,.int .i64 0]) (by simp [results,Tryz.results178,go_sem,d0,d1]) rfl ⟨_,rfl,O6.out,B6.out⟩
theorem receive_any (a:Option Addr) (V:List Int) (cap:Nat) (lost size:Int) (w:World) (hw:IntsIn w a V) (hl:V.length≤9223372036854775807) (hc:V.length≤cap) :
  Calls Tryz.prog 178 #[.agg #[.slice a V.length cap,.int .i64 lost],.int .i64 size] w fun e w'=>∃ v,e=.returned (.tuple #[.agg #[v,.int .i64 (recvL V lost size)],.int .i64 (recvX V lost size),.int .i64 (ckR V lost size)])∧w'.ownsRow w.heap.size 3 1 v (recvV V lost size).length (ivs (recvV V lost size))∧Below w.heap.size w w':=by
 by_cases h0:ckR V lost size=0
 ·cases V with
  | nil=>
   refine (receive_none a cap lost size w h0).mono ?_
   rintro e w' ⟨rfl,hb⟩
   exact ⟨.slice none 0 0,by simp [recvL,recvX,h0],by simp [recvV,ivs];exact World.ownsRow_nil _ _ _ _,hb⟩
  | cons x V=>
   obtain ⟨b,o,rfl,_⟩:=hw 0 (by simp)
   refine (receive_one b o x V cap lost size w hw hc h0).mono ?_
   rintro e w' ⟨v,rfl,ho,hb⟩
   exact ⟨v,by simp [recvL,recvX,h0],by simp only [recvV,h0,if_true];exact ho,hb⟩
 ·refine (receive_bad a V cap lost size w hw hl h0).mono ?_
  rintro e w' ⟨rfl,hb⟩
  exact ⟨.slice none 0 0,by simp [recvL,recvX,h0],by simp [recvV,h0,ivs];exact World.ownsRow_nil _ _ _ _,hb⟩
set_option maxHeartbeats 1000000 in
theorem grow119_any (n:Nat) (w:World) (hn:n≤4) :
  Calls Tryz.prog 167 #[.slice none 0 0,.int .i64 n] w fun e w'=>∃ v,e=.returned v∧w'.ownsRow w.heap.size 3 1 v 0 []∧Below w.heap.size w w':=by
 obtain ⟨i3,hi,hz,hsz,hby⟩:=infoOf Tryz.info3x
 have h1:¬ ((n:Int)<0):=by omega
 rcases Nat.eq_zero_or_pos n with rfl|hp
 ·go_enter Tryz.func167,Tryz.ntmps167
  go_wp2
  go_ret
  exact ⟨_,rfl,World.ownsRow_nil _ _ _ _,Below.refl _ _⟩
 ·have h4:(n:Int) > 0:=by omega
  have hrz:∀ ty,(Builtin.append_ #[23,3] ty #[.slice none 0 0,.int .i64 (n:Int)]).run Tryz.prog w =
    .ok (.slice (some ⟨w.heap.size,0,none⟩) n (grownCap w n 0 3)) (w.drew.alloc (.cells (Builtin.zeroCells #[.int .i64 0] n++Builtin.zeroCells #[.int .i64 0] (grownCap w n 0 3 - n)) 3)):=fun ty=>by
   have:=Lib.run_append_nil_zeros (P:=Tryz.prog) w 23 3 ty 3 i3 _ .i64 .i64 Tryz.underlying23 Tryz.underlying3 hi hz n hp (by omega) (by omega) (by rw [hby];omega)
   exact this
  have hge:=grownCap_ge w n 0 3
  have hle:=grownCap_le_maxLen w n 0 3 (by unfold maxLen;omega)
  have hG63:((grownCap w n 0 3:Nat):Int)≤9223372036854775807:=by unfold maxLen at hle;omega
  have HB:Hid (Below w.heap.size w (w.drew.alloc (.cells (Builtin.zeroCells #[.int .i64 0] n++Builtin.zeroCells #[.int .i64 0] (grownCap w n 0 3 - n)) 3))):=hid ((Below.refl _ _).drew.alloc lr _)
  have HO:Hid ((w.drew.alloc (.cells (Builtin.zeroCells #[.int .i64 0] n++Builtin.zeroCells #[.int .i64 0] (grownCap w n 0 3 - n)) 3)).ownsRow w.heap.size 3 1 (.slice (some ⟨w.heap.size,0,none⟩) 0 (grownCap w n 0 3)) 0 []):=by
   refine hid ⟨rfl,.inr ⟨w.heap.size,_,_,rfl,Nat.le_refl _,heap_alloc_new _ _,Nat.zero_le _,hle,?_,by simp⟩⟩
   simp [Builtin.zeroCells]
   omega
  generalize hG:grownCap w n 0 3=G at *
  generalize w.drew.alloc _=w1 at *
  clear hG hle
  go_enter Tryz.func167,Tryz.ntmps167
  go_wp2_with (at_builtin;refine Lib.wpList_append_run _ rfl _ _ _ _ rfl _ _ rfl rfl _ _ (hrz _) ?_)
  all_goals (go_ret;exact ⟨_,rfl,HO.out,HB.out⟩)
set_option maxHeartbeats 2000000 in
theorem concat86_any (g:Nat) (a1 a2:Option Addr) (L1 L2:List Int) (c1 c2:Nat) (w:World) (h1:IntsIn w a1 L1) (h2:IntsIn w a2 L2) (hl:L1.length+L2.length≤4)
  (hc0:w.cell? ⟨g,0,none⟩=some (.slice a1 L1.length c1)) (hc1:w.cell? ⟨g,1,none⟩=some (.slice a2 L2.length c2)) :
  Calls Tryz.prog 144 #[.slice (some ⟨g,0,none⟩) 2 2] w fun e w'=>∃ v,e=.returned v∧w'.ownsRow w.heap.size 3 1 v (L1++L2).length (ivs (L1++L2))∧Below w.heap.size w w':=by
 have H1:=hid h1
 have H2:=hid h2
 have HC0:=hid hc0
 have HC1:=hid hc1
 clear h1 h2
 go_enter Tryz.func144,Tryz.ntmps144
 go_wp2
 go_loopw [3,11] (fun z i wr=>w=wr∧((i=.int .i64 0∧z=.int .i64 0)∨(i=.int .i64 1∧z=.int .i64 (L1.length:Int))∨(i=.int .i64 2∧z=.int .i64 ((L1.length+L2.length:Nat):Int)))) (fun z i _=>2 - (intOf i).toNat)
 case atStart=>exact ⟨rfl,.inl ⟨rfl,rfl⟩⟩
 case round=>
  obtain ⟨rfl,⟨rfl,rfl⟩|⟨rfl,rfl⟩|⟨rfl,rfl⟩⟩:=hrel
  ·have hn:¬ ((L1.length:Int)<0):=by omega
   go_wp2
   go_roundw
   case rel=>exact ⟨by trivial,.inr (.inl ⟨rfl,by go_num⟩)⟩
   case measure=>simp [intOf]
  ·have hn:¬ ((L1.length:Int)+(L2.length:Int)<0):=by omega
   have hw:wrap64 ((L1.length:Int)+(L2.length:Int))=(L1.length:Int)+(L2.length:Int):=by unfold wrap64;omega
   go_wp2
   go_roundw
   case rel=>exact ⟨by trivial,.inr (.inr ⟨rfl,by simp⟩)⟩
   case measure=>simp [intOf]
  ·go_wp2_with fail
   refine (grow119_any (L1.length+L2.length) _ hl).mono ?_
   rintro e w1 ⟨v,rfl,hown,hb⟩
   have HO:=hid hown
   have HB:=hid hb
   have K0:=hid (bkeep hb HC0.out lr)
   have K1:=hid (bkeep hb HC1.out lr)
   have P1:=hid (H1.out.keep hb)
   have P2:=hid (H2.out.keep hb)
   have hgl:g<w.heap.size:=World.block_lt_of_cell? _ _ HC0.out
   clear hown hb hc0 hc1
   go_wp2
   go_loopw [6,27] (fun z i wr=>∃ L:List Int,wr.ownsRow w.heap.size 3 1 z L.length (ivs L)∧Below w.heap.size w wr∧((i=.int .i64 0∧L=[])∨(i=.int .i64 1∧L=L1)∨(i=.int .i64 2∧L=L1++L2))) (fun z i _=>2 - (intOf i).toNat)
   case atStart=>exact ⟨[],HO.out,HB.out,.inl ⟨rfl,rfl⟩⟩
   case round=>
    obtain ⟨L,hown,hb,hL⟩:=hrel
    have HO2:=hid hown
    have HB2:=hid hb
    have M0:=bkeep hb HC0.out lr
    have M1:=bkeep hb HC1.out lr
    have Q1:=hid (H1.out.keep hb)
    have Q2:=hid (H2.out.keep hb)
    have hvb:=hown.lt
    have hsz:=hb.size
    clear hown hb
    rcases hL with ⟨rfl,rfl⟩|⟨rfl,rfl⟩|⟨rfl,rfl⟩
    ·go_wp2_with (at_builtin;refine wpList_appI rfl _ _ rfl w.heap.size _ _ _ rfl HO2.out L1 _ _ rfl Q1.out (by simp [maxLen];omega) (by simp;omega) hsz ?_)
     intro v' w3 hown3 hgrow
     have HE:=hid (show w3.ownsRow w.heap.size 3 1 v' L1.length (ivs L1)∧Below w.heap.size w w3 from ⟨by simpa [ivs] using hown3,HB2.out.grown hgrow hsz (fun k hk=>(hvb k hk).1)⟩)
     clear hown3 hgrow
     go_wp2
     go_roundw
     case rel=>exact ⟨L1,HE.out.1,HE.out.2,.inr (.inl ⟨rfl,rfl⟩)⟩
     case measure=>simp [intOf]
    ·go_wp2_with (at_builtin;refine wpList_appI rfl _ _ rfl w.heap.size _ _ _ rfl HO2.out L2 _ _ rfl Q2.out (by simp [maxLen];omega) (by omega) hsz ?_)
     intro v' w3 hown3 hgrow
     have HE:=hid (show w3.ownsRow w.heap.size 3 1 v' (L++L2).length (ivs (L++L2))∧Below w.heap.size w w3 from ⟨by rw [ivs_app,List.length_append];exact hown3,HB2.out.grown hgrow hsz (fun k hk=>(hvb k hk).1)⟩)
     clear hown3 hgrow
     go_wp2
     go_roundw
     case rel=>exact ⟨L++L2,HE.out.1,HE.out.2,.inr (.inr ⟨rfl,rfl⟩)⟩
     case measure=>simp [intOf]
    ·go_wp2
     go_ret
     exact ⟨_,rfl,HO2.out,HB2.out⟩
abbrev bl (l:List Bool):List Value:=l.map Value.bool
theorem orR_snoc (F T:List Bool) (x y:Bool) (h:F.length=T.length):orR (F++[x]) (T++[y])=orR F T++[x || y]:=by
 simp only [orR]
 rw [List.zipWith_append h]
 rfl
set_option maxHeartbeats 1000000 in
theorem follow_any (f t:Nat) (F T:List Bool) (c1 c2:Nat) (w:World) (hF:RowAt w f 4 (bl F)) (hT:RowAt w t 4 (bl T)) (hl:F.length=T.length) (hne:f≠t) (h4:T.length≤4) :
  Calls Tryz.prog 33 #[.slice (some ⟨f,0,none⟩) F.length c1,.slice (some ⟨t,0,none⟩) T.length c2] w fun e w'=>e=.returned (.tuple #[])∧RowAt w' f 4 (bl (orR F T))∧w.grownBy w' (some f):=by
 have HF:=hid hF
 have HT:=hid hT
 clear hF hT
 go_enter Tryz.func33,Tryz.ntmps33
 go_wp2
 go_loopw [8] (fun i wr=>∃ k:Nat,k≤T.length∧i=.int .i64 k∧RowAt wr f 4 (bl (orR (F.take k) (T.take k)++F.drop k))∧w.grownBy wr (some f)) (fun i _=>T.length - (intOf i).toNat)
 case atStart=>exact ⟨0,Nat.zero_le _,rfl,by simpa [orR] using HF.out,⟨rfl,rfl,rfl,Nat.le_refl _,fun _ _ _=>rfl⟩⟩
 case round=>
  obtain ⟨k,hk,rfl,hR,hg⟩:=hrel
  have HR:=hid hR
  have HG:=hid hg
  clear hR hg
  by_cases hlt:k<T.length
  ·have hkF:k<F.length:=by omega
   have hT1:=(HT.out.grown' HG.out (by simp;omega)).cell k (.bool T[k]) (by simp [hlt])
   have hf1:=HR.out.frozen k
   have hF1:=HR.out.cell k (.bool F[k]) (by
    have e:(orR (F.take k) (T.take k)).length=k:=by rw [orR_len (by simp;omega)];simp;omega
    simp only [bl,List.getElem?_map]
    rw [List.getElem?_append_right (by omega),e]
    simp [hkF])
   have HR2:Hid (RowAt (wr.setCell ⟨f,k,none⟩ (.bool (F[k] || T[k]))) f 4 (bl (orR (F.take (k+1)) (T.take (k+1))++F.drop (k+1)))):=by
    have q:=HR.out.setCell k (.bool (F[k] || T[k]))
    have e:(orR (F.take k) (T.take k)).length=k:=by rw [orR_len (by simp;omega)];simp;omega
    have e2:(bl (orR (F.take k) (T.take k)++F.drop k)).set k (.bool (F[k] || T[k]))=bl (orR (F.take (k+1)) (T.take (k+1))++F.drop (k+1)):=by
     rw [List.take_succ_eq_append_getElem hlt,List.take_succ_eq_append_getElem hkF,orR_snoc _ _ _ _ (by simp;omega)]
     rw [List.drop_eq_getElem_cons hkF]
     simp only [bl,List.map_append,List.map_cons,List.append_assoc,List.cons_append,List.nil_append]
     rw [List.set_append_right _ _ (by simp [e])]
     simp [e]
    rw [e2] at q
    exact q
   have HG2:Hid (w.grownBy (wr.setCell ⟨f,k,none⟩ (.bool (F[k] || T[k]))) (some f)):=
    ⟨HG.out.os,HG.out.tape,HG.out.output,by simpa [World.setCell] using HG.out.size,fun j h1 h2=>by rw [Below.heap_setCell _ _ _ _ (by intro e;exact h2 (by rw [e]))];exact HG.out.block j h1 h2⟩
   clear HR HG
   generalize hfk:F[k]=x at *
   generalize htk:T[k]=y at *
   clear hfk htk
   cases x <;> cases y <;>
   ·go_wp2
    go_roundw
    case rel=>exact ⟨k+1,by omega,by go_num,HR2.out,HG2.out⟩
    case measure=>simp [intOf];omega
  ·obtain rfl:k=T.length:=by omega
   go_wp2
   go_end0
   refine ⟨rfl,?_,HG.out⟩
   have:=HR.out
   rw [List.take_length,← hl,List.take_length,List.drop_length,List.append_nil] at this
   exact this
end Go.Proofs.YtejhccmclanlmaaGreatDoor
