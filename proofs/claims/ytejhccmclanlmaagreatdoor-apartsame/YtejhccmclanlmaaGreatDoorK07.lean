/- Texts joined: Xb Ck Cl Cm. -/
import Derived.Test.YtejhccmclanlmaaGreatDoorK00
import Derived.Test.YtejhccmclanlmaaGreatDoorK04
import Derived.Test.YtejhccmclanlmaaGreatDoorK05
set_option linter.unusedVariables false
set_option maxRecDepth 100000
namespace Go.Proofs.YtejhccmclanlmaaGreatDoor
open Go.RowKit
set_option maxHeartbeats 400000 in
theorem all1_any (x l m:Int) (b1 b2:Nat) (w:World) (h1:w.cell? ⟨b1,0,none⟩=some (.int .i64 l)) (h2:w.cell? ⟨b2,0,none⟩=some (.int .i64 m)) :
  Calls Tryz.prog 150 #[.int .i64 x,.pointer (some ⟨b1,0,none⟩),.pointer (some ⟨b2,0,none⟩)] w fun e w'=>e=.returned (.bool (!inR x l m))∧Below w.heap.size w w':=by
 go_enter Tryz.func150,Tryz.ntmps150
 go_wp2_with fail
 refine (within_any _ _ _ _).mono ?_
 rintro e w' ⟨rfl,rfl⟩
 go_wp2
 go_ret
 exact ⟨rfl,Below.refl _ _⟩
set_option maxHeartbeats 400000 in
theorem index140_118 (l m:Int) (b1 b2:Nat) (a:Option Addr) (L:List Int) (cap:Nat) (w:World) (hw:IntsIn w a L) (hl:L.length≤9223372036854775807) (h1:w.cell? ⟨b1,0,none⟩=some (.int .i64 l)) (h2:w.cell? ⟨b2,0,none⟩=some (.int .i64 m)) :
  Calls Tryz.prog 117 #[.slice a L.length cap,.func (.func 150) #[] #[.pointer (some ⟨b1,0,none⟩),.pointer (some ⟨b2,0,none⟩)]] w fun e w'=>(∃ r:Int,e=.returned (.int .i64 r)∧(0≤r↔(L.any fun x=>!inR x l m)=true))∧Below w.heap.size w w':=by
 have H1:=hid h1
 have H2:=hid h2
 clear h1 h2
 go_enter Tryz.func117,Tryz.ntmps117
 go_wp2
 go_loopw [8] (fun i wr=>∃ k:Nat,k≤L.length∧i=.int .i64 k∧Below w.heap.size w wr∧∀ j (hj:j<L.length),j<k→(!inR L[j] l m)=false) (fun i _=>L.length - (intOf i).toNat)
 case atStart=>exact ⟨0,Nat.zero_le _,rfl,Below.refl _ _,by omega⟩
 case round=>
  obtain ⟨k,hk,rfl,hbl,hno⟩:=hrel
  have Hno:=hid hno
  clear hno
  by_cases hlt:k<L.length
  ·obtain ⟨b',o',rfl,hc1⟩:=hw k hlt
   have hc1':=bkeep hbl hc1 lr
   go_wp2_with fail
   refine (all1_any L[k] l m b1 b2 _ (bkeep hbl H1.out lr) (bkeep hbl H2.out lr)).mono ?_
   rintro e w' ⟨rfl,hb2⟩
   cases hx:!inR L[k] l m with
   | true=>
    have HX:=hid hx
    clear hx
    go_wp2
    go_ret
    refine ⟨⟨k,rfl,?_⟩,btrans hbl hb2⟩
    exact ⟨fun _=>List.any_eq_true.2 ⟨_,List.getElem_mem hlt,HX.out⟩,fun _=>by omega⟩
   | false=>
    have HX:=hid hx
    clear hx
    go_wp2
    go_roundw
    case rel=>
     refine ⟨k+1,by omega,by go_num,btrans hbl hb2,fun j hj hlt2=>?_⟩
     by_cases e:j=k
     ·subst e;exact HX.out
     ·exact Hno.out j hj (by omega)
    case measure=>simp [intOf];omega
  ·go_wp2
   go_ret
   refine ⟨⟨-1,rfl,?_⟩,hbl⟩
   refine ⟨fun h=>absurd h (by omega),fun h=>?_⟩
   obtain ⟨x,hx,hp⟩:=List.any_eq_true.1 h
   obtain ⟨j,hj,rfl⟩:=List.getElem_of_mem hx
   rw [Hno.out j hj (by omega)] at hp
   exact absurd hp (by simp)
set_option maxHeartbeats 400000 in
theorem contains112_118 (l m:Int) (b1 b2:Nat) (a:Option Addr) (L:List Int) (cap:Nat) (w:World) (hw:IntsIn w a L) (hl:L.length≤9223372036854775807) (h1:w.cell? ⟨b1,0,none⟩=some (.int .i64 l)) (h2:w.cell? ⟨b2,0,none⟩=some (.int .i64 m)) :
  Calls Tryz.prog 81 #[.slice a L.length cap,.func (.func 150) #[] #[.pointer (some ⟨b1,0,none⟩),.pointer (some ⟨b2,0,none⟩)]] w fun e w'=>e=.returned (.bool (L.any fun x=>!inR x l m))∧Below w.heap.size w w':=by
 have H1:=hid h1
 have H2:=hid h2
 clear h1 h2
 go_enter Tryz.func81,Tryz.ntmps81
 go_wp2_with fail
 refine (index140_118 l m b1 b2 a L cap _ hw hl H1.out H2.out).mono ?_
 rintro e w' ⟨⟨r,rfl,hr⟩,hb⟩
 have HR:=hid hr
 clear hr
 go_wp2
 go_ret
 exact ⟨ret_bool (by rw [Bool.eq_iff_iff];simpa using HR.out),hb⟩
set_option maxHeartbeats 400000 in
theorem all_any (l m:Int) (a:Option Addr) (L:List Int) (cap:Nat) (w:World) (hw:IntsIn w a L) (hl:L.length≤9223372036854775807) :
  Calls Tryz.prog 127 #[.slice a L.length cap,.int .i64 l,.int .i64 m] w fun e w'=>e=.returned (.bool (allR L l m))∧Below w.heap.size w w':=by
 have q1:=below_new w (.cells #[.int .i64 l] 3)
 have q2:=below_new (w.alloc (.cells #[.int .i64 l] 3)) (.cells #[.int .i64 m] 3)
 have HB:=hid (btrans q1 q2)
 have HW:=hid (hw.keep (btrans q1 q2))
 have hmf:∀ (fn:Fn) (first cap:Array Value) (w:World),(Instr.makeFunc fn first cap).run Tryz.prog w=.ok (.func fn first cap) w:=fun _ _ _ _=>rfl
 clear q1 q2 hw
 go_enter Tryz.func127,Tryz.ntmps127
 go_wp2_with fail
 refine (contains112_118 l m w.heap.size (w.heap.size+1) a L cap _ HW.out hl (by simp) (by simp)).mono ?_
 rintro e w' ⟨rfl,hb⟩
 have HQ:=hid (allR_any L l m)
 generalize (L.any fun x=>!inR x l m)=q at *
 go_wp2
 go_ret
 exact ⟨ret_bool HQ.out,btrans HB.out hb⟩
set_option maxHeartbeats 1000000 in
theorem ringCheck_any (a:Option Addr) (V:List Int) (cap:Nat) (lost size:Int) (w:World) (hw:IntsIn w a V) (hl:V.length≤9223372036854775807) :
  Calls Tryz.prog 129 #[.agg #[.slice a V.length cap,.int .i64 lost],.int .i64 size] w fun e w'=>e=.returned (.int .i64 (ckR V lost size))∧Below w.heap.size w w':=by
 have q1:=below_new w (.cells #[.slice a V.length cap,.int .i64 lost] 90)
 have HW:=hid (hw.keep q1)
 have HB:=hid q1
 clear hw q1
 go_enter Tryz.func129,Tryz.ntmps129
 go_wp2_with fail
 refine (within_any _ _ _ _).mono ?_
 rintro e w' ⟨rfl,rfl⟩
 cases h1:inR size 1 4 with
 | false=>
  go_wp2
  go_ret
  exact ⟨ret_int (by simp [ckR,h1]),HB.out⟩
 | true=>
  have H1:=hid h1
  clear h1
  by_cases h2:size<(V.length:Int)
  ·have h2':(V.length:Int) > size:=h2
   go_wp2
   go_ret
   exact ⟨ret_int (by simp [ckR,H1.out,h2]),HB.out⟩
  ·have h2':¬ (V.length:Int) > size:=h2
   have H2:=hid h2
   clear h2
   go_wp2_with fail
   refine (all_any 0 255 a V cap _ HW.out hl).mono ?_
   rintro e w2 ⟨rfl,hb2⟩
   have c1:=bkeep hb2 (show (w.alloc (.cells #[.slice a V.length cap,.int .i64 lost] 90)).cell? ⟨w.heap.size,1,none⟩=some (.int .i64 lost) by simp) lr
   have HB2:=hid (btrans HB.out hb2)
   cases h3:allR V 0 255 with
   | false=>
    go_wp2
    go_ret
    exact ⟨ret_int (by simp [ckR,H1.out,H2.out,h3]),HB2.out⟩
   | true=>
    have H3:=hid h3
    clear h3
    go_wp2_with fail
    refine (within_any _ _ _ _).mono ?_
    rintro e w' ⟨rfl,rfl⟩
    cases h4:inR lost 0 100000 with
    | false=>
     go_wp2
     go_ret
     exact ⟨ret_int (by simp [ckR,H1.out,H2.out,H3.out,h4]),HB2.out⟩
    | true=>
     go_wp2
     go_ret
     exact ⟨ret_int (by simp [ckR,H1.out,H2.out,H3.out,h4]),HB2.out⟩
def emptyC (N n:Nat):List (List (Int×Bool)):=List.replicate N (List.replicate n (0,false))
theorem emptyC_len (N n:Nat):(emptyC N n).length=N:=by simp [emptyC]
theorem emptyC_at (N n j:Nat) (h:j<(emptyC N n).length):(emptyC N n)[j]=List.replicate n (0,false):=by simp [emptyC]
theorem make35_1 (w:World):(Instr.makeSlice 123 (.int .i64 1) (.int .i64 1)).run Tryz.prog w=.ok (.slice (some ⟨w.heap.size,0,none⟩) 1 1) (w.alloc (.cells (flat (List.replicate 1 (0,false))).toArray 125)):=by kernel_rfl
theorem make35_2 (w:World):(Instr.makeSlice 123 (.int .i64 2) (.int .i64 2)).run Tryz.prog w=.ok (.slice (some ⟨w.heap.size,0,none⟩) 2 2) (w.alloc (.cells (flat (List.replicate 2 (0,false))).toArray 125)):=by kernel_rfl
theorem make35_3 (w:World):(Instr.makeSlice 123 (.int .i64 3) (.int .i64 3)).run Tryz.prog w=.ok (.slice (some ⟨w.heap.size,0,none⟩) 3 3) (w.alloc (.cells (flat (List.replicate 3 (0,false))).toArray 125)):=by kernel_rfl
theorem make35 (n:Nat) (h1:1≤n) (h3:n≤3) (w:World) :
  (Instr.makeSlice 123 (.int .i64 n) (.int .i64 n)).run Tryz.prog w=.ok (.slice (some ⟨w.heap.size,0,none⟩) n n) (w.alloc (.cells (flat (List.replicate n (0,false))).toArray 125)):=by
 match n,h1,h3 with
 | 1,_,_=>exact make35_1 w
 | 2,_,_=>exact make35_2 w
 | 3,_,_=>exact make35_3 w
theorem owns_made (w:World) (n:Nat) (hn:n≤3):(w.alloc (.cells (flat (List.replicate n (0,false))).toArray 125)).ownsRow w.heap.size 125 2 (.slice (some ⟨w.heap.size,0,none⟩) n n) n (flat (List.replicate n (0,false))):=by
 have h:=rowAt_new w _ (flat (List.replicate n (0,false))++[]) 125 rfl
 rw [List.append_nil] at h
 refine owns_of_rowAt (r:=[]) (by rw [List.append_nil];exact h) (by rw [List.append_nil,flat_len];simp) lr (by simp [maxLen];omega) lr (by simp)
set_option maxHeartbeats 1000000 in
theorem empty_any (N n:Nat) (w:World) (hl:(N:Int)≤4) (hl1:(1:Int)≤N) (hn:1≤n) (hn3:n≤3) :
  Calls Tryz.prog 42 #[.int .i64 N,.int .i64 n] w fun e w'=>∃ g0,e=.returned (.agg #[.slice (some ⟨g0,0,none⟩) N N])∧w.heap.size≤g0∧OwnC w' g0 (emptyC N n) N∧Below w.heap.size w w':=by
 have hmk22:=run_make_row' (P:=Tryz.prog) 70 123 (.slice none 0 0) 24 Tryz.underlying70 Tryz.info123 rfl .i64 .i64 N (by omega) (by omega)
 have hmk35:=make35 n hn hn3
 go_enter Tryz.func42,Tryz.ntmps42
 go_wp2
 clear hmk22
 have HB0:Hid (Below w.heap.size w (((w.alloc (Obj.cells #[Value.slice none 0 0] 72)).alloc (Obj.cells (madeCells #[Value.slice none 0 0] N) 123)).alloc (Obj.cells #[Value.slice (some ⟨w.heap.size+1,0,none⟩) N N] 72))):=
  (((Below.refl _ _).alloc lr _).alloc (by simp) _).alloc (by simp;omega) _
 have HO0:Hid (OwnC (((w.alloc (Obj.cells #[Value.slice none 0 0] 72)).alloc (Obj.cells (madeCells #[Value.slice none 0 0] N) 123)).alloc (Obj.cells #[Value.slice (some ⟨w.heap.size+1,0,none⟩) N N] 72)) (w.heap.size+1) (emptyC N n) 0):=by
  refine ⟨(madeCells #[Value.slice none 0 0] N).toList,fun _=>0,fun _=>0,?_,by simp [madeCells,emptyC],fun j _ h=>by omega,fun i j _ h=>by omega⟩
  refine RowAt.alloc ?_ _
  have:=rowAt_new (w.alloc (Obj.cells #[Value.slice none 0 0] 72)) (w.heap.size+1) (madeCells #[Value.slice none 0 0] N).toList 123 (by simp)
  simpa using this
 have Hc30:Hid ((((w.alloc (Obj.cells #[Value.slice none 0 0] 72)).alloc (Obj.cells (madeCells #[Value.slice none 0 0] N) 123)).alloc (Obj.cells #[Value.slice (some ⟨w.heap.size+1,0,none⟩) N N] 72)).cell? ⟨w.heap.size+1+1,0,none⟩=some (.slice (some ⟨w.heap.size+1,0,none⟩) N N)):=by
  show _=_
  rw [cell_new _ _ _ _ _ (by simp)];rfl
 have Hr10:Hid (RowAt (((w.alloc (Obj.cells #[Value.slice none 0 0] 72)).alloc (Obj.cells (madeCells #[Value.slice none 0 0] N) 123)).alloc (Obj.cells #[Value.slice (some ⟨w.heap.size+1,0,none⟩) N N] 72)) w.heap.size 72 [Value.slice none 0 0]):=
  ((rowAt_new w w.heap.size [Value.slice none 0 0] 72 rfl).alloc _).alloc _
 go_loopw [13] (fun i wr=>∃ k:Nat,k≤N∧i=.int .i64 k∧Below w.heap.size w wr∧OwnC wr (w.heap.size+1) (emptyC N n) k∧wr.cell? ⟨w.heap.size+1+1,0,none⟩=some (.slice (some ⟨w.heap.size+1,0,none⟩) N N)∧wr.cell? ⟨w.heap.size,0,none⟩=some (.slice none 0 0)∧wr.frozen? ⟨w.heap.size,0,none⟩=false) (fun i _=>N - (intOf i).toNat)
 case atStart=>exact ⟨0,Nat.zero_le _,rfl,HB0.out,HO0.out,Hc30.out,Hr10.out.cell 0 _ rfl,Hr10.out.frozen 0⟩
 case round=>
  clear HB0 HO0 Hc30 Hr10
  obtain ⟨k,hk,rfl,hbl,hO,hA,hR,hRf⟩:=hrel
  have HO:=hid hO
  clear hO
  by_cases hlt:k<N
  ·have hltC:k<(emptyC N n).length:=by rw [emptyC_len];exact hlt
   have hk4:(k:Int)<(N:Int):=by omega
   have hk0:(0:Int)≤(k:Int):=by omega
   have hlt5:w.heap.size<wr.heap.size:=World.block_lt_of_cell? _ _ hR
   have hlt6:w.heap.size+1+1<wr.heap.size:=World.block_lt_of_cell? _ _ hA
   obtain ⟨⟨v5,hst5⟩,hfz5⟩:=HO.out.cellAt k hltC
   have hlt7:w.heap.size+1<wr.heap.size:=World.block_lt_of_cell? _ _ hst5
   have hst6:∀ o,(wr.alloc o).cell? ⟨w.heap.size+1,k,none⟩=some v5:=fun o=>by rw [World.cell?_alloc_lt _ _ _ (by exact hlt7)];exact hst5
   have hfz6:∀ o,(wr.alloc o).frozen? ⟨w.heap.size+1,k,none⟩=false:=fun o=>by rw [((Below.refl wr.heap.size wr).alloc lr o).frozen (p:=⟨w.heap.size+1,k,none⟩) hlt7];exact hfz5
   go_wp2
   go_region_held3 (fun w'=>w'.cell? ⟨w.heap.size+1+1,0,none⟩=some (.slice (some ⟨w.heap.size+1,0,none⟩) N N)) (go_keep) (fail)
   have Hrel:=hid (HO.out.drew.step hltC ((Below.refl _ _).alloc lr _) (by rw [emptyC_at];simpa using owns_made wr.drew n hn3))
   rw [World.setCell_alloc_past (w:=wr.drew) _ _ _ _ (by exact hlt7),show (emptyC N n)[k].length=n by rw [emptyC_at];simp] at Hrel
   have Hrel2:Hid (Below w.heap.size w (((wr.drew.setCell ⟨w.heap.size+1,k,none⟩ (.slice (some ⟨wr.heap.size,0,none⟩) n n)).alloc (.cells (flat (List.replicate n (0,false))).toArray 125)))
     ∧ ((wr.drew.setCell ⟨w.heap.size+1,k,none⟩ (.slice (some ⟨wr.heap.size,0,none⟩) n n)).alloc (.cells (flat (List.replicate n (0,false))).toArray 125)).cell? ⟨w.heap.size+1+1,0,none⟩=some (.slice (some ⟨w.heap.size+1,0,none⟩) N N)
     ∧ ((wr.drew.setCell ⟨w.heap.size+1,k,none⟩ (.slice (some ⟨wr.heap.size,0,none⟩) n n)).alloc (.cells (flat (List.replicate n (0,false))).toArray 125)).cell? ⟨w.heap.size,0,none⟩=some (.slice none 0 0)
     ∧ ((wr.drew.setCell ⟨w.heap.size+1,k,none⟩ (.slice (some ⟨wr.heap.size,0,none⟩) n n)).alloc (.cells (flat (List.replicate n (0,false))).toArray 125)).frozen? ⟨w.heap.size,0,none⟩=false):=by
    have q1:Below w.heap.size w (wr.drew.setCell ⟨w.heap.size+1,k,none⟩ (.slice (some ⟨wr.heap.size,0,none⟩) n n)):=hbl.drew.setCell (by show w.heap.size≤w.heap.size+1;omega) _
    have q2:∀ x:World,Below x.heap.size x (x.alloc (.cells (flat (List.replicate n (0,false))).toArray 125)):=fun x=>(Below.refl _ _).alloc lr _
    refine ⟨btrans q1 (q2 _),bkeep (q2 _) ?_ lr,bkeep (q2 _) ?_ lr,?_⟩
    ·rw [World.cell?_setCell_other _ _ _ _ (by simp)];exact hA
    ·rw [World.cell?_setCell_other _ _ _ _ (by simp)];exact hR
    ·rw [(q2 _).frozen (p:=⟨w.heap.size,0,none⟩) (by simpa using hlt5)];simpa using hRf
   clear hA hR hRf hst5 hfz5 hst6 hfz6 hmk35
   go_wp2
   go_roundw
   case rel=>exact ⟨k+1,by omega,by go_num,Hrel2.out.1,Hrel.out,Hrel2.out.2⟩
   case measure=>simp [intOf];omega
  ·obtain rfl:k=N:=by omega
   clear hmk35
   go_wp2
   exact bodyPost_ret (v:=.agg #[.slice (some ⟨w.heap.size+1,0,none⟩) k k]) (by simp [results,Tryz.results42,go_sem,World.cell?_setCell_same wr _ _ hR]) rfl ⟨_,rfl,by omega,HO.out.setOther _ _ (by show w.heap.size<w.heap.size+1;omega),hbl.setCell lr _⟩
theorem cacheIn_of_own {w:World} {g0 k:Nat} {C:List (List (Int×Bool))} (h:OwnC w g0 C k) (hk:C.length≤k) (hn:∀ ls∈C,ls.length≤3):CacheIn w (some ⟨g0,0,none⟩) C:=by
 obtain ⟨L,G,cp,h1,h2,h3,h4⟩:=h
 intro j hj
 obtain ⟨e1,e2⟩:=h3 j hj (by omega)
 obtain ⟨r,_,_,q3,_,_⟩:=rowAt_of_owns e2
 exact ⟨g0,0,some ⟨G j,0,none⟩,cp j,rfl,by rw [Nat.zero_add];exact h1.cell j _ e1,waysIn_of_owns e2,q3,by have:=hn C[j] (List.getElem_mem hj);omega⟩
set_option maxHeartbeats 1000000 in
theorem new_ok (N n:Nat) (w:World) (hN1:1≤N) (hN:N≤4) (hn1:1≤n) (hn:n≤3) :
  Calls Tryz.prog 21 #[.int .i64 N,.int .i64 n] w fun e w'=>∃ g0,e=.returned (.tuple #[.agg #[.slice (some ⟨g0,0,none⟩) N N],.int .i64 0])∧OwnC w' g0 (emptyC N n) N∧w.heap.size≤g0∧Below w.heap.size w w':=by
 have h1:inR N 1 4=true:=by simp [inR];omega
 have h2:inR n 1 3=true:=by simp [inR];omega
 go_enter Tryz.func21,Tryz.ntmps21
 go_wp2_with fail
 refine (within_any _ _ _ _).mono ?_
 rintro e w' ⟨rfl,rfl⟩
 rw [h1]
 clear h1
 go_wp2_with fail
 refine (within_any _ _ _ _).mono ?_
 rintro e w' ⟨rfl,rfl⟩
 rw [h2]
 clear h2
 go_wp2_with fail
 refine (empty_any N n _ (by omega) (by omega) hn1 hn).mono ?_
 rintro e w1 ⟨g0,rfl,hg0,hO,hb1⟩
 have HO:=hid hO
 clear hO
 have hr:RowAt (w.alloc (.cells #[.slice none 0 0] 72)) w.heap.size 72 [.slice none 0 0]:=rowAt_new w _ [.slice none 0 0] 72 rfl
 have hr1:=hr.below hb1 lr
 have hc1:=hr1.cell 0 _ rfl
 have hf1:=hr1.frozen 0
 have hg1:w.heap.size<g0:=by simp at hg0;omega
 have h0:Below w.heap.size w (w.alloc (.cells #[.slice none 0 0] 72)):=(Below.refl _ _).alloc lr _
 go_wp2
 exact bodyPost_ret (v:=.tuple #[.agg #[.slice (some ⟨g0,0,none⟩) N N],.int .i64 0]) (by simp [results,Tryz.results21,go_sem,World.cell?_setCell_same w1 _ _ hc1]) rfl ⟨_,rfl,HO.out.setOther _ _ hg1,by omega,(btrans h0 hb1).setCell lr _⟩
theorem RowAt.grown {w w':World} {g:Nat} {t:TypeId} {L:List Value} {row:Option Nat} (h:RowAt w g t L) (hg:w.grownBy w' row) (hne:some g≠row):RowAt w' g t L:=by
 show w'.heap[g]? = _
 rw [hg.block g h.lt hne];exact h
theorem OwnC.parts {w:World} {g0 s:Nat} {C:List (List (Int×Bool))} (h:OwnC w g0 C C.length) (hs:s<C.length) :
  ∃ g cap,w.cell? ⟨g0,s,none⟩=some (.slice (some ⟨g,0,none⟩) C[s].length cap)∧w.ownsRow (g0+1) 125 2 (.slice (some ⟨g,0,none⟩) C[s].length cap) C[s].length (flat C[s])∧g0<g ∧
   ∀ (w':World) (ls:List (Int×Bool)),ls.length=C[s].length→w.grownBy w' (some g)→w'.ownsRow (g0+1) 125 2 (.slice (some ⟨g,0,none⟩) C[s].length cap) C[s].length (flat ls)→OwnC w' g0 (C.set s ls) C.length:=by
 obtain ⟨L,G,cp,h1,h2,h3,h4⟩:=h
 obtain ⟨e1,e2⟩:=h3 s hs hs
 have hgt:g0+1≤G s:=(e2.lt (G s) rfl).1
 refine ⟨G s,cp s,h1.cell s _ e1,e2,hgt,fun w' ls hl hg ho=>?_⟩
 refine ⟨L,G,cp,h1.grown hg (by simp;omega),by simp [h2],fun j hj hk=>?_,h4⟩
 have hj':j<C.length:=by simpa using hj
 by_cases e:j=s
 ·subst e
  simp only [List.getElem_set_self,hl]
  exact ⟨e1,ho⟩
 ·have hne:G j≠G s:=by
   rcases Nat.lt_or_gt_of_ne e with h|h
   ·have:=h4 j s h hs;omega
   ·have:=h4 s j h hk;omega
  simp only [List.getElem_set_ne (fun h=>e h.symm)]
  exact ⟨(h3 j hj' hk).1,(h3 j hj' hk).2.kept hg (.inr (by simpa [Value.ownBlock] using hne))⟩
theorem ckK_ok {C:List (List (Int×Bool))} (h:ck C=0):ckShape C=0∧1≤C.length∧C.length≤4∧∀ ls∈C,0<ls.length∧ls.length≤3:=by
 have hs:ckShape C=0:=by
  unfold ck at h
  by_cases e:ckShape C=0
  ·exact e
  ·simp [e] at h
 refine ⟨hs,?_⟩
 unfold ckShape at hs
 split at hs
 ·omega
 ·rename_i h1
  split at hs
  ·omega
  ·rename_i h2
   simp [inR] at h1 h2
   refine ⟨by omega,by omega,fun ls hls=>?_⟩
   have:=h2 ls hls
   omega
theorem useSet_len (ls:List (Int×Bool)) (ln:Int) (wr:Bool) (h:0<ls.length):(useSet ls ln wr).1.length=ls.length:=by
 rcases idx_cases ln ls with ⟨hx,_⟩|⟨k,hk,hx,_,_⟩
 ·rw [useSet_miss hx];simp;omega
 ·rw [useSet_hit hx];simp [List.length_eraseIdx,hk];omega
set_option maxHeartbeats 1000000 in
theorem access_ok (a:Option Addr) (C:List (List (Int×Bool))) (cap:Nat) (l:Int) (wr:Bool) (s:Nat) (w:World) (hw:CacheIn w a C) (hl:C.length≤9223372036854775807) (h:ck C=0) (hr0:inR l 1 1000=true) (hs:l % (C.length:Int)=(s:Int)) (hsl:s<C.length) :
  Calls Tryz.prog 177 #[.agg #[.slice a C.length cap],.int .i64 l,.bool wr] w fun e w'=>∃ g0,e=.returned (.tuple #[.agg #[.slice (some ⟨g0,0,none⟩) C.length C.length],.int .i64 (useSet C[s] l wr).2,.int .i64 0])∧OwnC w' g0 (C.set s (useSet C[s] l wr).1) C.length∧w.heap.size≤g0∧Below w.heap.size w w':=by
 have h1:Below w.heap.size w (w.alloc (.cells #[.slice a C.length cap] 72)):=(Below.refl _ _).alloc lr _
 have h2:Below w.heap.size w ((w.alloc (.cells #[.slice a C.length cap] 72)).alloc (.cells #[.slice none 0 0] 72)):=h1.alloc (by simp) _
 have hr:RowAt ((w.alloc (.cells #[.slice a C.length cap] 72)).alloc (.cells #[.slice none 0 0] 72)) (w.heap.size+1) 72 [.slice none 0 0]:=rowAt_new _ _ [.slice none 0 0] 72 (by simp)
 have ha:RowAt ((w.alloc (.cells #[.slice a C.length cap] 72)).alloc (.cells #[.slice none 0 0] 72)) w.heap.size 72 [.slice a C.length cap]:=(rowAt_new w _ [.slice a C.length cap] 72 rfl).alloc _
 obtain ⟨_,hC1,hC4,hCn⟩:=ckK_ok h
 have HCn:=hid hCn
 have hl0:1≤l∧l≤1000:=by simpa [inR] using hr0
 obtain ⟨hl1,hl2⟩:=hl0
 have hC1':(1:Int)≤C.length:=by omega
 have hC4':(C.length:Int)≤4:=by omega
 have hsl':(s:Int)<C.length:=by omega
 have hs0:(0:Int)≤s:=by omega
 have hs2:l.tmod (C.length:Int)=(s:Int):=by rw [Int.tmod_eq_emod_of_nonneg (by omega)];exact hs
 have hz1:¬ C.length=0:=by omega
 have hz2:¬ C=[]:=by intro e;rw [e] at hz1;exact hz1 rfl
 clear hCn
 go_enter Tryz.func177,Tryz.ntmps177
 go_wp2_with fail
 refine (check_any a C cap _ (hw.keep h2) hl).mono ?_
 rintro e w1 ⟨rfl,hb1⟩
 have hr1:=hr.below hb1 lr
 have ha1:=ha.below hb1 lr
 have hw1:=(hw.keep h2).keep hb1
 have hc1:=ha1.cell 0 _ rfl
 have h3:=btrans h2 hb1
 rw [h]
 clear h hr hw ha h1 h2 hb1
 go_wp2_with fail
 refine (within_any _ _ _ _).mono ?_
 rintro e w' ⟨rfl,rfl⟩
 rw [hr0]
 clear hr0
 go_wp2_with fail
 refine (clone_any a C cap _ hw1 hC4' hC1' HCn.out).mono ?_
 rintro e w2 ⟨g0,rfl,hg0,hO,hb2⟩
 have hr2:=hr1.below hb2 lr
 have h4:=btrans h3 hb2
 obtain ⟨g,cap2,q1,q2,q3,q4⟩:=hO.parts hsl
 have hgw:g<w2.heap.size:=(q2.lt g rfl).2
 have hg0w:g0<w2.heap.size:=by omega
 have hbox:Below w2.heap.size w2 (w2.alloc (.cells #[.slice (some ⟨g0,0,none⟩) C.length C.length] 72)):=(Below.refl _ _).alloc lr _
 have Q2:Hid ((w2.alloc (.cells #[.slice (some ⟨g0,0,none⟩) C.length C.length] 72)).drew.ownsRow (g0+1) 125 2 (.slice (some ⟨g,0,none⟩) C[s].length cap2) C[s].length (flat C[s])):=ownsK_below q2 hbox.drew
 have Q4:=hid q4
 have q1':(w2.alloc (.cells #[.slice (some ⟨g0,0,none⟩) C.length C.length] 72)).cell? ⟨g0,s,none⟩=some (.slice (some ⟨g,0,none⟩) C[s].length cap2):=bkeep hbox q1 lr
 have hgr0:Hid (w2.grownBy (w2.alloc (.cells #[.slice (some ⟨g0,0,none⟩) C.length C.length] 72)).drew (some g)):=(grow_below g hbox).trans (grow_drew _ _)
 have hcost:1≤(useSet C[s] l wr).2∧(useSet C[s] l wr).2≤15:=by
  unfold useSet
  split
  ·simp
  ·have:=wb_le (C[s].getLastD (0,false)).2
   simp only;omega
 obtain ⟨hco1,hco2⟩:=hcost
 have hlt1:=hr1.lt
 clear q1 q2 q4 hO hw1 hc1 ha1 hr1 h3 hb2
 go_wp2_with fail
 go_region_held3 (fun w'=>w'.cell? ⟨w2.heap.size,0,none⟩=some (.slice (some ⟨g0,0,none⟩) C.length C.length)∧w'.cell? ⟨g0,s,none⟩=some (.slice (some ⟨g,0,none⟩) C[s].length cap2)) (first|go_keep|exact ⟨hg5.cell (by simp) (by simp;omega),hg5.cell q1' (by simp;omega)⟩)
  (first|(go_at_call 190;refine (use_any g cap2 (g0+1) C[s] l wr _ Q2.out (HCn.out C[s] (List.getElem_mem hsl)).1 (HCn.out C[s] (List.getElem_mem hsl)).2).mono ?_;rintro e w5 ⟨rfl,ho5,hg5⟩))
 have HG:=hid (hgr0.out.trans hg5)
 have HO5:=hid (Q4.out w5 _ (useSet_len _ _ _ (HCn.out C[s] (List.getElem_mem hsl)).1) (hgr0.out.trans hg5) ho5)
 have hr5:=hr2.grown (hgr0.out.trans hg5) (by simp;omega)
 have hA5:w5.cell? ⟨w2.heap.size,0,none⟩=some (.slice (some ⟨g0,0,none⟩) C.length C.length):=hg5.cell (by simp) (by simp;omega)
 have hc5:=hr5.cell 0 _ rfl
 have hf5:=hr5.frozen 0
 clear ho5 Q2 Q4 q1' hr2 hr5 hgr0
 go_wp2
 refine bodyPost_ret (v:=.tuple #[.agg #[.slice (some ⟨g0,0,none⟩) C.length C.length],.int .i64 (useSet C[s] l wr).2,.int .i64 0]) (by simp [results,Tryz.results177,go_sem,World.cell?_setCell_same w5 _ _ hc5]) rfl ⟨g0,rfl,HO5.out.setOther _ _ (by show w.heap.size+1<g0;omega),by omega,?_⟩
 exact (h4.grown HG.out (by have:=h4.size;omega) (fun k hk=>by simp at hk;omega)).setCell (by show w.heap.size≤w.heap.size+1;omega) _
end Go.Proofs.YtejhccmclanlmaaGreatDoor
