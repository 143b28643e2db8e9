/- Texts joined: Wi. -/
import Derived.Test.YtejhccmclanlmaaGreatDoorK24
set_option linter.unusedVariables false
set_option maxRecDepth 100000
namespace Go.Proofs.YtejhccmclanlmaaGreatDoor
open Go.RowKit
set_option maxHeartbeats 1000000 in
theorem takeW_ok (X:RC) (M:RM) (D:Dom) (K:KT) (now:Int) (c:Nat) (w:World) (h:RO X w M D K now) (hc:c<D.tak.length) :
  Calls Tryz.prog 164 #[.pointer (some ⟨X.rb,0,none⟩),.int .i64 (c:Int)] w fun e w'=>e=.returned (.int .i64 (D.tak.getD c 0))∧RO X w' M (takeD D c) K now:=by
 have c4:=h.row.cell 4 _ rfl
 have HH:=hid h
 have o:=h.takOwn
 obtain ⟨g,hg,⟨cur,hcur⟩,hbg⟩:=owns_zero o (by omega)
 have hi:=intsIn_of (owns_in o).1
 obtain ⟨b,of,e1,ct⟩:=hi c hc
 rw [hg] at e1 c4
 cases e1
 rw [Nat.zero_add] at ct
 have hl:=(owns_in o).2.2
 have hgd:D.tak.getD c 0=D.tak[c]:=by simp [hc]
 have fz:w.frozen? ⟨g,c,none⟩=false:=by simp [World.frozen?,hcur]
 have hci:(c:Int)<(D.tak.length:Int):=by omega
 rw [hgd]
 clear h o hi
 go_enter Tryz.func164,Tryz.ntmps164
 go_wp2
 go_ret
 exact ⟨rfl,HH.out.taken hg c 0⟩
set_option maxHeartbeats 1000000 in
theorem budgetW_ok (X:RC) (M:RM) (D:Dom) (K:KT) (now:Int) (j:JobT) (w:World) (h:RO X w M D K now) (h0:0≤j.1) (h1:j.1<X.C.ta.length) :
  Calls Tryz.prog 165 #[.pointer (some ⟨X.rb,0,none⟩),jv j] w fun e w'=>e=.returned (.int .i64 (tk X.C j.1.toNat).2.2.1)∧Below w.heap.size w w':=by
 obtain ⟨j0,j1,j2,j3,j4,j5⟩:=j
 dsimp only [jv] at *
 obtain ⟨k,rfl⟩:∃ k:Nat,j0=(k:Int):=⟨j0.toNat,by omega⟩
 have hk:k<X.C.ta.length:=by omega
 have c15:=h.row.cell 15 _ rfl
 have hrb:=h.row.lt
 have hC:=h.confIn
 obtain ⟨b,o,e1,t0,t1,t2,t3⟩:=hC.ta k hk
 have hl:=hC.l8
 rw [e1] at c15
 have hb:b<w.heap.size:=World.block_lt_of_cell? _ _ t0
 have e:(tk X.C ((k:Int)).toNat).2.2.1=X.C.ta[k].2.2.1:=by simp [tk,hk]
 rw [e]
 have HB:=fun o=>hid (below_new w o)
 clear h hC
 go_enter Tryz.func165,Tryz.ntmps165
 go_wp2
 go_quiet (fail)
 go_wp2
 go_ret
 exact ⟨rfl,below_drewN (HB _).out _⟩
set_option maxHeartbeats 2000000 in
theorem mayW_ok (X:RC) (M:RM) (D:Dom) (K:KT) (now:Int) (a:ActT) (w:World) (h:RO X w M D K now) (h0:0≤a.2.1) :
  Calls Tryz.prog 161 #[.pointer (some ⟨X.rb,0,none⟩),av a] w fun e w'=>e=.returned (.bool (mayA X.C X.dn a))∧Below w.heap.size w w':=by
 obtain ⟨k,n,v⟩:=a
 dsimp only at h0
 obtain ⟨n,rfl⟩:∃ m:Nat,n=(m:Int):=⟨n.toNat,by omega⟩
 have c13:=h.row.cell 13 _ rfl
 have c14:=h.row.cell 14 _ rfl
 have c16:=h.row.cell 16 _ rfl
 have hrb:=h.row.lt
 have hC:=h.confIn
 have l7:=hC.l7
 have l6:=hC.l6
 have HB:=fun o=>hid (below_new w o)
 have HX:=hid hC
 clear h hC
 unfold mayA
 dsimp only
 rw [Int.toNat_natCast]
 by_cases h4:k=4
 ·subst h4
  by_cases hn:n<X.C.ch.length
  ·obtain ⟨b,o,e1,t0,t1,t2⟩:=HX.out.ch n hn
   rw [e1] at c14
   have hb:b<w.heap.size:=World.block_lt_of_cell? _ _ t0
   have hni:(n:Int)<(X.C.ch.length:Int):=by omega
   have e:X.C.ch.getD n (0,0,0)=X.C.ch[n]:=by simp [hn]
   rw [e]
   go_enter Tryz.func161,Tryz.ntmps161
   go_wp2
   go_quiet (fail)
   all_goals
    go_wp2
    go_ret
    exact ⟨ret_bool (by first|rfl|simp [hni]|(simp [hni];rfl)),below_drewN (HB _).out _⟩
  ·have hni:¬ (n:Int)<(X.C.ch.length:Int):=by omega
   go_enter Tryz.func161,Tryz.ntmps161
   go_wp2
   go_quiet (fail)
   all_goals
    go_wp2
    go_ret
    exact ⟨ret_bool (by first|rfl|simp [hni]|(simp [hni];rfl)),below_drewN (HB _).out _⟩
 simp only [h4,if_false]
 by_cases h5:k=5
 ·subst h5
  by_cases hn:n<X.C.ch.length
  ·obtain ⟨b,o,e1,t0,t1,t2⟩:=HX.out.ch n hn
   rw [e1] at c14
   have hb:b<w.heap.size:=World.block_lt_of_cell? _ _ t0
   have hni:(n:Int)<(X.C.ch.length:Int):=by omega
   have e:X.C.ch.getD n (0,0,0)=X.C.ch[n]:=by simp [hn]
   rw [e]
   go_enter Tryz.func161,Tryz.ntmps161
   go_wp2
   go_quiet (fail)
   all_goals
    go_wp2
    go_ret
    exact ⟨ret_bool (by first|rfl|simp [hni]|(simp [hni];rfl)),below_drewN (HB _).out _⟩
  ·have hni:¬ (n:Int)<(X.C.ch.length:Int):=by omega
   go_enter Tryz.func161,Tryz.ntmps161
   go_wp2
   go_quiet (fail)
   all_goals
    go_wp2
    go_ret
    exact ⟨ret_bool (by first|rfl|simp [hni]|(simp [hni];rfl)),below_drewN (HB _).out _⟩
 simp only [h5,if_false]
 by_cases h7:k=7
 ·subst h7
  by_cases hn:n<X.C.ow.length
  ·obtain ⟨b,o,e1,t0⟩:=HX.out.ow n hn
   rw [e1] at c13
   have hb:b<w.heap.size:=World.block_lt_of_cell? _ _ t0
   have hni:(n:Int)<(X.C.ow.length:Int):=by omega
   have e:X.C.ow.getD n 0=X.C.ow[n]:=by simp [hn]
   rw [e]
   go_enter Tryz.func161,Tryz.ntmps161
   go_wp2
   go_quiet (fail)
   all_goals
    go_wp2
    go_ret
    exact ⟨ret_bool (by first|rfl|simp [hni]|(simp [hni];rfl)),below_drewN (HB _).out _⟩
  ·have hni:¬ (n:Int)<(X.C.ow.length:Int):=by omega
   go_enter Tryz.func161,Tryz.ntmps161
   go_wp2
   go_quiet (fail)
   all_goals
    go_wp2
    go_ret
    exact ⟨ret_bool (by first|rfl|simp [hni]|(simp [hni];rfl)),below_drewN (HB _).out _⟩
 simp only [h7,if_false]
 go_enter Tryz.func161,Tryz.ntmps161
 go_wp2
 go_ret
 exact ⟨rfl,(HB _).out⟩
end Go.Proofs.YtejhccmclanlmaaGreatDoor
