/- Texts joined: Ma Ca Cb Cc Na Xa Pa Pd Mb Pe. -/
import Derived.Test.YtejhccmclanlmaaGreatDoorRows
import Derived.WalkKit
import Derived.WalkSpells
import Derived.WalkLawsBesides
import Derived.Deep.QuietTactic
import Derived.BigQuiet
set_option linter.unusedVariables false
set_option maxRecDepth 100000
namespace Go.Proofs.YtejhccmclanlmaaGreatDoor
theorem lr {n:Nat}:n≤n:=Nat.le_refl n
def inR (n l m:Int):Bool:=decide (l≤n) && decide (n≤m)
def idx (ln:Int) (ls:List (Int×Bool)):Int:=match ls.findIdx? (fun x=>x.1 == ln) with|some i=>i|none=>-1
theorem idx_at (ln:Int) (ls:List (Int×Bool)) (k:Nat) (h:k<ls.length) (he:ls[k].1=ln) (hno:∀ j (hj:j<ls.length),j<k→ls[j].1≠ln):idx ln ls=k:=by
 have:ls.findIdx? (fun x=>x.1 == ln)=some k:=by
  rw [List.findIdx?_eq_some_iff_getElem]
  exact ⟨h,by simp [he],fun j hj=>by simpa using hno j (by omega) hj⟩
 simp [idx,this]
theorem idx_none (ln:Int) (ls:List (Int×Bool)) (hno:∀ j (hj:j<ls.length),ls[j].1≠ln):idx ln ls=-1:=by
 have:ls.findIdx? (fun x=>x.1 == ln)=none:=by
  rw [List.findIdx?_eq_none_iff]
  intro x hx
  obtain ⟨j,hj,rfl⟩:=List.getElem_of_mem hx
  simpa using hno j hj
 simp [idx,this]
theorem idx_cases (ln:Int) (ls:List (Int×Bool)):(idx ln ls=-1∧∀ j (hj:j<ls.length),ls[j].1≠ln)∨∃ k,∃ h:k<ls.length,idx ln ls=k∧ls[k].1=ln∧∀ j (hj:j<ls.length),j<k→ls[j].1≠ln:=by
 cases h:ls.findIdx? (fun x=>x.1 == ln) with
 | none=>
  left
  have h2:=h
  rw [List.findIdx?_eq_none_iff] at h2
  exact ⟨by rw [idx,h],fun j hj=>by simpa using h2 _ (List.getElem_mem hj)⟩
 | some k=>
  right
  have h2:=h
  rw [List.findIdx?_eq_some_iff_getElem] at h2
  obtain ⟨hk,h1,h3⟩:=h2
  exact ⟨k,hk,by rw [idx,h],by simpa using h1,fun j hj hlt=>by simpa using h3 j hlt⟩
def fe:Nat→(Nat→Int)→Int
 | 0,_=>0
 | n+1,f=>if fe n f≠0 then fe n f else f n
theorem fe_zero (n:Nat) (f:Nat→Int) (h:∀ j,j<n→f j=0):fe n f=0:=by
 induction n with
 | zero=>rfl
 | succ n ih=>simp [fe,ih (fun j hj=>h j (by omega)),h n (by omega)]
theorem fe_at (n k:Nat) (f:Nat→Int) (hk:k<n) (h0:f k≠0) (h:∀ j,j<k→f j=0):fe n f=f k:=by
 induction n with
 | zero=>omega
 | succ n ih=>
  by_cases e:k=n
  ·subst e;simp [fe,fe_zero k f h]
  ·have:=ih (by omega)
   simp [fe,this,h0]
theorem fe_eq_zero {n:Nat} {f:Nat→Int} (h:fe n f=0):∀ j,j<n→f j=0:=by
 induction n with
 | zero=>intro j hj;omega
 | succ n ih=>
  simp only [fe] at h
  by_cases e:fe n f=0
  ·simp [e] at h
   intro j hj
   by_cases e2:j=n
   ·subst e2;exact h
   ·exact ih e j (by omega)
  ·simp [e] at h
def ckWay (ls:List (Int×Bool)) (i:Nat) (num sets:Int):Int:=
 match ls[i]? with
 | none=>0
 | some x=>
  if inR x.1 0 1000=false then 3
  else if x.1=0 then (if x.2 then 1 else 0)
  else if x.1 % sets≠num then 4
  else if 0≤idx x.1 (ls.take i) then 6
  else if 0≤idx 0 (ls.take i) then 4
  else 0
def ckShape (C:List (List (Int×Bool))):Int:=
 if inR C.length 1 4=false then 3
 else if C.any (fun l=>!inR l.length 1 3) then 3
 else if C.any (fun l=>l.length != (C.headD []).length) then 1
 else 0
def ckSet (C:List (List (Int×Bool))) (j:Nat):Int:=fe (C.getD j []).length fun i=>ckWay (C.getD j []) i j C.length
def ck (C:List (List (Int×Bool))):Int:=if ckShape C≠0 then ckShape C else fe C.length (ckSet C)
def wb (d:Bool):Int:=if d then 5 else 0
theorem wb_le (d:Bool):0≤wb d∧wb d≤5:=by cases d <;> simp [wb]
def useSet (ls:List (Int×Bool)) (ln:Int) (wr:Bool):List (Int×Bool)×Int:=
 match ls.findIdx? (fun x=>x.1 == ln) with
 | some k=>(((ls.getD k (0,false)).1,(ls.getD k (0,false)).2 || wr) :: ls.eraseIdx k,1)
 | none=>((ln,wr) :: ls.dropLast,10+wb (ls.getLastD (0,false)).2)
end Go.Proofs.YtejhccmclanlmaaGreatDoor
namespace Go.Proofs.YtejhccmclanlmaaGreatDoor
open Go.RowKit
theorem ret_bool {a b:Bool} (h:a=b):Ending.returned (.bool a)=.returned (.bool b):=by rw [h]
theorem ret_int {k:IntKind} {a b:Int} (h:a=b):Ending.returned (.int k a)=.returned (.int k b):=by rw [h]
theorem hid {p:Prop} (h:p):Hid p:=h
theorem bkeep {B:Nat} {w w':World} {p:Addr} {v:Value} (h:Below B w w') (hc:w.cell? p=some v) (hB:w.heap.size≤B):w'.cell? p=some v:=by
 rw [h.cell (Nat.lt_of_lt_of_le (World.block_lt_of_cell? _ _ hc) hB)];exact hc
theorem btrans {w w1 w2:World} (h:Below w.heap.size w w1) (k:Below w1.heap.size w1 w2):Below w.heap.size w w2:=h.trans (k.mono h.size)
set_option maxHeartbeats 400000 in
theorem within_any (n l m:Int) (w:World) :
  Calls Tryz.prog 34 #[.int .i64 n,.int .i64 l,.int .i64 m] w fun e w'=>e=.returned (.bool (inR n l m))∧w=w':=by
 go_enter Tryz.func34,Tryz.ntmps34
 go_wp2
 all_goals go_ret
 all_goals refine ⟨ret_bool ?_,rfl⟩
 all_goals (simp [inR];try omega)
set_option maxHeartbeats 400000 in
theorem find1_any (l ln:Int) (d:Bool) (b o:Nat) (w:World) (h:w.cell? ⟨b,o,none⟩=some (.int .i64 ln)) :
  Calls Tryz.prog 143 #[.agg #[.int .i64 l,.bool d],.pointer (some ⟨b,o,none⟩)] w fun e w'=>e=.returned (.bool (l == ln))∧Below w.heap.size w w':=by
 have hb:b<w.heap.size:=World.block_lt_of_cell? _ _ h
 go_enter Tryz.func143,Tryz.ntmps143
 go_wp2
 go_ret
 exact ⟨rfl,(Below.refl _ _).alloc lr _⟩
def WaysIn (w:World) (a:Option Addr) (ls:List (Int×Bool)):Prop:=
 ∀ i (h:i<ls.length),∃ b o,a=some ⟨b,o,none⟩∧w.cell? ⟨b,o+i * 2,none⟩=some (.int .i64 ls[i].1)∧w.cell? ⟨b,o+i * 2+1,none⟩=some (.bool ls[i].2)
theorem WaysIn.keep {w w':World} {a:Option Addr} {ls:List (Int×Bool)} (h:WaysIn w a ls) (hb:Below w.heap.size w w'):WaysIn w' a ls:=by
 intro i hi
 obtain ⟨b,o,e,h1,h2⟩:=h i hi
 exact ⟨b,o,e,bkeep hb h1 lr,bkeep hb h2 lr⟩
set_option maxHeartbeats 400000 in
theorem index67_any (a:Option Addr) (ls:List (Int×Bool)) (cap:Nat) (ln:Int) (b o:Nat) (w:World) (h:w.cell? ⟨b,o,none⟩=some (.int .i64 ln)) (hw:WaysIn w a ls) (hl:ls.length≤9223372036854775807) :
  Calls Tryz.prog 142 #[.slice a ls.length cap,.func (.func 143) #[] #[.pointer (some ⟨b,o,none⟩)]] w fun e w'=>e=.returned (.int .i64 (idx ln ls))∧Below w.heap.size w w':=by
 have hb:b<w.heap.size:=World.block_lt_of_cell? _ _ h
 go_enter Tryz.func142,Tryz.ntmps142
 go_wp2
 go_loopw [8] (fun i wr=>∃ k:Nat,k≤ls.length∧i=.int .i64 k∧Below w.heap.size w wr∧∀ j (hj:j<ls.length),j<k→ls[j].1≠ln) (fun i _=>ls.length - (intOf i).toNat)
 case atStart=>exact ⟨0,Nat.zero_le _,rfl,Below.refl _ _,by omega⟩
 case round=>
  obtain ⟨k,hk,rfl,hbl,hno⟩:=hrel
  have Hno:=hno
  replace Hno:Hid (∀ j (hj:j<ls.length),j<k→ls[j].1≠ln):=hno
  clear hno
  by_cases hlt:k<ls.length
  ·obtain ⟨b',o',rfl,hc1,hc2⟩:=hw k hlt
   have hc1':=bkeep hbl hc1 lr
   have hc2':=bkeep hbl hc2 lr
   have h':=bkeep hbl h lr
   go_wp2_with fail
   refine (find1_any _ ln _ b o _ h').mono ?_
   rintro e w' ⟨rfl,hb2⟩
   by_cases hx:ls[k].1=ln
   ·have hx':(ls[k].1 == ln)=true:=by simp [hx]
    rw [hx']
    have HX:Hid (ls[k].1=ln):=hx
    clear hx hx'
    go_wp2
    go_ret
    exact ⟨ret_int (idx_at ln ls k hlt HX.out Hno.out).symm,btrans hbl hb2⟩
   ·have hx':(ls[k].1 == ln)=false:=by simp [hx]
    rw [hx']
    have HX:Hid (ls[k].1≠ln):=hx
    clear hx hx'
    go_wp2
    go_roundw
    case rel=>
     refine ⟨k+1,by omega,by go_num,btrans hbl hb2,fun j hj hlt2=>?_⟩
     by_cases e:j=k
     ·subst e;exact HX.out
     ·exact Hno.out j hj (by omega)
    case measure=>simp [intOf];omega
  ·go_wp2
   go_ret
   exact ⟨ret_int (idx_none ln ls (fun j hj=>Hno.out j hj (by omega))).symm,hbl⟩
set_option maxHeartbeats 400000 in
theorem find_any (a:Option Addr) (ls:List (Int×Bool)) (cap:Nat) (ln:Int) (w:World) (hw:WaysIn w a ls) (hl:ls.length≤9223372036854775807) :
  Calls Tryz.prog 105 #[.slice a ls.length cap,.int .i64 ln] w fun e w'=>e=.returned (.int .i64 (idx ln ls))∧Below w.heap.size w w':=by
 go_enter Tryz.func105,Tryz.ntmps105
 go_wp2_with fail
 have h1:Below w.heap.size w (w.alloc (.cells #[.int .i64 ln] 3)):=(Below.refl _ _).alloc lr _
 refine (index67_any a ls cap ln w.heap.size 0 _ (by simp) (hw.keep h1) hl).mono ?_
 rintro e w' ⟨rfl,hb2⟩
 go_wp2
 go_ret
 exact ⟨rfl,btrans h1 hb2⟩
theorem WaysIn.take {w:World} {a:Option Addr} {ls:List (Int×Bool)} (h:WaysIn w a ls) (k:Nat):WaysIn w a (ls.take k):=by
 intro i hi
 have:i<ls.length:=by simp at hi;omega
 obtain ⟨b,o,e,h1,h2⟩:=h i this
 exact ⟨b,o,e,by simpa using h1,by simpa using h2⟩
theorem find_take (a:Option Addr) (ls:List (Int×Bool)) (k cap:Nat) (ln:Int) (w:World) (hw:WaysIn w a ls) (hk:k≤ls.length) (hl:ls.length≤9223372036854775807) :
  Calls Tryz.prog 105 #[.slice a k cap,.int .i64 ln] w fun e w'=>e=.returned (.int .i64 (idx ln (ls.take k)))∧Below w.heap.size w w':=by
 have e:(ls.take k).length=k:=by simp;omega
 have:=find_any a (ls.take k) cap ln w (hw.take k) (by omega)
 rw [e] at this
 exact this
set_option maxHeartbeats 800000 in
theorem checkWay_any (b o:Nat) (ls:List (Int×Bool)) (cap i:Nat) (num sets:Int) (w:World) (hw:WaysIn w (some ⟨b,o,none⟩) ls) (hi:i<ls.length) (hcap:ls.length≤cap) (hl:ls.length≤9223372036854775807) (hs:1≤sets) (hs2:sets≤4) :
  Calls Tryz.prog 73 #[.slice (some ⟨b,o,none⟩) ls.length cap,.int .i64 i,.int .i64 num,.int .i64 sets] w fun e w'=>e=.returned (.int .i64 (ckWay ls i num sets))∧Below w.heap.size w w':=by
 obtain ⟨b',o',e,h1,h2⟩:=hw i hi
 simp only [Option.some.injEq,Addr.mk.injEq,and_true] at e
 obtain ⟨rfl,rfl⟩:=e
 have hi':(i:Int)<(ls.length:Int):=by omega
 have hcap':(ls.length:Int)≤(cap:Int):=by omega
 have hicap:(i:Int)≤(cap:Int):=by omega
 generalize hx:ls[i]=x at h1 h2
 obtain ⟨l,d⟩:=x
 have Hx:Hid (ls[i]? = some (l,d)):=by show ls[i]? = _;rw [List.getElem?_eq_getElem hi,hx]
 clear hx
 simp only at h1 h2
 go_enter Tryz.func73,Tryz.ntmps73
 go_wp2
 go_quiet (fail)
 go_wp2_with fail
 refine (within_any _ _ _ _).mono ?_
 rintro e w' ⟨rfl,rfl⟩
 have hb0:Below w.heap.size w (w.drewN nq):=below_drewN (Below.refl _ _) nq
 cases hr:inR l 0 1000 with
 | false=>
  go_wp2
  go_ret
  exact ⟨ret_int (by rw [ckWay,Hx.out];simp [hr]),hb0⟩
 | true=>
  have Hr:Hid (inR l 0 1000=true):=hr
  have hr1:0≤l∧l≤1000:=by simpa [inR] using hr
  obtain ⟨hl0,hl1⟩:=hr1
  clear hr
  by_cases hz:l=0
  ·subst hz
   cases d with
   | false=>
    go_wp2
    go_ret
    exact ⟨ret_int (by rw [ckWay,Hx.out];simp [Hr.out]),hb0⟩
   | true=>
    go_wp2
    go_ret
    exact ⟨ret_int (by rw [ckWay,Hx.out];simp [Hr.out]),hb0⟩
  ·have hz':(l == 0)=false:=by simp [hz]
   have hw':=hw.keep hb0
   have Hz:Hid (¬ l=0):=hz
   clear hz
   by_cases hm:l % sets=num
   ·have hm':(l % sets != num)=false:=by simp [hm]
    have Hm:Hid (l % sets=num):=hm
    clear hm
    go_wp2_with fail
    refine (find_take _ ls i cap _ _ hw' (by omega) hl).mono ?_
    rintro e w1 ⟨rfl,hb1⟩
    by_cases h6:0≤idx l (ls.take i)
    ·go_wp2
     go_ret
     exact ⟨ret_int (by rw [ckWay,Hx.out];simp [Hr.out,Hz.out,Hm.out,h6]),btrans hb0 hb1⟩
    ·have h6':¬ idx l (ls.take i) ≥ 0:=h6
     go_wp2_with fail
     refine (find_take _ ls i cap _ _ (hw'.keep hb1) (by omega) hl).mono ?_
     rintro e w2 ⟨rfl,hb2⟩
     by_cases h4:0≤idx 0 (ls.take i)
     ·go_wp2
      go_ret
      exact ⟨ret_int (by rw [ckWay,Hx.out];simp [Hr.out,Hz.out,Hm.out];rw [if_neg (by omega),if_pos (by omega)]),btrans hb0 (btrans hb1 hb2)⟩
     ·go_wp2
      go_ret
      exact ⟨ret_int (by rw [ckWay,Hx.out];simp [Hr.out,Hz.out,Hm.out];rw [if_neg (by omega),if_neg (by omega)]),btrans hb0 (btrans hb1 hb2)⟩
   ·have hm':(l % sets != num)=true:=by simp [hm]
    have Hm:Hid (¬ l % sets=num):=hm
    clear hm
    go_wp2
    go_ret
    exact ⟨ret_int (by rw [ckWay,Hx.out];simp [Hr.out,Hz.out,Hm.out]),hb0⟩
def CacheIn (w:World) (a:Option Addr) (C:List (List (Int×Bool))):Prop:=
 ∀ j (h:j<C.length),∃ b o a' cap,a=some ⟨b,o,none⟩∧w.cell? ⟨b,o+j,none⟩=some (.slice a' C[j].length cap)∧WaysIn w a' C[j]∧C[j].length≤cap∧C[j].length≤9223372036854775807
theorem CacheIn.keep {w w':World} {a:Option Addr} {C:List (List (Int×Bool))} (h:CacheIn w a C) (hb:Below w.heap.size w w'):CacheIn w' a C:=by
 intro i hi
 obtain ⟨b,o,a',cap,e,h1,h2,h3,h4⟩:=h i hi
 exact ⟨b,o,a',cap,e,bkeep hb h1 lr,h2.keep hb,h3,h4⟩
set_option maxHeartbeats 400000 in
theorem shape1_any (a:Option Addr) (n cap:Nat) (hn:n≤9223372036854775807) (w:World) :
  Calls Tryz.prog 103 #[.slice a n cap] w fun e w'=>e=.returned (.bool (!inR n 1 3))∧Below w.heap.size w w':=by
 go_enter Tryz.func103,Tryz.ntmps103
 go_wp2_with fail
 refine (within_any _ _ _ _).mono ?_
 rintro e w' ⟨rfl,rfl⟩
 go_wp2
 go_ret
 exact ⟨rfl,Below.refl _ _⟩
set_option maxHeartbeats 400000 in
theorem shape2_any (a:Option Addr) (n cap:Nat) (hn:n≤9223372036854775807) (pb po b o N Ncap:Nat) (a':Option Addr) (n' cap':Nat) (hn':n'≤9223372036854775807) (w:World)
  (h1:w.cell? ⟨pb,po,none⟩=some (.slice (some ⟨b,o,none⟩) N Ncap)) (hN:0<(N:Int)) (h2:w.cell? ⟨b,o,none⟩=some (.slice a' n' cap')) :
  Calls Tryz.prog 104 #[.slice a n cap,.pointer (some ⟨pb,po,none⟩)] w fun e w'=>e=.returned (.bool (n != n'))∧Below w.heap.size w w':=by
 go_enter Tryz.func104,Tryz.ntmps104
 go_wp2
 go_ret
 exact ⟨ret_bool (by rw [Bool.eq_iff_iff];simp;omega),Below.refl _ _⟩
set_option maxHeartbeats 400000 in
theorem index69_56 (p:List (Int×Bool)→Bool) (a:Option Addr) (C:List (List (Int×Bool))) (cap:Nat) (w:World) (hw:CacheIn w a C) (hl:C.length≤9223372036854775807)
  (hF:∀ (ls:List (Int×Bool)) (a':Option Addr) (cap':Nat) (wr:World),ls∈C→ls.length≤9223372036854775807→Below w.heap.size w wr→Calls Tryz.prog 103 #[.slice a' ls.length cap'] wr fun e w'=>e=.returned (.bool (p ls))∧Below wr.heap.size wr w') :
  Calls Tryz.prog 141 #[.slice a C.length cap,.func (.func 103) #[] #[]] w fun e w'=>(∃ r:Int,e=.returned (.int .i64 r)∧(0≤r↔C.any p=true))∧Below w.heap.size w w':=by
 have HF:=hid hF
 clear hF
 go_enter Tryz.func141,Tryz.ntmps141
 go_wp2
 go_loopw [8] (fun i wr=>∃ k:Nat,k≤C.length∧i=.int .i64 k∧Below w.heap.size w wr∧∀ j (hj:j<C.length),j<k→p C[j]=false) (fun i _=>C.length - (intOf i).toNat)
 case atStart=>exact ⟨0,Nat.zero_le _,rfl,Below.refl _ _,by omega⟩
 case round=>
  obtain ⟨k,hk,rfl,hbl,hno⟩:=hrel
  have Hno:Hid (∀ j (hj:j<C.length),j<k→p C[j]=false):=hno
  clear hno
  by_cases hlt:k<C.length
  ·obtain ⟨b',o',a2,cap2,rfl,hc1,hws,hcap,hlen⟩:=hw k hlt
   have hc1':=bkeep hbl hc1 lr
   go_wp2_with fail
   refine (HF.out C[k] a2 cap2 _ (List.getElem_mem hlt) hlen hbl).mono ?_
   rintro e w' ⟨rfl,hb2⟩
   cases hx:p C[k] with
   | true=>
    have HX:=hid hx
    clear hx
    go_wp2
    go_ret
    refine ⟨⟨k,rfl,?_⟩,btrans hbl hb2⟩
    exact ⟨fun _=>List.any_eq_true.2 ⟨_,List.getElem_mem hlt,HX.out⟩,fun _=>by omega⟩
   | false=>
    have HX:=hid hx
    clear hx
    go_wp2
    go_roundw
    case rel=>
     refine ⟨k+1,by omega,by go_num,btrans hbl hb2,fun j hj hlt2=>?_⟩
     by_cases e:j=k
     ·subst e;exact HX.out
     ·exact Hno.out j hj (by omega)
    case measure=>simp [intOf];omega
  ·go_wp2
   go_ret
   refine ⟨⟨-1,rfl,?_⟩,hbl⟩
   refine ⟨fun h=>absurd h (by omega),fun h=>?_⟩
   obtain ⟨x,hx,hp⟩:=List.any_eq_true.1 h
   obtain ⟨j,hj,rfl⟩:=List.getElem_of_mem hx
   rw [Hno.out j hj (by omega)] at hp
   exact absurd hp (by simp)
set_option maxHeartbeats 400000 in
theorem contains55_56 (p:List (Int×Bool)→Bool) (a:Option Addr) (C:List (List (Int×Bool))) (cap:Nat) (w:World) (hw:CacheIn w a C) (hl:C.length≤9223372036854775807)
  (hF:∀ (ls:List (Int×Bool)) (a':Option Addr) (cap':Nat) (wr:World),ls∈C→ls.length≤9223372036854775807→Below w.heap.size w wr→Calls Tryz.prog 103 #[.slice a' ls.length cap'] wr fun e w'=>e=.returned (.bool (p ls))∧Below wr.heap.size wr w') :
  Calls Tryz.prog 102 #[.slice a C.length cap,.func (.func 103) #[] #[]] w fun e w'=>e=.returned (.bool (C.any p))∧Below w.heap.size w w':=by
 have HF:=hid hF
 clear hF
 go_enter Tryz.func102,Tryz.ntmps102
 go_wp2_with fail
 refine (index69_56 p  a C cap _ hw hl HF.out).mono ?_
 rintro e w' ⟨⟨r,rfl,hr⟩,hb⟩
 have HR:=hid hr
 clear hr
 go_wp2
 go_ret
 exact ⟨ret_bool (by rw [Bool.eq_iff_iff];simpa using HR.out),hb⟩
set_option maxHeartbeats 400000 in
theorem index69_57 (p:List (Int×Bool)→Bool) (pb po:Nat) (a:Option Addr) (C:List (List (Int×Bool))) (cap:Nat) (w:World) (hw:CacheIn w a C) (hl:C.length≤9223372036854775807)
  (hF:∀ (ls:List (Int×Bool)) (a':Option Addr) (cap':Nat) (wr:World),ls∈C→ls.length≤9223372036854775807→Below w.heap.size w wr→Calls Tryz.prog 104 #[.slice a' ls.length cap',.pointer (some ⟨pb,po,none⟩)] wr fun e w'=>e=.returned (.bool (p ls))∧Below wr.heap.size wr w') :
  Calls Tryz.prog 141 #[.slice a C.length cap,.func (.func 104) #[] #[.pointer (some ⟨pb,po,none⟩)]] w fun e w'=>(∃ r:Int,e=.returned (.int .i64 r)∧(0≤r↔C.any p=true))∧Below w.heap.size w w':=by
 have HF:=hid hF
 clear hF
 go_enter Tryz.func141,Tryz.ntmps141
 go_wp2
 go_loopw [8] (fun i wr=>∃ k:Nat,k≤C.length∧i=.int .i64 k∧Below w.heap.size w wr∧∀ j (hj:j<C.length),j<k→p C[j]=false) (fun i _=>C.length - (intOf i).toNat)
 case atStart=>exact ⟨0,Nat.zero_le _,rfl,Below.refl _ _,by omega⟩
 case round=>
  obtain ⟨k,hk,rfl,hbl,hno⟩:=hrel
  have Hno:Hid (∀ j (hj:j<C.length),j<k→p C[j]=false):=hno
  clear hno
  by_cases hlt:k<C.length
  ·obtain ⟨b',o',a2,cap2,rfl,hc1,hws,hcap,hlen⟩:=hw k hlt
   have hc1':=bkeep hbl hc1 lr
   go_wp2_with fail
   refine (HF.out C[k] a2 cap2 _ (List.getElem_mem hlt) hlen hbl).mono ?_
   rintro e w' ⟨rfl,hb2⟩
   cases hx:p C[k] with
   | true=>
    have HX:=hid hx
    clear hx
    go_wp2
    go_ret
    refine ⟨⟨k,rfl,?_⟩,btrans hbl hb2⟩
    exact ⟨fun _=>List.any_eq_true.2 ⟨_,List.getElem_mem hlt,HX.out⟩,fun _=>by omega⟩
   | false=>
    have HX:=hid hx
    clear hx
    go_wp2
    go_roundw
    case rel=>
     refine ⟨k+1,by omega,by go_num,btrans hbl hb2,fun j hj hlt2=>?_⟩
     by_cases e:j=k
     ·subst e;exact HX.out
     ·exact Hno.out j hj (by omega)
    case measure=>simp [intOf];omega
  ·go_wp2
   go_ret
   refine ⟨⟨-1,rfl,?_⟩,hbl⟩
   refine ⟨fun h=>absurd h (by omega),fun h=>?_⟩
   obtain ⟨x,hx,hp⟩:=List.any_eq_true.1 h
   obtain ⟨j,hj,rfl⟩:=List.getElem_of_mem hx
   rw [Hno.out j hj (by omega)] at hp
   exact absurd hp (by simp)
set_option maxHeartbeats 400000 in
theorem contains55_57 (p:List (Int×Bool)→Bool) (pb po:Nat) (a:Option Addr) (C:List (List (Int×Bool))) (cap:Nat) (w:World) (hw:CacheIn w a C) (hl:C.length≤9223372036854775807)
  (hF:∀ (ls:List (Int×Bool)) (a':Option Addr) (cap':Nat) (wr:World),ls∈C→ls.length≤9223372036854775807→Below w.heap.size w wr→Calls Tryz.prog 104 #[.slice a' ls.length cap',.pointer (some ⟨pb,po,none⟩)] wr fun e w'=>e=.returned (.bool (p ls))∧Below wr.heap.size wr w') :
  Calls Tryz.prog 102 #[.slice a C.length cap,.func (.func 104) #[] #[.pointer (some ⟨pb,po,none⟩)]] w fun e w'=>e=.returned (.bool (C.any p))∧Below w.heap.size w w':=by
 have HF:=hid hF
 clear hF
 go_enter Tryz.func102,Tryz.ntmps102
 go_wp2_with fail
 refine (index69_57 p pb po a C cap _ hw hl HF.out).mono ?_
 rintro e w' ⟨⟨r,rfl,hr⟩,hb⟩
 have HR:=hid hr
 clear hr
 go_wp2
 go_ret
 exact ⟨ret_bool (by rw [Bool.eq_iff_iff];simpa using HR.out),hb⟩
set_option maxHeartbeats 400000 in
theorem checkShape_any (a:Option Addr) (C:List (List (Int×Bool))) (cap:Nat) (w:World) (hw:CacheIn w a C) (hl:C.length≤9223372036854775807) :
  Calls Tryz.prog 72 #[.slice a C.length cap] w fun e w'=>e=.returned (.int .i64 (ckShape C))∧Below w.heap.size w w':=by
 have h1:Below w.heap.size w (w.alloc (.cells #[.slice a C.length cap] 70)):=(Below.refl _ _).alloc lr _
 have hw1:=hw.keep h1
 go_enter Tryz.func72,Tryz.ntmps72
 go_wp2_with fail
 refine (within_any _ _ _ _).mono ?_
 rintro e w' ⟨rfl,rfl⟩
 cases hr:inR C.length 1 4 with
 | false=>
  go_wp2
  go_ret
  exact ⟨ret_int (by simp [ckShape,hr]),h1⟩
 | true=>
  have HR:=hid hr
  have hpos:0<C.length:=by simp [inR] at hr;omega
  clear hr
  go_wp2_with fail
  refine (contains55_56 (fun l=>!inR l.length 1 3) a C cap _ hw1 hl (fun ls a' cap' wr _ hls _=>shape1_any a' ls.length cap' hls wr)).mono ?_
  rintro e w2 ⟨rfl,hb2⟩
  cases hr2:C.any (fun l=>!inR l.length 1 3) with
  | true=>
   go_wp2
   go_ret
   exact ⟨ret_int (by simp only [ckShape,HR.out,hr2];simp),btrans h1 hb2⟩
  | false=>
   have HR2:=hid hr2
   clear hr2
   have hc:(w.alloc (.cells #[.slice a C.length cap] 70)).cell? ⟨w.heap.size,0,none⟩=some (.slice a C.length cap):=by simp
   have hc2:=bkeep hb2 hc (by simp)
   have hw2:=hw1.keep hb2
   obtain ⟨b',o',a2,cap2,rfl,hc1,hws,hcap,hlen⟩:=hw2 0 hpos
   have hpos':0<(C.length:Int):=by omega
   have H0:Hid ((C.headD []).length=C[0].length):=by
    cases C with
    | nil=>simp at hpos
    | cons x r=>rfl
   go_wp2_with fail
   refine (contains55_57 (fun l=>l.length != C[0].length) w.heap.size 0 _ C cap _ hw2 hl (fun ls a' cap' wr _ hls hwr=>
    shape2_any a' ls.length cap' hls w.heap.size 0 b' o' C.length cap a2 C[0].length cap2 hlen wr (bkeep hwr hc2 lr) hpos' (bkeep hwr (by simpa using hc1) lr))).mono ?_
   rintro e w3 ⟨rfl,hb3⟩
   cases hr3:C.any (fun l=>l.length != C[0].length) with
   | true=>
    go_wp2
    go_ret
    exact ⟨ret_int (by simp only [ckShape,HR.out,HR2.out,H0.out,hr3];simp),btrans h1 (btrans hb2 hb3)⟩
   | false=>
    go_wp2
    go_ret
    exact ⟨ret_int (by simp only [ckShape,HR.out,HR2.out,H0.out,hr3];simp),btrans h1 (btrans hb2 hb3)⟩
end Go.Proofs.YtejhccmclanlmaaGreatDoor
namespace Go.Proofs.YtejhccmclanlmaaGreatDoor
structure Conf where
 s:Int
 w:Int
 d:Int
 p:Int
 q:Int
 sl:List (Int×Int)
 ow:List Int
 ch:List (Int×Int×Int)
 ta:List (Int×Int×Int×Int)
def isD (d x:Int):Bool:=inR x 0 (d - 1)
def ckNum (C:Conf):Int:=if inR C.s 1 4 && inR C.w 1 3 && inR C.d 1 4 && inR C.q 1 100 then 0 else 3
def ckPad (C:Conf):Int:=if inR C.p (2+5 * C.s * C.w) 99 then 0 else 4
def ckCnt (C:Conf):Int:=if inR C.sl.length 1 6 && decide ((C.ow.length:Int)≤4) && decide ((C.ch.length:Int)≤4) && decide ((C.ta.length:Int)≤6) then 0 else 2
def ckSl (d:Int) (x:Int×Int):Int:=if isD d x.1 then (if inR x.2 100 1000 then 0 else 3) else 5
def ckSlots (C:Conf):Int:=fe C.sl.length fun i=>ckSl C.d (C.sl.getD i (0,0))
def ckOw (C:Conf):Int:=if C.ow.any fun o=>!isD C.d o then 5 else 0
def twin (x y:Int×Int×Int):Bool:=y.1 == x.1 && y.2.1 == x.2.1
def ckCh (d:Int) (ls:List (Int×Int×Int)) (i:Nat):Int:=
 match ls[i]? with
 | none=>0
 | some x=>if isD d x.1 && isD d x.2.1 then (if x.1=x.2.1 then 1 else if inR x.2.2 1 4 then (if (ls.take i).any (twin x) then 6 else 0) else 3) else 5
def ckChans (C:Conf):Int:=fe C.ch.length (ckCh C.d C.ch)
def ckTa (d:Int) (x:Int×Int×Int×Int):Int:=if isD d x.1 then (if inR x.2.1 1 5000 && inR x.2.2.1 1 x.2.1 && inR x.2.2.2 1 x.2.1 then 0 else 3) else 5
def ckTasks (C:Conf):Int:=fe C.ta.length fun i=>ckTa C.d (C.ta.getD i (0,0,0,0))
def ck7 (C:Conf):Nat→Int
 | 0=>ckNum C
 | 1=>ckPad C
 | 2=>ckCnt C
 | 3=>ckSlots C
 | 4=>ckOw C
 | 5=>ckChans C
 | 6=>ckTasks C
 | _=>0
def ckC (C:Conf):Int:=fe 7 (ck7 C)
theorem getD_of {α:Type} (ls:List α) (i:Nat) (h:i<ls.length) (z:α):ls.getD i z=ls[i]:=by simp [h]
theorem num_ok {C:Conf} (h:ckNum C=0):1≤C.s∧C.s≤4∧1≤C.w∧C.w≤3∧1≤C.d∧C.d≤4∧1≤C.q∧C.q≤100:=by
 unfold ckNum at h
 split at h
 ·rename_i h2;simp [inR] at h2;omega
 ·omega
theorem pad_ok {C:Conf} (h:ckPad C=0):2+5 * C.s * C.w≤C.p∧C.p≤99:=by
 unfold ckPad at h
 split at h
 ·rename_i h2;simpa [inR] using h2
 ·omega
theorem cnt_ok {C:Conf} (h:ckCnt C=0):1≤C.sl.length∧C.sl.length≤6∧C.ow.length≤4∧C.ch.length≤4∧C.ta.length≤6:=by
 unfold ckCnt at h
 split at h
 ·rename_i h2;simp [inR] at h2;omega
 ·omega
theorem isD_ok {d x:Int}:isD d x=true↔0≤x∧x<d:=by simp [isD,inR];omega
theorem sl_ok {C:Conf} (h:ckSlots C=0):∀ x∈C.sl,0≤x.1∧x.1<C.d∧100≤x.2∧x.2≤1000:=by
 intro x hx
 obtain ⟨j,hj,rfl⟩:=List.getElem_of_mem hx
 have:=fe_eq_zero h j hj
 simp only [getD_of _ _ hj,ckSl] at this
 split at this
 ·rename_i h1
  rw [isD_ok] at h1
  split at this
  ·rename_i h2;simp [inR] at h2;omega
  ·omega
 ·omega
theorem ow_ok {C:Conf} (h:ckOw C=0):∀ x∈C.ow,0≤x∧x<C.d:=by
 intro x hx
 unfold ckOw at h
 split at h
 ·omega
 ·rename_i h2
  simp at h2
  exact isD_ok.1 (h2 x hx)
theorem ch_ok {C:Conf} (h:ckChans C=0):∀ x∈C.ch,0≤x.1∧x.1<C.d∧0≤x.2.1∧x.2.1<C.d∧1≤x.2.2∧x.2.2≤4:=by
 intro x hx
 obtain ⟨j,hj,rfl⟩:=List.getElem_of_mem hx
 have:=fe_eq_zero h j hj
 simp only [List.getElem?_eq_getElem hj,ckCh] at this
 split at this
 ·rename_i h1
  simp only [Bool.and_eq_true,isD_ok] at h1
  split at this
  ·omega
  ·split at this
   ·rename_i h2;simp [inR] at h2;omega
   ·omega
 ·omega
theorem ta_ok {C:Conf} (h:ckTasks C=0):∀ x∈C.ta,0≤x.1∧x.1<C.d∧1≤x.2.1∧x.2.1≤5000∧1≤x.2.2.1∧x.2.2.1≤x.2.1∧1≤x.2.2.2∧x.2.2.2≤x.2.1:=by
 intro x hx
 obtain ⟨j,hj,rfl⟩:=List.getElem_of_mem hx
 have:=fe_eq_zero h j hj
 simp only [getD_of _ _ hj,ckTa] at this
 split at this
 ·rename_i h1
  rw [isD_ok] at h1
  split at this
  ·rename_i h2;simp [inR] at h2;omega
  ·omega
 ·omega
theorem ck_ok {C:Conf} (h:ckC C=0):ckNum C=0∧ckPad C=0∧ckCnt C=0∧ckSlots C=0∧ckOw C=0∧ckChans C=0∧ckTasks C=0:=
 ⟨fe_eq_zero h 0 (by omega),fe_eq_zero h 1 (by omega),fe_eq_zero h 2 (by omega),fe_eq_zero h 3 (by omega),fe_eq_zero h 4 (by omega),fe_eq_zero h 5 (by omega),fe_eq_zero h 6 (by omega)⟩
def allR (L:List Int) (l m:Int):Bool:=L.all fun n=>inR n l m
theorem allR_any (L:List Int) (l m:Int):(!L.any fun n=>!inR n l m)=allR L l m:=by
 simp [allR,List.not_any_eq_all_not]
theorem allR_true {L:List Int} {l m:Int} (h:∀ j (hj:j<L.length),inR L[j] l m=true):allR L l m=true:=by
 rw [allR,List.all_eq_true]
 intro x hx
 obtain ⟨j,hj,rfl⟩:=List.getElem_of_mem hx
 exact h j hj
def ckR (V:List Int) (lost size:Int):Int:=
 if inR size 1 4=false then 3
 else if size<(V.length:Int) then 2
 else if allR V 0 255=false then 3
 else if inR lost 0 100000=false then 3
 else 0
theorem ckR_ok {V:List Int} {lost size:Int} (h:ckR V lost size=0):(1≤size∧size≤4)∧(V.length:Int)≤size∧allR V 0 255=true∧0≤lost∧lost≤100000:=by
 unfold ckR at h
 split at h
 ·omega
 ·rename_i h1
  split at h
  ·omega
  ·split at h
   ·omega
   ·rename_i h3
    split at h
    ·omega
    ·rename_i h4
     simp [inR] at h1 h4
     simp at h3
     exact ⟨⟨h1.1,h1.2⟩,by omega,h3,h4.1,h4.2⟩
def comV (V L:List Int) (room k:Nat):List Int:=V++L.take (min k room)
def comL (lost:Int) (room k:Nat):Int:=min (lost+((k - room:Nat):Int)) 100000
structure Fits (C:Conf):Prop where
 s:1≤C.s∧C.s≤4
 w:1≤C.w∧C.w≤3
 d:1≤C.d∧C.d≤4
 p:0≤C.p∧C.p≤99
 q:1≤C.q∧C.q≤100
 l5:1≤C.sl.length∧C.sl.length≤6
 l6:C.ow.length≤4
 l7:C.ch.length≤4
 l8:C.ta.length≤6
 sl:∀ x∈C.sl,0≤x.1∧x.1≤3∧100≤x.2∧x.2≤1000
 ow:∀ x∈C.ow,0≤x∧x≤3
 ch:∀ x∈C.ch,0≤x.1∧x.1≤3∧0≤x.2.1∧x.2.1≤3∧1≤x.2.2∧x.2.2≤4
 ta:∀ x∈C.ta,0≤x.1∧x.1≤3∧1≤x.2.1∧x.2.1≤5000∧1≤x.2.2.1∧x.2.2.1≤5000∧1≤x.2.2.2∧x.2.2.2≤5000
theorem fits_of {C:Conf} (h:ckC C=0):Fits C:=by
 obtain ⟨h1,h2,h3,h4,h5,h6,h7⟩:=ck_ok h
 have n:=num_ok h1
 have p:=pad_ok h2
 have c:=cnt_ok h3
 have hp:0≤5 * C.s * C.w:=Int.mul_nonneg (by omega) (by omega)
 refine ⟨by omega,by omega,by omega,by omega,by omega,by omega,by omega,by omega,by omega,fun x hx=>?_,fun x hx=>?_,fun x hx=>?_,fun x hx=>?_⟩
 ·have:=sl_ok h4 x hx;omega
 ·have:=ow_ok h5 x hx;omega
 ·have:=ch_ok h6 x hx;omega
 ·have:=ta_ok h7 x hx;omega
def orR (F T:List Bool):List Bool:=List.zipWith (· || ·) F T
def stepM (M:Nat→List Bool) (x:Int×Int×Int):Nat→List Bool:=fun i=>if i=x.1.toNat then orR (M x.1.toNat) (M x.2.1.toNat) else M i
def idM (D:Nat):Nat→List Bool:=fun i=>(List.replicate D false).set i true
def itM (ch:List (Int×Int×Int)) (M:Nat→List Bool):Nat→(Nat→List Bool)
 | 0=>M
 | n+1=>ch.foldl stepM (itM ch M n)
theorem orR_len {F T:List Bool} (h:F.length=T.length):(orR F T).length=T.length:=by simp [orR,h]
theorem stepM_len {M:Nat→List Bool} {D:Nat} (h:∀ i,i<D→(M i).length=D) (x:Int×Int×Int) (h1:x.1.toNat<D) (h2:x.2.1.toNat<D):∀ i,i<D→(stepM M x i).length=D:=by
 intro i hi
 unfold stepM
 split
 ·rw [orR_len (by rw [h _ h1,h _ h2]),h _ h2]
 ·exact h i hi
theorem ch_ne {C:Conf} (h:ckChans C=0):∀ x∈C.ch,x.1≠x.2.1:=by
 intro x hx
 obtain ⟨j,hj,rfl⟩:=List.getElem_of_mem hx
 have:=fe_eq_zero h j hj
 simp only [List.getElem?_eq_getElem hj,ckCh] at this
 split at this
 ·split at this
  ·omega
  ·assumption
 ·omega
def okW (j N:Int) (x:Int×Bool):Prop:=0≤x.1∧x.1≤1000∧(x.1=0→x.2=false)∧(x.1≠0→x.1 % N=j)
def RW (a b:Int×Bool):Prop:=b.1≠0→a.1≠b.1∧a.1≠0
theorem idx_nonneg_iff (ln:Int) (ls:List (Int×Bool)):0≤idx ln ls↔∃ y∈ls,y.1=ln:=by
 rcases idx_cases ln ls with ⟨h,hn⟩|⟨k,hk,h,he,_⟩
 ·rw [h]
  refine ⟨fun h=>by omega,fun ⟨y,hy,e⟩=>?_⟩
  obtain ⟨i,hi,rfl⟩:=List.getElem_of_mem hy
  exact absurd e (hn i hi)
 ·rw [h]
  exact ⟨fun _=>⟨_,List.getElem_mem hk,he⟩,fun _=>by omega⟩
theorem ckWay_zero_iff (ls:List (Int×Bool)) (i:Nat) (j N:Int) (h:i<ls.length) :
  ckWay ls i j N=0↔okW j N ls[i]∧(ls[i].1≠0→(∀ y∈ls.take i,y.1≠ls[i].1)∧∀ y∈ls.take i,y.1≠0):=by
 rw [ckWay,List.getElem?_eq_getElem h]
 generalize ls[i]=x
 simp only
 have e1:(0≤idx x.1 (ls.take i))↔∃ y∈ls.take i,y.1=x.1:=idx_nonneg_iff _ _
 have e2:(0≤idx 0 (ls.take i))↔∃ y∈ls.take i,y.1=0:=idx_nonneg_iff _ _
 by_cases hr:inR x.1 0 1000=false
 ·rw [if_pos hr]
  refine ⟨fun h=>by omega,fun ⟨⟨h1,h2,_⟩,_⟩=>?_⟩
  simp [inR] at hr;omega
 ·rw [if_neg hr]
  have hr':0≤x.1∧x.1≤1000:=by simpa [inR] using hr
  by_cases hz:x.1=0
  ·rw [if_pos hz]
   cases hd:x.2 with
   | true=>
    simp only [if_true]
    refine ⟨fun h=>by omega,fun ⟨⟨_,_,h3,_⟩,_⟩=>?_⟩
    rw [hd] at h3;simp [hz] at h3
   | false=>
    simp only [Bool.false_eq_true,if_false,true_iff]
    exact ⟨⟨hr'.1,hr'.2,fun _=>hd,fun h=>absurd hz h⟩,fun h=>absurd hz h⟩
  ·rw [if_neg hz]
   by_cases hm:x.1 % N≠j
   ·rw [if_pos hm]
    exact ⟨fun h=>by omega,fun ⟨⟨_,_,_,h4⟩,_⟩=>absurd (h4 hz) hm⟩
   ·rw [if_neg hm]
    have hm':x.1 % N=j:=by omega
    by_cases h6:0≤idx x.1 (ls.take i)
    ·rw [if_pos h6]
     obtain ⟨y,hy,e⟩:=e1.1 h6
     exact ⟨fun h=>by omega,fun ⟨_,h⟩=>absurd e ((h hz).1 y hy)⟩
    ·rw [if_neg h6]
     by_cases h4:0≤idx 0 (ls.take i)
     ·rw [if_pos h4]
      obtain ⟨y,hy,e⟩:=e2.1 h4
      exact ⟨fun h=>by omega,fun ⟨_,h⟩=>absurd e ((h hz).2 y hy)⟩
     ·rw [if_neg h4]
      simp only [true_iff]
      exact ⟨⟨hr'.1,hr'.2,fun h=>absurd h hz,fun _=>hm'⟩,fun _=>⟨fun y hy e=>h6 (e1.2 ⟨y,hy,e⟩),fun y hy e=>h4 (e2.2 ⟨y,hy,e⟩)⟩⟩
theorem good_iff (ls:List (Int×Bool)) (j N:Int):(∀ i,i<ls.length→ckWay ls i j N=0)↔(∀ x∈ls,okW j N x)∧ls.Pairwise RW:=by
 constructor
 ·intro h
  refine ⟨fun x hx=>?_,?_⟩
  ·obtain ⟨i,hi,rfl⟩:=List.getElem_of_mem hx
   exact ((ckWay_zero_iff ls i j N hi).1 (h i hi)).1
  ·rw [List.pairwise_iff_getElem]
   intro i k hi hk hik hz
   have:=((ckWay_zero_iff ls k j N hk).1 (h k hk)).2 hz
   have hm:ls[i]∈ls.take k:=by
    rw [List.mem_iff_getElem]
    exact ⟨i,by simp;omega,by simp⟩
   exact ⟨this.1 _ hm,this.2 _ hm⟩
 ·rintro ⟨h1,h2⟩ i hi
  rw [ckWay_zero_iff ls i j N hi]
  refine ⟨h1 _ (List.getElem_mem hi),fun hz=>?_⟩
  rw [List.pairwise_iff_getElem] at h2
  refine ⟨fun y hy=>?_,fun y hy=>?_⟩
  all_goals
   rw [List.mem_iff_getElem] at hy
   obtain ⟨k,hk,rfl⟩:=hy
   have hk':k<i:=by simp at hk;omega
   have:=h2 k i (by omega) hi hk' hz
   simp only [List.getElem_take]
  ·exact this.1
  ·exact this.2
theorem useSet_good (ls:List (Int×Bool)) (l:Int) (wr:Bool) (j N:Int) (h1:∀ x∈ls,okW j N x) (h2:ls.Pairwise RW) (hl1:1≤l) (hl2:l≤1000) (hm:l % N=j) :
  (∀ x∈(useSet ls l wr).1,okW j N x)∧(useSet ls l wr).1.Pairwise RW:=by
 have hx:∀ d:Bool,okW j N (l,d):=fun d=>⟨by simp only;omega,by simp only;omega,fun h=>by simp only at h;omega,fun _=>hm⟩
 unfold useSet
 cases hf:ls.findIdx? (fun x=>x.1 == l) with
 | none=>
  rw [List.findIdx?_eq_none_iff] at hf
  simp only
  refine ⟨fun x hmem=>?_,?_⟩
  ·rcases List.mem_cons.1 hmem with rfl|h
   ·exact hx _
   ·exact h1 _ (List.dropLast_subset _ h)
  ·refine List.Pairwise.cons (fun y hy hz=>?_) (h2.sublist (List.dropLast_sublist _))
   have:=hf y (List.dropLast_subset _ hy)
   simp only
   refine ⟨fun e=>?_,by omega⟩
   simp [e] at this
 | some k=>
  rw [List.findIdx?_eq_some_iff_getElem] at hf
  obtain ⟨hk,he,_⟩:=hf
  have he':ls[k].1=l:=by simpa using he
  have hg:ls.getD k (0,false)=ls[k]:=by simp [hk]
  simp only [hg,he']
  refine ⟨fun x hmem=>?_,?_⟩
  ·rcases List.mem_cons.1 hmem with rfl|h
   ·exact hx _
   ·exact h1 _ (List.mem_of_mem_eraseIdx h)
  ·refine List.Pairwise.cons (fun y hy hz=>?_) (h2.sublist (List.eraseIdx_sublist _ _))
   simp only
   refine ⟨fun e=>?_,by omega⟩
   rw [List.mem_eraseIdx_iff_getElem] at hy
   obtain ⟨i,hi,hne,rfl⟩:=hy
   rw [List.pairwise_iff_getElem] at h2
   rcases Nat.lt_or_gt_of_ne hne with h|h
   ·have:=h2 i k hi hk h (by rw [he'];omega)
    rw [he'] at this
    exact this.1 e.symm
   ·have:=h2 k i hk hi h hz
    rw [he'] at this
    exact this.1 e
theorem useSet_cost (ls:List (Int×Bool)) (l:Int) (wr:Bool):1≤(useSet ls l wr).2∧(useSet ls l wr).2≤15:=by
 unfold useSet
 split
 ·simp
 ·have:=wb_le (ls.getLastD (0,false)).2
  simp only;omega
theorem useSet_length (ls:List (Int×Bool)) (l:Int) (wr:Bool) (h:0<ls.length):(useSet ls l wr).1.length=ls.length:=by
 unfold useSet
 cases hf:ls.findIdx? (fun x=>x.1 == l) with
 | none=>simp;omega
 | some k=>
  rw [List.findIdx?_eq_some_iff_getElem] at hf
  obtain ⟨hk,_,_⟩:=hf
  simp [List.length_eraseIdx,hk];omega
theorem ck_zero_iff (C:List (List (Int×Bool))):ck C=0↔ckShape C=0∧∀ j (h:j<C.length),(∀ x∈C[j],okW j C.length x)∧C[j].Pairwise RW:=by
 unfold ck
 by_cases hs:ckShape C=0
 ·simp only [hs,ne_eq,not_true_eq_false,if_false,true_and]
  constructor
  ·intro h j hj
   have:=fe_eq_zero h j hj
   rw [ckSet] at this
   have e:C.getD j []=C[j]:=by simp [hj]
   rw [e] at this
   exact (good_iff _ _ _).1 (fe_eq_zero this)
  ·intro h
   refine fe_zero _ _ (fun j hj=>?_)
   have e:C.getD j []=C[j]:=by simp [hj]
   rw [ckSet,e]
   exact fe_zero _ _ ((good_iff _ _ _).2 (h j hj))
 ·simp [hs]
theorem ckShape_zero_iff (C:List (List (Int×Bool))):ckShape C=0↔(1≤C.length∧C.length≤4)∧(∀ l∈C,1≤l.length∧l.length≤3)∧∀ l∈C,l.length=(C.headD []).length:=by
 unfold ckShape
 constructor
 ·intro h
  split at h
  ·omega
  ·rename_i h1
   split at h
   ·omega
   ·rename_i h2
    split at h
    ·omega
    ·rename_i h3
     simp [inR] at h1 h2 h3
     refine ⟨by omega,fun l hl=>?_,fun l hl=>?_⟩
     ·have:=h2 l hl;omega
     ·have:=h3 l hl;simpa using this
 ·rintro ⟨h1,h2,h3⟩
  rw [if_neg (by simp [inR];omega),if_neg,if_neg]
  ·simpa using h3
  ·simp [inR]
   intro l hl
   have:=h2 l hl;omega
theorem headD_set (C:List (List (Int×Bool))) (s:Nat) (x:List (Int×Bool)) (hs:s<C.length) (hx:x.length=C[s].length) (hall:∀ l∈C,l.length=(C.headD []).length):((C.set s x).headD []).length=(C.headD []).length:=by
 cases C with
 | nil=>simp at hs
 | cons y r=>
  cases s with
  | zero=>simpa using hx
  | succ s=>simp
theorem access_good (C:List (List (Int×Bool))) (l:Int) (wr:Bool) (s:Nat) (hs:s<C.length) (h:ck C=0) (hl1:1≤l) (hl2:l≤1000) (hm:l % (C.length:Int)=s) :
  ck (C.set s (useSet C[s] l wr).1)=0∧((C.set s (useSet C[s] l wr).1).headD []).length=(C.headD []).length:=by
 rw [ck_zero_iff] at h
 obtain ⟨h1,h2⟩:=h
 rw [ckShape_zero_iff] at h1
 obtain ⟨h3,h4,h5⟩:=h1
 have hlen:=useSet_length C[s] l wr (h4 C[s] (List.getElem_mem hs)).1
 have hh:=headD_set C s _ hs hlen h5
 refine ⟨?_,hh⟩
 rw [ck_zero_iff,ckShape_zero_iff]
 have hmem:∀ x∈C.set s (useSet C[s] l wr).1,x.length=(C.headD []).length:=by
  intro x hx
  rcases List.mem_or_eq_of_mem_set hx with h|h
  ·exact h5 x h
  ·rw [h,hlen];exact h5 _ (List.getElem_mem hs)
 refine ⟨⟨by simpa using h3,fun x hx=>?_,fun x hx=>by rw [hh];exact hmem x hx⟩,fun j hj=>?_⟩
 ·rw [hmem x hx]
  have:=h4 C[s] (List.getElem_mem hs)
  rw [h5 _ (List.getElem_mem hs)] at this
  exact this
 ·have hj':j<C.length:=by simpa using hj
  simp only [List.length_set]
  by_cases e:j=s
  ·subst e
   simp only [List.getElem_set_self]
   exact useSet_good _ l wr _ _ (h2 j hj').1 (h2 j hj').2 hl1 hl2 hm
  ·simp only [List.getElem_set_ne (fun h=>e h.symm)]
   exact h2 j hj'
def Rch (ch:List (Int×Int×Int)) (i k:Nat):Prop:=∀ Q:Nat→Prop,Q k→(∀ x∈ch,Q x.2.1.toNat→Q x.1.toNat)→Q i
theorem Rch.refl (ch:List (Int×Int×Int)) (i:Nat):Rch ch i i:=fun _ h _=>h
theorem Rch.head {ch:List (Int×Int×Int)} {k:Nat} (x:Int×Int×Int) (hx:x∈ch) (h:Rch ch x.2.1.toNat k):Rch ch x.1.toNat k:=fun Q hk hs=>hs x hx (h Q hk hs)
def sc (p:Nat→Bool) (x:Int×Int×Int):Nat→Bool:=fun i=>if i=x.1.toNat then p x.1.toNat || p x.2.1.toNat else p i
def itc (ch:List (Int×Int×Int)) (p:Nat→Bool):Nat→(Nat→Bool)
 | 0=>p
 | n+1=>ch.foldl sc (itc ch p n)
def Cl (ch:List (Int×Int×Int)) (p:Nat→Bool):Prop:=∀ x∈ch,p x.2.1.toNat=true→p x.1.toNat=true
theorem sc_mono (p:Nat→Bool) (x:Int×Int×Int) (i:Nat) (h:p i=true):sc p x i=true:=by
 unfold sc
 split
 ·rename_i e;rw [← e,h];simp
 ·exact h
theorem fold_mono (ch:List (Int×Int×Int)):∀ (p:Nat→Bool) (i:Nat),p i=true→ch.foldl sc p i=true:=by
 induction ch with
 | nil=>intro p i h;exact h
 | cons x ch ih=>intro p i h;exact ih _ i (sc_mono p x i h)
theorem fold_step (ch:List (Int×Int×Int)):∀ (p:Nat→Bool) (x:Int×Int×Int),x∈ch→p x.2.1.toNat=true→ch.foldl sc p x.1.toNat=true:=by
 induction ch with
 | nil=>intro p x hx;simp at hx
 | cons y ch ih=>
  intro p x hx h
  rw [List.foldl_cons]
  rcases List.mem_cons.1 hx with rfl|hx
  ·refine fold_mono ch _ _ ?_
   unfold sc
   rw [if_pos rfl,h];simp
  ·exact ih _ x hx (sc_mono p y _ h)
theorem sc_closed {p:Nat→Bool} {x:Int×Int×Int} (h:p x.2.1.toNat=true→p x.1.toNat=true):sc p x=p:=by
 funext i
 unfold sc
 split
 ·rename_i e
  rw [e]
  cases h1:p x.2.1.toNat with
  | false=>simp
  | true=>simp [h h1]
 ·rfl
theorem fold_closed (ch:List (Int×Int×Int)):∀ (p:Nat→Bool),Cl ch p→ch.foldl sc p=p:=by
 induction ch with
 | nil=>intro p _;rfl
 | cons x ch ih=>
  intro p h
  rw [List.foldl_cons,sc_closed (h x (by simp))]
  exact ih p (fun y hy=>h y (by simp [hy]))
theorem count_lt {l:List Nat} {p q:Nat→Bool} (hm:∀ i∈l,p i=true→q i=true) (h:∃ i∈l,p i=false∧q i=true):l.countP p<l.countP q:=by
 induction l with
 | nil=>obtain ⟨i,hi,_⟩:=h;simp at hi
 | cons x l ih=>
  have hle:l.countP p≤l.countP q:=List.countP_mono_left (fun i hi=>hm i (by simp [hi]))
  simp only [List.countP_cons]
  obtain ⟨i,hi,h1,h2⟩:=h
  rcases List.mem_cons.1 hi with rfl|hi
  ·rw [h1,h2];simp;omega
  ·have:=ih (fun i hi=>hm i (by simp [hi])) ⟨i,hi,h1,h2⟩
   cases hp:p x with
   | false=>simp;split <;> omega
   | true=>rw [hm x (by simp) hp];simp;omega
theorem col_closed (ch:List (Int×Int×Int)) (D:Nat) (hch:∀ x∈ch,x.1.toNat<D∧x.2.1.toNat<D) (p:Nat→Bool) (k:Nat) (hk:k<D) (hp:p k=true):∀ n,Cl ch (itc ch p n)∨n+1≤(List.range D).countP (itc ch p n):=by
 intro n
 induction n with
 | zero=>
  right
  have:0<(List.range D).countP p:=List.countP_pos_iff.2 ⟨k,List.mem_range.2 hk,hp⟩
  exact this
 | succ n ih=>
  rcases ih with h|h
  ·left
   show Cl ch (ch.foldl sc (itc ch p n))
   rw [fold_closed ch _ h];exact h
  ·by_cases hc:Cl ch (itc ch p n)
   ·left
    show Cl ch (ch.foldl sc (itc ch p n))
    rw [fold_closed ch _ hc];exact hc
   ·right
    have hex:∃ x∈ch,itc ch p n x.2.1.toNat=true∧itc ch p n x.1.toNat=false:=by
     apply Classical.byContradiction
     intro hn
     refine hc (fun x hx h1=>?_)
     apply Classical.byContradiction
     intro h2
     exact hn ⟨x,hx,h1,by simpa using h2⟩
    obtain ⟨x,hx,h1,h2⟩:=hex
    have:(List.range D).countP (itc ch p n)<(List.range D).countP (ch.foldl sc (itc ch p n)):=
     count_lt (fun i _ hi=>fold_mono ch _ i hi) ⟨x.1.toNat,List.mem_range.2 (hch x hx).1,h2,fold_step ch _ x hx h1⟩
    show n+1+1≤(List.range D).countP (ch.foldl sc (itc ch p n))
    omega
theorem col_done (ch:List (Int×Int×Int)) (D:Nat) (hch:∀ x∈ch,x.1.toNat<D∧x.2.1.toNat<D) (p:Nat→Bool) (k:Nat) (hk:k<D) (hp:p k=true):Cl ch (itc ch p D):=by
 rcases col_closed ch D hch p k hk hp D with h|h
 ·exact h
 ·have:=List.countP_le_length (p:=itc ch p D) (l:=List.range D)
  simp at this
  omega
theorem fold_sound (ch0:List (Int×Int×Int)) (k:Nat) (ch:List (Int×Int×Int)) (hs:∀ x∈ch,x∈ch0):∀ (p:Nat→Bool),(∀ i,p i=true→Rch ch0 i k)→∀ i,ch.foldl sc p i=true→Rch ch0 i k:=by
 induction ch with
 | nil=>intro p h i hi;exact h i hi
 | cons x ch ih=>
  intro p h i hi
  rw [List.foldl_cons] at hi
  refine ih (fun y hy=>hs y (by simp [hy])) _ (fun j hj=>?_) i hi
  unfold sc at hj
  split at hj
  ·rename_i e
   subst e
   rw [Bool.or_eq_true] at hj
   rcases hj with hj|hj
   ·exact h _ hj
   ·exact Rch.head x (hs x (by simp)) (h _ hj)
  ·exact h j hj
theorem col_sound (ch:List (Int×Int×Int)) (p:Nat→Bool) (k:Nat) (hp:∀ i,p i=true→Rch ch i k):∀ n i,itc ch p n i=true→Rch ch i k:=by
 intro n
 induction n with
 | zero=>exact hp
 | succ n ih=>exact fold_sound ch k ch (fun _ h=>h) _ ih
theorem col_keep (ch:List (Int×Int×Int)) (p:Nat→Bool) (i:Nat) (h:p i=true):∀ n,itc ch p n i=true:=by
 intro n
 induction n with
 | zero=>exact h
 | succ n ih=>exact fold_mono ch _ i ih
theorem rch_col (ch:List (Int×Int×Int)) (q:Nat→Bool) (hc:Cl ch q) {i k:Nat} (h:Rch ch i k) (hk:q k=true):q i=true:=h (fun i=>q i=true) hk hc
def col (M:Nat→List Bool) (k:Nat):Nat→Bool:=fun i=>(M i).getD k false
theorem orR_getD {F T:List Bool} (h:F.length=T.length) (k:Nat):(orR F T).getD k false=(F.getD k false || T.getD k false):=by
 simp only [orR,List.getD_eq_getElem?_getD,List.getElem?_zipWith]
 by_cases hk:k<F.length
 ·have hk2:k<T.length:=by omega
  simp [hk,hk2]
 ·have h1:F[k]? = none:=List.getElem?_eq_none (by omega)
  have h2:T[k]? = none:=List.getElem?_eq_none (by omega)
  simp [h1,h2]
theorem col_step {M:Nat→List Bool} {D:Nat} (hl:∀ i,i<D→(M i).length=D) (x:Int×Int×Int) (h1:x.1.toNat<D) (h2:x.2.1.toNat<D) (k:Nat):col (stepM M x) k=sc (col M k) x:=by
 funext i
 unfold col stepM sc
 split
 ·rw [orR_getD (by rw [hl _ h1,hl _ h2])]
 ·rfl
theorem col_fold (D:Nat) (k:Nat) (ch:List (Int×Int×Int)) (hch:∀ x∈ch,x.1.toNat<D∧x.2.1.toNat<D):∀ M:Nat→List Bool,(∀ i,i<D→(M i).length=D)→col (ch.foldl stepM M) k=ch.foldl sc (col M k)∧∀ i,i<D→(ch.foldl stepM M i).length=D:=by
 induction ch with
 | nil=>intro M h;exact ⟨rfl,h⟩
 | cons x ch ih=>
  intro M h
  have hx:=hch x (by simp)
  have:=ih (fun y hy=>hch y (by simp [hy])) (stepM M x) (stepM_len h x hx.1 hx.2)
  rw [col_step h x hx.1 hx.2] at this
  exact this
theorem col_it (D:Nat) (k:Nat) (ch:List (Int×Int×Int)) (hch:∀ x∈ch,x.1.toNat<D∧x.2.1.toNat<D) (M:Nat→List Bool) (hM:∀ i,i<D→(M i).length=D):∀ n,col (itM ch M n) k=itc ch (col M k) n∧∀ i,i<D→(itM ch M n i).length=D:=by
 intro n
 induction n with
 | zero=>exact ⟨rfl,hM⟩
 | succ n ih=>
  have:=col_fold D k ch hch (itM ch M n) ih.2
  rw [ih.1] at this
  exact this
theorem rows_reach (ch:List (Int×Int×Int)) (D:Nat) (hch:∀ x∈ch,x.1.toNat<D∧x.2.1.toNat<D) (i k:Nat) (hk:k<D):(itM ch (idM D) D i).getD k false=true↔Rch ch i k:=by
 have hid:∀ i,col (idM D) k i=true↔i=k:=by
  intro i
  simp only [col,idM,List.getD_eq_getElem?_getD,List.getElem?_set]
  by_cases e:i=k
  ·subst e;simp [hk]
  ·simp [e,hk]
 have h:=(col_it D k ch hch (idM D) (fun i _=>by simp [idM]) D).1
 have hc:(itM ch (idM D) D i).getD k false=itc ch (col (idM D) k) D i:=by rw [← h];rfl
 rw [hc]
 constructor
 ·exact col_sound ch _ k (fun j hj=>by rw [hid] at hj;subst hj;exact Rch.refl _ _) D i
 ·intro hr
  exact rch_col ch _ (col_done ch D hch _ k hk ((hid k).2 rfl)) hr (col_keep ch _ k ((hid k).2 rfl) D)
end Go.Proofs.YtejhccmclanlmaaGreatDoor
