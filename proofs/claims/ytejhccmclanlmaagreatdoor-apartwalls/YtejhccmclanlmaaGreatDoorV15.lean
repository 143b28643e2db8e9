/- Yi Eb Ec Ai Aj -/
import Derived.Test.YtejhccmclanlmaaGreatDoorV06
import Derived.Test.YtejhccmclanlmaaGreatDoorV11
import Derived.Test.YtejhccmclanlmaaGreatDoorV12
set_option linter.all false
set_option maxRecDepth 100000
set_option maxHeartbeats 8000000
namespace Go.Proofs.YtejhccmclanlmaaGreatDoor
open Go.RowKit Go.Proofs.Tryz
variable {l:Array Bool} {D:Dom} {g n n0 o:Nat} {w w':World} {C:Zm}
def ck5 (C:Zm) (dn:Int) (D:Dom):Nat→Int
 | 0=>Zj7 C D
 | 1=>Zd8 D
 | 2=>Zdl C dn D
 | 3=>Zaw C D
 | _=>Zcz D
def ckD (C:Zm) (dn:Int) (D:Dom):Int:=if Q6 C dn≠0 then Q6 C dn else fe 5 (ck5 C dn D)
theorem Zv5 (h:Zj7 C D=0):D.rel.length=C.ta.length∧D.ins.length=C.ch.length∧D.out.length=C.ch.length∧D.tak.length=C.ow.length:=by
 unfold Zj7 at h
 split at h
 ·assumption
 ·omega
theorem Zcu (k:Nat) (hk:k<5) (kb:Nat) (D:Dom) (A:Yk) (C:Zm) (B:Mem) (dn:Int) (w:World) (hK:Jf w kb D A C B dn) (hno:∀ j,j<k→ck5 C dn D j=0):
  Calls prog (91+k) #[.pointer (some ⟨kb,0,none⟩)] w (RB (.int .i64 (ck5 C dn D k)) w):=by
 match k,hk with
 | 0,_=>exact Zgh kb D A C B dn w hK
 | 1,_=>exact Zji kb D A C B dn w hK
 | 2,_=>exact Zjw kb D A C B dn w hK
 | 3,_=>exact Zls kb D A C B dn w hK (Zv5 (hno 0 (by omega))).2.1
 | 4,_=>exact Zj0 kb D A C B dn w hK
abbrev tb5 (KB:Nat):List Value:=[.func (.func 91) #[.pointer (some ⟨KB,0,none⟩)] #[],.func (.func 92) #[.pointer (some ⟨KB,0,none⟩)] #[],.func (.func 93) #[.pointer (some ⟨KB,0,none⟩)] #[],.func (.func 94) #[.pointer (some ⟨KB,0,none⟩)] #[],.func (.func 95) #[.pointer (some ⟨KB,0,none⟩)] #[]]
theorem Yau (KB:Nat) (k:Nat) (hk:k<5):(tb5 KB)[k]? = some (.func (.func (91+k)) #[.pointer (some ⟨KB,0,none⟩)] #[]):=by
 match k,hk with
 | 0,_=>rfl
 | 1,_=>rfl
 | 2,_=>rfl
 | 3,_=>rfl
 | 4,_=>rfl
theorem Za1 (D:Dom) (A:Yk) (C:Zm) (B:Mem) (dn:Int) (w:World) (hC:Z1 w B C) (hD:Yz w A D):
  Calls prog 67 #[cv C B,.int .i64 dn,dv D A] w fun e w'=>e=.returned (.int .i64 (ckD C dn D))∧Below w.heap.size w w':=by
 have q1:=Za w (.cells (cl C B) 27);have q2:=Za (w.alloc (.cells (cl C B) 27)) (.cells (dl D A) 46);have HC:=hid (hC.keep (Zb q1 q2));have HD:=hid (hD.keep (Zb q1 q2));have HX:=hid ((Yq w C B).keep q2);have HR:=hid (Zc (w.alloc (.cells (cl C B) 27)) (w.heap.size+1) (dl D A).toList 46 (by simp));have HB:=hid (Zb q1 q2);have ah:∀ (fn:Fn) (first cap:Array Value) (w:World),(Instr.makeFunc fn first cap).run prog w=.ok (.func fn first cap) w:=fun _ _ _ _=>rfl
 clear q1 q2 hC hD;obtain ⟨aJ,aR,aI,aT,aO,aE,cJ,cR,cI,cT,cO,cE⟩:=A;obtain ⟨a5,a6,a7,a8,c5,c6,c7,c8⟩:=B;dsimp only [cv,cl,dv,dl] at *
 go_enter func67,ntmps67;go_wp2_with fail;refine (Zdk C ⟨a5,a6,a7,a8,c5,c6,c7,c8⟩ dn _ HC).mono ?_;rintro e w1 ⟨rfl,a3⟩;have aa:=hid (Zb HB a3);by_cases h0:Q6 C dn=0
 ·have HE:Hid (ckD C dn D=fe 5 (ck5 C dn D)):=hid (by simp [ckD,h0])
  rw [h0];have ab:=hid (HC.out.keep a3);have ac:=hid (HD.out.keep a3);obtain ⟨g0,g1,g2,g3,g4,g5,g6,g7,g8⟩:=HX.out.keep a3;have r:=HR.out.below a3 lr;obtain ⟨d0,d1,d2,d3,d4,d5,d6⟩:=r.q7 rfl rfl rfl rfl rfl rfl rfl;have v1:=Za w1 (.cells #[.slice aJ D.jobs.length cJ,.slice aR D.rel.length cR,.int .i64 D.nxt,.slice aI D.ins.length cI,.slice aT D.tak.length cT,.slice aO D.out.length cO,.slice aE D.evs.length cE,.int .i64 C.s,.int .i64 C.w,.int .i64 C.d,.int .i64 C.p,.int .i64 C.q,.slice a5 C.sl.length c5,.slice a6 C.ow.length c6,.slice a7 C.ch.length c7,.slice a8 C.ta.length c8,.int .i64 dn] 179);have v2:=Za (w1.alloc (.cells #[.slice aJ D.jobs.length cJ,.slice aR D.rel.length cR,.int .i64 D.nxt,.slice aI D.ins.length cI,.slice aT D.tak.length cT,.slice aO D.out.length cO,.slice aE D.evs.length cE,.int .i64 C.s,.int .i64 C.w,.int .i64 C.d,.int .i64 C.p,.int .i64 C.q,.slice a5 C.sl.length c5,.slice a6 C.ow.length c6,.slice a7 C.ch.length c7,.slice a8 C.ta.length c8,.int .i64 dn] 179)) (.cells #[.func (.func 91) #[.pointer (some ⟨w1.heap.size,0,none⟩)] #[],.func (.func 92) #[.pointer (some ⟨w1.heap.size,0,none⟩)] #[],.func (.func 93) #[.pointer (some ⟨w1.heap.size,0,none⟩)] #[],.func (.func 94) #[.pointer (some ⟨w1.heap.size,0,none⟩)] #[],.func (.func 95) #[.pointer (some ⟨w1.heap.size,0,none⟩)] #[]] 180);have HK:Hid (Jf ((w1.alloc (.cells #[.slice aJ D.jobs.length cJ,.slice aR D.rel.length cR,.int .i64 D.nxt,.slice aI D.ins.length cI,.slice aT D.tak.length cT,.slice aO D.out.length cO,.slice aE D.evs.length cE,.int .i64 C.s,.int .i64 C.w,.int .i64 C.d,.int .i64 C.p,.int .i64 C.q,.slice a5 C.sl.length c5,.slice a6 C.ow.length c6,.slice a7 C.ch.length c7,.slice a8 C.ta.length c8,.int .i64 dn] 179)).alloc (.cells #[.func (.func 91) #[.pointer (some ⟨w1.heap.size,0,none⟩)] #[],.func (.func 92) #[.pointer (some ⟨w1.heap.size,0,none⟩)] #[],.func (.func 93) #[.pointer (some ⟨w1.heap.size,0,none⟩)] #[],.func (.func 94) #[.pointer (some ⟨w1.heap.size,0,none⟩)] #[],.func (.func 95) #[.pointer (some ⟨w1.heap.size,0,none⟩)] #[]] 180)) w1.heap.size D ⟨aJ,aR,aI,aT,aO,aE,cJ,cR,cI,cT,cO,cE⟩ C ⟨a5,a6,a7,a8,c5,c6,c7,c8⟩ dn):=hid ⟨(Zc w1 w1.heap.size (kl D ⟨aJ,aR,aI,aT,aO,aE,cJ,cR,cI,cT,cO,cE⟩ C ⟨a5,a6,a7,a8,c5,c6,c7,c8⟩ dn) 179 rfl).below v2 lr,(ac.out.keep v1).keep v2,(ab.out.keep v1).keep v2⟩;have HT:Hid (Zf ((w1.alloc (.cells #[.slice aJ D.jobs.length cJ,.slice aR D.rel.length cR,.int .i64 D.nxt,.slice aI D.ins.length cI,.slice aT D.tak.length cT,.slice aO D.out.length cO,.slice aE D.evs.length cE,.int .i64 C.s,.int .i64 C.w,.int .i64 C.d,.int .i64 C.p,.int .i64 C.q,.slice a5 C.sl.length c5,.slice a6 C.ow.length c6,.slice a7 C.ch.length c7,.slice a8 C.ta.length c8,.int .i64 dn] 179)).alloc (.cells #[.func (.func 91) #[.pointer (some ⟨w1.heap.size,0,none⟩)] #[],.func (.func 92) #[.pointer (some ⟨w1.heap.size,0,none⟩)] #[],.func (.func 93) #[.pointer (some ⟨w1.heap.size,0,none⟩)] #[],.func (.func 94) #[.pointer (some ⟨w1.heap.size,0,none⟩)] #[],.func (.func 95) #[.pointer (some ⟨w1.heap.size,0,none⟩)] #[]] 180)) (w1.heap.size+1) 180 (tb5 w1.heap.size)):=hid (Zc _ (w1.heap.size+1) (tb5 w1.heap.size) 180 (by simp));have a4:Hid (Below w.heap.size w ((w1.alloc (.cells #[.slice aJ D.jobs.length cJ,.slice aR D.rel.length cR,.int .i64 D.nxt,.slice aI D.ins.length cI,.slice aT D.tak.length cT,.slice aO D.out.length cO,.slice aE D.evs.length cE,.int .i64 C.s,.int .i64 C.w,.int .i64 C.d,.int .i64 C.p,.int .i64 C.q,.slice a5 C.sl.length c5,.slice a6 C.ow.length c6,.slice a7 C.ch.length c7,.slice a8 C.ta.length c8,.int .i64 dn] 179)).alloc (.cells #[.func (.func 91) #[.pointer (some ⟨w1.heap.size,0,none⟩)] #[],.func (.func 92) #[.pointer (some ⟨w1.heap.size,0,none⟩)] #[],.func (.func 93) #[.pointer (some ⟨w1.heap.size,0,none⟩)] #[],.func (.func 94) #[.pointer (some ⟨w1.heap.size,0,none⟩)] #[],.func (.func 95) #[.pointer (some ⟨w1.heap.size,0,none⟩)] #[]] 180))):=hid (Zb aa (Zb v1 v2));clear r h0 HB HC HD HX HR a3 v1 v2 ab ac aa;go_wp2;clear g0 g1 g2 g3 g4 g5 g6 g7 g8 d0 d1 d2 d3 d4 d5 d6;generalize ((w1.alloc (.cells #[.slice aJ D.jobs.length cJ,.slice aR D.rel.length cR,.int .i64 D.nxt,.slice aI D.ins.length cI,.slice aT D.tak.length cT,.slice aO D.out.length cO,.slice aE D.evs.length cE,.int .i64 C.s,.int .i64 C.w,.int .i64 C.d,.int .i64 C.p,.int .i64 C.q,.slice a5 C.sl.length c5,.slice a6 C.ow.length c6,.slice a7 C.ch.length c7,.slice a8 C.ta.length c8,.int .i64 dn] 179)).alloc (.cells #[.func (.func 91) #[.pointer (some ⟨w1.heap.size,0,none⟩)] #[],.func (.func 92) #[.pointer (some ⟨w1.heap.size,0,none⟩)] #[],.func (.func 93) #[.pointer (some ⟨w1.heap.size,0,none⟩)] #[],.func (.func 94) #[.pointer (some ⟨w1.heap.size,0,none⟩)] #[],.func (.func 95) #[.pointer (some ⟨w1.heap.size,0,none⟩)] #[]] 180))=W2 at *
  go_loopw [31] (fun i wr=>∃ k:Nat,k≤5∧i=.int .i64 k∧Below W2.heap.size W2 wr∧∀ j,j<k→ck5 C dn D j=0) (fun i _=>5-(intOf i).toNat)
  case atStart=>exact ⟨0,zl,rfl,br,by omega⟩
  case round=>
   obtain ⟨k,hk,rfl,a0,ad⟩:=hrel;have a1:=hid ad;clear ad;by_cases hlt:k<5
   ·have hc:=(HT.out.below a0 lr).cell k _ (Yau w1.heap.size k hlt)
    have ae:(k:Int)<5:=by omega
    have af:k=0∨k=1∨k=2∨k=3∨k=4:=by omega
    rcases af with rfl|rfl|rfl|rfl|rfl
    ·simp only [Nat.reduceAdd] at hc
     go_wp2_with fail;refine (Zcu 0 hlt w1.heap.size D _ C _ dn _ (HK.out.keep a0) a1.out).mono ?_;rintro e w3 ⟨rfl,a2⟩;by_cases hx:ck5 C dn D 0=0
     ·have HX:=hid hx
      rw [hx];clear hx;go_wp2;go_roundw
      case rel=>
       refine ⟨0+1,by omega,by go_num,Zb a0 a2,fun j hj=>?_⟩;by_cases e:j=0
       ·subst e;exact HX.out
       ·exact a1.out j (by omega)
      case measure=>simp [intOf]
     ·have HF:=hid (Zbe 5 0 (ck5 C dn D) hlt hx a1.out)
      have a9:(ck5 C dn D 0 != 0)=true:=by simp [hx]
      clear hx;generalize ck5 C dn D 0=q at *
      go_wp2;go_ret;exact ⟨Zh (by rw [HE.out,HF.out]),Zb a4.out (Zb a0 a2)⟩
    ·simp only [Nat.reduceAdd] at hc
     go_wp2_with fail;refine (Zcu 1 hlt w1.heap.size D _ C _ dn _ (HK.out.keep a0) a1.out).mono ?_;rintro e w3 ⟨rfl,a2⟩;by_cases hx:ck5 C dn D 1=0
     ·have HX:=hid hx
      rw [hx];clear hx;go_wp2;go_roundw
      case rel=>
       refine ⟨1+1,by omega,by go_num,Zb a0 a2,fun j hj=>?_⟩;by_cases e:j=1
       ·subst e;exact HX.out
       ·exact a1.out j (by omega)
      case measure=>simp [intOf]
     ·have HF:=hid (Zbe 5 1 (ck5 C dn D) hlt hx a1.out)
      have a9:(ck5 C dn D 1 != 0)=true:=by simp [hx]
      clear hx;generalize ck5 C dn D 1=q at *
      go_wp2;go_ret;exact ⟨Zh (by rw [HE.out,HF.out]),Zb a4.out (Zb a0 a2)⟩
    ·simp only [Nat.reduceAdd] at hc
     go_wp2_with fail;refine (Zcu 2 hlt w1.heap.size D _ C _ dn _ (HK.out.keep a0) a1.out).mono ?_;rintro e w3 ⟨rfl,a2⟩;by_cases hx:ck5 C dn D 2=0
     ·have HX:=hid hx
      rw [hx];clear hx;go_wp2;go_roundw
      case rel=>
       refine ⟨2+1,by omega,by go_num,Zb a0 a2,fun j hj=>?_⟩;by_cases e:j=2
       ·subst e;exact HX.out
       ·exact a1.out j (by omega)
      case measure=>simp [intOf]
     ·have HF:=hid (Zbe 5 2 (ck5 C dn D) hlt hx a1.out)
      have a9:(ck5 C dn D 2 != 0)=true:=by simp [hx]
      clear hx;generalize ck5 C dn D 2=q at *
      go_wp2;go_ret;exact ⟨Zh (by rw [HE.out,HF.out]),Zb a4.out (Zb a0 a2)⟩
    ·simp only [Nat.reduceAdd] at hc
     go_wp2_with fail;refine (Zcu 3 hlt w1.heap.size D _ C _ dn _ (HK.out.keep a0) a1.out).mono ?_;rintro e w3 ⟨rfl,a2⟩;by_cases hx:ck5 C dn D 3=0
     ·have HX:=hid hx
      rw [hx];clear hx;go_wp2;go_roundw
      case rel=>
       refine ⟨3+1,by omega,by go_num,Zb a0 a2,fun j hj=>?_⟩;by_cases e:j=3
       ·subst e;exact HX.out
       ·exact a1.out j (by omega)
      case measure=>simp [intOf]
     ·have HF:=hid (Zbe 5 3 (ck5 C dn D) hlt hx a1.out)
      have a9:(ck5 C dn D 3 != 0)=true:=by simp [hx]
      clear hx;generalize ck5 C dn D 3=q at *
      go_wp2;go_ret;exact ⟨Zh (by rw [HE.out,HF.out]),Zb a4.out (Zb a0 a2)⟩
    ·simp only [Nat.reduceAdd] at hc
     go_wp2_with fail;refine (Zcu 4 hlt w1.heap.size D _ C _ dn _ (HK.out.keep a0) a1.out).mono ?_;rintro e w3 ⟨rfl,a2⟩;by_cases hx:ck5 C dn D 4=0
     ·have HX:=hid hx
      rw [hx];clear hx;go_wp2;go_roundw
      case rel=>
       refine ⟨4+1,by omega,by go_num,Zb a0 a2,fun j hj=>?_⟩;by_cases e:j=4
       ·subst e;exact HX.out
       ·exact a1.out j (by omega)
      case measure=>simp [intOf]
     ·have HF:=hid (Zbe 5 4 (ck5 C dn D) hlt hx a1.out)
      have a9:(ck5 C dn D 4 != 0)=true:=by simp [hx]
      clear hx;generalize ck5 C dn D 4=q at *
      go_wp2;go_ret;exact ⟨Zh (by rw [HE.out,HF.out]),Zb a4.out (Zb a0 a2)⟩
   ·have ag:k=5:=by omega
    subst ag;go_wp2;go_ret;exact ⟨Zh (by rw [HE.out];exact (Qt _ _ (fun j hj=>a1.out j (by omega))).symm),Zb a4.out a0⟩
 ·have hx:(Q6 C dn != 0)=true:=by simp [h0]
  have HE:Hid (ckD C dn D=Q6 C dn):=hid (by simp [ckD,h0]);clear h0 a3 HX HC HD HB HR;generalize Q6 C dn=q at *
  go_wp2;go_ret;exact ⟨Zh HE.out.symm,aa.out⟩
theorem Zih (n:Nat) (h:n≤1000000000000) (w:World):(Instr.makeSlice 23 (.int .i64 (n:Int)) (.int .i64 (n:Int))).run prog w=.ok (.slice (some ⟨w.heap.size,0,none⟩) n n) (w.alloc (.cells (madeCells #[.int .i64 0] n) 3)):=
 run_make_row' (P:=prog) 23 3 (.int .i64 0) 8 underlying23 Tryz.info3x rfl .i64 .i64 n (by omega) (by omega) w
theorem Zku (h:w.heap[g]? = some (.cells (madeCells #[.int .i64 0] n) 3 (0,0))):Z4 w (some ⟨g,0,none⟩) (List.replicate n 0):=by
 intro i hi;refine ⟨g,0,rfl,?_⟩;have a0:i<n:=by simpa using hi
 simp [World.cell?,h,madeCells,a0,Nat.mod_one]
structure RPg (F:Nat→(Nat→Value)→World→Prop) (dO:Nat→List Nat) (N M:Nat) (W:World) (l:Array Bool) (x:Nat→Value) (w:World):Prop where
 sz:l.size=M
 b:Below W.heap.size W w
 un:∀ i,N≤i→l.getD i false=false
 cl:∀ i,l.getD i false=true→∀ j∈dO i,l.getD j false=true
 fc:∀ i,l.getD i false=true→F i x w
theorem Zj {F:Nat→(Nat→Value)→World→Prop} {dS:Nat→Nat} {dO:Nat→List Nat} {N M:Nat} {W:World} {l:Array Bool} {x:Nat→Value} {w w':World}
  (hF:∀ i x x' (w w':World),Below w.heap.size w w'→(∀ j∈dO i,x' (dS j)=x (dS j))→F i x w→F i x' w') (hinj:∀ i,i<N→∀ j,j<N→i≠j→dS i≠dS j) (hO:∀ i,i<N→∀ j∈dO i,j<N)
  (h:RPg F dO N M W l x w) (i:Nat) (v:Value) (hi:i<N) (hl:l.getD i false=false) (hb:Below w.heap.size w w') (hFi:F i (upd x (dS i) v) w') (hdep:∀ j∈dO i,j≠i→l.getD j false=true) (hiM:i<M:=by decide) :
  RPg F dO N M W (l.setIfInBounds i true) (upd x (dS i) v) w':=by
 have up:∀ {j},l.getD j false=true→(l.setIfInBounds i true).getD j false=true:=fun hj=>getD_set_true hj
 have dn:∀ {j},j≠i→(l.setIfInBounds i true).getD j false=true→l.getD j false=true:=fun hne hj=>by rw [getD_set_ne false (Ne.symm hne)] at hj;exact hj
 have a0:(l.setIfInBounds i true).getD i false=true:=Qv (by rw [h.sz];exact hiM);refine ⟨by simpa using h.sz,Zb h.b hb,fun j hj=>?_,fun j hj k hk=>?_,fun j hj=>?_⟩
 ·rw [getD_set_ne false (by omega)];exact h.un j hj
 ·by_cases e:j=i
  ·subst e
   by_cases e2:k=j
   ·subst e2;exact a0
   ·exact up (hdep k hk e2)
  ·exact up (h.cl j (dn e hj) k hk)
 ·by_cases e:j=i
  ·subst e;exact hFi
  ·have a1:=dn e hj
   have a3:j<N:=by
    rcases Nat.lt_or_ge j N with h'|h'
    ·exact h'
    ·rw [h.un j h'] at a1;cases a1
   refine hF j x _ w w' hb (fun k hk=>?_) (h.fc j a1);have a2:=h.cl j a1 k hk;have hne:dS k≠dS i:=hinj k (hO j a3 k hk) i hi (fun e=>by rw [e,hl] at a2;cases a2);simp [upd,hne]
def Ze6 (n0:Nat) (w:World) (v:Value) (n:Nat):Prop:=∃ g,v=.slice (some ⟨g,0,none⟩) n n∧n0≤g∧w.heap[g]? = some (.cells (madeCells #[.int .i64 0] n) 3 (0,0))
theorem Ze6.keep {v:Value} (h:Ze6 n0 w v n) (hb:Below w.heap.size w w'):Ze6 n0 w' v n:=by
 obtain ⟨g,e,h1,h2⟩:=h;exact ⟨g,e,h1,by rw [hb.block g (Array.getElem?_eq_some_iff.1 h2).1];exact h2⟩
theorem Zp4 (h:w.heap[g]? = some (.cells (madeCells #[.slice none 0 0,.int .i64 0] (n*2)) 90 (0,0))):Za7 w (some ⟨g,0,none⟩) (List.replicate n ([],0)):=by
 intro i hi;have a0:i<n:=by simpa using hi
 refine ⟨g,0,none,0,rfl,?_,?_,?_,?_,?_⟩
 ·simp [World.cell?,h,madeCells,show i*2<n*2 by omega]
 ·simp [World.cell?,h,madeCells,show i*2+1<n*2 by omega,show (i*2+1)%2=1 by omega]
 ·intro j hj;simp at hj
 ·simp
 ·simp
theorem Zp2 (h:w.heap[g]? = some (.cells (madeCells #[.slice none 0 0] n) 23 (0,0))):Jq w (some ⟨g,0,none⟩) (List.replicate n []):=by
 intro i hi;have a0:i<n:=by simpa using hi
 refine ⟨g,0,none,0,rfl,?_,?_,?_,?_⟩
 ·simp [World.cell?,h,madeCells,a0,Nat.mod_one]
 ·intro j hj;simp at hj
 ·simp
 ·simp
def dSN:Nat→Nat
 | 0=>14
 | 1=>15
 | 2=>16
 | 3=>17
 | 4=>18
 | 5=>19
 | 6=>20
 | 7=>21
 | 8=>22
 | 9=>23
 | 10=>24
 | 11=>25
 | 12=>26
 | 13=>27
 | 14=>28
 | 15=>29
 | 16=>30
 | _=>99
def dON:Nat→List Nat
 | 16=>[3,7,11,15,16]
 | i=>[i]
def FCN (C:Zm) (B:Mem) (n0 cb:Nat) (i:Nat) (x:Nat→Value) (w:World):Prop:=
 match i with
 | 0=>x 14=.pointer (some ⟨cb,8,none⟩)
 | 1=>x 15=.slice B.a8 C.ta.length B.c8
 | 2=>x 16=.int .i64 C.ta.length
 | 4=>x 18=.pointer (some ⟨cb,7,none⟩)
 | 5=>x 19=.slice B.a7 C.ch.length B.c7
 | 6=>x 20=.int .i64 C.ch.length
 | 8=>x 22=.pointer (some ⟨cb,6,none⟩)
 | 9=>x 23=.slice B.a6 C.ow.length B.c6
 | 10=>x 24=.int .i64 C.ow.length
 | 12=>x 26=.pointer (some ⟨cb,7,none⟩)
 | 13=>x 27=.slice B.a7 C.ch.length B.c7
 | 14=>x 28=.int .i64 C.ch.length
 | 3=>Ze6 n0 w (x 17) C.ta.length
 | 7=>Zet n0 w (x 21) C.ch.length
 | 11=>Ze6 n0 w (x 25) C.ow.length
 | 15=>Zfb n0 w (x 29) C.ch.length
 | 16=>x 30=.agg #[.slice none 0 0,x 17,.int .i64 0,x 21,x 25,x 29,.slice none 0 0]
 | _=>True
def AFN (C:Zm) (B:Mem) (dn:Int) (cb rb:Nat) (x:Nat→Value):Act:={tmps:=#[cv C B,.int .i64 dn,.pointer (some ⟨cb,0,none⟩),undef,.pointer (some ⟨rb,0,none⟩),.int .i64 0,.int .i64 0,cv C B,.int .i64 dn,.int .i64 0,.int .i64 0,.bool false,undef,undef,x 14,x 15,x 16,x 17,x 18,x 19,x 20,x 21,x 22,x 23,x 24,x 25,x 26,x 27,x 28,x 29,x 30],defers:=[]}
theorem Qh {B:Mem} {cb:Nat} (i:Nat) (x x':Nat→Value) (w w':World) (hb:Below w.heap.size w w') (hx:∀ j∈dON i,x' (dSN j)=x (dSN j)) (h:FCN C B n0 cb i x w):FCN C B n0 cb i x' w':=by
 match i with
 | 0=>exact (hx 0 (by simp [dON])).trans h
 | 1=>exact (hx 1 (by simp [dON])).trans h
 | 2=>exact (hx 2 (by simp [dON])).trans h
 | 3=>have e:x' 17=x 17:=hx 3 (by simp [dON]);show Ze6 _ _ (x' 17) _;rw [e];exact Ze6.keep h hb
 | 4=>exact (hx 4 (by simp [dON])).trans h
 | 5=>exact (hx 5 (by simp [dON])).trans h
 | 6=>exact (hx 6 (by simp [dON])).trans h
 | 7=>have e:x' 21=x 21:=hx 7 (by simp [dON]);show Zet _ _ (x' 21) _;rw [e];exact Zet.keep h hb
 | 8=>exact (hx 8 (by simp [dON])).trans h
 | 9=>exact (hx 9 (by simp [dON])).trans h
 | 10=>exact (hx 10 (by simp [dON])).trans h
 | 11=>have e:x' 25=x 25:=hx 11 (by simp [dON]);show Ze6 _ _ (x' 25) _;rw [e];exact Ze6.keep h hb
 | 12=>exact (hx 12 (by simp [dON])).trans h
 | 13=>exact (hx 13 (by simp [dON])).trans h
 | 14=>exact (hx 14 (by simp [dON])).trans h
 | 15=>have e:x' 29=x 29:=hx 15 (by simp [dON]);show Zfb _ _ (x' 29) _;rw [e];exact Zfb.keep h hb
 | 16=>
  have e0:x' 30=x 30:=hx 16 (by simp [dON]);have e1:x' 17=x 17:=hx 3 (by simp [dON]);have e2:x' 21=x 21:=hx 7 (by simp [dON]);have e3:x' 25=x 25:=hx 11 (by simp [dON]);have e4:x' 29=x 29:=hx 15 (by simp [dON]);show x' 30=.agg #[.slice none 0 0,x' 17,.int .i64 0,x' 21,x' 25,x' 29,.slice none 0 0]
  rw [e0,e1,e2,e3,e4];exact h
 | n+17=>trivial
theorem Ja:∀ i,i<17→∀ j,j<17→i≠j→dSN i≠dSN j:=by decide
theorem Zal:∀ i,i<17→∀ j∈dON i,j<17:=by decide
theorem Zrt {o:Oper} (n:Nat) (hdep:∀ e∈o.after,Region.binds .any e=true→l.getD e.on false=true) (hk:((List.range n).all fun k=>o.after.any fun e=>Region.binds .any e&&e.on==k)=true):∀ i,i<n→l.getD i false=true:=
 fun i hi=>Zn hdep i (List.all_eq_true.1 hk i (List.mem_range.2 hi))
theorem Zsa (hs:l.size=19) (h:∀ i,i<17→l.getD i false=true):∀ i,i<18→(l.setIfInBounds 17 true).getD i false=true:=by
 intro i hi;by_cases e:i=17
 ·subst e;exact Qv (by omega)
 ·exact getD_set_true (h i (by omega))
def Zch (C:Zm):Dom:=⟨[],List.replicate C.ta.length 0,0,List.replicate C.ch.length ([],0),List.replicate C.ow.length 0,List.replicate C.ch.length [],[]⟩
def DN (C:Zm) (w0 w:World) (rb:Nat):Prop:=∃ b1 b2 b3 b4,Zf w rb 46 [.slice none 0 0,.slice (some ⟨b1,0,none⟩) C.ta.length C.ta.length,.int .i64 0,.slice (some ⟨b2,0,none⟩) C.ch.length C.ch.length,.slice (some ⟨b3,0,none⟩) C.ow.length C.ow.length,.slice (some ⟨b4,0,none⟩) C.ch.length C.ch.length,.slice none 0 0]∧w.heap[b1]? = some (.cells (madeCells #[.int .i64 0] C.ta.length) 3 (0,0))∧w.heap[b2]? = some (.cells (madeCells #[.slice none 0 0,.int .i64 0] (C.ch.length*2)) 90 (0,0))∧w.heap[b3]? = some (.cells (madeCells #[.int .i64 0] C.ow.length) 3 (0,0))∧w.heap[b4]? = some (.cells (madeCells #[.slice none 0 0] C.ch.length) 23 (0,0))∧Below w0.heap.size w0 w∧w0.heap.size≤b1∧w0.heap.size≤b2∧w0.heap.size≤b3∧w0.heap.size≤b4
theorem Ztk (C:Zm) (B:Mem) (dn:Int) (w:World) (hC:Z1 w B C) (h0:ckC C=0) (hd:inR dn 0 (C.d-1)=true):
  Calls prog 41 #[cv C B,.int .i64 dn] w fun e w'=>∃ A,e=.returned (.tuple #[dv (Zch C) A,.int .i64 0])∧(∀ wx:World,(∀ x,w.heap.size≤x→wx.heap[x]? = w'.heap[x]?)→Yz wx A (Zch C))∧Below w.heap.size w w':=by
 have ah:C.ta.length≤6∧C.ch.length≤4∧C.ow.length≤4:=by
  have:=(Zcr h0).2.2.1
  unfold Zc0 at this
  split at this<;>rename_i hx<;>simp [inR] at hx<;>omega
 have ay:=Zih C.ta.length (by omega);have az:=Ziw C.ch.length (by omega);have b0:=Zih C.ow.length (by omega);have b5:=Zfa C.ch.length (by omega);have q1:=Za w (.cells (cl C B) 27);have q2:=Za (w.alloc (.cells (cl C B) 27)) (.cells #[.slice none 0 0,.slice none 0 0,.int .i64 0,.slice none 0 0,.slice none 0 0,.slice none 0 0,.slice none 0 0] 46);have HC:=hid ((hC.keep q1).keep q2);have ai:=hid ((Zc w w.heap.size (cl C B).toList 27 rfl).below q2 lr);have aa:=hid (Zc (w.alloc (.cells (cl C B) 27)) (w.heap.size+1) [.slice none 0 0,.slice none 0 0,.int .i64 0,.slice none 0 0,.slice none 0 0,.slice none 0 0,.slice none 0 0] 46 (by simp));have HB:=hid (Zb q1 q2);have HZ:Hid (Q6 C dn=0):=hid (by simp [Q6,h0,hd]);have b6:=hid ah;have ab:((w.alloc (.cells (cl C B) 27)).alloc (.cells #[.slice none 0 0,.slice none 0 0,.int .i64 0,.slice none 0 0,.slice none 0 0,.slice none 0 0,.slice none 0 0] 46)).heap.size=w.heap.size+2:=by simp
 have ac:=hid ab;clear q1 q2 hC h0 hd ah ab;obtain ⟨a5,a6,a7,a8,c5,c6,c7,c8⟩:=B;dsimp only [cv,cl] at *
 go_enter func41,ntmps41;obtain ⟨g0,g1,g2,g3,g4,g5,g6,g7,g8⟩:=ai.out.q9 rfl rfl rfl rfl rfl rfl rfl rfl rfl;go_wp2_with fail;refine (Zdk C ⟨a5,a6,a7,a8,c5,c6,c7,c8⟩ dn _ HC).mono ?_;rintro e w1 ⟨rfl,ad⟩;rw [HZ.out];have HR:=hid (ai.out.below ad lr);have aj:=hid (aa.out.below ad lr);have b7:=hid (Zb HB ad);have aq:=ad.size;rw [ac.out] at aq;clear g0 g1 g2 g3 g4 g5 g6 g7 g8 ad HC ai aa ac;go_wp2;refine wp_region_any (by kernel_rfl) ?_;change wpAny _ _ _ _ _ _ _ (World.drew _);have b8:=hid (aj.out.below br.drew lr);have b9:=hid (HR.out.below br.drew lr);have ba:Hid (w.heap.size+2≤w1.drew.heap.size):=hid (by simpa using aq);have bb:Hid (∀ wx,Below w1.drew.heap.size w1.drew wx→Below w.heap.size w wx):=hid fun wx h=>Zb (Zb b7 br.drew) h
 generalize World.drew w1=W at *
 have HS:Hid (∀ wx,Below W.heap.size W wx→∀ i v,(cl C ⟨a5,a6,a7,a8,c5,c6,c7,c8⟩).toList[i]? = some v→wx.cell? ⟨w.heap.size,i,none⟩=some v):=hid fun wx hb i v hv=>(b9.out.below hb lr).cell i v hv
 refine Zg4 (fun l a w'=>∃ x,a=AFN C ⟨a5,a6,a7,a8,c5,c6,c7,c8⟩ dn w.heap.size (w.heap.size+1) x∧(RPg (FCN C ⟨a5,a6,a7,a8,c5,c6,c7,c8⟩ W.heap.size w.heap.size) dON 17 19 W l x w'∨((∀ i,i<18→l.getD i false=true)∧l.size=19∧DN C w w' (w.heap.size+1)))) (by kernel_rfl) ?step ?fin _ _ _ _ rfl (by decide) ?start
 case start=>exact ⟨fun _=>undef,rfl,.inl ⟨rfl,br,fun i hi=>by simp [Array.getD_eq_getD_getElem?,Array.getElem?_replicate];split<;>simp,fun i h=>absurd h (by simp [Array.getD_eq_getD_getElem?,Array.getElem?_replicate];split<;>simp),fun i h=>absurd h (by simp [Array.getD_eq_getD_getElem?,Array.getElem?_replicate];split<;>simp)⟩⟩
 case step=>
  intro l a w1 i o h ho hl a1 K' hK;have hi:i<19:=by
   have:=(Array.getElem?_eq_some_iff.1 ho).1
   simpa using this
  obtain ⟨x,rfl,h⟩:=h;have bc:i=0∨i=1∨i=2∨i=3∨i=4∨i=5∨i=6∨i=7∨i=8∨i=9∨i=10∨i=11∨i=12∨i=13∨i=14∨i=15∨i=16∨i=17∨i=18:=by omega
  rcases bc with rfl|rfl|rfl|rfl|rfl|rfl|rfl|rfl|rfl|rfl|rfl|rfl|rfl|rfl|rfl|rfl|rfl|rfl|rfl
  ·simp only [xJ1,xJ2,xJ4] at ho
   subst ho;rcases h with h|⟨a0,-,-⟩
   case inr=>rw [a0 0 (by decide)] at hl;cases hl
   clear a1;simp only [AFN];go_simp;exact hK.out _ _ ⟨upd x 14 (.pointer (some ⟨w.heap.size,8,none⟩)),rfl,.inl (Zj Qh Ja Zal h 0 _ (by decide) hl br rfl (fun j hj hne=>absurd hj (by simp [dON,hne])))⟩
  ·simp only [xJ1,xJ2,xJ3,xJ4] at ho
   subst ho;rcases h with h|⟨a0,-,-⟩
   case inr=>rw [a0 1 (by decide)] at hl;cases hl
   have bd:=Zn a1 0 (by kernel_rfl);have f0:x 14=.pointer (some ⟨w.heap.size,8,none⟩):=h.fc 0 bd;clear a1;have c1:=HS.out _ h.b 8 _ rfl;simp only [AFN,f0];go_simp;exact hK.out _ _ ⟨upd x 15 (.slice a8 C.ta.length c8),(by simp only [AFN,upd,reduceIte,Nat.reduceEqDiff,f0]),.inl (Zj Qh Ja Zal h 1 _ (by decide) hl br rfl (fun j hj hne=>absurd hj (by simp [dON,hne])))⟩
  ·simp only [xJ1,xJ2,xJ3,xJ4] at ho
   subst ho;rcases h with h|⟨a0,-,-⟩
   case inr=>rw [a0 2 (by decide)] at hl;cases hl
   have be:=Zn a1 1 (by kernel_rfl);have f1:x 15=.slice a8 C.ta.length c8:=h.fc 1 be;clear a1;simp only [AFN,f1];go_simp;exact hK.out _ _ ⟨upd x 16 (.int .i64 C.ta.length),(by simp only [AFN,upd,reduceIte,Nat.reduceEqDiff,f1]),.inl (Zj Qh Ja Zal h 2 _ (by decide) hl br rfl (fun j hj hne=>absurd hj (by simp [dON,hne])))⟩
  ·simp only [xJ1,xJ2,xJ3,xJ4] at ho
   subst ho;rcases h with h|⟨a0,-,-⟩
   case inr=>rw [a0 3 (by decide)] at hl;cases hl
   have bf:=Zn a1 2 (by kernel_rfl);have f2:x 16=.int .i64 C.ta.length:=h.fc 2 bf;clear a1;simp only [AFN,f2];go_simp;have a9:=h.b.size;exact hK.out _ _ ⟨upd x 17 (.slice (some ⟨w1.heap.size,0,none⟩) C.ta.length C.ta.length),(by simp only [AFN,upd,reduceIte,Nat.reduceEqDiff,f2]),.inl (Zj Qh Ja Zal h 3 _ (by decide) hl (Za _ _) ⟨_,rfl,a9,heap_alloc_new _ _⟩ (fun j hj hne=>absurd hj (by simp [dON,hne])))⟩
  ·simp only [xJ1,xJ2,xJ3,xJ4] at ho
   subst ho;rcases h with h|⟨a0,-,-⟩
   case inr=>rw [a0 4 (by decide)] at hl;cases hl
   clear a1;simp only [AFN];go_simp;exact hK.out _ _ ⟨upd x 18 (.pointer (some ⟨w.heap.size,7,none⟩)),rfl,.inl (Zj Qh Ja Zal h 4 _ (by decide) hl br rfl (fun j hj hne=>absurd hj (by simp [dON,hne])))⟩
  ·simp only [xJ1,xJ2,xJ3,xJ4] at ho
   subst ho;rcases h with h|⟨a0,-,-⟩
   case inr=>rw [a0 5 (by decide)] at hl;cases hl
   have bg:=Zn a1 4 (by kernel_rfl);have f4:x 18=.pointer (some ⟨w.heap.size,7,none⟩):=h.fc 4 bg;clear a1;have c5:=HS.out _ h.b 7 _ rfl;simp only [AFN,f4];go_simp;exact hK.out _ _ ⟨upd x 19 (.slice a7 C.ch.length c7),(by simp only [AFN,upd,reduceIte,Nat.reduceEqDiff,f4]),.inl (Zj Qh Ja Zal h 5 _ (by decide) hl br rfl (fun j hj hne=>absurd hj (by simp [dON,hne])))⟩
  ·simp only [xJ1,xJ2,xJ3,xJ4] at ho
   subst ho;rcases h with h|⟨a0,-,-⟩
   case inr=>rw [a0 6 (by decide)] at hl;cases hl
   have bh:=Zn a1 5 (by kernel_rfl);have f5:x 19=.slice a7 C.ch.length c7:=h.fc 5 bh;clear a1;simp only [AFN,f5];go_simp;exact hK.out _ _ ⟨upd x 20 (.int .i64 C.ch.length),(by simp only [AFN,upd,reduceIte,Nat.reduceEqDiff,f5]),.inl (Zj Qh Ja Zal h 6 _ (by decide) hl br rfl (fun j hj hne=>absurd hj (by simp [dON,hne])))⟩
  ·simp only [xJ1,xJ2,xJ3,xJ4] at ho
   subst ho;rcases h with h|⟨a0,-,-⟩
   case inr=>rw [a0 7 (by decide)] at hl;cases hl
   have bi:=Zn a1 6 (by kernel_rfl);have f6:x 20=.int .i64 C.ch.length:=h.fc 6 bi;clear a1;simp only [AFN,f6];go_simp;have a9:=h.b.size;exact hK.out _ _ ⟨upd x 21 (.slice (some ⟨w1.heap.size,0,none⟩) C.ch.length C.ch.length),(by simp only [AFN,upd,reduceIte,Nat.reduceEqDiff,f6]),.inl (Zj Qh Ja Zal h 7 _ (by decide) hl (Za _ _) ⟨_,rfl,a9,heap_alloc_new _ _⟩ (fun j hj hne=>absurd hj (by simp [dON,hne])))⟩
  ·simp only [xJ1,xJ2,xJ3,xJ4] at ho
   subst ho;rcases h with h|⟨a0,-,-⟩
   case inr=>rw [a0 8 (by decide)] at hl;cases hl
   clear a1;simp only [AFN];go_simp;exact hK.out _ _ ⟨upd x 22 (.pointer (some ⟨w.heap.size,6,none⟩)),rfl,.inl (Zj Qh Ja Zal h 8 _ (by decide) hl br rfl (fun j hj hne=>absurd hj (by simp [dON,hne])))⟩
  ·simp only [xJ1,xJ2,xJ3,xJ4] at ho
   subst ho;rcases h with h|⟨a0,-,-⟩
   case inr=>rw [a0 9 (by decide)] at hl;cases hl
   have bj:=Zn a1 8 (by kernel_rfl);have f8:x 22=.pointer (some ⟨w.heap.size,6,none⟩):=h.fc 8 bj;clear a1;have c9:=HS.out _ h.b 6 _ rfl;simp only [AFN,f8];go_simp;exact hK.out _ _ ⟨upd x 23 (.slice a6 C.ow.length c6),(by simp only [AFN,upd,reduceIte,Nat.reduceEqDiff,f8]),.inl (Zj Qh Ja Zal h 9 _ (by decide) hl br rfl (fun j hj hne=>absurd hj (by simp [dON,hne])))⟩
  ·simp only [xJ1,xJ2,xJ3,xJ4] at ho
   subst ho;rcases h with h|⟨a0,-,-⟩
   case inr=>rw [a0 10 (by decide)] at hl;cases hl
   have bk:=Zn a1 9 (by kernel_rfl);have f9:x 23=.slice a6 C.ow.length c6:=h.fc 9 bk;clear a1;simp only [AFN,f9];go_simp;exact hK.out _ _ ⟨upd x 24 (.int .i64 C.ow.length),(by simp only [AFN,upd,reduceIte,Nat.reduceEqDiff,f9]),.inl (Zj Qh Ja Zal h 10 _ (by decide) hl br rfl (fun j hj hne=>absurd hj (by simp [dON,hne])))⟩
  ·simp only [xJ1,xJ2,xJ3,xJ4] at ho
   subst ho;rcases h with h|⟨a0,-,-⟩
   case inr=>rw [a0 11 (by decide)] at hl;cases hl
   have ak:=Zn a1 10 (by kernel_rfl);have ar:x 24=.int .i64 C.ow.length:=h.fc 10 ak;clear a1;simp only [AFN,ar];go_simp;have a9:=h.b.size;exact hK.out _ _ ⟨upd x 25 (.slice (some ⟨w1.heap.size,0,none⟩) C.ow.length C.ow.length),(by simp only [AFN,upd,reduceIte,Nat.reduceEqDiff,ar]),.inl (Zj Qh Ja Zal h 11 _ (by decide) hl (Za _ _) ⟨_,rfl,a9,heap_alloc_new _ _⟩ (fun j hj hne=>absurd hj (by simp [dON,hne])))⟩
  ·simp only [xJ1,xJ2,xJ3,xJ4] at ho
   subst ho;rcases h with h|⟨a0,-,-⟩
   case inr=>rw [a0 12 (by decide)] at hl;cases hl
   clear a1;simp only [AFN];go_simp;exact hK.out _ _ ⟨upd x 26 (.pointer (some ⟨w.heap.size,7,none⟩)),rfl,.inl (Zj Qh Ja Zal h 12 _ (by decide) hl br rfl (fun j hj hne=>absurd hj (by simp [dON,hne])))⟩
  ·simp only [xJ1,xJ2,xJ3,xJ4] at ho
   subst ho;rcases h with h|⟨a0,-,-⟩
   case inr=>rw [a0 13 (by decide)] at hl;cases hl
   have al:=Zn a1 12 (by kernel_rfl);have au:x 26=.pointer (some ⟨w.heap.size,7,none⟩):=h.fc 12 al;clear a1;have bp:=HS.out _ h.b 7 _ rfl;simp only [AFN,au];go_simp;exact hK.out _ _ ⟨upd x 27 (.slice a7 C.ch.length c7),(by simp only [AFN,upd,reduceIte,Nat.reduceEqDiff,au]),.inl (Zj Qh Ja Zal h 13 _ (by decide) hl br rfl (fun j hj hne=>absurd hj (by simp [dON,hne])))⟩
  ·simp only [xJ1,xJ2,xJ3,xJ4] at ho
   subst ho;rcases h with h|⟨a0,-,-⟩
   case inr=>rw [a0 14 (by decide)] at hl;cases hl
   have am:=Zn a1 13 (by kernel_rfl);have aw:x 27=.slice a7 C.ch.length c7:=h.fc 13 am;clear a1;simp only [AFN,aw];go_simp;exact hK.out _ _ ⟨upd x 28 (.int .i64 C.ch.length),(by simp only [AFN,upd,reduceIte,Nat.reduceEqDiff,aw]),.inl (Zj Qh Ja Zal h 14 _ (by decide) hl br rfl (fun j hj hne=>absurd hj (by simp [dON,hne])))⟩
  ·simp only [xJ1,xJ2,xJ3,xJ4] at ho
   subst ho;rcases h with h|⟨a0,-,-⟩
   case inr=>rw [a0 15 (by decide)] at hl;cases hl
   have an:=Zn a1 14 (by kernel_rfl);have ax:x 28=.int .i64 C.ch.length:=h.fc 14 an;clear a1;simp only [AFN,ax];go_simp;have a9:=h.b.size;exact hK.out _ _ ⟨upd x 29 (.slice (some ⟨w1.heap.size,0,none⟩) C.ch.length C.ch.length),(by simp only [AFN,upd,reduceIte,Nat.reduceEqDiff,ax]),.inl (Zj Qh Ja Zal h 15 _ (by decide) hl (Za _ _) ⟨_,rfl,a9,heap_alloc_new _ _⟩ (fun j hj hne=>absurd hj (by simp [dON,hne])))⟩
  ·simp only [xJ1,xJ2,xJ3,xJ4] at ho
   subst ho;rcases h with h|⟨a0,-,-⟩
   case inr=>rw [a0 16 (by decide)] at hl;cases hl
   have af:=Zn a1 3 (by kernel_rfl);have ag:=Zn a1 7 (by kernel_rfl);have a3:=Zn a1 11 (by kernel_rfl);have a4:=Zn a1 15 (by kernel_rfl);clear a1;obtain ⟨b1,e1,-⟩:=(show Ze6 _ _ (x 17) _ from h.fc 3 af)
   obtain ⟨b2,e2,-⟩:=(show Zet _ _ (x 21) _ from h.fc 7 ag)
   obtain ⟨b3,e3,-⟩:=(show Ze6 _ _ (x 25) _ from h.fc 11 a3)
   obtain ⟨b4,e4,-⟩:=(show Zfb _ _ (x 29) _ from h.fc 15 a4)
   simp only [AFN,e1,e2,e3,e4];rw [if_pos (by rfl)];refine Zfw (v:=.agg #[.slice none 0 0,.slice (some ⟨b1,0,none⟩) C.ta.length C.ta.length,.int .i64 0,.slice (some ⟨b2,0,none⟩) C.ch.length C.ch.length,.slice (some ⟨b3,0,none⟩) C.ow.length C.ow.length,.slice (some ⟨b4,0,none⟩) C.ch.length C.ch.length,.slice none 0 0]) (by kernel_rfl) ?_;refine hK.out _ _ ⟨upd x 30 (.agg #[.slice none 0 0,.slice (some ⟨b1,0,none⟩) C.ta.length C.ta.length,.int .i64 0,.slice (some ⟨b2,0,none⟩) C.ch.length C.ch.length,.slice (some ⟨b3,0,none⟩) C.ow.length C.ow.length,.slice (some ⟨b4,0,none⟩) C.ch.length C.ch.length,.slice none 0 0]),?_,.inl (Zj Qh Ja Zal h 16 _ (by decide) hl br ?_ ?_)⟩
   ·simp only [Act.put,List.setIfInBounds_toArray,List.set_cons_zero,List.set_cons_succ,AFN,upd,e1,e2,e3,e4,reduceIte,Nat.reduceEqDiff]
   ·show upd x 30 _ 30=.agg #[_,x 17,_,x 21,x 25,x 29,_]
    rw [e1,e2,e3,e4];rfl
   ·intro j hj hne
    simp only [dON,List.mem_cons,List.not_mem_nil,or_false] at hj;rcases hj with rfl|rfl|rfl|rfl|rfl
    ·exact af
    ·exact ag
    ·exact a3
    ·exact a4
    ·exact absurd rfl hne
  ·simp only [xJ1,xJ2,xJ3,xJ4] at ho
   subst ho;rcases h with h|⟨a0,-,-⟩
   case inr=>rw [a0 17 (by decide)] at hl;cases hl
   have a2:=Zn a1 16 (by kernel_rfl);have e0:x 30=.agg #[.slice none 0 0,x 17,.int .i64 0,x 21,x 25,x 29,.slice none 0 0]:=h.fc 16 a2;have af:=h.cl 16 a2 3 (by simp [dON]);have ag:=h.cl 16 a2 7 (by simp [dON]);have a3:=h.cl 16 a2 11 (by simp [dON]);have a4:=h.cl 16 a2 15 (by simp [dON]);have F3:Ze6 _ _ (x 17) _:=h.fc 3 af;have F7:Zet _ _ (x 21) _:=h.fc 7 ag;have bm:Ze6 _ _ (x 25) _:=h.fc 11 a3;have bn:Zfb _ _ (x 29) _:=h.fc 15 a4;obtain ⟨b1,e1,n1,r1⟩:=F3;obtain ⟨b2,e2,n2,r2⟩:=F7;obtain ⟨b3,e3,n3,r3⟩:=bm;obtain ⟨b4,e4,n4,r4⟩:=bn;have HH:=hid h;have E0:=hid e0;have E1:=hid e1;have E2:=hid e2;have E3:=hid e3;have E4:=hid e4;have ao:Hid (∀ j,j<18→(l.setIfInBounds 17 true).getD j false=true):=hid (Zsa HH.out.sz (Zrt 17 a1 (by kernel_rfl)));have ae:=hid (b8.out.below h.b lr);rw [e1,e2,e3,e4] at e0;simp only [AFN,e0];rw [if_pos (by rfl)];refine wp_store_mid 46 _ _ rfl (w.heap.size+1) 0 #[.slice none 0 0,.slice (some ⟨b1,0,none⟩) C.ta.length C.ta.length,.int .i64 0,.slice (some ⟨b2,0,none⟩) C.ch.length C.ch.length,.slice (some ⟨b3,0,none⟩) C.ow.length C.ow.length,.slice (some ⟨b4,0,none⟩) C.ch.length C.ch.length,.slice none 0 0] (by rfl) (by rfl) (show w1.there (w.heap.size+1) 0 7 from Zc1 ae) (by kernel_rfl) (by kernel_rfl) ?_;have hn:=fun k (hk:k≠w.heap.size+1)=>Y6 (w.heap.size+1) [.slice none 0 0,.slice (some ⟨b1,0,none⟩) C.ta.length C.ta.length,.int .i64 0,.slice (some ⟨b2,0,none⟩) C.ch.length C.ch.length,.slice (some ⟨b3,0,none⟩) C.ow.length C.ow.length,.slice (some ⟨b4,0,none⟩) C.ch.length C.ch.length,.slice none 0 0] 0 w1 k hk
   have bq:=ba.out;refine hK.out _ _ ⟨x,?_,.inr ⟨ao.out,by rw [Array.size_setIfInBounds];exact HH.out.sz,⟨b1,b2,b3,b4,Jc _ [] _ w1 ae.out rfl,(hn b1 (by omega)).trans r1,(hn b2 (by omega)).trans r2,(hn b3 (by omega)).trans r3,(hn b4 (by omega)).trans r4,Qq (bb.out _ HH.out.b) _ (by omega) _ _,by omega,by omega,by omega,by omega⟩⟩⟩;simp only [Act.put,AFN,E0.out,E1.out,E2.out,E3.out,E4.out]
  ·simp only [xJ1,xJ2,xJ3,xJ4] at ho
   subst ho;rcases h with h|⟨a0,ap,h⟩
   ·have:=Zn a1 17 (by kernel_rfl)
    rw [h.un 17 (by decide)] at this;cases this
   ·simp only [AFN]
    go_simp;exact hK.out _ _ ⟨x,rfl,.inr ⟨fun j hj=>getD_set_true (a0 j hj),by rw [Array.size_setIfInBounds];exact ap,h⟩⟩
 case fin=>
  rintro l a w1 ⟨x,rfl,h|⟨_,_,h⟩⟩ a0
  ·have:=a0 17 (by decide)
   rw [h.un 17 (by decide)] at this;cases this
  obtain ⟨b1,b2,b3,b4,r,m1,m2,m3,m4,hb,k1,k2,k3,k4⟩:=h;obtain ⟨d0,d1,d2,d3,d4,d5,d6⟩:=r.q7 rfl rfl rfl rfl rfl rfl rfl;have ah:=b6.out;have HD:Hid (∀ wx:World,(∀ x,w.heap.size≤x→wx.heap[x]? = w1.heap[x]?)→Yz wx ⟨none,some ⟨b1,0,none⟩,some ⟨b2,0,none⟩,some ⟨b3,0,none⟩,some ⟨b4,0,none⟩,none,0,C.ta.length,C.ch.length,C.ow.length,C.ch.length,0⟩ (Zch C)):=hid fun wx hk=>⟨fun i hi=>absurd hi (by simp [Zch]),Zku ((hk _ k1).trans m1),Zp4 ((hk _ k2).trans m2),Zku ((hk _ k3).trans m3),Zp2 ((hk _ k4).trans m4),fun i hi=>absurd hi (by simp [Zch]),by simp [Zch],by simp [Zch];omega,by simp [Zch];omega,by simp [Zch];omega,by simp [Zch];omega,by simp [Zch]⟩
  have bo:=hid hb;simp only [AFN];clear r m1 m2 m3 m4 hb ay az b0 b5 k1 k2 k3 k4;go_wp2;exact bodyPost_ret (v:=.tuple #[dv (Zch C) ⟨none,some ⟨b1,0,none⟩,some ⟨b2,0,none⟩,some ⟨b3,0,none⟩,some ⟨b4,0,none⟩,none,0,C.ta.length,C.ch.length,C.ow.length,C.ch.length,0⟩,.int .i64 0]) (by simp [results,results41,go_sem,d0,d1,d2,d3,d4,d5,d6,Zch]) rfl ⟨_,rfl,HD.out,bo.out⟩
structure Qx (w:World) (b o i:Nat) (D:Dom) (A:Yk):Prop where
 c0:w.cell? ⟨b,o+i*7,none⟩=some (.slice A.aJ D.jobs.length A.cJ)
 c1:w.cell? ⟨b,o+i*7+1,none⟩=some (.slice A.aR D.rel.length A.cR)
 c2:w.cell? ⟨b,o+i*7+2,none⟩=some (.int .i64 D.nxt)
 c3:w.cell? ⟨b,o+i*7+3,none⟩=some (.slice A.aI D.ins.length A.cI)
 c4:w.cell? ⟨b,o+i*7+4,none⟩=some (.slice A.aT D.tak.length A.cT)
 c5:w.cell? ⟨b,o+i*7+5,none⟩=some (.slice A.aO D.out.length A.cO)
 c6:w.cell? ⟨b,o+i*7+6,none⟩=some (.slice A.aE D.evs.length A.cE)
def Zh6 (w:World) (b o n:Nat) (Ds:Nat→Dom) (As:Nat→Yk):Prop:=∀ i,i<n→Qx w b o i (Ds i) (As i)∧Yz w (As i) (Ds i)
theorem Qx.keep {b i:Nat} {A:Yk} (h:Qx w b o i D A) (hb:Below w.heap.size w w'):Qx w' b o i D A:=
 ⟨Zg hb h.c0 lr,Zg hb h.c1 lr,Zg hb h.c2 lr,Zg hb h.c3 lr,Zg hb h.c4 lr,Zg hb h.c5 lr,Zg hb h.c6 lr⟩
theorem Zh6.keep {b:Nat} {Ds:Nat→Dom} {As:Nat→Yk} (h:Zh6 w b o n Ds As) (hb:Below w.heap.size w w'):Zh6 w' b o n Ds As:=fun i hi=>⟨(h i hi).1.keep hb,(h i hi).2.keep hb⟩
theorem Zj2 (C:Zm) (B:Mem) (b o n c:Nat) (Ds:Nat→Dom) (As:Nat→Yk) (s:Nat) (w:World) (hC:Z1 w B C) (hD:Zh6 w b o n Ds As) (h0:ckC C=0) (hs:s<C.sl.length) (hn:C.d=(n:Int)) (hn4:n≤4) (hz:∀ i,i<n→ckD C i (Ds i)=0):
  Calls prog 74 #[cv C B,.slice (some ⟨b,o,none⟩) n c,.int .i64 s] w fun e w'=>e=.returned (.int .i64 0)∧Below w.heap.size w w':=by
 have q1:=Za w (.cells (cl C B) 27);have HC:=hid (hC.keep q1);have HD:=hid (hD.keep q1);have HX:=hid (Yq w C B);have HB:=hid q1;have aa:Hid (Zbt C s=0):=hid (by simp [Zbt,h0,inR];omega);have HZ:=hid hz;have HN:=hid hn;clear q1 hC hD hz h0 hn;obtain ⟨a5,a6,a7,a8,c5,c6,c7,c8⟩:=B;dsimp only [cv,cl] at *
 obtain ⟨g0,g1,g2,g3,g4,g5,g6,g7,g8⟩:=HX.out;go_enter func74,ntmps74;go_wp2_with fail;refine (Zcf C ⟨a5,a6,a7,a8,c5,c6,c7,c8⟩ s _ HC).mono ?_;rintro e w1 ⟨rfl,a1⟩;rw [aa.out];generalize hW:World.alloc w _=W at *
 clear hW g0 g1 g2 g3 g4 g5 g6 g7 g8;have ab:=hid (Zb HB a1);have ac:=hid (HC.out.keep a1);have ad:=hid (HD.out.keep a1);have a2:=hid (HX.out.keep a1);clear HB HC HD HX a1;obtain ⟨g0,g1,g2,g3,g4,g5,g6,g7,g8⟩:=a2.out;have ae:((n:Int) != C.d)=false:=by have:=HN.out;simp [this]
 go_wp2;clear ae g0 g1 g2 g3 g4 g5 g6 g7 g8;go_loopw [24] (fun i wr=>∃ k:Nat,k≤n∧i=.int .i64 k∧Below w1.heap.size w1 wr) (fun i _=>n-(intOf i).toNat)
 case atStart=>exact ⟨0,zl,rfl,br⟩
 case round=>
  obtain ⟨k,hk,rfl,a0⟩:=hrel;by_cases hlt:k<n
  ·have ak:(k:Int)<(n:Int):=by omega
   have al:(0:Int)≤(k:Int):=by omega
   obtain ⟨⟨p0,p1,p2,p3,p4,p5,p6⟩,a3⟩:=(ad.out.keep a0) k hlt;have a4:=HZ.out k hlt;have af:=hid a4;have q4:=Za wr (.cells (dl (Ds k) (As k)) 46);have ag:=hid ((ac.out.keep a0).keep q4);have ah:=hid (a3.keep q4);have ai:=hid ((a2.out.keep a0).keep q4);have R4:=hid (Zc wr wr.heap.size (dl (Ds k) (As k)).toList 46 rfl);have HQ:=hid (Zb a0 q4);generalize Ds k=D at *
   generalize As k=A at *
   obtain ⟨aJ,aR,aI,aT,aO,aE,cJ,cR,cI,cT,cO,cE⟩:=A;dsimp only [dl] at *
   clear a3 q4 a4 a0;go_upto_region 9 with fail;generalize World.alloc wr _=w4 at *
   obtain ⟨g0,g1,g2,g3,g4,g5,g6,g7,g8⟩:=ai.out;obtain ⟨d0,d1,d2,d3,d4,d5,d6⟩:=R4.out.q7 rfl rfl rfl rfl rfl rfl rfl;clear p0 p1 p2 p3 p4 p5 p6;go_wp2_with fail;refine (Za1 D ⟨aJ,aR,aI,aT,aO,aE,cJ,cR,cI,cT,cO,cE⟩ C ⟨a5,a6,a7,a8,c5,c6,c7,c8⟩ k _ ag ah).mono ?_;rintro e w5 ⟨rfl,a9⟩;rw [af.out];have aj:=hid (Zb HQ a9);clear a9 g0 g1 g2 g3 g4 g5 g6 g7 g8 d0 d1 d2 d3 d4 d5 d6;go_wp2;go_roundw
   case rel=>exact ⟨k+1,by omega,by go_num,aj.out⟩
   case measure=>simp [intOf];omega
  ·have am:¬ (k:Int)<(n:Int):=by omega
   have HF:=hid (Zb ab a0);clear a0;go_wp2;go_ret;exact ⟨rfl,HF.out⟩
end Go.Proofs.YtejhccmclanlmaaGreatDoor
