/- Bi Bj Bg Bf -/
import Derived.Test.YtejhccmclanlmaaGreatDoorV34
import Derived.Test.YtejhccmclanlmaaGreatDoorV35
import Derived.Test.YtejhccmclanlmaaGreatDoorV36
set_option linter.all false
set_option maxRecDepth 100000
set_option maxHeartbeats 8000000
namespace Go.Proofs.YtejhccmclanlmaaGreatDoor
open Go.RowKit Go.Proofs.Tryz
abbrev ps (S:Zcm):Scr:=⟨S.acts,S.arr,S.rounds.toNat⟩
def Zvp (C:Zm) (S:Scr) (t:TT) (X:(Nat→Dom)×(Nat→Int)):(Nat→Dom)×(Nat→Int):=
 (Zct X.1 (slD C t.1) (Zvk C S.arr (S.acts.getD (slD C t.1) []) t.1 t.2.1 t.2.2 (X.2 (slD C t.1)) (X.1 (slD C t.1))),Zct X.2 (slD C t.1) t.2.1)
def Zm7 (C:Zm) (S:Scr) (t:TT) (X:(Nat→Dom)×(Nat→Int)):KT:=
 (Zbq C (slD C t.1) (S.acts.getD (slD C t.1) []) t.2.2 (t.2.2-t.2.1).toNat (Zbw C S.arr (slD C t.1) t.1 (X.1 (slD C t.1)) (X.2 (slD C t.1)) t.2.1) (Qb C.s.toNat C.w.toNat) t.2.1).2
theorem Zil (K:MK) (w:World) (gd base:Nat) (X:(Nat→Dom)×(Nat→Int)) (As:Nat→Yk) (t:TT) (b:Int) (aK:Option Addr) (cK:Nat) (h:MO K w gd base X.1 As X.2) (hsc:Qo K.C K.S=0) (hn:K.C.d=(K.n:Int)) (hMI:MI K.C (ps K.S) b X) (hb0:0≤b) (hb:b≤1000000000) (ht:t∈Qm K.C (ps K.S).rounds) (hK:Z8 w aK (Qb K.C.s.toNat K.C.w.toNat)):
  Calls prog 23 #[.pointer (some ⟨K.gm,0,none⟩),.agg #[.int .i64 t.1,.int .i64 t.2.1,.int .i64 t.2.2],.agg #[.slice aK (List.length (Qb K.C.s.toNat K.C.w.toNat)) cK]] w fun e w'=>∃ (A':Yk) (aK':Option Addr),(∃ cK',e=.returned (.agg #[.slice aK' (List.length (Zm7 K.C (ps K.S) t X)) cK']))∧MO K w' gd base (Zvp K.C (ps K.S) t X).1 (Zct As (slD K.C t.1) A') (Zvp K.C (ps K.S) t X).2∧Z8 w' aK' (Zm7 K.C (ps K.S) t X)∧Ext (MX K gd) w w':=by
 obtain ⟨a0,a8,a4,ad⟩:=Zbm hsc;obtain ⟨slot,fr,te⟩:=t;obtain ⟨h1,h2,h3,h4,h5⟩:=Zc8 a0.cfg a0.rounds _ ht;dsimp only at h1 h2 h3 h4 h5 ⊢;have a5:=Zia a0.cfg h1;have hd:slD K.C slot<K.n:=by omega
 have a3:K.C.sl[slot].1=(slD K.C slot:Int):=by
  have:=a5.2
  rw [show K.C.sl.getD slot (0,0)=K.C.sl[slot] by simp [h1]] at this;exact this.symm
 have a6:slD K.C slot<K.S.acts.length:=by omega
 have hL:K.S.acts[slD K.C slot]=(ps K.S).acts.getD (slD K.C slot) []:=by simp [a6]
 have a2:=hMI.doms (slD K.C slot) a5.1;have hz:ckD K.C K.C.sl[slot].1 (X.1 (slD K.C slot))=0:=by rw [a3];exact a2.ck
 have a7:=hMI.last (slD K.C slot);have a9:Yv K.C K.S.arr K.C.sl[slot].1 (X.2 (slD K.C slot)) fr=0:=by
  rw [a3];exact Zu5 a4 (by simp [inR];omega) (by simp [inR];omega) (by simp [inR];omega)
 obtain ⟨⟨s1,s2,s3⟩,s4,s5,s6,s7⟩:=Za8 a2.ck;have ae:=a2.ev;have hW:=Zmc (slot:=slot) (arr:=K.S.arr) (last:=X.2 (slD K.C slot)) a0.cfg a2 (a0.acts _).1 (a0.acts _).2 h2 h3 h4;have aa:(X.1 (slD K.C slot)).tak.length=K.C.ow.length:=(Ye.1 (Z0.1 a2.ck).2.1).2.2.2;refine Zoy K w gd base X.1 As X.2 slot (slD K.C slot) fr te _ _ aK cK (Zbw K.C K.S.arr (slD K.C slot) slot (X.1 (slD K.C slot)) (X.2 (slD K.C slot)) fr) h hd h1 a3 a6 hL hK ?_ ?_ ?_
 ·intro wx a1
  have:=Ztf K.C K.B K.M.aR K.S.arr K.M.cR (X.1 (slD K.C slot)) (As (slD K.C slot)) slot (X.2 (slD K.C slot)) fr wx (h.keep a1).scr.arr (h.keep a1).scr.lR (h.keep a1).conf ((h.keep a1).at_ _ hd).2.dom a0.cfg h1 hz a9 ⟨by omega,by omega,by omega,by omega⟩ (by omega) (by omega) (fun r hr=>by have:=s6 r hr;omega) (fun r hr=>by have:=s7 r hr;omega)
  rw [Zvg aa,← a3];exact this
 ·intro wx A1 aL cL a1 ab ac
  refine (Zs0 K.C K.B (slD K.C slot) _ A1 _ aK cK _ aL cL fr te wx (h.keep a1).conf ab (hK.keep a1) ac hW.1 ?_).mono ?_
  ·have:((Zbw K.C K.S.arr (slD K.C slot) slot (X.1 (slD K.C slot)) (X.2 (slD K.C slot)) fr).evs.length:Int)≤b+1:=(Zf1 (slot:=slot) K.S.arr (X.2 (slD K.C slot)) fr a2).ev
   omega
  ·rintro e w' ⟨A',aK',cK',e1,_,e3,_,e5⟩
   exact ⟨A',aK',cK',e1,e3,e5⟩
 ·have h9:=hW.2.ev
  unfold Zvk Znj at h9;simp only [List.length_append,List.length_singleton] at h9
  have:(te-fr)≤1000:=h5
  change List.length (Zbq K.C (slD K.C slot) (K.S.acts.getD (slD K.C slot) []) te (te-fr).toNat (Zbw K.C K.S.arr (slD K.C slot) slot (X.1 (slD K.C slot)) (X.2 (slD K.C slot)) fr) (Qb K.C.s.toNat K.C.w.toNat) fr).1.evs≤100000000000;omega
theorem Zvz {C:Zm} {S:Scr} {t:TT} {X:(Nat→Dom)×(Nat→Int)} {b:Int} (hSO:Zi6 C S) (hMI:MI C S b X) (ht:t∈Qm C S.rounds):ck (Zm7 C S t X)=0∧Shp C.s.toNat C.w.toNat (Zm7 C S t X):=by
 obtain ⟨h1,h2,h3,h4,h5⟩:=Zc8 hSO.cfg hSO.rounds _ ht;have a0:=Zia hSO.cfg h1;have a1:=hMI.doms (slD C t.1) a0.1;obtain ⟨⟨s1,s2⟩,⟨v1,v2⟩,_⟩:=Y1 hSO.cfg;have ho:=Zf1 (slot:=t.1) S.arr (X.2 (slD C t.1)) t.2.1 a1;constructor
 ·exact (SI.run h2 h4 (hSO.acts _).1 (hSO.acts _).2 (t.2.2-t.2.1).toNat _ _ t.2.1 (Zfz ho.ck (Zjv (by omega) (by omega) (by omega) (by omega)) h3) lr).ck
 ·exact Shp.run (by omega) C _ _ _ _ _ _ _ (Shp.empty _ _)
end Go.Proofs.YtejhccmclanlmaaGreatDoor
namespace Go.Proofs.YtejhccmclanlmaaGreatDoor
open Go.RowKit Go.Shelf Go.Proofs.Tryz
variable {L:List Value} {K:MK} {b base gd:Nat} {S:Scr} {w w':World} {C:Zm}
abbrev UT (C:Zm) (R:Nat):={t:TT // t∈Qm C R}
theorem Zf9 (n:Nat) (hn:1≤n) (Bm n₀ R:Nat) (K:MK) (hgm:K.gm<n₀) (hBm:Bm<n₀) (hw0:K.w0.heap.size≤n₀) (hck:ckC K.C=0) (hR:K.S.rounds=(R:Int)) (hR8:R≤8) (hc5:K.C.sl.length≤K.B.c5) (hcf:Z1 K.w0 K.B K.C)
  (w:World) (hB:w.cell? ⟨Bm,0,none⟩=some (.pointer (some ⟨K.gm,0,none⟩))) (gd:Nat) (hM:Zf w K.gm 113 (Zdg K gd)) (hlow:Below K.w0.heap.size K.w0 w) (hsz:n₀≤w.heap.size) :
  SeqStopsK Fence.wide n prog 43 #[.pointer (some ⟨Bm,0,none⟩)] (fun x:UT K.C R=>Zy0 x.1) (TM K Bm) (fun ys=>ys.map (·.1)=Qm K.C R) (fun pre=>∃ r k,r≤R∧k≤K.C.sl.length∧pre.map (·.1)=Zam K.C r k) (R*K.C.sl.length) w:=by
 intro l J Jx W hb hJ a1 hY h0;have a0:=hb.size;refine (Zum n hn l Bm n₀ R K (fun pre W=>∃ ps:List (UT K.C R),ps.map (·.1)=pre∧J ps W) (fun pre W=>∃ ps:List (UT K.C R),ps.map (·.1)=pre∧Jx ps W) hgm hBm hw0 hck hR hR8 hc5 hcf
  (fun pre x W1 hx hJ1 hl1=>by
   obtain ⟨ps,rfl,hp⟩:=hJ1;refine (hY ps ⟨x,hx⟩ W1 hp (by simpa using hl1)).mono ?_;rintro e w' (⟨h1,h2,h3⟩|⟨h1,h2⟩)
   ·exact .inl ⟨h1,⟨_,by simp,h2⟩,h3⟩
   ·exact .inr ⟨h1,⟨_,by simp,h2⟩⟩)
  (fun pre W1 W2 h hb2=>by
   obtain ⟨ps,e,hp⟩:=h;exact ⟨ps,e,hJ ps W1 W2 none hp ⟨hb2.os,hb2.tape,hb2.output,hb2.size,fun k hk _=>hb2.block k hk⟩ (fun _ e=>by cases e)⟩)
  W ((hb.cell (p:=⟨Bm,0,none⟩) (by show Bm<_;omega)).trans hB) gd (fun i v _ hv=>(hM.below hb lr).cell i v hv) (hlow.trans (hb.mono hlow.size)) (by omega) ⟨[],rfl,h0⟩).mono ?_
 rintro e w' ⟨hv,⟨ys,rfl,ps,h1,h2⟩|⟨pre,⟨r,k,hr,hk,rfl⟩,ps,h1,h2⟩⟩
 ·exact ⟨hv,.inl ⟨ps,h1,h2⟩⟩
 ·exact ⟨hv,.inr ⟨ps,⟨r,k,hr,hk,h1⟩,h2⟩⟩
theorem Zi0 (g:Nat) (w:World):Calls prog 22 #[.pointer (some ⟨g,0,none⟩)] w fun e w'=>e=.returned (.func (.func 43) #[] #[.pointer (some ⟨w.heap.size,0,none⟩)])∧w'=w.alloc (.cells #[.pointer (some ⟨g,0,none⟩)] 68):=by
 go_enter func22,ntmps22;go_wp2;go_ret;exact ⟨rfl,rfl⟩
def Zfj (C:Zm) (S:Scr) (l:List TT):(Nat→Dom)×(Nat→Int):=l.foldl (fun X t=>Zcg C S t X) (fun _=>Zch C,fun _=>0)
theorem Zme (C:Zm) (S:Scr) (l:List TT) (t:TT):Zfj C S (l++[t])=Zcg C S t (Zfj C S l):=by simp [Zfj]
theorem Zqx (hS:Zi6 C S):∀ (l:List TT) (X:(Nat→Dom)×(Nat→Int)) (b:Int),0≤b→MI C S b X→(∀ t∈l,t∈Qm C S.rounds)→MI C S (b+100042*l.length) (l.foldl (fun X t=>Zcg C S t X) X)
 | [],X,b,h0,h,_=>by rw [show b+100042*(([]:List TT).length:Int)=b by simp];exact h
 | t::l,X,b,h0,h,hl=>by
  have h1:=MI.turn hS h h0 t (Zc8 hS.cfg hS.rounds t (hl t (by simp)));have h2:=Zqx hS l _ _ (by omega) h1 (fun u hu=>hl u (by simp [hu]));rw [show b+100042*((t::l).length:Int)=b+100042+100042*(l.length:Int) by simp;omega];exact h2
theorem Zlp (hS:Zi6 C S) (l:List TT) (hl:∀ t∈l,t∈Qm C S.rounds):MI C S (100042*l.length) (Zfj C S l):=by
 have:=Zqx hS l _ 0 (by omega) (MI.begin hS) hl
 rw [Int.zero_add] at this;exact this
theorem Zoc {b:Int} {X:(Nat→Dom)×(Nat→Int)} (hS:Zi6 C S) (h:MI C S b X) (hb:0≤b) (t:TT) (ht:t.1<C.sl.length∧0≤t.2.1∧t.2.1≤t.2.2∧t.2.2≤100000∧t.2.2-t.2.1≤1000):ALL C (fun i=>(S.acts.getD i []).length) (b+100042) (Zvp C S t X).1:=by
 obtain ⟨a0,fr,te⟩:=t;dsimp only at ht;obtain ⟨h1,h2,h3,h4,h5⟩:=ht;have hd:=Zia hS.cfg h1;have hw:=(Zmc (arr:=S.arr) (last:=X.2 (slD C a0)) hS.cfg (h.doms (slD C a0) hd.1) (hS.acts _).1 (hS.acts _).2 h2 h3 h4).2;intro i hi;unfold Zvp;dsimp only;by_cases e:i=slD C a0
 ·subst e
  rw [Yb];refine ⟨hw.ck,hw.oi,?_⟩
  have:=hw.ev
  omega
 ·rw [Z9 _ _ e]
  exact ⟨(h.doms i hi).ck,(h.doms i hi).oi,by have:=(h.doms i hi).ev;omega⟩
theorem MO.box {Ds:Nat→Dom} {As:Nat→Yk} {La:Nat→Int} (h:MO K w gd base Ds As La) (hx:Ext (MX K gd) w w') {t:TypeId} (hr:Zf w b t L) (h1:t≠113) (h2:t≠3) (h3:t≠46):Zf w' b t L:=by
 obtain ⟨cs,d1,_⟩:=h.drow;refine (hx.2 b (Array.getElem?_eq_some_iff.1 hr).1 (fun e=>?_)).trans hr;rcases e with e|e|e
 ·exact Qn hr h.row h1 e
 ·exact Qn hr h.last h2 e
 ·exact Qn hr d1 h3 e
theorem MO.box3 {Ds:Nat→Dom} {As:Nat→Yk} {La:Nat→Int} (h:MO K w gd base Ds As La) (hx:Ext (MX K gd) w w') (hr:Zf w b 3 L) (hb:b≠K.gl):Zf w' b 3 L:=by
 obtain ⟨cs,d1,_⟩:=h.drow;refine (hx.2 b (Array.getElem?_eq_some_iff.1 hr).1 (fun e=>?_)).trans hr;rcases e with e|e|e
 ·exact Qn hr h.row (by decide) e
 ·exact hb e
 ·exact Qn hr d1 (by decide) e
theorem Zp8 (K:MK) (gd gd':Nat) (i:Nat) (hi:i<12):(Zdg K gd)[i]? = (Zdg K gd')[i]? := by
 have:i=0∨i=1∨i=2∨i=3∨i=4∨i=5∨i=6∨i=7∨i=8∨i=9∨i=10∨i=11:=by omega
 rcases this with rfl|rfl|rfl|rfl|rfl|rfl|rfl|rfl|rfl|rfl|rfl|rfl<;>rfl
theorem TM.of {Bm:Nat} {W W':World} {gd' base':Nat} {Ds Es:Nat→Dom} {As As':Nat→Yk} {La La':Nat→Int} (h:MO K W gd base Ds As La) (h':MO K W' gd' base' Es As' La') {v:Value} (r:W.cell? ⟨Bm,0,none⟩=some v) (r':W'.cell? ⟨Bm,0,none⟩=some v) (hs:W.heap.size≤W'.heap.size):TM K Bm W W':=by
 refine ⟨⟨h'.low.os.trans h.low.os.symm,h'.low.tape.trans h.low.tape.symm,h'.low.output.trans h.low.output.symm,hs,fun k hk=>(h'.low.block k hk).trans (h.low.block k hk).symm⟩,r'.trans r.symm,fun i hi=>?_⟩;have hl:i<(Zdg K gd).length:=by simp;omega
 rw [h.row.cell i ((Zdg K gd)[i]'hl) (by simp),h'.row.cell i ((Zdg K gd)[i]'hl) (by rw [← Zp8 K gd gd' i hi];simp)]
attribute [local go_sem] Oper.semAt_some
def Zyk (C:Zm) (S:Zcm) (w':World) (gd n:Nat):Prop:=C.d=(n:Int)∧∃ As,Zh6 w' gd 0 n (J9 C (ps S)).1 As
def Zz6 (C:Zm) (S:Zcm) (n0:Nat) (w':World) (gd n:Nat):Prop:=C.d=(n:Int)∧∃ As:Nat→Yk,∀ i,i<n→Qx w' gd 0 i ((J9 C (ps S)).1 i) (As i)∧Zax n0 w' (As i) ((J9 C (ps S)).1 i)
theorem Zgz (C:Zm) (B:Mem) (S:Zcm) (M:Zg0) (w:World) (hC:Z1 w B C) (hS:Q8 w M S) (hsc:Qo C S=0) (hc5:C.sl.length≤B.c5):
  Calls prog 9 #[cv C B,sv S M] w fun e w'=>∃ gd n:Nat,e=.returned (.tuple #[.slice (some ⟨gd,0,none⟩) n n,.int .i64 0])∧Zz6 C S w.heap.size w' gd n∧Below w.heap.size w w':=by
 obtain ⟨aw,a9,b1,ce⟩:=Zbm hsc;obtain ⟨⟨z1,z2⟩,⟨v1,v2⟩,⟨d1,d2⟩⟩:=Y1 aw.cfg;obtain ⟨n,HN⟩:∃ n:Nat,Hid (C.d=(n:Int)):=⟨C.d.toNat,hid (by omega)⟩
 obtain ⟨R,HR⟩:∃ R:Nat,Hid (S.rounds=(R:Int)):=⟨S.rounds.toNat,hid (by omega)⟩
 have be:Hid (R≤8):=hid (by have h1:S.rounds.toNat≤8:=aw.rounds;have:=HR.out;omega);have ax:Hid ((ps S).rounds=R):=hid (by show S.rounds.toNat=R;have:=HR.out;omega);have q1:=Za w (.cells (cl C B) 27);have q2:=Za (w.alloc (.cells (cl C B) 27)) (.cells (sl S M) 31);have b2:=hid ((hC.keep q1).keep q2);have b3:=hid ((hS.keep q1).keep q2);have b4:=(Zc w w.heap.size (cl C B).toList 27 rfl).below q2 lr;have b5:=Zc (w.alloc (.cells (cl C B) 27)) (w.heap.size+1) (sl S M).toList 31 (by simp);have bf:=hid (Zb q1 q2);have bg:=hid hsc;have a4:=hid aw;have cg:=hid hc5;clear q1 q2 hC hS hsc aw a9 b1 ce hc5 z1 z2 v1 v2 d1 d2;obtain ⟨a5,a6,a7,a8,c5,c6,c7,c8⟩:=B;obtain ⟨aA,aR,cA,cR⟩:=M;obtain ⟨LL,RR,rd⟩:=S;have CK:=hid (Jv C ⟨a5,a6,a7,a8,c5,c6,c7,c8⟩ ⟨LL,RR,rd⟩ ⟨aA,aR,cA,cR⟩ _ b2 b3);rw [bg.out] at CK;dsimp only [cv,cl,sv,sl] at *
 have bh:=hid b4;have bi:=hid b5;obtain ⟨g0,g1,g2,g3,g4,g5,g6,g7,g8⟩:=b4.q9 rfl rfl rfl rfl rfl rfl rfl rfl rfl;obtain ⟨s0,s1,s2⟩:=b5.q3 rfl rfl rfl;clear b4 b5;refine (callsIn_wide (n:=6)).1 (callsIn_of_wp_marks func9 rfl trivial ?_ rfl);refine wpIn_wide.2 ?_;simp only [ntmps9,List.size_toArray,List.length_cons,List.length_nil,Nat.reduceAdd,Nat.reduceSub,Array.replicate_succ,Array.replicate_zero,List.push_toArray,List.append_toArray,List.nil_append,List.cons_append];go_wp2_with fail;refine CK.out.mono ?_;rintro e w1 ⟨rfl,ae⟩;generalize World.alloc (World.alloc w _) _=W at *
 clear g0 g1 g2 g3 g4 g5 g6 g7 g8 s0 s1 s2 CK;have bj:=hid (Zb bf ae);have ci:=hid (b2.out.keep ae);have cj:=hid (b3.out.keep ae);have b6:=bh.out.below ae lr;have bk:=bi.out.below ae lr;have cm:=hid b6;obtain ⟨g0,g1,g2,g3,g4,g5,g6,g7,g8⟩:=b6.q9 rfl rfl rfl rfl rfl rfl rfl rfl rfl;obtain ⟨s0,s1,s2⟩:=bk.q3 rfl rfl rfl;have CN:=hid (Zr1 C ⟨a5,a6,a7,a8,c5,c6,c7,c8⟩ ⟨LL,RR,rd⟩ ⟨aA,aR,cA,cR⟩ n w1 ci cj a4.out.cfg HN);dsimp only [cv,cl,sv,sl] at CN;clear b6 bk ae bh bi b2 b3 bf;go_wp2_with fail;refine CN.out.mono ?_;rintro e w2 ⟨gm,rfl,gl,gd,a3,As,aa⟩;clear g0 g1 g2 g3 g4 g5 g6 g7 g8 s0 s1 s2 CN;have q3:=Za w2 (.cells #[.pointer (some ⟨gm,0,none⟩)] 68);have R3:=Zc w2 w2.heap.size [.pointer (some ⟨gm,0,none⟩)] 68 rfl;have bm:=hid (aa.keep q3);have cn:=hid aa.low.size;have r3:=R3.cell 0 _ rfl;have bn:=hid R3;have co:Hid ((w2.alloc (.cells #[.pointer (some ⟨gm,0,none⟩)] 68)).heap.size=w2.heap.size+1):=hid (by simp);clear aa q3 R3;go_wp2_with fail;generalize World.alloc w2 _=w3 at *
 refine (Zi0 gm w3).mono ?_;rintro e w4 ⟨rfl,rfl⟩;have q4:=Za w3 (.cells #[.pointer (some ⟨gm,0,none⟩)] 68);have b7:=Zc w3 w3.heap.size [.pointer (some ⟨gm,0,none⟩)] 68 rfl;have R4:=bn.out.below q4 lr;have ak:=hid (bm.out.keep q4);have bo:Hid ((w3.alloc (.cells #[.pointer (some ⟨gm,0,none⟩)] 68)).heap.size=w3.heap.size+1):=hid (by simp);have cp:=hid (b7.cell 0 _ rfl);have cq:=hid b7;have cr:=hid R4;clear r3 bm bn q4 b7 R4;generalize World.alloc w3 _=w4 at *
 go_wp2;have d7:w1.heap.size+2≤w4.heap.size:=by have:=co.out;have:=bo.out;have:=cn.out;omega
 have al:gm<w4.heap.size:=ak.out.row.lt;have bp:w3.heap.size<w4.heap.size:=by have:=bo.out;omega
 obtain ⟨sN,am⟩:∃ s:Nat,Hid (C.s=(s:Int)∧C.s.toNat=s∧1≤s∧s≤4):=⟨C.s.toNat,hid (by have:=(Y1 a4.out.cfg).1;omega)⟩
 obtain ⟨vN,an⟩:∃ s:Nat,Hid (C.w=(s:Int)∧C.w.toNat=s∧1≤s∧s≤3):=⟨C.w.toNat,hid (by have:=(Y1 a4.out.cfg).2.1;omega)⟩
 have cs:=hid (Zag a4.out.cfg).1;refine (wpIn_wide (n:=6)).1 ?_;refine wpIn_rangeFunc_ownH rfl (by omega) (gf:=43) (lb:=#[.pointer (some ⟨w3.heap.size,0,none⟩)]) rfl trivial (enters_of func43 (by kernel_rfl) rfl)
  (Zf9 (6-1) (by omega) w3.heap.size w4.heap.size R (⟨C,⟨a5,a6,a7,a8,c5,c6,c7,c8⟩,⟨LL,RR,rd⟩,⟨aA,aR,cA,cR⟩,w1,gm,gl,n,fun _=>False⟩:MK) al bp (by show w1.heap.size≤_;omega) a4.out.cfg HR be cg ak.out.cf w4 cp gd ak.out.row ak.out.low lr)
  TM.trans (TM.book bp al (by show w1.heap.size≤_;omega)) br (fun _=>rfl)
  (fun pre W=>∃ gd a3 As,MO (⟨C,⟨a5,a6,a7,a8,c5,c6,c7,c8⟩,⟨LL,RR,rd⟩,⟨aA,aR,cA,cR⟩,w1,gm,gl,n,fun _=>False⟩:MK) W gd a3 (Zfj C ⟨LL,RR,rd.toNat⟩ (pre.map (·.1))).1 As (Zfj C ⟨LL,RR,rd.toNat⟩ (pre.map (·.1))).2∧Zf W w2.heap.size 68 [.pointer (some ⟨gm,0,none⟩)]∧Zf W w3.heap.size 68 [.pointer (some ⟨gm,0,none⟩)])
  (fun c pre W=>False)
  (fun pre W W' row hs hg hr=>by
   obtain ⟨gd,a3,As,h1,h2,h3⟩:=hs;have ao:Zc3 W row:=fun r e=>(hr r e).2
   exact ⟨gd,a3,As,h1.turn hg ao (fun r e=>by have:=(hr r e).1;show w1.heap.size≤r;omega),J5 h2 hg ao,J5 h3 hg ao⟩)
  (fun c=>ownFrom_pure _ _)
  ⟨gd,a3,As,ak.out,cr.out,cq.out⟩
  (fun y a' W=>∃ bx,a'={tmps:=#[.agg #[.int .i64 C.s,.int .i64 C.w,.int .i64 C.d,.int .i64 C.p,.int .i64 C.q,.slice a5 C.sl.length c5,.slice a6 C.ow.length c6,.slice a7 C.ch.length c7,.slice a8 C.ta.length c8],.agg #[.slice aA LL.length cA,.slice aR RR.length cR,.int .i64 rd],.pointer (some ⟨w.heap.size,0,none⟩),.pointer (some ⟨w.heap.size+1,0,none⟩),.slice none 0 0,.int .i64 0,.int .i64 0,.pointer (some ⟨w2.heap.size,0,none⟩),.pointer (some ⟨bx,0,none⟩),undef,undef,.agg #[.int .i64 C.s,.int .i64 C.w,.int .i64 C.d,.int .i64 C.p,.int .i64 C.q,.slice a5 C.sl.length c5,.slice a6 C.ow.length c6,.slice a7 C.ch.length c7,.slice a8 C.ta.length c8],.agg #[.slice aA LL.length cA,.slice aR RR.length cR,.int .i64 rd],.int .i64 0,.int .i64 0,.bool false,undef,.agg #[.int .i64 C.s,.int .i64 C.w,.int .i64 C.d,.int .i64 C.p,.int .i64 C.q,.slice a5 C.sl.length c5,.slice a6 C.ow.length c6,.slice a7 C.ch.length c7,.slice a8 C.ta.length c8],.agg #[.slice aA LL.length cA,.slice aR RR.length cR,.int .i64 rd],.pointer (some ⟨gm,0,none⟩),.pointer (some ⟨gm,0,none⟩),.func (.func 43) #[] #[.pointer (some ⟨w3.heap.size,0,none⟩)],.agg #[.int .i64 (y.1.1:Int),.int .i64 y.1.2.1,.int .i64 y.1.2.2],undef,undef,undef,undef,undef,undef,undef,undef,undef,undef,undef,undef,undef,undef,undef,undef,undef],defers:=[]}∧Zf W bx 79 [.int .i64 (y.1.1:Int),.int .i64 y.1.2.1,.int .i64 y.1.2.2])
  (fun y a'=>fun _ W W' row hs hg hr=>by
   obtain ⟨bx,h1,h2⟩:=hs;exact ⟨bx,h1,J5 h2 hg (fun r e=>(hr r e).2)⟩)
  ?assign ?body ?done ?stop
 case assign=>
  rintro l pre y W K ⟨ab,a0,af,a2,ad,ac⟩ hK;dsimp only [Zy0];have q:=Za W (.cells #[.int .i64 (y.1.1:Int),.int .i64 y.1.2.1,.int .i64 y.1.2.2] 79);have HQ:=hid q;have ag:=hid (a2.keep q);have b8:=hid (ad.below q lr);have ay:=hid (ac.below q lr);have HT:=hid (TM.of a2 (a2.keep q) (ac.cell 0 _ rfl) ((ac.below q lr).cell 0 _ rfl) q.size);have HR:=hid (Zc W W.heap.size [.int .i64 (y.1.1:Int),.int .i64 y.1.2.1,.int .i64 y.1.2.2] 79 rfl);clear a2 ad ac q;gi_wp2;exact hK _ _ ((Z6 HQ).from _) HT.out ⟨ab,a0,af,ag.out,b8.out,ay.out⟩ ⟨W.heap.size,rfl,HR.out⟩
 case stop=>
  rintro Dd c pre W hD hS hF;exact hF.elim
 case body=>
  rintro l pre ⟨⟨a1,fr,te⟩,ht⟩ a' W hl ⟨r,hr⟩ ⟨ab,a0,af,a2,ad,ac⟩ ⟨bx,rfl,b9⟩ a9;dsimp only at b9 ⊢;have bq:=Zlp a4.out (pre.map (·.1)) (fun u hu=>by obtain ⟨z,_,rfl⟩:=List.mem_map.1 hu;rw [ax.out];exact z.2);have ct:=hid (Zme C ⟨LL,RR,rd.toNat⟩ (pre.map (·.1)) (a1,fr,te));have bs:(a1,fr,te)∈Qm C rd.toNat:=by rw [ax.out];exact ht
  have bt:=hid (Zc8 a4.out.cfg a4.out.rounds _ bs);have bu:Hid (100042*((pre.map (·.1)).length:Int)≤10000000):=hid (by
   have h1:=cs.out;have h2:=be.out;have h3:R*C.sl.length≤8*6:=Nat.mul_le_mul h2 h1;have h4:pre.length<R*C.sl.length:=a9;rw [List.length_map]
   omega)
  have bv:=hid bq;have cu:=hid bs;generalize Zfj C ⟨LL,RR,rd.toNat⟩ (pre.map (·.1))=X at *
  have rW:=cm.out.below a2.low lr;obtain ⟨g0,g1⟩:=rW.q2 rfl rfl;rw [am.out.1] at g0;rw [an.out.1] at g1;have ag:=hid a2;have b8:=hid ad;have ay:=hid ac;have cw:=hid b9;have ap:Hid (0≤100042*((pre.map (·.1)).length:Int)):=hid (by omega);generalize hLn:100042*((pre.map (·.1)).length:Int)=bb at *
  have CN:=hid (Zvr sN vN W am.out.2.2.1 am.out.2.2.2 an.out.2.2.1 an.out.2.2.2);clear rW a2 ad ac b9 bq a9 hr hLn;gi_wp2_with fail;refine ⟨trivial,(CallsIn.inRound l (callsIn_wide.2 CN.out)).mono ?_⟩;rintro e w5 ⟨gk,rfl,bw,cx,bz⟩;have q6:=Za w5 (.cells #[.slice (some ⟨gk,0,none⟩) sN sN] 72);have ah:=hid (Zb bz q6);have aq:=ag.out.keep ah.out;have c0:=hid ((Jm bw (by rw [Zaz];exact lr) (fun ls hls=>by rw [List.eq_of_mem_replicate hls];have:=an.out;simp;omega)).keep q6);have R6:=hid (Zc w5 w5.heap.size [.slice (some ⟨gk,0,none⟩) sN sN] 72 rfl);have ba:=hid (cw.out.below ah lr);have bc:=hid (b8.out.below ah lr);have c1:=hid (ay.out.below ah lr);have ai:=hid aq;have r7:=bc.out.cell 0 _ rfl;obtain ⟨t0,t1,t2⟩:=ba.out.q3 rfl rfl rfl;have k0:=R6.out.cell 0 _ rfl;have CW:=hid (Zil (⟨C,⟨a5,a6,a7,a8,c5,c6,c7,c8⟩,⟨LL,RR,rd⟩,⟨aA,aR,cA,cR⟩,w1,gm,gl,n,fun _=>False⟩:MK) _ ab a0 X af (a1,fr,te) bb (some ⟨gk,0,none⟩) sN ai bg HN bv ap.out (by have:=bu.out;omega) cu (by
   show Z8 _ _ (Qb C.s.toNat C.w.toNat)
   rw [am.out.2.1,an.out.2.1];exact c0.out))
  have he:List.length (Qb C.s.toNat C.w.toNat)=sN:=by rw [Zaz];exact am.out.2.1
  dsimp only at CW;rw [he] at CW;clear he bw cx bz aq q6 g0 g1 CN c0 R6;gi_wp2_with fail;refine ⟨trivial,(CallsIn.inRound l (callsIn_wide.2 CW.out)).mono ?_⟩;rintro e w7 ⟨A7,d8,⟨d9,rfl⟩,ar,-,aj⟩;clear r7 t0 t1 t2 k0 CW;have da:=hid aj;have az:=hid ar;have cy:=hid (ai.out.box aj ba.out (by decide) (by decide) (by decide));have c2:=hid (ai.out.box aj bc.out (by decide) (by decide) (by decide));have cz:=hid (ai.out.box aj c1.out (by decide) (by decide) (by decide));have d0:=hid (((Z6 ah).trans (Zer aj ai.out.cellsX)));have r7:=c2.out.cell 0 _ rfl;obtain ⟨t0,t1,t2⟩:=cy.out.q3 rfl rfl rfl;have CC:=hid (Zkw (⟨C,⟨a5,a6,a7,a8,c5,c6,c7,c8⟩,⟨LL,RR,rd⟩,⟨aA,aR,cA,cR⟩,w1,gm,gl,n,fun _=>False⟩:MK) w7 ab a0 (Zvp C ⟨LL,RR,rd.toNat⟩ (a1,fr,te) X).1 _ (Zvp C ⟨LL,RR,rd.toNat⟩ (a1,fr,te) X).2 a1 fr te _ (bb+100042) az bt.out.1 a4.out.cfg HN (Zoc a4 bv ap.out (a1,fr,te) bt) (by have:=bu.out;omega));dsimp only at CC;clear ar aj ai ba bc c1 ah;gi_wp2_with fail;refine ⟨trivial,(CallsIn.inRound l (callsIn_wide.2 CC.out)).mono ?_⟩;rintro e w8 ⟨rfl,g8,⟨d3,au⟩,b0,db⟩;have c3:=hid au;have d4:=hid (az.out.box b0 c2.out (by decide) (by decide) (by decide));have c4:=hid (az.out.box b0 cz.out (by decide) (by decide) (by decide));have c9:=hid (d0.out.trans (Zer b0 az.out.cellsX));clear r7 t0 t1 t2 CC au b0;gi_wp2;refine ⟨c9.out.from _,TM.of ag c3 (ay.out.cell 0 _ rfl) (c4.out.cell 0 _ rfl) c9.out.size,⟨g8,g8+1,d3,?_,d4.out,c4.out⟩⟩;rw [List.map_append,List.map_cons,List.map_nil,ct.out];exact c3.out
 case done=>
  rintro Dd ys W hD hS ⟨ab,a0,af,a2,ad,ac⟩ ca;rw [hS] at a2;have ag:=hid a2;have cb:=hid ca;have d5:=hid hD;have r7:=ad.cell 0 _ rfl;have CD:=hid (Zon (⟨C,⟨a5,a6,a7,a8,c5,c6,c7,c8⟩,⟨LL,RR,rd⟩,⟨aA,aR,cA,cR⟩,w1,gm,gl,n,fun _=>False⟩:MK) W ab a0 _ af _ a2);dsimp only at CD;clear a2 ad ac ca hS;go_wp2_with fail;refine CD.out.mono ?_;rintro e w9 ⟨rfl,bd⟩;have d6:=hid (ag.out.keep bd);have cc:w9.heap[Dd]? = some (.deferred (some [])):=(bd.block Dd (Array.getElem?_eq_some_iff.1 cb).1).trans cb.out;have cd:=hid cc;clear r7 CD bd cc;go_wp2;refine ⟨by simp,.inl ⟨_,_,rfl,run_takeDeferred cd.out,?_⟩⟩;have ao:Zc3 w9 (some Dd):=fun r e=>by cases e;exact ⟨_,cd.out,rfl⟩
  have aa:=d6.out.turn (grownBy_putObj' w9 Dd (.deferred none)) ao (fun r e=>by cases e;show w1.heap.size≤Dd;have:=d5.out;omega);refine ⟨.tuple #[.slice (some ⟨ab,0,none⟩) n n,.int .i64 0],?_,⟨ab,n,rfl,⟨HN.out,af,fun i hi=>⟨?_,?_⟩⟩,?_⟩⟩
  ·simp [results,results9,go_sem]
  ·have:=(aa.at_ i hi).1
   rw [← ax.out] at this;exact this
  ·have:=(aa.at_ i hi).2
   rw [← ax.out] at this;exact fun wx hx=>this wx (hx.wider fun k hk=>Or.inl (by have h1:w1.heap.size≤ab:=aa.lo.2.2;have h2:=aa.hi.2.2.1;have h3:=bj.out.size;show k<a0;omega))
  ·exact Zb bj.out aa.low
attribute [local go_sem] Oper.semAt_some
theorem Zww {g0 k:Nat} {C:KT} (h:Zbo w g0 C k) (hk:List.length C≤k) (hn:∀ ls∈C,List.length ls≤3):∀ wx,Ext (fun k=>k<g0) w wx→Z8 wx (some ⟨g0,0,none⟩) C:=by
 intro wx hx;obtain ⟨L,G,cp,k1,k2,k4,k5⟩:=h;refine Jm (k:=k) ⟨L,G,cp,?_,k2,fun j hj hl=>⟨(k4 j hj hl).1,Zi (k4 j hj hl).2 (fun x hx'=>hx.2 x (Zt (k4 j hj hl).2 x hx') (by have:=Zv (k4 j hj hl).2 x hx';omega))⟩,k5⟩ hk hn;exact (hx.2 g0 (Array.getElem?_eq_some_iff.1 k1).1 (by omega)).trans k1
def Zbi (C:Zm) (S:Scr) (l:List TT):((Nat→Dom)×(Nat→Int))×Int:=l.foldl (fun Y t=>(Zcg C S t Y.1,max Y.2 (2+Zgo (Zm7 C S t Y.1)))) ((fun _=>Zch C,fun _=>0),0)
theorem Zm2 (C:Zm) (S:Scr) (l:List TT) (t:TT):Zbi C S (l++[t])=(Zcg C S t (Zbi C S l).1,max (Zbi C S l).2 (2+Zgo (Zm7 C S t (Zbi C S l).1))):=by simp [Zbi]
theorem Zn3:∀ (l:List TT) (Y:((Nat→Dom)×(Nat→Int))×Int),(l.foldl (fun Y t=>(Zcg C S t Y.1,max Y.2 (2+Zgo (Zm7 C S t Y.1)))) Y).1=l.foldl (fun X t=>Zcg C S t X) Y.1
 | [],Y=>rfl
 | t::l,Y=>Zn3 l _
theorem Zif (C:Zm) (S:Scr) (l:List TT):(Zbi C S l).1=Zfj C S l:=Zn3 l _
def Zm8 (C:Zm) (S:Scr):Int:=(Zbi C S (Qm C S.rounds)).2
theorem Zdd (C:Zm) (B:Mem) (S:Zcm) (M:Zg0) (w:World) (hC:Z1 w B C) (hS:Q8 w M S) (hsc:Qo C S=0) (hc5:C.sl.length≤B.c5):
  Calls prog 8 #[cv C B,sv S M] w fun e w'=>∃ gd n:Nat,e=.returned (.tuple #[.slice (some ⟨gd,0,none⟩) n n,.int .i64 (Zm8 C (ps S)),.int .i64 0])∧Zyk C S w' gd n∧Below w.heap.size w w':=by
 obtain ⟨bk,ai,bs,ff⟩:=Zbm hsc;obtain ⟨⟨z1,z2⟩,⟨v1,v2⟩,⟨d1,d2⟩⟩:=Y1 bk.cfg;obtain ⟨n,HN⟩:∃ n:Nat,Hid (C.d=(n:Int)):=⟨C.d.toNat,hid (by omega)⟩
 obtain ⟨R,HR⟩:∃ R:Nat,Hid (S.rounds=(R:Int)):=⟨S.rounds.toNat,hid (by omega)⟩
 have db:Hid (R≤8):=hid (by have h1:S.rounds.toNat≤8:=bk.rounds;have:=HR.out;omega);have b6:Hid ((ps S).rounds=R):=hid (by show S.rounds.toNat=R;have:=HR.out;omega);have q1:=Za w (.cells (cl C B) 27);have q2:=Za (w.alloc (.cells (cl C B) 27)) (.cells (sl S M) 31);have bt:=hid ((hC.keep q1).keep q2);have bu:=hid ((hS.keep q1).keep q2);have bv:=(Zc w w.heap.size (cl C B).toList 27 rfl).below q2 lr;have bw:=Zc (w.alloc (.cells (cl C B) 27)) (w.heap.size+1) (sl S M).toList 31 (by simp);have dc:=hid (Zb q1 q2);have dd:=hid hsc;have af:=hid bk;have fg:=hid hc5;clear q1 q2 hC hS hsc bk ai bs ff hc5 z1 z2 v1 v2 d1 d2;obtain ⟨a5,a6,a7,a8,c5,c6,c7,c8⟩:=B;obtain ⟨aA,aR,cA,cR⟩:=M;obtain ⟨LL,RR,rd⟩:=S;have CK:=hid (Jv C ⟨a5,a6,a7,a8,c5,c6,c7,c8⟩ ⟨LL,RR,rd⟩ ⟨aA,aR,cA,cR⟩ _ bt bu);rw [dd.out] at CK;dsimp only [cv,cl,sv,sl] at *
 have de:=hid bv;have df:=hid bw;obtain ⟨g0,g1,g2,g3,g4,g5,g6,g7,g8⟩:=bv.q9 rfl rfl rfl rfl rfl rfl rfl rfl rfl;obtain ⟨s0,s1,s2⟩:=bw.q3 rfl rfl rfl;clear bv bw;refine (callsIn_wide (n:=6)).1 (callsIn_of_wp_marks func8 rfl trivial ?_ rfl);refine wpIn_wide.2 ?_;simp only [ntmps8,List.size_toArray,List.length_cons,List.length_nil,Nat.reduceAdd,Nat.reduceSub,Array.replicate_succ,Array.replicate_zero,List.push_toArray,List.append_toArray,List.nil_append,List.cons_append];go_wp2_with fail;refine CK.out.mono ?_;rintro e w1 ⟨rfl,b3⟩;generalize World.alloc (World.alloc w _) _=W at *
 clear g0 g1 g2 g3 g4 g5 g6 g7 g8 s0 s1 s2 CK;have fh:=hid (Zb dc b3);have fi:=hid (bt.out.keep b3);have fj:=hid (bu.out.keep b3);have bz:=de.out.below b3 lr;have dg:=df.out.below b3 lr;have fk:=hid bz;obtain ⟨g0,g1,g2,g3,g4,g5,g6,g7,g8⟩:=bz.q9 rfl rfl rfl rfl rfl rfl rfl rfl rfl;obtain ⟨s0,s1,s2⟩:=dg.q3 rfl rfl rfl;have CN:=hid (Zr1 C ⟨a5,a6,a7,a8,c5,c6,c7,c8⟩ ⟨LL,RR,rd⟩ ⟨aA,aR,cA,cR⟩ n w1 fi fj af.out.cfg HN);dsimp only [cv,cl,sv,sl] at CN;clear bz dg b3 de df bt bu dc;go_wp2_with fail;refine CN.out.mono ?_;rintro e w2 ⟨gm,rfl,gl,gd,a9,As,ag⟩;clear g0 g1 g2 g3 g4 g5 g6 g7 g8 s0 s1 s2 CN;have q3:=Za w2 (.cells #[.pointer (some ⟨gm,0,none⟩)] 68);have R3:=Zc w2 w2.heap.size [.pointer (some ⟨gm,0,none⟩)] 68 rfl;have dh:=hid ag;have di:=hid q3;have dj:=hid ag.low.size;have fl:Hid (gl<w2.heap.size):=hid (Nat.lt_of_lt_of_le ag.hi.2.1 ag.hi.2.2.2);have dk:=hid R3;have dm:Hid ((w2.alloc (.cells #[.pointer (some ⟨gm,0,none⟩)] 68)).heap.size=w2.heap.size+1):=hid (by simp);obtain ⟨sN,aj⟩:∃ s:Nat,Hid (C.s=(s:Int)∧C.s.toNat=s∧1≤s∧s≤4):=⟨C.s.toNat,hid (by have:=(Y1 af.out.cfg).1;omega)⟩
 obtain ⟨vN,ao⟩:∃ s:Nat,Hid (C.w=(s:Int)∧C.w.toNat=s∧1≤s∧s≤3):=⟨C.w.toNat,hid (by have:=(Y1 af.out.cfg).2.1;omega)⟩
 have rW:=(fk.out.below ag.low lr).below q3 lr;obtain ⟨g0,g1⟩:=rW.q2 rfl rfl;rw [aj.out.1] at g0;rw [ao.out.1] at g1;have CN:=hid (Zvr sN vN (w2.alloc (.cells #[.pointer (some ⟨gm,0,none⟩)] 68)) aj.out.2.2.1 aj.out.2.2.2 ao.out.2.2.1 ao.out.2.2.2);clear ag q3 R3 rW;go_wp2_with fail;refine CN.out.mono ?_;generalize World.alloc w2 _=w2b at *
 rintro e a0 ⟨gk,rfl,dn,fm,ak⟩;clear g0 g1 CN;have q5:=Za a0 (.cells #[.slice (some ⟨gk,0,none⟩) sN sN] 72);have q6:=Za (a0.alloc (.cells #[.slice (some ⟨gk,0,none⟩) sN sN] 72)) (.cells #[.int .i64 0] 3);have c0:=Zb ak (Zb q5 q6);have c1:Hid (MO {(⟨C,⟨a5,a6,a7,a8,c5,c6,c7,c8⟩,⟨LL,RR,rd⟩,⟨aA,aR,cA,cR⟩,w1,gm,gl,n,fun _=>False⟩:MK) with fo:=fun k=>k=a0.heap.size∨k=a0.heap.size+1} ((a0.alloc (.cells #[.slice (some ⟨gk,0,none⟩) sN sN] 72)).alloc (.cells #[.int .i64 0] 3)) gd a9 (fun _=>Zch C) As (fun _=>0)):=hid (dh.out.others (Zb di c0) (fun k=>k=a0.heap.size∨k=a0.heap.size+1) (fun k hk=>by
  have h1:=ak.size;have h2:=dm.out;have h3:((a0.alloc (.cells #[.slice (some ⟨gk,0,none⟩) sN sN] 72)).alloc (.cells #[.int .i64 0] 3)).heap.size=a0.heap.size+2:=by simp
  rcases hk with rfl|rfl<;>omega) (fun k hk=>hk))
 dsimp only at c1;have R6:=dk.out.below c0 lr;have dp:=hid R6;have dq:=hid ((((Jm dn (by rw [Zaz];exact lr) (fun ls hls=>by rw [List.eq_of_mem_replicate hls];have:=ao.out;simp;omega)).keep q5)).keep q6);have dr:=hid ((Zc a0 a0.heap.size [.slice (some ⟨gk,0,none⟩) sN sN] 72 rfl).below q6 lr);have ds:=hid (Zc (a0.alloc (.cells #[.slice (some ⟨gk,0,none⟩) sN sN] 72)) (a0.heap.size+1) [.int .i64 0] 3 (by simp));have aw:Hid (w2.heap.size+1≤a0.heap.size):=hid (by have:=ak.size;have:=dm.out;omega);have fn:Hid (((a0.alloc (.cells #[.slice (some ⟨gk,0,none⟩) sN sN] 72)).alloc (.cells #[.int .i64 0] 3)).heap.size=a0.heap.size+2):=hid (by simp);have r3:=R6.cell 0 _ rfl;clear dn fm ak q5 q6 c0 dh dk R6 di;go_wp2_with fail;generalize World.alloc (World.alloc a0 _) _=w3 at *
 refine (Zi0 gm w3).mono ?_;rintro e w4 ⟨rfl,rfl⟩;have q4:=Za w3 (.cells #[.pointer (some ⟨gm,0,none⟩)] 68);have c2:=Zc w3 w3.heap.size [.pointer (some ⟨gm,0,none⟩)] 68 rfl;have R4:=dp.out.below q4 lr;have b7:=hid (c1.out.keep q4);have dt:Hid ((w3.alloc (.cells #[.pointer (some ⟨gm,0,none⟩)] 68)).heap.size=w3.heap.size+1):=hid (by simp);have fp:=hid (c2.cell 0 _ rfl);have fq:=hid c2;have fs:=hid R4;have c3:=hid (dq.out.keep q4);have c4:=hid (dr.out.below q4 lr);have c9:=hid (ds.out.below q4 lr);clear r3 c1 dp q4 c2 R4 dq dr ds;generalize World.alloc w3 _=w4 at *
 go_wp2;have gx:w1.heap.size+2≤w4.heap.size:=by have:=fn.out;have:=aw.out;have:=dt.out;have:=dj.out;omega
 have b8:gm<w4.heap.size:=b7.out.row.lt;have du:w3.heap.size<w4.heap.size:=by have:=dt.out;omega
 have ft:=hid (Zag af.out.cfg).1;have ax:Hid (a0.heap.size+1≠gl):=hid (by have:=fl.out;have:=aw.out;omega);refine (wpIn_wide (n:=6)).1 ?_;refine wpIn_rangeFunc_ownH rfl (by omega) (gf:=43) (lb:=#[.pointer (some ⟨w3.heap.size,0,none⟩)]) rfl trivial (enters_of func43 (by kernel_rfl) rfl)
  (Zf9 (6-1) (by omega) w3.heap.size w4.heap.size R (⟨C,⟨a5,a6,a7,a8,c5,c6,c7,c8⟩,⟨LL,RR,rd⟩,⟨aA,aR,cA,cR⟩,w1,gm,gl,n,fun k=>k=a0.heap.size∨k=a0.heap.size+1⟩:MK) b8 du (by show w1.heap.size≤_;omega) af.out.cfg HR db fg b7.out.cf w4 fp gd b7.out.row b7.out.low lr)
  TM.trans (TM.book du b8 (by show w1.heap.size≤_;omega)) br (fun _=>rfl)
  (fun pre W=>∃ gd a9 As,MO (⟨C,⟨a5,a6,a7,a8,c5,c6,c7,c8⟩,⟨LL,RR,rd⟩,⟨aA,aR,cA,cR⟩,w1,gm,gl,n,fun k=>k=a0.heap.size∨k=a0.heap.size+1⟩:MK) W gd a9 (Zbi C ⟨LL,RR,rd.toNat⟩ (pre.map (·.1))).1.1 As (Zbi C ⟨LL,RR,rd.toNat⟩ (pre.map (·.1))).1.2∧Zf W w2.heap.size 68 [.pointer (some ⟨gm,0,none⟩)]∧Zf W w3.heap.size 68 [.pointer (some ⟨gm,0,none⟩)]∧(∃ aK cK,Zf W a0.heap.size 72 [.slice aK sN cK]∧Z8 W aK (Qb sN vN))∧Zf W (a0.heap.size+1) 3 [.int .i64 (Zbi C ⟨LL,RR,rd.toNat⟩ (pre.map (·.1))).2]∧0≤(Zbi C ⟨LL,RR,rd.toNat⟩ (pre.map (·.1))).2∧(Zbi C ⟨LL,RR,rd.toNat⟩ (pre.map (·.1))).2≤62)
  (fun c pre W=>False)
  (fun pre W W' row hs hg hr=>by
   obtain ⟨gd,a9,As,h1,h2,h3,⟨aK,cK,h4,h5⟩,h6,h7⟩:=hs;have ap:Zc3 W row:=fun r e=>(hr r e).2
   exact ⟨gd,a9,As,h1.turn hg ap (fun r e=>by have:=(hr r e).1;show w1.heap.size≤r;omega),J5 h2 hg ap,J5 h3 hg ap,⟨aK,cK,J5 h4 hg ap,h5.kc (Zql hg ap)⟩,J5 h6 hg ap,h7⟩)
  (fun c=>ownFrom_pure _ _)
  ⟨gd,a9,As,b7.out,fs.out,fq.out,⟨_,_,c4.out,c3.out⟩,c9.out,show (0:Int)≤0 by decide,show (0:Int)≤62 by decide⟩
  (fun y a' W=>∃ bx,a'={tmps:=#[.agg #[.int .i64 C.s,.int .i64 C.w,.int .i64 C.d,.int .i64 C.p,.int .i64 C.q,.slice a5 C.sl.length c5,.slice a6 C.ow.length c6,.slice a7 C.ch.length c7,.slice a8 C.ta.length c8],.agg #[.slice aA LL.length cA,.slice aR RR.length cR,.int .i64 rd],.pointer (some ⟨w.heap.size,0,none⟩),.pointer (some ⟨w.heap.size+1,0,none⟩),.slice none 0 0,.int .i64 0,.int .i64 0,.int .i64 0,.pointer (some ⟨w2.heap.size,0,none⟩),.pointer (some ⟨a0.heap.size,0,none⟩),.int .i64 0,.pointer (some ⟨a0.heap.size+1,0,none⟩),.pointer (some ⟨bx,0,none⟩),undef,undef,undef,undef,.agg #[.int .i64 C.s,.int .i64 C.w,.int .i64 C.d,.int .i64 C.p,.int .i64 C.q,.slice a5 C.sl.length c5,.slice a6 C.ow.length c6,.slice a7 C.ch.length c7,.slice a8 C.ta.length c8],.agg #[.slice aA LL.length cA,.slice aR RR.length cR,.int .i64 rd],.int .i64 0,.int .i64 0,.bool false,undef,.agg #[.int .i64 C.s,.int .i64 C.w,.int .i64 C.d,.int .i64 C.p,.int .i64 C.q,.slice a5 C.sl.length c5,.slice a6 C.ow.length c6,.slice a7 C.ch.length c7,.slice a8 C.ta.length c8],.agg #[.slice aA LL.length cA,.slice aR RR.length cR,.int .i64 rd],.pointer (some ⟨gm,0,none⟩),.tuple #[.agg #[.slice (some ⟨gk,0,none⟩) sN sN],.int .i64 0],.pointer (some ⟨w.heap.size,0,none⟩),.int .i64 (sN:Int),.pointer (some ⟨w.heap.size,1,none⟩),.int .i64 (vN:Int),.tuple #[.agg #[.slice (some ⟨gk,0,none⟩) sN sN],.int .i64 0],.agg #[.slice (some ⟨gk,0,none⟩) sN sN],.int .i64 0,.pointer (some ⟨gm,0,none⟩),.func (.func 43) #[] #[.pointer (some ⟨w3.heap.size,0,none⟩)],.agg #[.int .i64 (y.1.1:Int),.int .i64 y.1.2.1,.int .i64 y.1.2.2],undef,undef,undef,undef,undef,undef,undef,undef,undef,undef,undef,undef,undef,undef,undef,undef,undef,undef,undef,undef],defers:=[]}∧Zf W bx 79 [.int .i64 (y.1.1:Int),.int .i64 y.1.2.1,.int .i64 y.1.2.2])
  (fun y a'=>fun _ W W' row hs hg hr=>by
   obtain ⟨bx,h1,h2⟩:=hs;exact ⟨bx,h1,J5 h2 hg (fun r e=>(hr r e).2)⟩)
  ?assign ?body ?done ?stop
 case assign=>
  rintro l pre y W K ⟨ad,a2,b4,aa,al,am,⟨aK,cK,aq,ay⟩,ah,az⟩ hK;dsimp only [Zy0];have q:=Za W (.cells #[.int .i64 (y.1.1:Int),.int .i64 y.1.2.1,.int .i64 y.1.2.2] 79);have HQ:=hid q;have ae:=hid (aa.keep q);have ca:=hid (al.below q lr);have bm:=hid (am.below q lr);have cb:=hid (aq.below q lr);have fu:=hid (ay.keep q);have cc:=hid (ah.below q lr);have cd:=hid az;have HT:=hid (TM.of aa (aa.keep q) (am.cell 0 _ rfl) ((am.below q lr).cell 0 _ rfl) q.size);have HR:=hid (Zc W W.heap.size [.int .i64 (y.1.1:Int),.int .i64 y.1.2.1,.int .i64 y.1.2.2] 79 rfl);clear aa al am aq ay ah az q;gi_wp2;exact hK _ _ ((Z6 HQ).from _) HT.out ⟨ad,a2,b4,ae.out,ca.out,bm.out,⟨aK,cK,cb.out,fu.out⟩,cc.out,cd.out⟩ ⟨W.heap.size,rfl,HR.out⟩
 case stop=>
  rintro Dd c pre W hD hS hF;exact hF.elim
 case body=>
  rintro l pre ⟨⟨a1,fr,te⟩,ht⟩ a' W hl ⟨r,hr⟩ ⟨ad,a2,b4,aa,al,am,⟨aK,cK,aq,ay⟩,ah,az⟩ ⟨bx,rfl,bn⟩ ai;dsimp only at bn ⊢;have ce:=Zlp af.out (pre.map (·.1)) (fun u hu=>by obtain ⟨z,_,rfl⟩:=List.mem_map.1 hu;rw [b6.out];exact z.2);rw [← Zif] at ce;have fv:=hid (Zm2 C ⟨LL,RR,rd.toNat⟩ (pre.map (·.1)) (a1,fr,te));have dw:(a1,fr,te)∈Qm C rd.toNat:=by rw [b6.out];exact ht
  have dx:=hid (Zc8 af.out.cfg af.out.rounds _ dw);have dy:Hid (100042*((pre.map (·.1)).length:Int)≤10000000):=hid (by
   have h1:=ft.out;have h2:=db.out;have h3:R*C.sl.length≤8*6:=Nat.mul_le_mul h2 h1;have h4:pre.length<R*C.sl.length:=ai;rw [List.length_map]
   omega)
  have cg:=hid ce;have dz:=hid dw;generalize Zbi C ⟨LL,RR,rd.toNat⟩ (pre.map (·.1))=YY at *
  obtain ⟨X,lg⟩:=YY;dsimp only at *
  have fw:=hid (Zvz af cg dz);have ae:=hid aa;have ca:=hid al;have bm:=hid am;have cb:=hid aq;have cc:=hid ah;have cd:=hid az;have fx:=hid bn;have b9:Hid (0≤100042*((pre.map (·.1)).length:Int)):=hid (by omega);generalize hLn:100042*((pre.map (·.1)).length:Int)=bb at *
  have CW:=hid (Zil (⟨C,⟨a5,a6,a7,a8,c5,c6,c7,c8⟩,⟨LL,RR,rd⟩,⟨aA,aR,cA,cR⟩,w1,gm,gl,n,fun k=>k=a0.heap.size∨k=a0.heap.size+1⟩:MK) W ad a2 X b4 (a1,fr,te) bb aK cK ae dd HN cg b9.out (by have:=dy.out;omega) dz (by
   show Z8 _ _ (Qb C.s.toNat C.w.toNat)
   rw [aj.out.2.1,ao.out.2.1];exact ay))
  have he:List.length (Qb C.s.toNat C.w.toNat)=sN:=by rw [Zaz];exact aj.out.2.1
  dsimp only at CW;rw [he] at CW;obtain ⟨f0,bo,bp⟩:=fw.out;have f1:(List.headD (Zm7 C ⟨LL,RR,rd.toNat⟩ (a1,fr,te) X) []).length=vN:=by
   have h9:=aj.out
   cases hwk:Zm7 C ⟨LL,RR,rd.toNat⟩ (a1,fr,te) X with
   | nil=>rw [hwk] at bo;simp at bo;omega
   | cons x xs=>rw [hwk] at bp;exact (bp x (by simp)).trans ao.out.2.1
  have b0:List.length (Zm7 C ⟨LL,RR,rd.toNat⟩ (a1,fr,te) X)=sN:=bo.trans aj.out.2.1;rw [b0] at CW;have r7:=al.cell 0 _ rfl;obtain ⟨t0,t1,t2⟩:=bn.q3 rfl rfl rfl;have k0:=aq.cell 0 _ rfl;clear he aa al am aq ay ah az bn ce ai hr hLn;gi_wp2_with fail;refine ⟨trivial,(CallsIn.inRound l (callsIn_wide.2 CW.out)).mono ?_⟩;rintro e w7 ⟨A7,ci,⟨cj,rfl⟩,ba,bc,b1⟩;clear r7 t0 t1 t2 k0 CW;have fy:=hid (Zer b1 ae.out.cellsX);have q8:=Za w7 (.cells #[.slice ci sN cj] 72);have f2:=hid ((ae.out.box b1 fx (by decide) (by decide) (by decide)).below q8 lr);have f3:=hid ((ae.out.box b1 ca (by decide) (by decide) (by decide)).below q8 lr);have f4:=hid ((ae.out.box b1 bm (by decide) (by decide) (by decide)).below q8 lr);have f5:=hid ((ae.out.box b1 cb (by decide) (by decide) (by decide)).below q8 lr);have bq:=hid ((ae.out.box3 b1 cc ax).below q8 lr);have bd:=hid (ba.keep q8);have fz:=hid q8;have R8:=Zc w7 w7.heap.size [.slice ci sN cj] 72 rfl;have k0:=R8.cell 0 _ rfl;have CF:=hid (Zus ci (Zm7 C ⟨LL,RR,rd.toNat⟩ (a1,fr,te) X) cj _ (bc.keep q8) (by have:=aj.out;omega) f0 vN f1);have ga:Hid (0≤Zgo (Zm7 C ⟨LL,RR,rd.toNat⟩ (a1,fr,te) X)∧Zgo (Zm7 C ⟨LL,RR,rd.toNat⟩ (a1,fr,te) X)≤60):=hid (by
   have:=Zq2 (Zm7 C ⟨LL,RR,rd.toNat⟩ (a1,fr,te) X) 3 (fun ls hls=>by have:=bp ls hls;have:=ao.out;omega)
   have h9:=aj.out
   omega)
  rw [b0] at CF;clear ba bc b1 q8 R8 f0 bo bp f1 b0;generalize hcs:Zgo (Zm7 C ⟨LL,RR,rd.toNat⟩ (a1,fr,te) X)=cs at *
  have gy:=hid hcs;clear hcs;gi_wp2_with fail;generalize World.alloc w7 _=w8 at *
  refine ⟨trivial,(CallsIn.inRound l (callsIn_wide.2 CF.out)).mono ?_⟩;rintro e w9 ⟨g9,rfl,f6,gb,b5⟩;clear k0 CF;have cm:=Za w9 (.cells #[.slice (some ⟨g9,0,none⟩) sN sN] 72);have a3:=Zb b5 cm;have cn:=hid (f2.out.below a3 lr);have co:=hid (f3.out.below a3 lr);have cp:=hid (f4.out.below a3 lr);have an:=hid (f5.out.below a3 lr);have ar:=hid (bq.out.below a3 lr);have cq:=hid (bd.out.keep a3);have gc:=hid (Zww f6 (by rw [Zaz];exact lr) (fun ls hls=>by rw [List.eq_of_mem_replicate hls];have:=ao.out;simp;omega));have cr:Hid (Ext (fun k=>k<g9) w9 (w9.alloc (.cells #[.slice (some ⟨g9,0,none⟩) sN sN] 72))):=hid (Ext.below cm);have b2:Hid (gm<g9∧gl<g9∧ad<g9∧a0.heap.size+1<g9):=hid (by
   have h1:=bd.out.row.lt;have h2:=bd.out.last.lt;have h3:=bd.out.drow.lt;have h4:=bq.out.lt;dsimp only at h1 h2
   omega)
  have ge:=hid (Zc w9 w9.heap.size [.slice (some ⟨g9,0,none⟩) sN sN] 72 rfl);have ct:=hid a3;have gg:=ge.out.cell 0 _ rfl;have f9:=an.out.cell 0 _ rfl;have z9:=an.out.frozen 0;have gh:=ar.out.cell 0 _ rfl;have gi:=ar.out.frozen 0;have be:Hid (a0.heap.size+1<w9.heap.size):=hid (by have:=bq.out.lt;have:=b5.size;omega);have e1:¬ a0.heap.size=a0.heap.size+1:=by omega
  have e2:¬ a0.heap.size+1=a0.heap.size:=by omega
  have e3:¬ a0.heap.size=w9.heap.size:=by have:=be.out;omega
  have e4:¬ a0.heap.size+1=w9.heap.size:=by have:=be.out;omega
  clear f2 f3 f4 f5 bq bd f6 gb cm a3 b5;gi_upto_region 11 with fail;generalize hw10:w9.alloc (.cells #[.slice (some ⟨g9,0,none⟩) sN sN] 72)=w10 at *
  have gj:=hid hw10;clear hw10;gi_cut [] from 47 (fun wx=>∃ m,m=max lg (2+cs)∧wx=((w10.setCell ⟨a0.heap.size,0,none⟩ (.slice (some ⟨g9,0,none⟩) sN sN)).setCell ⟨a0.heap.size+1,0,none⟩ (.int .i64 m)).drew)
  case first=>
   by_cases hmx:lg<2+cs
   ·have cu:¬ 2+cs<lg:=by omega
    have gn:¬ 2+cs≤lg:=by omega
    have go:lg≤2+cs:=by omega
    gi_region
    all_goals
     gi_wp2;go_meet
     case rel=>exact ⟨2+cs,by omega,rfl⟩
   ·have cu:2+cs≤lg:=by omega
    gi_region
    all_goals
     gi_wp2;go_meet
     case rel=>exact ⟨lg,by omega,rfl⟩
  case rest=>
   obtain ⟨m,hm,rfl⟩:=hcut;have gp:=hid hm;have ab:=cq.out;obtain ⟨gz,cw,-⟩:=ab.drow;have n1:a0.heap.size≠gm:=Qn an.out ab.row (by decide);have n2:a0.heap.size≠gl:=Qn an.out ab.last (by decide);have n3:a0.heap.size≠ad:=Qn an.out cw (by decide);have n4:a0.heap.size+1≠gm:=Qn ar.out ab.row (by decide);have n5:a0.heap.size+1≠ad:=Qn ar.out cw (by decide);have n6:w1.heap.size≤a0.heap.size:=by have:=dj.out;have:=aw.out;omega
   have ac:=hid (((ab.write (.inl rfl) n1 n2 n3 n6 0 (.slice (some ⟨g9,0,none⟩) sN sN)).write (.inr rfl) n4 ax n5 (Nat.le_succ_of_le n6) 0 (.int .i64 m)).keep br.drew);have ne:=fun k (h1:k≠a0.heap.size) (h2:k≠a0.heap.size+1)=>(Zd (w10.setCell ⟨a0.heap.size,0,none⟩ (.slice (some ⟨g9,0,none⟩) sN sN)) (a0.heap.size+1) 0 (.int .i64 m) k h2).trans (Zd w10 a0.heap.size 0 (.slice (some ⟨g9,0,none⟩) sN sN) k h1)
   have cx:=hid (show Zf ((w10.setCell ⟨a0.heap.size,0,none⟩ (.slice (some ⟨g9,0,none⟩) sN sN)).setCell ⟨a0.heap.size+1,0,none⟩ (.int .i64 m)).drew bx 79 _ from (ne bx (Qn cn.out an.out (by decide)) (Qn cn.out ar.out (by decide))).trans cn.out);have bf:=hid (show Zf ((w10.setCell ⟨a0.heap.size,0,none⟩ (.slice (some ⟨g9,0,none⟩) sN sN)).setCell ⟨a0.heap.size+1,0,none⟩ (.int .i64 m)).drew w2.heap.size 68 _ from (ne w2.heap.size (Qn co.out an.out (by decide)) (Qn co.out ar.out (by decide))).trans co.out);have cy:=hid (show Zf ((w10.setCell ⟨a0.heap.size,0,none⟩ (.slice (some ⟨g9,0,none⟩) sN sN)).setCell ⟨a0.heap.size+1,0,none⟩ (.int .i64 m)).drew w3.heap.size 68 _ from (ne w3.heap.size (Qn cp.out an.out (by decide)) (Qn cp.out ar.out (by decide))).trans cp.out);have cz:=hid (show Zf ((w10.setCell ⟨a0.heap.size,0,none⟩ (.slice (some ⟨g9,0,none⟩) sN sN)).setCell ⟨a0.heap.size+1,0,none⟩ (.int .i64 m)).drew a0.heap.size 72 [.slice (some ⟨g9,0,none⟩) sN sN] from (Zd (w10.setCell ⟨a0.heap.size,0,none⟩ (.slice (some ⟨g9,0,none⟩) sN sN)) (a0.heap.size+1) 0 (.int .i64 m) a0.heap.size (by omega)).trans (Ze an.out 0 (.slice (some ⟨g9,0,none⟩) sN sN)));have d0:=hid (show Zf ((w10.setCell ⟨a0.heap.size,0,none⟩ (.slice (some ⟨g9,0,none⟩) sN sN)).setCell ⟨a0.heap.size+1,0,none⟩ (.int .i64 m)).drew (a0.heap.size+1) 3 [.int .i64 m] from Ze (show Zf (w10.setCell ⟨a0.heap.size,0,none⟩ (.slice (some ⟨g9,0,none⟩) sN sN)) (a0.heap.size+1) 3 [.int .i64 lg] from (Zd w10 a0.heap.size 0 (.slice (some ⟨g9,0,none⟩) sN sN) (a0.heap.size+1) (by omega)).trans ar.out) 0 (.int .i64 m));have d3:Hid (Ext (fun k=>k<g9) w9 ((w10.setCell ⟨a0.heap.size,0,none⟩ (.slice (some ⟨g9,0,none⟩) sN sN)).setCell ⟨a0.heap.size+1,0,none⟩ (.int .i64 m)).drew):=hid (cr.out.trans ((Ext.set (X:=fun k=>k<g9) w10 (show a0.heap.size<g9 by have:=b2.out;omega) 0 _).trans ((Ext.set (X:=fun k=>k<g9) _ (show a0.heap.size+1<g9 by have:=b2.out;omega) 0 _).trans (Ext.below br.drew))));have d4:Hid (KeepsOthers w10 ((w10.setCell ⟨a0.heap.size,0,none⟩ (.slice (some ⟨g9,0,none⟩) sN sN)).setCell ⟨a0.heap.size+1,0,none⟩ (.int .i64 m)).drew):=hid (((KeepsOthers.setCell w10 _ _).trans (KeepsOthers.setCell _ _ _)).trans (KeepsOthers.drew _));have r7:=bf.out.cell 0 _ rfl;obtain ⟨t0,t1,t2⟩:=cx.out.q3 rfl rfl rfl;clear gg f9 z9 gh gi e1 e2 e3 e4 ab n1 n2 n3 n4 n5 n6 ne cw;generalize hw11:((w10.setCell ⟨a0.heap.size,0,none⟩ (.slice (some ⟨g9,0,none⟩) sN sN)).setCell ⟨a0.heap.size+1,0,none⟩ (.int .i64 m)).drew=w11 at *
   clear hw11;have CC:=hid (Zkw (⟨C,⟨a5,a6,a7,a8,c5,c6,c7,c8⟩,⟨LL,RR,rd⟩,⟨aA,aR,cA,cR⟩,w1,gm,gl,n,fun k=>k=a0.heap.size∨k=a0.heap.size+1⟩:MK) w11 ad a2 (Zvp C ⟨LL,RR,rd.toNat⟩ (a1,fr,te) X).1 _ (Zvp C ⟨LL,RR,rd.toNat⟩ (a1,fr,te) X).2 a1 fr te _ (bb+100042) ac dx.out.1 af.out.cfg HN (Zoc af cg b9.out (a1,fr,te) dx) (by have:=dy.out;omega));dsimp only at CC;gi_wp2_with fail;refine ⟨trivial,(CallsIn.inRound l (callsIn_wide.2 CC.out)).mono ?_⟩;rintro e f7 ⟨rfl,f8,⟨d5,au⟩,a4,gq⟩;have bg:=hid au;have d6:=hid (ac.out.box a4 bf.out (by decide) (by decide) (by decide));have bh:=hid (ac.out.box a4 cy.out (by decide) (by decide) (by decide));have d7:=hid (ac.out.box a4 cz.out (by decide) (by decide) (by decide));have d8:=hid (ac.out.box3 a4 d0.out ax);have bi:Hid (Z8 f7 (some ⟨g9,0,none⟩) (Qb sN vN)):=hid (gc.out f7 (d3.out.trans (a4.wider fun k hk=>by
    have:=b2.out
    rcases hk with e|e|e
    ·rw [e];exact this.1
    ·rw [e];exact this.2.1
    ·rw [e];exact this.2.2.1)))
   have bj:=hid ((((fy.out.trans (Z6 fz)).trans (Z6 ct)).trans d4).trans (Zer a4 ac.out.cellsX));clear r7 t0 t1 t2 CC au a4 hm;gi_wp2;refine ⟨bj.out.from _,TM.of ae bg (bm.out.cell 0 _ rfl) (bh.out.cell 0 _ rfl) bj.out.size,⟨f8,f8+1,d5,?_⟩⟩;rw [List.map_append,List.map_cons,List.map_nil,fv.out];dsimp only;have gr:=gp.out;rw [← gr];have h0:=cd.out;have h8:=ga.out;exact ⟨bg.out,d6.out,bh.out,⟨_,_,d7.out,bi.out⟩,d8.out,by omega,by omega⟩
 case done=>
  rintro Dd ys W hD hS ⟨ad,a2,b4,aa,al,am,⟨aK,cK,aq,ay⟩,ah,az⟩ fa;rw [hS] at aa ah;have gs:Hid ((Zbi C ⟨LL,RR,rd.toNat⟩ (Qm C R)).2=Zm8 C ⟨LL,RR,rd.toNat⟩):=hid (by unfold Zm8;rw [show (⟨LL,RR,rd.toNat⟩:Scr).rounds=R from b6.out]);rw [gs.out] at ah;rw [Zif] at aa;have ae:=hid aa;have fb:=hid fa;have gt:=hid hD;have CD:Hid (∀ wx,Below W.heap.size W wx→Calls prog 26 #[.pointer (some ⟨gm,0,none⟩)] wx fun e w'=>e=.returned (.slice (some ⟨ad,0,none⟩) n n)∧Below wx.heap.size wx w'):=hid fun wx hb=>Zon (⟨C,⟨a5,a6,a7,a8,c5,c6,c7,c8⟩,⟨LL,RR,rd⟩,⟨aA,aR,cA,cR⟩,w1,gm,gl,n,fun k=>k=a0.heap.size∨k=a0.heap.size+1⟩:MK) wx ad a2 _ b4 _ (aa.keep hb)
  have d9:Hid (∀ w',Below W.heap.size W w'→w'.cell? ⟨w2.heap.size,0,none⟩=some (.pointer (some ⟨gm,0,none⟩))∧w'.cell? ⟨a0.heap.size+1,0,none⟩=some (.int .i64 (Zm8 C ⟨LL,RR,rd.toNat⟩))):=hid fun w' hb=>⟨(al.below hb lr).cell 0 _ rfl,(ah.below hb lr).cell 0 _ rfl⟩
  generalize hlg:Zm8 C ⟨LL,RR,rd.toNat⟩=lgv at *
  have gu:=hid hlg;clear hlg;obtain ⟨r8,gv⟩:=d9.out _ br;have da:Below W.heap.size W W.drew:=br.drew;clear aa al am aq ay ah az fa hS;go_upto_region 13 with fail;go_region_held3 (fun w'=>w'.cell? ⟨w2.heap.size,0,none⟩=some (.pointer (some ⟨gm,0,none⟩))∧w'.cell? ⟨a0.heap.size+1,0,none⟩=some (.int .i64 lgv))
   (first|with_reducible exact d9.out _ hB9|with_reducible exact d9.out _ da|go_keep)
   (first|(go_at_call 26;with_reducible refine Calls.mono (CD.out _ da) ?_;rintro e w9 ⟨rfl,b5⟩;have hB9:=Zb da b5))
  all_goals
   have gw:=hid (ae.out.keep hB9);have fc:w9.heap[Dd]? = some (.deferred (some [])):=(hB9.block Dd (Array.getElem?_eq_some_iff.1 fb).1).trans fb.out;have fd:=hid fc;clear r8 gv CD b5 fc;go_wp2;refine ⟨by simp,.inl ⟨_,_,rfl,run_takeDeferred fd.out,?_⟩⟩;have ap:Zc3 w9 (some Dd):=fun r e=>by cases e;exact ⟨_,fd.out,rfl⟩
   have ag:=gw.out.turn (grownBy_putObj' w9 Dd (.deferred none)) ap (fun r e=>by cases e;show w1.heap.size≤Dd;have:=gt.out;omega);refine ⟨.tuple #[.slice (some ⟨ad,0,none⟩) n n,.int .i64 lgv,.int .i64 0],?_,⟨ad,n,by rw [show Zm8 C (ps ⟨LL,RR,rd⟩)=lgv from gu.out],⟨HN.out,b4,fun i hi=>⟨?_,?_⟩⟩,?_⟩⟩
   ·simp [results,results8,go_sem]
   ·have:=(ag.at_ i hi).1
    rw [← b6.out] at this;exact this
   ·have:=(ag.at_ i hi).2.dom
    rw [← b6.out] at this;exact this
   ·exact Zb fh.out ag.low
end Go.Proofs.YtejhccmclanlmaaGreatDoor
