/- Bk Bl Bm Bn Bo Bp Bq Gh Br Bs -/
import Derived.Test.YtejhccmclanlmaaGreatDoorV37
set_option linter.all false
set_option maxRecDepth 100000
set_option maxHeartbeats 8000000
namespace Go.Proofs.YtejhccmclanlmaaGreatDoor
open Go.RowKit Go.Proofs.Tryz
variable {J:List (Int×Int×Int)} {L:List Zar} {b dom gA i k n n0:Nat} {a:Option Addr} {w w':World} {S T:Zcm} {C:Zm}
abbrev acl (x:Int×Int×Int):List Value:=[.int .i64 x.1,.int .i64 x.2.1,.int .i64 x.2.2]
def fA (L:List (Int×Int×Int)):List Value:=L.flatMap acl
theorem Zq8 (L:List (Int×Int×Int)):(fA L).length=L.length*3:=Za4 acl 3 (fun _=>rfl) L
theorem Zx2 (L:List (Int×Int×Int)):∀ u∈fA L,u.oneCell'=true:=Zeo acl _ (fun x u hu=>by
 simp only [acl,List.mem_cons,List.not_mem_nil,or_false] at hu;rcases hu with rfl|rfl|rfl<;>rfl) L
theorem Yn.flat (h:Yn w a J):Q9 w a (fA J):=by
 intro a2;have hp:0<J.length:=List.length_pos_iff.2 (fun e=>a2 (by rw [e];rfl));obtain ⟨b,o,rfl,_⟩:=h 0 hp;refine ⟨b,o,rfl,fun j u hu=>?_⟩;have hj:j<J.length*3:=by rw [← Zq8];exact (List.getElem?_eq_some_iff.1 hu).1
 have hi:j/3<J.length:=by omega
 obtain ⟨b',o',e,h0,h1,h2⟩:=h (j/3) hi;simp only [Option.some.injEq,Addr.mk.injEq,and_true] at e;obtain ⟨rfl,rfl⟩:=e;have a1:=Zav acl 3 (fun _=>rfl) J (j/3) (j%3) hi (Nat.mod_lt _ (by omega));have ej:j/3*3+j%3=j:=by omega
 rw [ej] at a1;have a0:(acl J[j/3])[j%3]? = some u:=by rw [← a1];exact hu
 have hc:j%3=0∨j%3=1∨j%3=2:=by omega
 rcases hc with hc|hc|hc<;>rw [hc] at a0<;>simp [acl] at a0<;>subst a0
 ·rw [show o+j=o+j/3*3 from by omega];exact h0
 ·rw [show o+j=o+j/3*3+1 from by omega];exact h1
 ·rw [show o+j=o+j/3*3+2 from by omega];exact h2
theorem Zpj (h:Q9 w a (fA J)):Yn w a J:=by
 intro i hi;have a1:fA J≠[]:=fun e=>by have:=Zq8 J;rw [e] at this;simp at this;omega
 obtain ⟨b,o,rfl,hc⟩:=h a1;have a0:=fun r hr=>Zav acl 3 (fun _=>rfl) J i r hi hr
 refine ⟨b,o,rfl,?_,?_,?_⟩
 ·exact hc (i*3) _ ((a0 0 (by omega)).trans rfl)
 ·rw [Nat.add_assoc];exact hc _ _ ((a0 1 (by omega)).trans rfl)
 ·rw [Nat.add_assoc];exact hc _ _ ((a0 2 (by omega)).trans rfl)
abbrev rcl (x:Int×Int):List Value:=[.int .i64 x.1,.int .i64 x.2]
def fR (L:List (Int×Int)):List Value:=L.flatMap rcl
theorem Zy1 (L:List (Int×Int)):(fR L).length=L.length*2:=Za4 rcl 2 (fun _=>rfl) L
theorem Zvj (J K:List (Int×Int)):fR (J++K)=fR J++fR K:=by simp [fR]
theorem Zrq (L:List (Int×Int)):∀ u∈fR L,u.oneCell'=true:=Zeo rcl _ (fun x u hu=>by
 simp only [rcl,List.mem_cons,List.not_mem_nil,or_false] at hu;rcases hu with rfl|rfl<;>rfl) L
theorem Zh4 {J:List (Int×Int)} (h:Q9 w a (fR J)):Qs w a J:=by
 intro i hi;have a1:fR J≠[]:=fun e=>by have:=Zy1 J;rw [e] at this;simp at this;omega
 obtain ⟨b,o,rfl,hc⟩:=h a1;have a0:=fun r hr=>Zav rcl 2 (fun _=>rfl) J i r hi hr
 refine ⟨b,o,rfl,?_,?_⟩
 ·exact hc (i*2) _ ((a0 0 (by omega)).trans rfl)
 ·rw [Nat.add_assoc];exact hc _ _ ((a0 1 (by omega)).trans rfl)
theorem Tryz.info63x:(prog.info? 63).map (fun i=>(i.zero,i.size,i.bytes))=some (some (.agg #[.int .i64 0,.int .i64 0,.int .i64 0]),3,24):=by kernel_rfl
theorem Tryz.info58x:(prog.info? 58).map (fun i=>(i.zero,i.size,i.bytes))=some (some (.agg #[.int .i64 0,.int .i64 0]),2,16):=by kernel_rfl
theorem Tryz.info56x:(prog.info? 56).map (fun i=>(i.zero,i.size,i.bytes))=some (some (.slice none 0 0),1,24):=by kernel_rfl
theorem Zp0 (n:Nat) (h:n≤1000000000000) (w:World):(Instr.makeSlice 28 (.int .i64 (n:Int)) (.int .i64 (n:Int))).run prog w=.ok (.slice (some ⟨w.heap.size,0,none⟩) n n) (w.alloc (.cells (madeCells #[.slice none 0 0] n) 56)):=
 run_make_row' (P:=prog) 28 56 (.slice none 0 0) 24 underlying28 Tryz.info56x rfl .i64 .i64 n (by omega) (by omega) w
theorem Zps (a:Option Addr) (J:List (Int×Int×Int)) (cap:Nat) (w:World) (hw:Yn w a J) (hl:J.length≤1000000000000):
  Calls prog 39 #[.slice a J.length cap] w fun e w'=>∃ v,e=.returned v∧w'.ownsRow w.heap.size 63 3 v J.length (fA J)∧Below w.heap.size w w':=by
 have a3:=fun (w:World) (a:Option Addr) (n c:Nat)=>Lib.run_eql_slice_nil (P:=prog) w 56 63 a n c 0 0 underlying56
 cases a with
 | none=>
  have hJ:J=[]:=by
   cases J with
   | nil=>rfl
   | cons x r=>obtain ⟨b,o,e,_⟩:=hw 0 (by simp);cases e
  subst hJ;go_enter func39,ntmps39;go_wp2;go_ret;exact ⟨_,rfl,World.ownsRow_nil _ _ _ _,br⟩
 | some p=>
  have h1:Below w.heap.size w (w.alloc (.cells #[] 63)):=Za _ _;have a2:Hid ((w.alloc (.cells #[] 63)).ownsRow w.heap.size 63 3 (.slice (some ⟨w.heap.size,0,none⟩) 0 0) 0 []):=hid (World.ownsRow_made w #[] 0 lr (by simp [maxLen]) rfl);have Hw:=hid (hw.keep h1).flat;go_enter func39,ntmps39;go_wp2_with (at_builtin;refine Js rfl _ _ 56 63 rfl _ 3 24 underlying56 Tryz.info63x rfl (by omega) w.heap.size (.slice (some ⟨w.heap.size,0,none⟩) 0 0) 0 [] rfl a2.out J.length (fA J) (Zq8 J) (Zx2 J) _ _ rfl Hw.out (by simp [maxLen];omega) (by omega) (by simp) ?_);intro v' w1 a0 a1;have HE:=hid (show w1.ownsRow w.heap.size 63 3 v' J.length (fA J)∧Below w.heap.size w w1 from ⟨by simpa using a0,h1.grown a1 (by simp) (fun k hk=>by simp [Value.ownBlock] at hk;omega)⟩);clear a0 a1 a2 h1 Hw;go_wp2;go_ret;exact ⟨_,rfl,HE.out⟩
def Zgl (C:Zm) (S:Zcm) (dom:Int):Int:=if Qo C S≠0 then Qo C S else if inR dom 0 (C.d-1) then 0 else 5
theorem Zj4 (C:Zm) (B:Mem) (S:Zcm) (M:Zg0) (dom:Int) (w:World) (hC:Z1 w B C) (hS:Q8 w M S):
  Calls prog 38 #[cv C B,sv S M,.int .i64 dom] w fun e w'=>e=.returned (.int .i64 (Zgl C S dom))∧Below w.heap.size w w':=by
 have q1:=Za w (.cells (cl C B) 27);have q2:=Za (w.alloc (.cells (cl C B) 27)) (.cells (sl S M) 31);have a0:=(Zc w w.heap.size (cl C B).toList 27 rfl).below q2 lr;have a3:=Zc (w.alloc (.cells (cl C B) 27)) (w.heap.size+1) (sl S M).toList 31 (by simp);have a4:=hid (Zb q1 q2);have CK:=hid (Jv C B S M _ ((hC.keep q1).keep q2) ((hS.keep q1).keep q2));clear q1 q2 hC hS;obtain ⟨a5,a6,a7,a8,c5,c6,c7,c8⟩:=B;obtain ⟨aA,aR,cA,cR⟩:=M;obtain ⟨LL,RR,rd⟩:=S;dsimp only [cv,cl,sv,sl] at *
 have a9:=hid a0;obtain ⟨g0,g1,g2,g3,g4,g5,g6,g7,g8⟩:=a0.q9 rfl rfl rfl rfl rfl rfl rfl rfl rfl;obtain ⟨s0,s1,s2⟩:=a3.q3 rfl rfl rfl;clear a0 a3;go_enter func38,ntmps38;go_wp2_with fail;refine CK.out.mono ?_;rintro e w1 ⟨rfl,a1⟩;have a2:=hid (Zb a4 a1);have rX:=a9.out.below a1 lr;clear g0 g1 g2 g3 g4 g5 g6 g7 g8 s0 s1 s2 CK a1 a4;have g2:=rX.cell 2 _ rfl;by_cases h0:Qo C ⟨LL,RR,rd⟩=0
 ·have hd:=Y1 (Zbm h0).1.cfg
  have HD:=hid hd;have H0:=hid h0;rw [h0];have aa:wrap64 (C.d-1)=C.d-1:=by unfold wrap64;omega
  clear hd h0 rX;go_wp2_with fail;refine (Zs _ _ _ _).mono ?_;rintro e w' ⟨rfl,rfl⟩
  cases h1:inR dom 0 (C.d-1) with
  | true=>
   go_wp2;go_ret;exact ⟨Zh (by simp [Zgl,H0.out,h1]),a2.out⟩
  | false=>
   go_wp2;go_ret;exact ⟨Zh (by simp [Zgl,H0.out,h1]),a2.out⟩
 ·have hx:(Qo C ⟨LL,RR,rd⟩ != 0)=true:=by simp [h0]
  have HE:Hid (Zgl C ⟨LL,RR,rd⟩ dom=Qo C ⟨LL,RR,rd⟩):=hid (by simp [Zgl,h0]);clear h0 rX;generalize Qo C ⟨LL,RR,rd⟩=q at *
  go_wp2;go_ret;exact ⟨Zh HE.out.symm,a2.out⟩
def rbF (C:Zm) (n dom:Nat) (i:Nat):Bool:=(itM C.ch (idM n) n i).getD dom false
def Zec (C:Zm) (n dom:Nat) (S:Zcm):Zcm:=⟨(List.range n).map fun i=>if rbF C n dom i then S.acts.getD i [] else [],S.arr.filter fun a=>rbF C n dom (J8 C a),S.rounds⟩
theorem Zjd (h:Yv C L 0 0 0=0) (hC:ckC C=0) (hi:i<L.length):0≤L[i].2∧L[i].2.toNat<C.ow.length∧L[i].2<C.ow.length:=by
 unfold Yv at h
 split at h
 ·rename_i h1;exact absurd hC h1
 ·split at h
  ·omega
  ·split at h
   ·omega
   ·split at h
    ·omega
    ·split at h
     ·omega
     ·rename_i h5
      simp only [List.any_eq_true,not_exists,not_and,Zao] at h5
      have:=h5 _ (List.getElem_mem hi)
      simp [inR] at this;omega
theorem Zsp (hC:ckC C=0) (hi:i<C.ow.length):0≤C.ow[i]∧C.ow[i]<C.d:=by
 have h:=(Zcr hC).2.2.2.2.1;unfold Zvh at h
 split at h
 ·omega
 ·rename_i h1
  simp only [List.any_eq_true,not_exists,not_and] at h1
  have:=h1 _ (List.getElem_mem hi)
  simp [isD,inR] at this;omega
theorem Mat.at_ {r D:Nat} {M:Nat→List Bool} (h:Mat w r D D M) (hi:i<D) (hk:k<D):w.cell? ⟨r,i,none⟩=some (.slice (some ⟨r+1+i,0,none⟩) D D)∧w.cell? ⟨r+1+i,k,none⟩=some (.bool ((M i).getD k false)):=by
 obtain ⟨L,h1,h2,h3⟩:=h.outer;have hl:=h.len i hi;refine ⟨h1.cell i _ (h3 i hi),(h.rows i hi).cell k _ ?_⟩;simp [bl,show k<(M i).length by omega]
structure KpA (n0:Nat) (w:World) (gA n k:Nat) (LL:Nat→List Qg):Prop where
 row:∃ cs,Zf w gA 56 cs∧cs.length=n∧(∀ i,i<k→∃ a c,cs[i]? = some (.slice a (LL i).length c)∧(∀ wx,Ext (fun k=>k<n0) w wx→Yn wx a (LL i))∧(LL i).length≤c∧(LL i).length≤9223372036854775807)∧(∀ i,k≤i→i<n→cs[i]? = some (.slice none 0 0))
theorem KpA.keep {LL:Nat→List Qg} (h:KpA n0 w gA n k LL) (hb:Below w.heap.size w w'):KpA n0 w' gA n k LL:=by
 obtain ⟨cs,h1,h2,h3,h4⟩:=h.row;refine ⟨cs,h1.below hb lr,h2,fun i hi=>?_,h4⟩;obtain ⟨a,c,e1,e2,e3⟩:=h3 i hi;exact ⟨a,c,e1,fun wx hx=>e2 wx ((Ext.below hb).trans hx),e3⟩
theorem KpA.start {LL:Nat→List Qg} (h:w.heap[gA]? = some (.cells (madeCells #[.slice none 0 0] n) 56 (0,0))):KpA n0 w gA n 0 LL:=
 ⟨(madeCells #[.slice none 0 0] n).toList,by simpa [Zf] using h,by simp [size_madeCells],fun i hi=>by omega,fun i _ hn=>by simp [madeCells,hn,Nat.mod_one]⟩
theorem KpA.none {LL:Nat→List Qg} (h:KpA n0 w gA n k LL) (hk:k<n) (hL:LL k=[]):KpA n0 w gA n (k+1) LL:=by
 obtain ⟨cs,h1,h2,h3,h4⟩:=h.row;refine ⟨cs,h1,h2,fun i hi=>?_,fun i hi hn=>h4 i (by omega) hn⟩;by_cases e:i=k
 ·subst e
  refine ⟨Option.none,0,?_,fun wx hx j hj=>?_,?_,?_⟩
  ·rw [hL];exact h4 i lr hk
  ·rw [hL] at hj;simp at hj
  ·rw [hL];simp
  ·rw [hL];simp
 ·exact h3 i (by omega)
theorem KpA.put {LL:Nat→List Qg} (h:KpA n0 w gA n k LL) (hk:k<n) (hb:Below w.heap.size w w') (hg:gA<n0) (hn0:n0≤w.heap.size) {v:Value} (hv:w'.ownsRow w.heap.size 63 3 v (LL k).length (fA (LL k))):KpA n0 (w'.setCell ⟨gA,k,Option.none⟩ v) gA n (k+1) LL:=by
 obtain ⟨cs,h1,h2,h3,h4⟩:=(h.keep hb).row;have hx:Ext (fun k=>k<n0) w' (w'.setCell ⟨gA,k,Option.none⟩ v):=Ext.set (X:=fun k=>k<n0) w' hg k v;refine ⟨_,Ze h1 k v,by rw [List.length_set];exact h2,fun i hi=>?_,fun i hi hn=>?_⟩
 ·by_cases e:i=k
  ·subst e
   obtain ⟨a,c,ev,hc,hm,_⟩:=Zu hv;refine ⟨a,c,?_,fun wx hw=>?_,hc,by simp only [maxLen] at hm;omega⟩
   ·rw [List.getElem?_set_self (by omega),ev]
   ·rw [ev] at hv
    have a0:=hx.trans hw;exact Zpj (Zz (Zi hv fun x hx'=>a0.2 x (Zt hv x hx') (by have:=Zv hv x hx';omega))).1
  ·obtain ⟨a,c,e1,e2,e3⟩:=h3 i (by omega)
   exact ⟨a,c,by rw [List.getElem?_set_ne (Ne.symm e)];exact e1,fun wx hw=>e2 wx (hx.trans hw),e3⟩
 ·rw [List.getElem?_set_ne (by omega)]
  exact h4 i (by omega) hn
theorem KpA.acts {wx:World} {LL:Nat→List Qg} (h:KpA n0 w gA n n LL) (hx:Ext (fun k=>k<n0) w wx) (hg:wx.heap[gA]? = w.heap[gA]?):Zfk wx (some ⟨gA,0,Option.none⟩) ((List.range n).map LL):=by
 obtain ⟨cs,h1,h2,h3,h4⟩:=h.row;intro i hi;have a0:i<n:=by simpa using hi
 obtain ⟨a,c,e1,e2,e3,e4⟩:=h3 i a0;have hr:Zf wx gA 56 cs:=hg.trans h1;refine ⟨gA,0,a,c,rfl,?_,?_,?_,?_⟩<;>simp only [List.getElem_map,List.getElem_range]
 ·rw [Nat.zero_add];exact hr.cell i _ e1
 ·exact e2 wx hx
 ·exact e3
 ·exact e4
theorem Zre (C:Zm) (B:Mem) (S:Zcm) (M:Zg0) (n dom:Nat) (w:World) (hC:Z1 w B C) (hS:Q8 w M S) (hsc:Qo C S=0) (hn:C.d=(n:Int)) (hdom:dom<n):
  Calls prog 18 #[cv C B,sv S M,.int .i64 (dom:Int)] w fun e w'=>∃ M':Zg0,e=.returned (.tuple #[sv (Zec C n dom S) M',.int .i64 0])∧(∀ wx:World,Ext (fun k=>k<w.heap.size) w' wx→Q8 wx M' (Zec C n dom S))∧Below w.heap.size w w':=by
 obtain ⟨bd,be,aw,d6⟩:=Zbm hsc;have ft:n≤4:=by have:=(Y1 bd.cfg).2.2.2;omega
 have d7:=Zp0 n (by omega);have q1:=Za w (.cells (cl C B) 27);have q2:=Za (w.alloc (.cells (cl C B) 27)) (.cells (sl S M) 31);have q3:=Za ((w.alloc (.cells (cl C B) 27)).alloc (.cells (sl S M) 31)) (.cells #[.slice none 0 0,.slice none 0 0,.int .i64 0] 31);have bf:=hid (((hC.keep q1).keep q2).keep q3);have bg:=hid (((hS.keep q1).keep q2).keep q3);have bh:=((Zc w w.heap.size (cl C B).toList 27 rfl).below q2 lr).below q3 lr;have bi:=(Zc (w.alloc (.cells (cl C B) 27)) (w.heap.size+1) (sl S M).toList 31 (by simp)).below q3 lr;have cd:=hid (Zc ((w.alloc (.cells (cl C B) 27)).alloc (.cells (sl S M) 31)) (w.heap.size+2) [.slice none 0 0,.slice none 0 0,.int .i64 0] 31 (by simp));have au:=hid (Zb q1 (Zb q2 q3));have ak:Hid ((((w.alloc (.cells (cl C B) 27)).alloc (.cells (sl S M) 31)).alloc (.cells #[.slice none 0 0,.slice none 0 0,.int .i64 0] 31)).heap.size=w.heap.size+3):=hid (by simp);have CK:=hid (Zj4 C B S M (dom:Int) _ bf bg);have ce:Zgl C S (dom:Int)=0:=by unfold Zgl;rw [if_neg (by rw [hsc];decide),if_pos (by simp [inR];omega)]
 rw [ce] at CK;have b7:=hid bd;have HN:=hid hn;have al:=hid aw;have am:Hid (S.acts.length=n):=hid (by omega);clear q1 q2 q3 hC hS hsc bd be aw d6 ce hn;obtain ⟨a5,a6,a7,a8,c5,c6,c7,c8⟩:=B;obtain ⟨aA,aR,cA,cR⟩:=M;obtain ⟨LL,RR,rd⟩:=S;dsimp only [cv,cl,sv,sl] at *
 have cf:=hid bh;have cg:=hid bi;obtain ⟨g0,g1,g2,g3,g4,g5,g6,g7,g8⟩:=bh.q9 rfl rfl rfl rfl rfl rfl rfl rfl rfl;obtain ⟨s0,s1,s2⟩:=bi.q3 rfl rfl rfl;clear bh bi;go_enter func18,ntmps18;go_wp2_with fail;refine CK.out.mono ?_;rintro e w1 ⟨rfl,ag⟩;generalize World.alloc (World.alloc (World.alloc w _) _) _=W at *
 clear g0 g1 g2 g3 g4 g5 g6 g7 g8 s0 s1 s2 CK;have ch:=hid (Zb au ag);have bj:=hid (bf.out.keep ag);have ci:=hid (bg.out.keep ag);have bk:=cf.out.below ag lr;have cj:=hid (cd.out.below ag lr);have cm:=hid bk;have cn:=hid (cg.out.below ag lr);have d8:Hid (w.heap.size+3≤w1.heap.size):=hid (by have:=ag.size;have:=ak.out;omega);obtain ⟨g0,g1,g2,g3,g4,g5,g6,g7,g8⟩:=bk.q9 rfl rfl rfl rfl rfl rfl rfl rfl rfl;have CR:=hid (Zjk C ⟨a5,a6,a7,a8,c5,c6,c7,c8⟩ w1 bj b7.out.cfg n HN);dsimp only [cv,cl] at CR;clear bk ag cf cg cd bf bg au ak;go_wp2_with fail;refine CR.out.mono ?_;rintro e w2 ⟨r,rfl,ax,hr,ah⟩;clear g0 g1 g2 g3 g4 g5 g6 g7 g8 CR;have d9:=hid (Zb ch ah);have co:=hid (cm.out.below ah lr);have bm:=hid (cn.out.below ah lr);have da:=hid (cj.out.below ah lr);have db:=hid (bj.out.keep ah);have cp:=hid (ci.out.keep ah);have ay:=hid ax;have b8:Hid (w.heap.size+3≤w2.heap.size∧w.heap.size+3≤r):=hid (by have:=ah.size;have:=d8.out;omega);have g2:=co.out.cell 2 _ rfl;rw [HN.out] at g2;have s2:=bm.out.cell 2 _ rfl;have dc:=fun o=>Zl o g2
 have dd:=fun o o'=>Zl o' (Zl o g2)
 have de:=fun o=>Zl o s2
 have df:=fun o o'=>Zl o' (Zl o s2)
 clear ax hr ah ch cm cn cj bj ci;go_upto_region 5 with fail;go_cut [11] (fun t wx=>∃ Bo gA:Nat,t=.pointer (some ⟨Bo,0,none⟩)∧Zf wx Bo 31 [.slice (some ⟨gA,0,none⟩) n n,.slice none 0 0,.int .i64 rd]∧KpA wx.heap.size wx gA n 0 (fun i=>if rbF C n dom i then LL.getD i [] else [])∧Below w2.heap.size w2 wx∧w2.heap.size≤Bo∧w2.heap.size≤gA)
 case first=>
  go_region
  all_goals
   go_wp2;go_meet
   first
    | exact ⟨w2.heap.size+1,w2.heap.size,rfl,(Zc (w2.alloc (.cells (madeCells #[.slice none 0 0] n) 56)) (w2.heap.size+1) [.slice (some ⟨w2.heap.size,0,none⟩) n n,.slice none 0 0,.int .i64 rd] 31 (by simp)).drew,KpA.start ((Below.heap_alloc _ _ _ (by simp)).trans (heap_alloc_new w2 (.cells (madeCells #[.slice none 0 0] n) 56))),(Zb (Za _ _) (Za _ _)).drew,by omega,lr⟩
    | exact ⟨w2.heap.size,w2.heap.size+1,rfl,((Zc w2 w2.heap.size [.slice (some ⟨w2.heap.size+1,0,none⟩) n n,.slice none 0 0,.int .i64 rd] 31 rfl).below (Za _ _) lr).drew,KpA.start (by have:=heap_alloc_new (w2.alloc (.cells #[.slice (some ⟨w2.heap.size+1,0,none⟩) n n,.slice none 0 0,.int .i64 rd] 31)) (.cells (madeCells #[.slice none 0 0] n) 56);rw [show (w2.alloc (.cells #[.slice (some ⟨w2.heap.size+1,0,none⟩) n n,.slice none 0 0,.int .i64 rd] 31)).heap.size=w2.heap.size+1 by simp] at this;exact this),(Zb (Za _ _) (Za _ _)).drew,lr,by omega⟩
 case rest=>
  obtain ⟨Bo,gA,rfl,a2,aa,bn,cq,cr⟩:=hcut;have cs:=hid a2;have ct:=hid aa;have au:=hid bn;have b9:=hid (And.intro cq cr);obtain ⟨fu,bo,-⟩:=aa.row;have an:Hid (gA≠Bo∧gA<wc.heap.size∧Bo<wc.heap.size):=hid ⟨Qn bo a2 (by decide),bo.lt,a2.lt⟩;have s0:=(bm.out.below bn lr).cell 0 _ rfl;clear a2 aa bn cq cr bo d7 g2 dc dd s2 de df;go_wp2;clear s0;go_loopw [38] (fun i wr=>∃ k:Nat,k≤n∧i=.int .i64 k∧KpA wc.heap.size wr gA n k (fun i=>if rbF C n dom i then LL.getD i [] else [])∧Zf wr Bo 31 [.slice (some ⟨gA,0,none⟩) n n,.slice none 0 0,.int .i64 rd]∧Below w2.heap.size w2 wr∧wc.heap.size≤wr.heap.size) (fun i _=>n-(intOf i).toNat)
  case atStart=>exact ⟨0,zl,rfl,ct.out,cs.out,au.out,lr⟩
  case round=>
   obtain ⟨k,hk,rfl,aa,a2,a1,ad⟩:=hrel;by_cases hlt:k<n
   ·have fv:(k:Int)<(LL.length:Int):=by have:=am.out;omega
    have fw:(k:Int)<(n:Int):=by omega
    have fx:(0:Int)≤(k:Int):=by omega
    have dg:(dom:Int)<(n:Int):=by omega
    have dh:(0:Int)≤(dom:Int):=by omega
    obtain ⟨m1,m2⟩:=(ay.out.below a1).at_ hlt hdom;have bp:k<LL.length:=by have:=am.out;omega
    obtain ⟨bA,oA,a',c',eA,ac,bq,fy,fz⟩:=(cp.out.keep a1).acts k bp;dsimp only at eA;subst eA;have di:=hid bq;have bs:=hid aa;have ab:=hid a2;have a4:=hid a1;have ao:=hid ad;have bt:Hid (LL[k].length≤60):=hid (by have:=(b7.out.acts k).1;rw [show (⟨LL,RR,rd.toNat⟩:Scr).acts.getD k []=LL[k] by simp [bp]] at this;exact this);have dj:Hid (LL.getD k []=LL[k]):=hid (by simp [bp]);change wr.cell? ⟨r+1+k,dom,none⟩=some (.bool (rbF C n dom k)) at m2
    cases hrb:rbF C n dom k with
    | true=>
     have bu:Hid ((fun i=>if rbF C n dom i then LL.getD i [] else []) k=LL[k]):=hid (by simp only [hrb,if_true];exact dj.out);rw [hrb] at m2;have o0:=a2.cell 0 _ rfl;obtain ⟨g9,cu,dk,-,cw⟩:=aa.row;have dm:=hid cu;have dn:=hid (cw k lr hlt);have bv:Below wr.heap.size wr wr.drew:=br.drew;have CA:=hid (Zps a' LL[k] c' wr.drew (di.out.keep bv) (by have:=bt.out;omega));have cx:Hid (∀ w',Below wr.heap.size wr w'→w'.cell? ⟨Bo,0,none⟩=some (.slice (some ⟨gA,0,none⟩) n n)):=hid fun w' hb=>(ab.out.below hb lr).cell 0 _ rfl
     have e1:¬ gA=Bo:=an.out.1;generalize LL[k]=Lk at *
     clear aa a2 a1 ad cu dk cw bq hrb;go_upto_region 10 with fail;go_region_held3 (fun w'=>w'.cell? ⟨Bo,0,none⟩=some (.slice (some ⟨gA,0,none⟩) n n))
      (first|with_reducible exact cx.out _ hB2|with_reducible exact cx.out _ bv|go_keep)
      (first|(go_at_call 39;with_reducible refine Calls.mono CA.out ?_;rintro e w5 ⟨v,rfl,bw,cy⟩;obtain ⟨va,vc,rfl,_⟩:=Zu bw;have hB2:=Zb bv cy;have dp:=hid bw;have cz:=hid (dm.out.below hB2 lr);have y0:=cz.out.cell k _ dn.out;have z0:=cz.out.frozen k))
     all_goals
      have HE:=hid (bs.out.put hlt hB2 an.out.2.1 ao.out (v:=.slice va Lk.length vc) (by rw [bu.out];exact dp.out));have dq:=hid (show Zf (w5.setCell ⟨gA,k,none⟩ (.slice va Lk.length vc)) Bo 31 [.slice (some ⟨gA,0,none⟩) n n,.slice none 0 0,.int .i64 rd] from (Zd w5 gA k _ Bo (Ne.symm an.out.1)).trans (ab.out.below hB2 lr));have dr:=hid ((a4.out.trans (hB2.mono a4.out.size)).setCell (p:=⟨gA,k,none⟩) (show w2.heap.size≤gA from b9.out.2) (.slice va Lk.length vc));have ds:Hid (wc.heap.size≤(w5.setCell ⟨gA,k,none⟩ (.slice va Lk.length vc)).heap.size):=hid (by have:=hB2.size;have:=ao.out;simp [World.setCell];omega);clear y0 z0 cy bw o0 m1 m2 ac;go_wp2;go_roundw
      case rel=>exact ⟨k+1,by omega,by go_num,HE.out,dq.out,dr.out,ds.out⟩
      case measure=>simp [intOf];omega
    | false=>
     have bu:Hid ((fun i=>if rbF C n dom i then LL.getD i [] else []) k=[]):=hid (by simp only [hrb];rfl);rw [hrb] at m2;have HE:=hid (aa.none hlt bu);clear aa a2 a1 ad hrb bq;go_wp2;go_roundw
     case rel=>exact ⟨k+1,by omega,by go_num,HE.out,ab.out,a4.out,ao.out⟩
     case measure=>simp [intOf];omega
   ·have d0:k=n:=by omega
    have ga:¬ (k:Int)<(LL.length:Int):=by have:=am.out;omega
    rw [d0] at aa;have bx:Hid (∀ wx,Ext (fun x=>x=Bo∨x<w.heap.size+3) wr wx→Zfk wx (some ⟨gA,0,none⟩) ((List.range n).map (fun i=>if rbF C n dom i then LL.getD i [] else []))):=hid fun wx hx=>aa.acts (hx.wider fun x e=>by have:=an.out;have:=b8.out;have:=au.out.size;omega) (hx.2 gA (by have:=an.out;omega) (by have:=an.out;have:=b8.out;have:=b9.out;omega))
    have ab:=hid a2;have a4:=hid a1;have s1:=(bm.out.below a1 lr).cell 1 _ rfl;have dt:Bo<wr.heap.size:=by have:=an.out;omega
    clear aa a2 a1 ad hlt d0 ct cs au;obtain ⟨W3,rfl⟩:∃ x,x=wr:=⟨_,rfl⟩
    go_wp2;clear s1;go_loopw [60] (fun i wr=>∃ j:Nat,j≤RR.length∧i=.int .i64 j∧∃ va vc,Zf wr Bo 31 [.slice (some ⟨gA,0,none⟩) n n,.slice va ((RR.take j).filter (fun a=>rbF C n dom (J8 C a))).length vc,.int .i64 rd]∧wr.ownsRow W3.heap.size 58 2 (.slice va ((RR.take j).filter (fun a=>rbF C n dom (J8 C a))).length vc) ((RR.take j).filter (fun a=>rbF C n dom (J8 C a))).length (fR ((RR.take j).filter (fun a=>rbF C n dom (J8 C a))))∧(∀ x,x<W3.heap.size→x≠Bo→wr.heap[x]? = W3.heap[x]?)∧Below w2.heap.size w2 wr∧W3.heap.size≤wr.heap.size) (fun i _=>RR.length-(intOf i).toNat)
    case atStart=>exact ⟨0,zl,rfl,Option.none,0,ab.out,World.ownsRow_nil _ _ _ _,fun _ _ _=>rfl,a4.out,lr⟩
    case round=>
     obtain ⟨j,hj,rfl,va,vc,a2,a0,az,a1,ad⟩:=hrel;by_cases hjt:j<RR.length
     ·have gb:(j:Int)<(RR.length:Int):=by omega
      have gc:(0:Int)≤(j:Int):=by omega
      have dg:(dom:Int)<(n:Int):=by omega
      have dh:(0:Int)≤(dom:Int):=by omega
      have bz:=Zjd al.out b7.out.cfg hjt;obtain ⟨ln,ba⟩:∃ ln:Nat,Hid (RR[j].2=(ln:Int)):=⟨RR[j].2.toNat,hid (by have:=bz.1;omega)⟩
      have c0:ln<C.ow.length:=by have:=ba.out;have:=bz.2.1;omega
      have du:=Zsp b7.out.cfg c0;obtain ⟨on,c1⟩:∃ on:Nat,Hid (C.ow[ln]=(on:Int)):=⟨C.ow[ln].toNat,hid (by omega)⟩
      have dw:on<n:=by have:=c1.out;have:=HN.out;omega
      have dx:Hid (J8 C RR[j]=on):=hid (by
       unfold J8;rw [ba.out,Int.toNat_natCast,show C.ow.getD ln 0=C.ow[ln] by simp [c0],c1.out,Int.toNat_natCast])
      have d1:Hid (((RR.take (j+1)).filter (fun a=>rbF C n dom (J8 C a)))=((RR.take j).filter (fun a=>rbF C n dom (J8 C a)))++(if rbF C n dom on then [RR[j]] else [])):=hid (by
       rw [List.take_succ_eq_append_getElem hjt,List.filter_append];congr 1;simp only [List.filter_cons,List.filter_nil];rw [dx.out])
      obtain ⟨m1,m2⟩:=(ay.out.below a1).at_ dw hdom;change wr.cell? ⟨r+1+on,dom,none⟩=some (.bool (rbF C n dom on)) at m2;obtain ⟨bR,oR,eR,p0,p1⟩:=(cp.out.keep a1).arr j hjt;dsimp only at eR;subst eR;rw [ba.out] at p1;have r6:=(co.out.below a1 lr).cell 6 _ rfl;obtain ⟨b6,o6,e6,bb⟩:=(db.out.keep a1).ow ln c0;dsimp only at e6;subst e6;rw [c1.out] at bb;have dy:(ln:Int)<(C.ow.length:Int):=by omega
      have dz:(0:Int)≤(ln:Int):=by omega
      have f3:(on:Int)<(n:Int):=by omega
      have f4:(0:Int)≤(on:Int):=by omega
      have f5:=hid a2;have f6:=hid a0;have f7:=hid az;have f8:=hid a1;have ak:=hid ad;have c2:Hid (RR[j]=(RR[j].1,(ln:Int))):=hid (by rw [← ba.out]);generalize hA1:RR[j].1=at1 at *
      have q4:=Za wr (.cells #[.int .i64 at1,.int .i64 (ln:Int)] 58);have f9:=Zl (.cells #[.int .i64 at1,.int .i64 (ln:Int)] 58) m1;have c3:=Zl (.cells #[.int .i64 at1,.int .i64 (ln:Int)] 58) m2;have fa:=Zl (.cells #[.int .i64 at1,.int .i64 (ln:Int)] 58) r6;have c4:=Zl (.cells #[.int .i64 at1,.int .i64 (ln:Int)] 58) bb;have ap:=hid (a2.below q4 lr);have b2:=hid (Zy a0 q4);have b3:Hid (∀ x,x<W3.heap.size→x≠Bo→(wr.alloc (.cells #[.int .i64 at1,.int .i64 (ln:Int)] 58)).heap[x]? = W3.heap[x]?):=hid fun x h1 h2=>(q4.block x (by omega)).trans (az x h1 h2)
      have aq:=hid (a1.trans (q4.mono a1.size));have ar:Hid (W3.heap.size≤(wr.alloc (.cells #[.int .i64 at1,.int .i64 (ln:Int)] 58)).heap.size):=hid (Nat.le_trans ad q4.size);have R4:=hid (Zc wr wr.heap.size [.int .i64 at1,.int .i64 (ln:Int)] 58 rfl);have d2:Hid (((RR.take j).filter (fun a=>rbF C n dom (J8 C a))).length≤40):=hid (by
       have h1:=Zb1 al.out;have h2:=List.length_filter_le (fun a=>rbF C n dom (J8 C a)) (RR.take j);have h3:(RR.take j).length≤j:=by simp;omega
       omega)
      have d3:Hid (j+1≤RR.length):=hid hjt;have fb:RR.length≤40:=Zb1 al.out;clear a2 a0 az a1 ad bz du hA1 q4
      cases hrb:rbF C n dom on with
      | true=>
       rw [hrb] at m2 c3;have HE:Hid (((RR.take (j+1)).filter (fun a=>rbF C n dom (J8 C a)))=((RR.take j).filter (fun a=>rbF C n dom (J8 C a)))++[(at1,(ln:Int))]):=hid (by rw [d1.out,hrb];simp only [if_true];rw [c2.out]);generalize ((RR.take j).filter (fun a=>rbF C n dom (J8 C a)))=AR at *
       have o1:=ap.out.cell 1 _ rfl;obtain ⟨b0,b1⟩:=R4.out.q2 rfl rfl;have q5:=Za (wr.alloc (.cells #[.int .i64 at1,.int .i64 (ln:Int)] 58)) (.cells #[.int .i64 at1,.int .i64 (ln:Int)] 58);have R5:=Zc (wr.alloc (.cells #[.int .i64 at1,.int .i64 (ln:Int)] 58)) (wr.heap.size+1) [.int .i64 at1,.int .i64 (ln:Int)] 58 (by simp);have fc:Hid (Q9 ((wr.alloc (.cells #[.int .i64 at1,.int .i64 (ln:Int)] 58)).alloc (.cells #[.int .i64 at1,.int .i64 (ln:Int)] 58)) (some ⟨wr.heap.size+1,0,none⟩) (fR [(at1,(ln:Int))])):=hid fun _=>⟨_,0,rfl,fun j u hu=>by rw [Nat.zero_add];exact R5.cell j u hu⟩
       have b4:=hid (Zy b2 q5);have c9:=hid (ap.out.below q5 lr);have ca:Hid (∀ x,x<W3.heap.size→x≠Bo→((wr.alloc (.cells #[.int .i64 at1,.int .i64 (ln:Int)] 58)).alloc (.cells #[.int .i64 at1,.int .i64 (ln:Int)] 58)).heap[x]? = W3.heap[x]?):=hid fun x h1 h2=>(q5.block x (by have:=ar.out;omega)).trans (b3.out x h1 h2)
       have b5:=hid (aq.out.trans (q5.mono aq.out.size));have ae:Hid (W3.heap.size≤((wr.alloc (.cells #[.int .i64 at1,.int .i64 (ln:Int)] 58)).alloc (.cells #[.int .i64 at1,.int .i64 (ln:Int)] 58)).heap.size):=hid (Nat.le_trans ar q5.size);clear hrb m1 m2 r6 bb q5 R5;go_wp2_with (at_builtin;refine Js rfl _ _ 29 58 rfl _ 2 16 underlying29 Tryz.info58x rfl (by omega) W3.heap.size (.slice va AR.length vc) AR.length (fR AR) rfl b4.out 1 (fR [(at1,(ln:Int))]) rfl (Zrq _) _ _ rfl fc.out (by have:=d2.out;simp [maxLen];omega) (by have:=d2.out;omega) ae.out ?_);intro v8 w8 a9 a3;obtain ⟨ai,aj,rfl,-⟩:=Zu a9;rw [← Zvj] at a9;generalize World.alloc (World.alloc wr _) _=w7 at *
       have bc:∀ k,(Value.slice va AR.length vc).ownBlock=some k→W3.heap.size≤k:=fun k hk=>Zv b4.out k hk
       have cb:=hid (show Zf w8 Bo 31 [.slice (some ⟨gA,0,none⟩) n n,.slice va AR.length vc,.int .i64 rd] from (a3.block Bo (by have:=ae.out;omega) (fun e=>by have:=bc _ e.symm;omega)).trans c9);have cc:Hid (∀ x,x<W3.heap.size→x≠Bo→w8.heap[x]? = W3.heap[x]?):=hid fun x h1 h2=>(a3.block x (by have:=ae.out;omega) (fun e=>by have:=bc _ e.symm;omega)).trans (ca.out x h1 h2)
       have fd:=hid (b5.out.grown a3 b5.out.size (fun k hk=>by have:=bc k hk;have:=a4.out.size;omega));have ff:Hid (W3.heap.size≤w8.heap.size):=hid (Nat.le_trans ae a3.size);have d4:Hid (w8.ownsRow W3.heap.size 58 2 (.slice ai (AR++[(at1,(ln:Int))]).length aj) (AR++[(at1,(ln:Int))]).length (fR (AR++[(at1,(ln:Int))]))):=hid (by rw [List.length_append];exact a9);have y1:=cb.out.cell 1 _ rfl;have z1:=cb.out.frozen 1;have fg:=hid (Ze cb.out 1 (.slice ai (AR.length+1) aj));have fh:Hid ((w8.setCell ⟨Bo,1,none⟩ (.slice ai (AR.length+1) aj)).ownsRow W3.heap.size 58 2 (.slice ai (AR++[(at1,(ln:Int))]).length aj) (AR++[(at1,(ln:Int))]).length (fR (AR++[(at1,(ln:Int))]))):=hid (Zi d4 fun x hx=>Zd _ _ _ _ x (by have:=Zv d4 x hx;omega));have fi:Hid (∀ x,x<W3.heap.size→x≠Bo→(w8.setCell ⟨Bo,1,none⟩ (.slice ai (AR.length+1) aj)).heap[x]? = W3.heap[x]?):=hid fun x h1 h2=>(Zd _ _ _ _ x h2).trans (cc.out x h1 h2)
       have fj:=hid (fd.out.setCell (p:=⟨Bo,1,none⟩) (show w2.heap.size≤Bo from b9.out.1) (.slice ai (AR.length+1) aj));have fk:Hid (W3.heap.size≤(w8.setCell ⟨Bo,1,none⟩ (.slice ai (AR.length+1) aj)).heap.size):=hid (by simp [World.setCell];exact ff.out);have fl:Hid ((AR++[(at1,(ln:Int))]).length=AR.length+1):=hid (by simp);clear bc a3 a9 o1 b0 b1 f9 c3 fa c4;go_wp2;go_roundw
       case rel=>
        exact ⟨j+1,d3.out,by go_num,ai,aj,by rw [HE.out,fl.out];exact fg.out,by rw [HE.out];exact fh.out,fi.out,fj.out,fk.out⟩
       case measure=>(simp [intOf];omega)
      | false=>
       rw [hrb] at m2 c3;have HE:Hid (((RR.take (j+1)).filter (fun a=>rbF C n dom (J8 C a)))=((RR.take j).filter (fun a=>rbF C n dom (J8 C a)))):=hid (by rw [d1.out,hrb];simp);clear hrb m1 m2 r6 bb;go_wp2;generalize World.alloc wr _=w4 at *
       go_roundw
       case rel=>exact ⟨j+1,d3.out,by go_num,va,vc,by rw [HE.out];exact ap.out,by rw [HE.out];exact b2.out,b3.out,aq.out,ar.out⟩
       case measure=>(simp [intOf];omega)
     ·have d5:j=RR.length:=by omega
      have gd:¬ (j:Int)<(RR.length:Int):=by omega
      rw [d5] at a2 a0;rw [List.take_length] at a2 a0;have fm:w.heap.size+3≤W3.heap.size:=by have:=b8.out;have:=a4.out.size;omega
      have fn:Hid (∀ wx:World,Ext (fun x=>x<w.heap.size+3) wr wx→Q8 wx ⟨some ⟨gA,0,none⟩,va,n,vc⟩ (Zec C n dom ⟨LL,RR,rd⟩)):=hid fun wx hx=>⟨bx.out wx ⟨Nat.le_trans ad hx.1,fun x h1 h2=>(hx.2 x (by omega) (fun e=>h2 (Or.inr e))).trans (az x h1 (fun e=>h2 (Or.inl e)))⟩,Zh4 (Zz (Zi a0 fun x h=>hx.2 x (Zt a0 x h) (by have:=Zv a0 x h;omega))).1,by show ((List.range n).map _).length≤_;simp;omega,(Zz a0).2.2⟩
      have fo:=hid (Zb d9 a1);have af:=hid (da.out.below a1 lr);obtain ⟨o0,o1,o2⟩:=a2.q3 rfl rfl rfl;have x0:wr.cell? ⟨w.heap.size+1+1,0,none⟩=some (.slice none 0 0):=af.out.cell 0 _ rfl;have x1:wr.cell? ⟨w.heap.size+1+1,1,none⟩=some (.slice none 0 0):=af.out.cell 1 _ rfl;have x2:wr.cell? ⟨w.heap.size+1+1,2,none⟩=some (.int .i64 0):=af.out.cell 2 _ rfl;have f0:wr.frozen? ⟨w.heap.size+1+1,0,none⟩=false:=af.out.frozen 0;have f1:wr.frozen? ⟨w.heap.size+1+1,1,none⟩=false:=af.out.frozen 1;have f2:wr.frozen? ⟨w.heap.size+1+1,2,none⟩=false:=af.out.frozen 2;have fp:Hid ((Zec C n dom ⟨LL,RR,rd⟩).acts.length=n):=hid (by show ((List.range n).map _).length=n;simp);have fq:¬ w.heap.size+1+1=Bo:=by have:=b9.out.1;have:=b8.out;omega
      clear a2 a0 az a1 ad d5 fm;have fr:Hid (∀ wx:World,Ext (fun k=>k<w.heap.size) (((wr.setCell ⟨w.heap.size+1+1,0,none⟩ (.slice (some ⟨gA,0,none⟩) n n)).setCell ⟨w.heap.size+1+1,1,none⟩ (.slice va (RR.filter (fun a=>rbF C n dom (J8 C a))).length vc)).setCell ⟨w.heap.size+1+1,2,none⟩ (.int .i64 rd)) wx→Q8 wx ⟨some ⟨gA,0,none⟩,va,n,vc⟩ (Zec C n dom ⟨LL,RR,rd⟩)):=hid fun wx hx=>fn.out wx (((((Ext.refl _ _).trans (Ext.set (X:=fun x=>x<w.heap.size+3) _ (show w.heap.size+1+1<w.heap.size+3 by omega) 0 (.slice (some ⟨gA,0,none⟩) n n))).trans (Ext.set (X:=fun x=>x<w.heap.size+3) _ (show w.heap.size+1+1<w.heap.size+3 by omega) 1 (.slice va (RR.filter (fun a=>rbF C n dom (J8 C a))).length vc))).trans (Ext.set (X:=fun x=>x<w.heap.size+3) _ (show w.heap.size+1+1<w.heap.size+3 by omega) 2 (.int .i64 rd))).trans (hx.wider fun k hk=>by show k<w.heap.size+3;omega))
      have fs:=hid (((fo.out.setCell (p:=⟨w.heap.size+1+1,0,none⟩) (show w.heap.size≤w.heap.size+1+1 by omega) (.slice (some ⟨gA,0,none⟩) n n)).setCell (p:=⟨w.heap.size+1+1,1,none⟩) (show w.heap.size≤w.heap.size+1+1 by omega) (.slice va (RR.filter (fun a=>rbF C n dom (J8 C a))).length vc)).setCell (p:=⟨w.heap.size+1+1,2,none⟩) (show w.heap.size≤w.heap.size+1+1 by omega) (.int .i64 rd));have K0:Hid ((wr.setCell ⟨w.heap.size+1+1,0,none⟩ (.slice (some ⟨gA,0,none⟩) n n)).cell? ⟨w.heap.size+1+1,0,none⟩=some (.slice (some ⟨gA,0,none⟩) n n)):=hid ((Ze af.out 0 (.slice (some ⟨gA,0,none⟩) n n)).cell 0 _ rfl);have K1:Hid (((wr.setCell ⟨w.heap.size+1+1,0,none⟩ (.slice (some ⟨gA,0,none⟩) n n)).setCell ⟨w.heap.size+1+1,1,none⟩ (.slice va (RR.filter (fun a=>rbF C n dom (J8 C a))).length vc)).cell? ⟨w.heap.size+1+1,1,none⟩=some (.slice va (RR.filter (fun a=>rbF C n dom (J8 C a))).length vc)):=hid ((Ze (Ze af.out 0 (.slice (some ⟨gA,0,none⟩) n n)) 1 (.slice va (RR.filter (fun a=>rbF C n dom (J8 C a))).length vc)).cell 1 _ rfl);have K2:Hid ((((wr.setCell ⟨w.heap.size+1+1,0,none⟩ (.slice (some ⟨gA,0,none⟩) n n)).setCell ⟨w.heap.size+1+1,1,none⟩ (.slice va (RR.filter (fun a=>rbF C n dom (J8 C a))).length vc)).setCell ⟨w.heap.size+1+1,2,none⟩ (.int .i64 rd)).cell? ⟨w.heap.size+1+1,2,none⟩=some (.int .i64 rd)):=hid ((Ze (Ze (Ze af.out 0 (.slice (some ⟨gA,0,none⟩) n n)) 1 (.slice va (RR.filter (fun a=>rbF C n dom (J8 C a))).length vc)) 2 (.int .i64 rd)).cell 2 _ rfl);go_wp2;refine bodyPost_ret (v:=.tuple #[.agg #[.slice (some ⟨gA,0,none⟩) n n,.slice va (RR.filter (fun a=>rbF C n dom (J8 C a))).length vc,.int .i64 rd],.int .i64 0]) (by simp [results,results18,go_sem,K0.out,K1.out,K2.out]) rfl ⟨⟨some ⟨gA,0,none⟩,va,n,vc⟩,?_,?_,?_⟩
      ·dsimp only
       rw [fp.out];rfl
      ·exact fr.out
      ·exact fs.out
theorem Zin (p q:Zar→Bool) (h:¬ L.any q=true):¬ (L.filter p).any q=true:=by
 intro h2;obtain ⟨x,hx,hq⟩:=List.any_eq_true.1 h2;exact h (List.any_eq_true.2 ⟨x,(List.mem_filter.1 hx).1,hq⟩)
theorem Zk9 (p:Zar→Bool) (h:Yv C L 0 0 0=0):Yv C (L.filter p) 0 0 0=0:=by
 unfold Yv at h ⊢
 split at h
 ·rename_i h1;exact absurd h h1
 ·rename_i h1
  split at h
  ·omega
  ·rename_i h2
   split at h
   ·omega
   ·rename_i h3
    split at h
    ·omega
    ·rename_i h4
     split at h
     ·omega
     ·rename_i h5
      split at h
      ·omega
      ·rename_i h6
       have h7:=List.length_filter_le p L;rw [if_neg h1,if_neg h2,if_neg (by omega),if_neg (Zin p _ h4),if_neg (Zin p _ h5),if_neg h6,if_neg h6]
theorem Zpw (dom:Nat) (h:Qo C S=0) (hn:C.d=(n:Int)):Qo C (Zec C n dom S)=0:=by
 unfold Qo at h ⊢
 split at h
 ·rename_i h1;exact absurd h h1
 ·rename_i h1
  split at h
  ·omega
  ·rename_i h2
   split at h
   ·omega
   ·rename_i h3
    split at h
    ·rename_i h4;exact absurd h h4
    ·rename_i h4
     have h5:Yv C (Zec C n dom S).arr 0 0 0=0:=Zk9 _ (by omega);have hl:(Zec C n dom S).acts.length=n:=by show ((List.range n).map _).length=n;simp
     rw [if_neg h1,if_neg (by rw [hl];omega),if_neg (show ¬ inR (Zec C n dom S).rounds 0 8=false from h3),if_neg (by rw [h5];simp)];refine Qt _ _ fun i hi=>?_
     rw [hl] at hi;have e:(Zec C n dom S).acts.getD i []=if rbF C n dom i then S.acts.getD i [] else []:=by
      show ((List.range n).map _).getD i []=_
      simp [hi]
     rw [e];split
     ·exact Zx h i (by omega)
     ·rfl
theorem Zu2 (C:Zm) (B:Mem) (S:Zcm) (M:Zg0) (n dom:Nat) (w:World) (hC:Z1 w B C) (hS:Q8 w M S) (hsc:Qo C S=0) (hn:C.d=(n:Int)) (hdom:dom<n) (hc5:C.sl.length≤B.c5):
  Calls prog 11 #[cv C B,sv S M,.int .i64 (dom:Int)] w fun e w'=>∃ A:Yk,e=.returned (.tuple #[dv ((J9 C (ps (Zec C n dom S))).1 dom) A,.int .i64 0])∧Zax w.heap.size w' A ((J9 C (ps (Zec C n dom S))).1 dom)∧Below w.heap.size w w':=by
 have q1:=Za w (.cells (cl C B) 27);have q2:=Za (w.alloc (.cells (cl C B) 27)) (.cells (sl S M) 31);have q3:=Za ((w.alloc (.cells (cl C B) 27)).alloc (.cells (sl S M) 31)) (.cells #[.slice none 0 0,.slice none 0 0,.int .i64 0,.slice none 0 0,.slice none 0 0,.slice none 0 0,.slice none 0 0] 46);have af:=hid (((hC.keep q1).keep q2).keep q3);have al:=hid (((hS.keep q1).keep q2).keep q3);have a4:=((Zc w w.heap.size (cl C B).toList 27 rfl).below q2 lr).below q3 lr;have am:=(Zc (w.alloc (.cells (cl C B) 27)) (w.heap.size+1) (sl S M).toList 31 (by simp)).below q3 lr;have an:=hid (Zc ((w.alloc (.cells (cl C B) 27)).alloc (.cells (sl S M) 31)) (w.heap.size+2) [.slice none 0 0,.slice none 0 0,.int .i64 0,.slice none 0 0,.slice none 0 0,.slice none 0 0,.slice none 0 0] 46 (by simp));have ao:=hid (Zb q1 (Zb q2 q3));have aa:Hid ((((w.alloc (.cells (cl C B) 27)).alloc (.cells (sl S M) 31)).alloc (.cells #[.slice none 0 0,.slice none 0 0,.int .i64 0,.slice none 0 0,.slice none 0 0,.slice none 0 0,.slice none 0 0] 46)).heap.size=w.heap.size+3):=hid (by simp);have CK:=hid (Zre C B S M n dom _ af al hsc hn hdom);have ap:=hid (Zpw dom hsc hn);have HN:=hid hn;have b0:=hid hc5;clear q1 q2 q3 hC hS hsc hn hc5;obtain ⟨a5,a6,a7,a8,c5,c6,c7,c8⟩:=B;obtain ⟨aA,aR,cA,cR⟩:=M;obtain ⟨LL,RR,rd⟩:=S;dsimp only [cv,cl,sv,sl] at *
 have aq:=hid a4;obtain ⟨g0,g1,g2,g3,g4,g5,g6,g7,g8⟩:=a4.q9 rfl rfl rfl rfl rfl rfl rfl rfl rfl;obtain ⟨s0,s1,s2⟩:=am.q3 rfl rfl rfl;clear a4 am;go_enter func11,ntmps11;go_wp2_with fail;refine CK.out.mono ?_;rintro e w1 ⟨M',rfl,ar,a9⟩;have ag:=ar w1 (Ext.refl _ _);clear ar;generalize World.alloc (World.alloc (World.alloc w _) _) _=W at *
 clear g0 g1 g2 g3 g4 g5 g6 g7 g8 s0 s1 s2 CK;obtain ⟨T,HT⟩:∃ T,Hid (T=Zec C n dom ⟨LL,RR,rd⟩):=⟨_,hid rfl⟩
 rw [← HT.out] at ag ap ⊢;obtain ⟨bA,bR,dA,dR⟩:=M';obtain ⟨ab,ac,ad⟩:=T;dsimp only at *
 have q4:=Za w1 (.cells #[.slice bA ab.length dA,.slice bR ac.length dR,.int .i64 ad] 31);have au:=hid (Zb ao (Zb a9 q4));have aw:=hid ((af.out.keep a9).keep q4);have ax:=hid (ag.keep q4);have R64:=hid ((an.out.below a9 lr).below q4 lr);have a4:=(aq.out.below a9 lr).below q4 lr;have ay:=Zc w1 w1.heap.size [.slice bA ab.length dA,.slice bR ac.length dR,.int .i64 ad] 31 rfl;have b1:Hid (w.heap.size+2<(w1.alloc (.cells #[.slice bA ab.length dA,.slice bR ac.length dR,.int .i64 ad] 31)).heap.size):=hid (by have:=a9.size;have:=q4.size;have:=aa.out;omega);obtain ⟨g0,g1,g2,g3,g4,g5,g6,g7,g8⟩:=a4.q9 rfl rfl rfl rfl rfl rfl rfl rfl rfl;obtain ⟨s0,s1,s2⟩:=ay.q3 rfl rfl rfl;have CR:=hid (Zgz C ⟨a5,a6,a7,a8,c5,c6,c7,c8⟩ ⟨ab,ac,ad⟩ ⟨bA,bR,dA,dR⟩ _ aw ax ap b0);dsimp only [cv,cl,sv,sl] at CR;clear a4 ay a9 q4 ag aq an ao aa af al;go_wp2_with fail;refine CR.out.mono ?_;rintro e w5 ⟨gd,n',rfl,ah,ai⟩;generalize World.alloc w1 _=w3 at *
 clear g0 g1 g2 g3 g4 g5 g6 g7 g8 s0 s1 s2 CR;obtain ⟨b2,As,az⟩:=ah;obtain rfl:n'=n:=by have:=HN.out;omega
 obtain ⟨aj,ae⟩:=az dom hdom;have b3:=hid (Zb au ai);have a1:=hid (R64.out.below ai lr);obtain ⟨Dd,ak⟩:∃ Dd,Hid (Dd=(J9 C (ps ⟨ab,ac,ad⟩)).1 dom):=⟨_,hid rfl⟩
 rw [← ak.out] at aj ae;obtain ⟨Ad,b4⟩:∃ Ad,Hid (Ad=As dom):=⟨_,hid rfl⟩
 rw [← b4.out] at aj ae;have b5:=hid ae;obtain ⟨c0,c1,c2,c3,c4,b6,b7⟩:=aj;obtain ⟨aJ,a2,aI,aT,aO,aE,cJ,a3,cI,cT,cO,cE⟩:=Ad;dsimp only at *
 simp only [Nat.zero_add] at c0 c1 c2 c3 c4 b6 b7;have ba:(dom:Int)<(n':Int):=by omega
 have bb:(0:Int)≤(dom:Int):=by omega
 have a0:w.heap.size+1+1<w3.heap.size:=b1.out;have x0:w5.cell? ⟨w.heap.size+1+1,0,none⟩=some (.slice none 0 0):=a1.out.cell 0 _ rfl;have f0:w5.frozen? ⟨w.heap.size+1+1,0,none⟩=false:=a1.out.frozen 0;have x1:w5.cell? ⟨w.heap.size+1+1,1,none⟩=some (.slice none 0 0):=a1.out.cell 1 _ rfl;have f1:w5.frozen? ⟨w.heap.size+1+1,1,none⟩=false:=a1.out.frozen 1;have x2:w5.cell? ⟨w.heap.size+1+1,2,none⟩=some (.int .i64 0):=a1.out.cell 2 _ rfl;have f2:w5.frozen? ⟨w.heap.size+1+1,2,none⟩=false:=a1.out.frozen 2;have x3:w5.cell? ⟨w.heap.size+1+1,3,none⟩=some (.slice none 0 0):=a1.out.cell 3 _ rfl;have f3:w5.frozen? ⟨w.heap.size+1+1,3,none⟩=false:=a1.out.frozen 3;have x4:w5.cell? ⟨w.heap.size+1+1,4,none⟩=some (.slice none 0 0):=a1.out.cell 4 _ rfl;have f4:w5.frozen? ⟨w.heap.size+1+1,4,none⟩=false:=a1.out.frozen 4;have x5:w5.cell? ⟨w.heap.size+1+1,5,none⟩=some (.slice none 0 0):=a1.out.cell 5 _ rfl;have f5:w5.frozen? ⟨w.heap.size+1+1,5,none⟩=false:=a1.out.frozen 5;have x6:w5.cell? ⟨w.heap.size+1+1,6,none⟩=some (.slice none 0 0):=a1.out.cell 6 _ rfl;have f6:w5.frozen? ⟨w.heap.size+1+1,6,none⟩=false:=a1.out.frozen 6;have K0:Hid ((w5.setCell ⟨w.heap.size+1+1,0,none⟩ (.slice aJ Dd.jobs.length cJ)).cell? ⟨w.heap.size+1+1,0,none⟩=some (.slice aJ Dd.jobs.length cJ)):=hid ((Ze a1.out 0 (.slice aJ Dd.jobs.length cJ)).cell 0 _ rfl);have K1:Hid (((w5.setCell ⟨w.heap.size+1+1,0,none⟩ (.slice aJ Dd.jobs.length cJ)).setCell ⟨w.heap.size+1+1,1,none⟩ (.slice a2 Dd.rel.length a3)).cell? ⟨w.heap.size+1+1,1,none⟩=some (.slice a2 Dd.rel.length a3)):=hid ((Ze (Ze a1.out 0 (.slice aJ Dd.jobs.length cJ)) 1 (.slice a2 Dd.rel.length a3)).cell 1 _ rfl);have K2:Hid ((((w5.setCell ⟨w.heap.size+1+1,0,none⟩ (.slice aJ Dd.jobs.length cJ)).setCell ⟨w.heap.size+1+1,1,none⟩ (.slice a2 Dd.rel.length a3)).setCell ⟨w.heap.size+1+1,2,none⟩ (.int .i64 Dd.nxt)).cell? ⟨w.heap.size+1+1,2,none⟩=some (.int .i64 Dd.nxt)):=hid ((Ze (Ze (Ze a1.out 0 (.slice aJ Dd.jobs.length cJ)) 1 (.slice a2 Dd.rel.length a3)) 2 (.int .i64 Dd.nxt)).cell 2 _ rfl);have K3:Hid (((((w5.setCell ⟨w.heap.size+1+1,0,none⟩ (.slice aJ Dd.jobs.length cJ)).setCell ⟨w.heap.size+1+1,1,none⟩ (.slice a2 Dd.rel.length a3)).setCell ⟨w.heap.size+1+1,2,none⟩ (.int .i64 Dd.nxt)).setCell ⟨w.heap.size+1+1,3,none⟩ (.slice aI Dd.ins.length cI)).cell? ⟨w.heap.size+1+1,3,none⟩=some (.slice aI Dd.ins.length cI)):=hid ((Ze (Ze (Ze (Ze a1.out 0 (.slice aJ Dd.jobs.length cJ)) 1 (.slice a2 Dd.rel.length a3)) 2 (.int .i64 Dd.nxt)) 3 (.slice aI Dd.ins.length cI)).cell 3 _ rfl);have K4:Hid ((((((w5.setCell ⟨w.heap.size+1+1,0,none⟩ (.slice aJ Dd.jobs.length cJ)).setCell ⟨w.heap.size+1+1,1,none⟩ (.slice a2 Dd.rel.length a3)).setCell ⟨w.heap.size+1+1,2,none⟩ (.int .i64 Dd.nxt)).setCell ⟨w.heap.size+1+1,3,none⟩ (.slice aI Dd.ins.length cI)).setCell ⟨w.heap.size+1+1,4,none⟩ (.slice aT Dd.tak.length cT)).cell? ⟨w.heap.size+1+1,4,none⟩=some (.slice aT Dd.tak.length cT)):=hid ((Ze (Ze (Ze (Ze (Ze a1.out 0 (.slice aJ Dd.jobs.length cJ)) 1 (.slice a2 Dd.rel.length a3)) 2 (.int .i64 Dd.nxt)) 3 (.slice aI Dd.ins.length cI)) 4 (.slice aT Dd.tak.length cT)).cell 4 _ rfl);have K5:Hid (((((((w5.setCell ⟨w.heap.size+1+1,0,none⟩ (.slice aJ Dd.jobs.length cJ)).setCell ⟨w.heap.size+1+1,1,none⟩ (.slice a2 Dd.rel.length a3)).setCell ⟨w.heap.size+1+1,2,none⟩ (.int .i64 Dd.nxt)).setCell ⟨w.heap.size+1+1,3,none⟩ (.slice aI Dd.ins.length cI)).setCell ⟨w.heap.size+1+1,4,none⟩ (.slice aT Dd.tak.length cT)).setCell ⟨w.heap.size+1+1,5,none⟩ (.slice aO Dd.out.length cO)).cell? ⟨w.heap.size+1+1,5,none⟩=some (.slice aO Dd.out.length cO)):=hid ((Ze (Ze (Ze (Ze (Ze (Ze a1.out 0 (.slice aJ Dd.jobs.length cJ)) 1 (.slice a2 Dd.rel.length a3)) 2 (.int .i64 Dd.nxt)) 3 (.slice aI Dd.ins.length cI)) 4 (.slice aT Dd.tak.length cT)) 5 (.slice aO Dd.out.length cO)).cell 5 _ rfl);have K6:Hid ((((((((w5.setCell ⟨w.heap.size+1+1,0,none⟩ (.slice aJ Dd.jobs.length cJ)).setCell ⟨w.heap.size+1+1,1,none⟩ (.slice a2 Dd.rel.length a3)).setCell ⟨w.heap.size+1+1,2,none⟩ (.int .i64 Dd.nxt)).setCell ⟨w.heap.size+1+1,3,none⟩ (.slice aI Dd.ins.length cI)).setCell ⟨w.heap.size+1+1,4,none⟩ (.slice aT Dd.tak.length cT)).setCell ⟨w.heap.size+1+1,5,none⟩ (.slice aO Dd.out.length cO)).setCell ⟨w.heap.size+1+1,6,none⟩ (.slice aE Dd.evs.length cE)).cell? ⟨w.heap.size+1+1,6,none⟩=some (.slice aE Dd.evs.length cE)):=hid ((Ze (Ze (Ze (Ze (Ze (Ze (Ze a1.out 0 (.slice aJ Dd.jobs.length cJ)) 1 (.slice a2 Dd.rel.length a3)) 2 (.int .i64 Dd.nxt)) 3 (.slice aI Dd.ins.length cI)) 4 (.slice aT Dd.tak.length cT)) 5 (.slice aO Dd.out.length cO)) 6 (.slice aE Dd.evs.length cE)).cell 6 _ rfl);have b8:=hid (((((((b3.out.setCell (p:=⟨w.heap.size+1+1,0,none⟩) (show w.heap.size≤w.heap.size+1+1 by omega) (.slice aJ Dd.jobs.length cJ)).setCell (p:=⟨w.heap.size+1+1,1,none⟩) (show w.heap.size≤w.heap.size+1+1 by omega) (.slice a2 Dd.rel.length a3)).setCell (p:=⟨w.heap.size+1+1,2,none⟩) (show w.heap.size≤w.heap.size+1+1 by omega) (.int .i64 Dd.nxt)).setCell (p:=⟨w.heap.size+1+1,3,none⟩) (show w.heap.size≤w.heap.size+1+1 by omega) (.slice aI Dd.ins.length cI)).setCell (p:=⟨w.heap.size+1+1,4,none⟩) (show w.heap.size≤w.heap.size+1+1 by omega) (.slice aT Dd.tak.length cT)).setCell (p:=⟨w.heap.size+1+1,5,none⟩) (show w.heap.size≤w.heap.size+1+1 by omega) (.slice aO Dd.out.length cO)).setCell (p:=⟨w.heap.size+1+1,6,none⟩) (show w.heap.size≤w.heap.size+1+1 by omega) (.slice aE Dd.evs.length cE));have b9:Hid (Zax w.heap.size (((((((w5.setCell ⟨w.heap.size+1+1,0,none⟩ (.slice aJ Dd.jobs.length cJ)).setCell ⟨w.heap.size+1+1,1,none⟩ (.slice a2 Dd.rel.length a3)).setCell ⟨w.heap.size+1+1,2,none⟩ (.int .i64 Dd.nxt)).setCell ⟨w.heap.size+1+1,3,none⟩ (.slice aI Dd.ins.length cI)).setCell ⟨w.heap.size+1+1,4,none⟩ (.slice aT Dd.tak.length cT)).setCell ⟨w.heap.size+1+1,5,none⟩ (.slice aO Dd.out.length cO)).setCell ⟨w.heap.size+1+1,6,none⟩ (.slice aE Dd.evs.length cE)) ⟨aJ,a2,aI,aT,aO,aE,cJ,a3,cI,cT,cO,cE⟩ Dd):=hid fun wx hx=>b5.out wx (((((((((Ext.refl _ _).trans (Ext.set (X:=fun x=>x<w3.heap.size) _ a0 0 (.slice aJ Dd.jobs.length cJ))).trans (Ext.set (X:=fun x=>x<w3.heap.size) _ a0 1 (.slice a2 Dd.rel.length a3))).trans (Ext.set (X:=fun x=>x<w3.heap.size) _ a0 2 (.int .i64 Dd.nxt))).trans (Ext.set (X:=fun x=>x<w3.heap.size) _ a0 3 (.slice aI Dd.ins.length cI))).trans (Ext.set (X:=fun x=>x<w3.heap.size) _ a0 4 (.slice aT Dd.tak.length cT))).trans (Ext.set (X:=fun x=>x<w3.heap.size) _ a0 5 (.slice aO Dd.out.length cO))).trans (Ext.set (X:=fun x=>x<w3.heap.size) _ a0 6 (.slice aE Dd.evs.length cE))).trans (hx.wider fun k hk=>by show k<w3.heap.size;omega))
 clear az ae b2 ai a0 au aw ax R64;go_wp2;refine bodyPost_ret (v:=.tuple #[.agg #[.slice aJ Dd.jobs.length cJ,.slice a2 Dd.rel.length a3,.int .i64 Dd.nxt,.slice aI Dd.ins.length cI,.slice aT Dd.tak.length cT,.slice aO Dd.out.length cO,.slice aE Dd.evs.length cE],.int .i64 0]) (by simp [results,results11,go_sem,K0.out,K1.out,K2.out,K3.out,K4.out,K5.out,K6.out]) rfl ⟨⟨aJ,a2,aI,aT,aO,aE,cJ,a3,cI,cT,cO,cE⟩,?_,?_,?_⟩
 ·rw [← HT.out,← ak.out]
 ·rw [← HT.out,← ak.out]
  exact b9.out
 ·exact b8.out
def Zyv (f:FuncId):Prop:=∀ w:World,Calls prog f #[] w fun e w'=>e=.returned (.bool true)∧Below w.heap.size w w'
theorem Zyh (hC:ckC C=0) (hn:C.d=(n:Int)):∀ x∈C.ch,x.1.toNat<n∧x.2.1.toNat<n:=by
 intro x hx;obtain ⟨i,hi,rfl⟩:=List.getElem_of_mem hx;have h:=Zx (Zcr hC).2.2.2.2.2.1 i hi;unfold Zhr at h;rw [List.getElem?_eq_getElem hi] at h;dsimp only at h
 split at h
 ·rename_i h1
  simp [isD,inR] at h1;omega
 ·omega
theorem Zvs (hC:ckC C=0) (hn:C.d=(n:Int)) (hdom:dom<n) (i:Nat):rbF C n dom i=true↔Rch C.ch i dom:=Zpg C.ch n (Zyh hC hn) i dom hdom
theorem Zwn (hC:ckC C=0) (hn:C.d=(n:Int)) (hdom:dom<n):∀ c,c<C.ch.length→rbF C n dom (chT C c)=true→rbF C n dom (chF C c)=true:=by
 intro c hc h;rw [Zvs hC hn hdom] at h ⊢;unfold chT at h;unfold chF;refine Rch.head _ ?_ h;simp [List.getD,hc]
def Zjs (rb:Nat→Bool) (C:Zm) (b:Nat) (acc:List Zar) (a:Zar):List Zar:=if rb (J8 C a)=false∧b+acc.length<40 then acc++[a] else acc
def Zby (rb:Nat→Bool) (C:Zm) (b:Nat) (l:List Zar):List Zar:=l.foldl (Zjs rb C b) []
theorem Zpa (rb:Nat→Bool) (C:Zm) (b:Nat) (l:List Zar) (a:Zar):Zby rb C b (l++[a])=Zjs rb C b (Zby rb C b l) a:=by simp [Zby]
theorem Znx {rb:Nat→Bool} {P:Zar→Prop} (hb:b≤40):∀ (l acc:List Zar),(∀ a∈l,P a)→((∀ a∈acc,rb (J8 C a)=false∧P a)∧b+acc.length≤40)→(∀ a∈l.foldl (Zjs rb C b) acc,rb (J8 C a)=false∧P a)∧b+(l.foldl (Zjs rb C b) acc).length≤40
 | [],acc,_,h=>h
 | x::l,acc,hl,h=>by
  refine Znx hb l _ (fun a ha=>hl a (by simp [ha])) ?_;unfold Zjs;split
  ·rename_i hx
   refine ⟨fun a ha=>?_,by simp;omega⟩;rcases List.mem_append.1 ha with ha|ha
   ·exact h.1 a ha
   ·simp at ha
    subst ha;exact ⟨hx.1,hl a (by simp)⟩
  ·exact h
theorem Zi7 {rb:Nat→Bool} {P:Zar→Prop} (hb:b≤40) (l:List Zar) (hl:∀ a∈l,P a):(∀ a∈Zby rb C b l,rb (J8 C a)=false∧P a)∧b+(Zby rb C b l).length≤40:=
 Znx hb l [] hl ⟨fun a ha=>(by cases ha),by simpa using hb⟩
def Zmz (C:Zm) (n dom:Nat) (S T:Zcm) (i:Nat):List Qg:=if rbF C n dom i then S.acts.getD i [] else T.acts.getD i []
def Zhw (C:Zm) (n dom:Nat) (S:Zcm):List Zar:=S.arr.filter fun a=>rbF C n dom (J8 C a)
def Zxh (C:Zm) (n dom:Nat) (S T:Zcm):Zcm:=⟨(List.range n).map (Zmz C n dom S T),Zhw C n dom S++Zby (rbF C n dom) C (Zhw C n dom S).length T.arr,S.rounds⟩
theorem Zdq (h:Yv C L 0 0 0=0):L.length≤40∧(∀ a∈L,Zfr a=false∧Zao C.ow.length a=false):=by
 unfold Yv at h
 split at h
 ·rename_i h1;exact absurd h h1
 ·split at h
  ·omega
  ·split at h
   ·omega
   ·rename_i h3
    split at h
    ·omega
    ·rename_i h4
     split at h
     ·omega
     ·rename_i h5
      refine ⟨by omega,fun a ha=>⟨?_,?_⟩⟩
      ·cases hc:Zfr a with
       | false=>rfl
       | true=>exact absurd (List.any_eq_true.2 ⟨a,ha,hc⟩) h4
      ·cases hc:Zao C.ow.length a with
       | false=>rfl
       | true=>exact absurd (List.any_eq_true.2 ⟨a,ha,hc⟩) h5
theorem Zul {L':List Zar} (h:Yv C L 0 0 0=0) (hl:L'.length≤40) (ha:∀ a∈L',Zfr a=false∧Zao C.ow.length a=false):Yv C L' 0 0 0=0:=by
 unfold Yv at h ⊢
 split at h
 ·rename_i h1;exact absurd h h1
 ·rename_i h1
  split at h
  ·omega
  ·rename_i h2
   have h4:¬ L'.any Zfr=true:=fun e=>by
    obtain ⟨x,hx,hq⟩:=List.any_eq_true.1 e;rw [(ha x hx).1] at hq;cases hq
   have h5:¬ L'.any (Zao C.ow.length)=true:=fun e=>by
    obtain ⟨x,hx,hq⟩:=List.any_eq_true.1 e;rw [(ha x hx).2] at hq;cases hq
   rw [if_neg h1,if_neg h2,if_neg (by omega),if_neg h4,if_neg h5];rfl
theorem Zqz (dom:Nat) (h:Qo C S=0) (hT:Qo C T=0) (hn:C.d=(n:Int)):Qo C (Zxh C n dom S T)=0:=by
 obtain ⟨_,_,a1,_⟩:=Zbm hT;obtain ⟨_,_,a0,_⟩:=Zbm h;have a2:fe T.acts.length (fun i=>Zdj (T.acts.getD i []))=0:=by
  unfold Qo at hT
  repeat' split at hT
  all_goals first|exact hT|(rename_i h1;exact absurd hT h1)|omega
 have a3:=(Zbm hT).2.1;unfold Qo at h ⊢
 split at h
 ·rename_i h1;exact absurd h h1
 ·rename_i h1
  split at h
  ·omega
  ·rename_i h2
   split at h
   ·omega
   ·rename_i h3
    split at h
    ·rename_i h4;exact absurd h h4
    ·rename_i h4
     have pS:=Zdq a0;have pT:=Zdq a1;have hk:(Zhw C n dom S).length≤40:=Nat.le_trans (List.length_filter_le _ _) pS.1;have hR:=Zi7 (rb:=rbF C n dom) (C:=C) (P:=fun a=>Zfr a=false∧Zao C.ow.length a=false) hk T.arr pT.2;have h5:Yv C (Zxh C n dom S T).arr 0 0 0=0:=by
      refine Zul a0 ?_ fun a ha=>?_
      ·show (Zhw C n dom S++Zby (rbF C n dom) C (Zhw C n dom S).length T.arr).length≤40
       rw [List.length_append];exact hR.2
      ·rcases List.mem_append.1 (show a∈Zhw C n dom S++Zby (rbF C n dom) C (Zhw C n dom S).length T.arr from ha) with ha|ha
       ·exact pS.2 a (List.mem_filter.1 ha).1
       ·exact (hR.1 a ha).2
     have hl:(Zxh C n dom S T).acts.length=n:=by show ((List.range n).map _).length=n;simp
     rw [if_neg h1,if_neg (by rw [hl];omega),if_neg (show ¬ inR (Zxh C n dom S T).rounds 0 8=false from h3),if_neg (by rw [h5];simp)];refine Qt _ _ fun i hi=>?_
     rw [hl] at hi;have e:(Zxh C n dom S T).acts.getD i []=Zmz C n dom S T i:=by
      show ((List.range n).map _).getD i []=_
      simp [hi]
     rw [e];unfold Zmz;split
     ·exact Zx h i (by omega)
     ·exact Zx a2 i (by omega)
theorem Zup (hC:ckC C=0) (hn:C.d=(n:Int)) (hdom:dom<n) (hl:S.acts.length=n) (hS:Yv C S.arr 0 0 0=0) (hT:Yv C T.arr 0 0 0=0):(J9 C (ps (Zxh C n dom S T))).1 dom=(J9 C (ps S)).1 dom:=by
 have hk:(Zhw C n dom S).length≤40:=Nat.le_trans (List.length_filter_le _ _) (Zdq hS).1;have hR:=Zi7 (rb:=rbF C n dom) (C:=C) (P:=fun _=>True) hk T.arr (fun _ _=>trivial);refine ((Zm5 (R:=fun i=>rbF C n dom i=true) (Zwn hC hn hdom) (Zpn (rb:=rbF C n dom) (n:=n) (S:=ps S) (acts:=(List.range n).map (Zmz C n dom S T)) (rest:=Zby (rbF C n dom) C (Zhw C n dom S).length T.arr) (fun i hi=>?_) (fun a ha=>(hR.1 a ha).1))) dom ((Zvs hC hn hdom dom).2 (Rch.refl _ _))).1;by_cases h:i<n
 ·show ((List.range n).map (Zmz C n dom S T)).getD i []=S.acts.getD i []
  simp only [List.getD,List.getElem?_map,List.getElem?_range h,Option.map_some,Option.getD_some];unfold Zmz;rw [if_pos hi];rfl
 ·show ((List.range n).map (Zmz C n dom S T)).getD i []=S.acts.getD i []
  simp only [List.getD];rw [List.getElem?_eq_none (by simp;omega),List.getElem?_eq_none (by omega)]
def Zca:Zcm:=⟨[[(6,0,0)]],[],1⟩
theorem Zfd:Qo Jw Zca=0:=by kernel_rfl
theorem Zoh:((J9 Jw (ps Zca)).1 0).nxt=1:=by kernel_rfl
theorem Zd6:Zec Jw 1 0 Zca=Zca:=by kernel_rfl
theorem Zr0:Zm8 Jw (ps Zca)=2:=by kernel_rfl
theorem Zve:((J9 Jw (ps Zca)).1 0).evs=[(0,1,0,0),(0,2,0,0),(0,3,0,0),(3,7,0,0),(50,2,0,1),(30,6,0,0),(80,6,0,1),(90,13,0,0)]:=by kernel_rfl
theorem Zfs (a a':Option Addr) (L:List Qg) (cap cap':Nat) (w:World) (h1:Yn w a L) (h2:Yn w a' L) (hl:L.length≤9223372036854775807):
  Calls prog 40 #[.slice a L.length cap,.slice a' L.length cap'] w fun e w'=>e=.returned (.bool true)∧Below w.heap.size w w':=by
 go_enter func40,ntmps40;go_wp2;go_loopw [5] (fun i wr=>(∃ n,wr=w.drewN n)∧∃ k:Nat,k≤L.length∧i=.int .i64 k) (fun i _=>L.length-(intOf i).toNat)
 case atStart=>exact ⟨⟨0,rfl⟩,0,zl,rfl⟩
 case round=>
  obtain ⟨⟨nd,rfl⟩,k,hk,rfl⟩:=hrel;by_cases hlt:k<L.length
  ·obtain ⟨b1,o1,rfl,e1,e2,e3⟩:=h1 k hlt
   obtain ⟨b2,o2,rfl,f1,f2,f3⟩:=h2 k hlt;have a0:(k:Int)<L.length:=by omega
   have a1:(0:Int)≤k:=by omega
   generalize L[k]=y at *
   obtain ⟨y1,y2,y3⟩:=y;dsimp only at *
   go_wp2;go_quiet (fail)
   go_wp2;go_roundw
   case rel=>exact ⟨⟨_,rfl⟩,k+1,by omega,by go_num⟩
   case measure=>simp [intOf];omega
  ·go_wp2
   go_ret;exact ⟨rfl,below_drewN br _⟩
theorem Zhg (LL:List (List Qg)) (rd:Int) (M M':Zg0) (w:World) (h1:Q8 w M ⟨LL,[],rd⟩) (h2:Q8 w M' ⟨LL,[],rd⟩) (hl:LL.length≤1000):
  Calls prog 19 #[sv ⟨LL,[],rd⟩ M,sv ⟨LL,[],rd⟩ M'] w fun e w'=>e=.returned (.bool true)∧Below w.heap.size w w':=by
 have q1:=Za w (.cells (sl ⟨LL,[],rd⟩ M) 31);have q2:=Za (w.alloc (.cells (sl ⟨LL,[],rd⟩ M) 31)) (.cells (sl ⟨LL,[],rd⟩ M') 31);have a6:=hid (((h1.keep q1).keep q2).acts);have a7:=hid (((h2.keep q1).keep q2).acts);have HB:=hid (Zb q1 q2);have X0:=hid ((Zc w w.heap.size (sl ⟨LL,[],rd⟩ M).toList 31 rfl).below q2 lr);have X1:=hid (Zc (w.alloc (.cells (sl ⟨LL,[],rd⟩ M) 31)) (w.heap.size+1) (sl ⟨LL,[],rd⟩ M').toList 31 (by simp));clear q1 q2 h1 h2;obtain ⟨aA,aR,cA,cR⟩:=M;obtain ⟨bA,bR,dA,dR⟩:=M';dsimp only [sv,sl,List.length_nil] at *
 obtain ⟨k0,k1,k2⟩:=X0.out.q3 rfl rfl rfl;obtain ⟨m0,m1,m2⟩:=X1.out.q3 rfl rfl rfl;go_enter func19,ntmps19;go_wp2;generalize World.alloc (World.alloc w _) _=w2 at *
 clear k1 k2 m1 m2;go_loopw [5] (fun i wr=>Below w2.heap.size w2 wr∧∃ k:Nat,k≤LL.length∧i=.int .i64 k) (fun i _=>LL.length-(intOf i).toNat)
 case atStart=>exact ⟨br,0,zl,rfl⟩
 case round=>
  obtain ⟨a0,k,hk,rfl⟩:=hrel;have a8:=hid a0;have a4:=Zg a0 k0 lr;have a5:=Zg a0 m0 lr;by_cases hlt:k<LL.length
  ·obtain ⟨b1,o1,a1,c1,e1,p0,p2,p3,p4⟩:=(a6.out.keep a0) k hlt
   obtain ⟨b2,o2,a2,c2,e2,q0,q2,q3,q4⟩:=(a7.out.keep a0) k hlt;subst e1;subst e2;have ac:(k:Int)<LL.length:=by omega
   have ad:(0:Int)≤k:=by omega
   have P2:=hid p2;have Q2:=hid q2;clear p2 q2 a0 k0 m0;generalize LL[k]=V at *
   have HS:Hid (∀ w',Below wr.heap.size wr w'→w'.cell? ⟨w.heap.size,0,none⟩=some (.slice (some ⟨b1,o1,none⟩) LL.length cA)∧w'.cell? ⟨w.heap.size+1,0,none⟩=some (.slice (some ⟨b2,o2,none⟩) LL.length dA)∧w'.cell? ⟨b1,o1+k,none⟩=some (.slice a1 V.length c1)∧w'.cell? ⟨b2,o2+k,none⟩=some (.slice a2 V.length c2)):=hid fun w' hb=>⟨Zg hb a4 lr,Zg hb a5 lr,Zg hb p0 lr,Zg hb q0 lr⟩
   have a3:Below wr.heap.size wr wr.drew:=br.drew;go_upto_region 6 with fail;go_region_held3 (fun w'=>w'.cell? ⟨w.heap.size,0,none⟩=some (.slice (some ⟨b1,o1,none⟩) LL.length cA)∧w'.cell? ⟨w.heap.size+1,0,none⟩=some (.slice (some ⟨b2,o2,none⟩) LL.length dA)∧w'.cell? ⟨b1,o1+k,none⟩=some (.slice a1 V.length c1)∧w'.cell? ⟨b2,o2+k,none⟩=some (.slice a2 V.length c2))
    (first|exact HS.out _ hB3|exact HS.out _ a3|go_keep)
    (first|(go_at_call 40;refine (Zfs a1 a2 V c1 c2 _ (P2.out.keep a3) (Q2.out.keep a3) p4).mono ?_;rintro e w3 ⟨rfl,a9⟩;have hB3:=Zb a3 a9))
   have aa:=hid (Zb a8 hB3);clear HS hB3 a3 a4 a5 p0 q0;go_wp2;go_roundw
   case rel=>exact ⟨aa.out,k+1,by omega,by go_num⟩
   case measure=>simp [intOf];omega
  ·have ae:=(X0.out.below a0 lr).cell 1 _ rfl
   have af:¬ (k:Int)<(LL.length:Int):=by omega
   have ab:=hid (Zb HB a0);clear a0 k0 m0;go_wp2;clear a4 a5;obtain ⟨W3,rfl⟩:∃ x,x=wr:=⟨_,rfl⟩
   go_loopw [6] (fun i wr=>i=.int .i64 0∧wr=W3) (fun _ _=>0)
   case atStart=>exact ⟨rfl,rfl⟩
   case round=>
    obtain ⟨rfl,rfl⟩:=hrel;go_wp2;go_ret;exact ⟨rfl,ab.out⟩
theorem Zb0 (w:World):Calls prog 17 #[] w fun e w'=>∃ A,e=.returned (cv Jw A)∧Z1 w' A Jw∧Jw.sl.length≤A.c5∧Below w.heap.size w w':=by
 go_enter func17,ntmps17;go_wp2;have R1:Zf (((w.alloc (.cells #[.int .i64 1,.int .i64 1,.int .i64 1,.int .i64 10,.int .i64 4,.slice (some ⟨w.heap.size+1,0,none⟩) 1 1,.slice none 0 0,.slice none 0 0,.slice (some ⟨w.heap.size+1+1,0,none⟩) 1 1] 27)).alloc (.cells #[.int .i64 0,.int .i64 100] 106)).alloc (.cells #[.int .i64 0,.int .i64 50,.int .i64 40,.int .i64 30] 108)) (w.heap.size+1) 106 [.int .i64 0,.int .i64 100]:=(Zc _ _ [.int .i64 0,.int .i64 100] 106 (by simp)).alloc _;have R2:Zf (((w.alloc (.cells #[.int .i64 1,.int .i64 1,.int .i64 1,.int .i64 10,.int .i64 4,.slice (some ⟨w.heap.size+1,0,none⟩) 1 1,.slice none 0 0,.slice none 0 0,.slice (some ⟨w.heap.size+1+1,0,none⟩) 1 1] 27)).alloc (.cells #[.int .i64 0,.int .i64 100] 106)).alloc (.cells #[.int .i64 0,.int .i64 50,.int .i64 40,.int .i64 30] 108)) (w.heap.size+1+1) 108 [.int .i64 0,.int .i64 50,.int .i64 40,.int .i64 30]:=Zc _ _ [.int .i64 0,.int .i64 50,.int .i64 40,.int .i64 30] 108 (by simp);refine bodyPost_ret (v:=cv Jw ⟨some ⟨w.heap.size+1,0,none⟩,none,none,some ⟨w.heap.size+1+1,0,none⟩,1,0,0,1⟩) (by simp [results,results17,go_sem,Jw]) rfl ⟨_,rfl,?_,by simp [Jw],((br.alloc lr _).alloc (by simp) _).alloc (by simp;omega) _⟩;refine ⟨fun i hi=>?_,fun i hi=>absurd hi (by simp [Jw]),fun i hi=>absurd hi (by simp [Jw]),fun i hi=>?_,by simp [Jw],by simp [Jw],by simp [Jw],by simp [Jw],by simp [Jw]⟩
 ·obtain rfl:i=0:=by simp [Jw] at hi;exact hi
  exact ⟨_,_,rfl,R1.cell 0 _ rfl,R1.cell 1 _ rfl⟩
 ·obtain rfl:i=0:=by simp [Jw] at hi;exact hi
  exact ⟨_,_,rfl,R2.cell 0 _ rfl,R2.cell 1 _ rfl,R2.cell 2 _ rfl,R2.cell 3 _ rfl⟩
end Go.Proofs.YtejhccmclanlmaaGreatDoor
