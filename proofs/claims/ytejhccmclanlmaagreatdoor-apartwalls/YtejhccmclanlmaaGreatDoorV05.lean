/- Xd Oc Xe Xf Xi Xdr Xfr Od Oe Qa Oz -/
import Derived.Laws.IdiomStrings
import Derived.Test.YtejhccmclanlmaaGreatDoorV04
set_option linter.all false
set_option maxRecDepth 100000
set_option maxHeartbeats 8000000
namespace Go.Proofs.YtejhccmclanlmaaGreatDoor
open Go.RowKit Go.Proofs.Tryz
variable {D k r:Nat} {row:Option Nat} {w w':World}
theorem Zs3.same {b:Nat} {A:Mem} {C:Zm} (h:Zs3 w b C A) (e:w'.heap[b]? = w.heap[b]?):Zs3 w' b C A:=by
 have q:∀ i v,w.cell? ⟨b,i,none⟩=some v→w'.cell? ⟨b,i,none⟩=some v:=fun i v hv=>by rw [World.cell?_of_block (w:=w) (a:=⟨b,i,none⟩) e];exact hv
 exact ⟨q _ _ h.h0,q _ _ h.h1,q _ _ h.h2,q _ _ h.h3,q _ _ h.h4,q _ _ h.h5,q _ _ h.h6,q _ _ h.h7,q _ _ h.h8⟩
def Zgw (V:List Int) (lost size:Int):List Int:=if ckR V lost size=0 then V.drop 1 else []
def Zjg (V:List Int) (lost size:Int):Int:=if ckR V lost size=0 then lost else 0
def Zhk (V:List Int) (lost size:Int):Int:=if ckR V lost size=0 then V.headD (-1) else 0
theorem Zni (a:Option Addr) (V:List Int) (cap:Nat) (lost size:Int) (w:World) (hw:Z4 w a V) (hl:V.length≤9223372036854775807) (h0:ckR V lost size≠0):
  Calls prog 178 #[.agg #[.slice a V.length cap,.int .i64 lost],.int .i64 size] w fun e w'=>e=.returned (.tuple #[.agg #[.slice none 0 0,.int .i64 0],.int .i64 0,.int .i64 (ckR V lost size)])∧Below w.heap.size w w':=by
 have q1:=Za w (.cells #[.slice a V.length cap,.int .i64 lost] 90);have q2:=Za (w.alloc (.cells #[.slice a V.length cap,.int .i64 lost] 90)) (.cells #[.slice none 0 0,.int .i64 0] 90);have HB:=hid (Zb q1 q2);have HW:=hid (hw.keep (Zb q1 q2));have R4:Hid (Zf ((w.alloc (.cells #[.slice a V.length cap,.int .i64 lost] 90)).alloc (.cells #[.slice none 0 0,.int .i64 0] 90)) (w.heap.size+1) 90 [.slice none 0 0,.int .i64 0]):=hid (Zc _ _ [.slice none 0 0,.int .i64 0] 90 (by simp));clear q1 q2 hw;go_enter func178,ntmps178;go_wp2_with fail;refine (Jg a V cap lost size _ HW hl).mono ?_;rintro e w2 ⟨rfl,a0⟩;have hx:(ckR V lost size != 0)=true:=by simp [h0]
 have R5:=hid (R4.out.below a0 lr);have B5:=hid (Zb HB a0);have x0:=R5.out.cell 0 _ rfl;have y0:=R5.out.frozen 0;have x1:=R5.out.cell 1 _ rfl;have y1:=R5.out.frozen 1;clear h0 a0 HB HW R4;generalize hq:ckR V lost size=q at *
 have HQ:=hid hq;clear hq;have R6:=hid ((R5.out.setCell 0 (.slice none 0 0)).setCell 1 (.int .i64 0));have B6:=hid ((B5.out.setCell (p:=⟨w.heap.size+1,0,none⟩) (by show w.heap.size≤w.heap.size+1;omega) (.slice none 0 0)).setCell (p:=⟨w.heap.size+1,1,none⟩) (by show w.heap.size≤w.heap.size+1;omega) (.int .i64 0));clear R5 B5;go_wp2;obtain ⟨d0,d1⟩:=R6.out.q2 rfl rfl;exact bodyPost_ret (v:=.tuple #[.agg #[.slice none 0 0,.int .i64 0],.int .i64 0,.int .i64 q]) (by simp [results,results178,go_sem,d0,d1]) rfl ⟨by rw [HQ.out],B6.out⟩
theorem Zlc (a:Option Addr) (cap:Nat) (lost size:Int) (w:World) (h0:ckR [] lost size=0):
  Calls prog 178 #[.agg #[.slice a 0 cap,.int .i64 lost],.int .i64 size] w (RB (.tuple #[.agg #[.slice none 0 0,.int .i64 lost],.int .i64 (-1),.int .i64 0]) w):=by
 have q1:=Za w (.cells #[.slice a 0 cap,.int .i64 lost] 90);have q2:=Za (w.alloc (.cells #[.slice a 0 cap,.int .i64 lost] 90)) (.cells #[.slice none 0 0,.int .i64 0] 90);have HB:=hid (Zb q1 q2);have R2:Hid (Zf ((w.alloc (.cells #[.slice a 0 cap,.int .i64 lost] 90)).alloc (.cells #[.slice none 0 0,.int .i64 0] 90)) w.heap.size 90 [.slice a 0 cap,.int .i64 lost]):=hid ((Zc w _ [.slice a 0 cap,.int .i64 lost] 90 rfl).alloc _);have R4:Hid (Zf ((w.alloc (.cells #[.slice a 0 cap,.int .i64 lost] 90)).alloc (.cells #[.slice none 0 0,.int .i64 0] 90)) (w.heap.size+1) 90 [.slice none 0 0,.int .i64 0]):=hid (Zc _ _ [.slice none 0 0,.int .i64 0] 90 (by simp));clear q1 q2;go_enter func178,ntmps178;go_wp2_with fail;refine (Jg a [] cap lost size _ (fun i hi=>absurd hi (by simp)) (by simp)).mono ?_;rintro e w2 ⟨rfl,a0⟩;rw [h0];have R3:=hid (R2.out.below a0 lr);have R5:=hid (R4.out.below a0 lr);have B5:=hid (Zb HB a0);obtain ⟨z0,z1⟩:=R3.out.q2 rfl rfl;have x0:=R5.out.cell 0 _ rfl;have y0:=R5.out.frozen 0;have x1:=R5.out.cell 1 _ rfl;have y1:=R5.out.frozen 1;clear h0 a0 HB R4 R2;have R6:=hid ((R5.out.setCell 0 (.slice none 0 0)).setCell 1 (.int .i64 lost));have B6:=hid ((B5.out.setCell (p:=⟨w.heap.size+1,0,none⟩) (by show w.heap.size≤w.heap.size+1;omega) (.slice none 0 0)).setCell (p:=⟨w.heap.size+1,1,none⟩) (by show w.heap.size≤w.heap.size+1;omega) (.int .i64 lost));clear R5 B5;go_wp2;obtain ⟨d0,d1⟩:=R6.out.q2 rfl rfl;exact bodyPost_ret (v:=.tuple #[.agg #[.slice none 0 0,.int .i64 lost],.int .i64 (-1),.int .i64 0]) (by simp [results,results178,go_sem,d0,d1]) rfl ⟨rfl,B6.out⟩
theorem Zmu (b o:Nat) (x:Int) (V:List Int) (cap:Nat) (lost size:Int) (w:World) (hw:Z4 w (some ⟨b,o,none⟩) (x::V)) (hl:(x::V).length≤cap) (h0:ckR (x::V) lost size=0):
  Calls prog 178 #[.agg #[.slice (some ⟨b,o,none⟩) (x::V).length cap,.int .i64 lost],.int .i64 size] w fun e w'=>∃ v,e=.returned (.tuple #[.agg #[v,.int .i64 lost],.int .i64 x,.int .i64 0])∧w'.ownsRow w.heap.size 3 1 v V.length (ivs V)∧Below w.heap.size w w':=by
 have q1:=Za w (.cells #[.slice (some ⟨b,o,none⟩) (x::V).length cap,.int .i64 lost] 90);have q2:=Za (w.alloc (.cells #[.slice (some ⟨b,o,none⟩) (x::V).length cap,.int .i64 lost] 90)) (.cells #[.slice none 0 0,.int .i64 0] 90);have HB:=hid (Zb q1 q2);have HW:=hid (hw.keep (Zb q1 q2));have R2:Hid (Zf ((w.alloc (.cells #[.slice (some ⟨b,o,none⟩) (x::V).length cap,.int .i64 lost] 90)).alloc (.cells #[.slice none 0 0,.int .i64 0] 90)) w.heap.size 90 [.slice (some ⟨b,o,none⟩) (x::V).length cap,.int .i64 lost]):=hid ((Zc w _ [.slice (some ⟨b,o,none⟩) (x::V).length cap,.int .i64 lost] 90 rfl).alloc _);have R4:Hid (Zf ((w.alloc (.cells #[.slice (some ⟨b,o,none⟩) (x::V).length cap,.int .i64 lost] 90)).alloc (.cells #[.slice none 0 0,.int .i64 0] 90)) (w.heap.size+1) 90 [.slice none 0 0,.int .i64 0]):=hid (Zc _ _ [.slice none 0 0,.int .i64 0] 90 (by simp));have hk:=Zh7 h0;have h4:V.length+1≤4:=by have:=hk.1.2;have:=hk.2.1;simp at this;omega
 have aa:b<w.heap.size:=by
  obtain ⟨b',o',e,hc⟩:=hw 0 (by simp);simp only [Option.some.injEq,Addr.mk.injEq,and_true] at e;obtain ⟨rfl,rfl⟩:=e;exact World.block_lt_of_cell? _ _ hc
 simp only [List.length_cons] at *
 clear q1 q2 hw hk;go_enter func178,ntmps178;go_wp2_with fail;refine (Jg (some ⟨b,o,none⟩) (x::V) cap lost size _ HW.out (by simp;omega)).mono ?_;rintro e w2 ⟨rfl,a2⟩;rw [h0];have R3:=hid (R2.out.below a2 lr);have R5:=hid (R4.out.below a2 lr);have B5:=hid (Zb HB a2);have W5:=hid (HW.out.keep a2);obtain ⟨z0,z1⟩:=R3.out.q2 rfl rfl;have a8:w2.cell? ⟨b,o,none⟩=some (.int .i64 x):=by
  obtain ⟨b',o',e,hc⟩:=W5.out 0 (by simp);simp only [Option.some.injEq,Addr.mk.injEq,and_true] at e;obtain ⟨rfl,rfl⟩:=e;simpa using hc
 have W6:Hid (Z4 w2 (some ⟨b,o+1,none⟩) V):=hid (by
  intro i hi;obtain ⟨b',o',e,hc⟩:=W5.out (i+1) (by simp;omega);simp only [Option.some.injEq,Addr.mk.injEq,and_true] at e;obtain ⟨rfl,rfl⟩:=e;exact ⟨b,o+1,rfl,by simpa [Nat.add_assoc,Nat.add_comm 1] using hc⟩)
 have ab:(1:Int)≤((V.length+1:Nat):Int):=by omega
 have ac:((V.length+1:Nat):Int)≤(cap:Int):=by omega
 have ad:(0:Int)<((V.length+1:Nat):Int):=by omega
 have ae:(1:Int)≤(V.length:Int)+1:=by omega
 have af:(0:Int)<(V.length:Int)+1:=by omega
 clear h0 a2 HB HW R4 R2;have a6:Below w2.heap.size w2 w2.drew:=br.drew;have ag:¬ w.heap.size+1=w.heap.size:=by omega
 have a9:¬ w.heap.size+1=b:=by omega
 have HS:Hid (∀ w',Below w2.heap.size w2 w'→w'.cell? ⟨w.heap.size,0,none⟩=some (.slice (some ⟨b,o,none⟩) (V.length+1) cap)∧w'.cell? ⟨w.heap.size,1,none⟩=some (.int .i64 lost)∧w'.cell? ⟨b,o,none⟩=some (.int .i64 x)):=hid fun w' hb=>⟨Zg hb z0 lr,Zg hb z1 lr,Zg hb a8 lr⟩
 have HR:Hid (∀ w',Below w2.heap.size w2 w'→Zf w' (w.heap.size+1) 90 [.slice none 0 0,.int .i64 0]):=hid fun w' hb=>R5.out.below hb lr
 have a4:w.heap.size≤w2.heap.size:=B5.out.size;by_cases hcap:cap=1
 ·subst hcap
  obtain rfl:V=[]:=List.eq_nil_of_length_eq_zero (by omega);have W7:Hid (Z4 w2 (some ⟨b,o,none⟩) []):=hid fun i hi=>absurd hi (by simp)
  simp only [List.length_nil,Nat.zero_add] at *
  go_wp2_with fail;go_region_held3 (fun w'=>w'.cell? ⟨w.heap.size,0,none⟩=some (.slice (some ⟨b,o,none⟩) 1 1)∧w'.cell? ⟨w.heap.size,1,none⟩=some (.int .i64 lost)∧w'.cell? ⟨b,o,none⟩=some (.int .i64 x))
   (first|exact HS.out _ hB3|exact HS.out _ a6|go_keep)
   (first
    | (go_at_call 97;refine (Zf8 (some ⟨b,o,none⟩) [] _ _ (by exact W7.out) (by simp) (by simp)).mono ?_;rintro e w3 ⟨v,rfl,a0,a7⟩;have hB3:=Zb a6 a7;have u0:=(HR.out _ hB3).cell 0 _ rfl;have u1:=(HR.out _ hB3).cell 1 _ rfl;have f0:=(HR.out _ hB3).frozen 0;have f1:=(HR.out _ hB3).frozen 1;have a5:=hid a0;obtain ⟨a3,k3,rfl,-,-,-,-,-⟩:=Zen a0;clear a0))
  have a1:=R5.out.lt;have R6:=hid (((HR.out _ hB3).setCell 0 (.slice a3 0 k3)).setCell 1 (.int .i64 lost));have B6:=hid (((Zb B5.out hB3).setCell (p:=⟨w.heap.size+1,0,none⟩) (by show w.heap.size≤w.heap.size+1;omega) (.slice a3 0 k3)).setCell (p:=⟨w.heap.size+1,1,none⟩) (by show w.heap.size≤w.heap.size+1;omega) (.int .i64 lost));have O6:=hid (Ys (Jn (Jn a5 0 (.slice a3 0 k3) (b:=w.heap.size+1) a1) 1 (.int .i64 lost) (b:=w.heap.size+1) a1) (base':=w.heap.size) a4);clear a5 HR HS u0 u1 f0 f1;go_wp2;obtain ⟨d0,d1⟩:=R6.out.q2 rfl rfl;exact bodyPost_ret (v:=.tuple #[.agg #[.slice a3 0 k3,.int .i64 lost],.int .i64 x,.int .i64 0]) (by simp [results,results178,go_sem,d0,d1]) rfl ⟨_,rfl,O6.out,B6.out⟩
 ·go_wp2_with fail
  go_region_held3 (fun w'=>w'.cell? ⟨w.heap.size,0,none⟩=some (.slice (some ⟨b,o,none⟩) (V.length+1) cap)∧w'.cell? ⟨w.heap.size,1,none⟩=some (.int .i64 lost)∧w'.cell? ⟨b,o,none⟩=some (.int .i64 x))
   (first|exact HS.out _ hB3|exact HS.out _ a6|go_keep)
   (first
    | (go_at_call 97;refine (Zf8 (some ⟨b,o+1,none⟩) V _ _ (by exact W6.out) (by omega) (by simp)).mono ?_;rintro e w3 ⟨v,rfl,a0,a7⟩;have hB3:=Zb a6 a7;have u0:=(HR.out _ hB3).cell 0 _ rfl;have u1:=(HR.out _ hB3).cell 1 _ rfl;have f0:=(HR.out _ hB3).frozen 0;have f1:=(HR.out _ hB3).frozen 1;have a5:=hid a0;obtain ⟨a3,k3,rfl,-,-,-,-,-⟩:=Zen a0;clear a0))
  have a1:=R5.out.lt;have R6:=hid (((HR.out _ hB3).setCell 0 (.slice a3 V.length k3)).setCell 1 (.int .i64 lost));have B6:=hid (((Zb B5.out hB3).setCell (p:=⟨w.heap.size+1,0,none⟩) (by show w.heap.size≤w.heap.size+1;omega) (.slice a3 V.length k3)).setCell (p:=⟨w.heap.size+1,1,none⟩) (by show w.heap.size≤w.heap.size+1;omega) (.int .i64 lost));have O6:=hid (Ys (Jn (Jn a5 0 (.slice a3 V.length k3) (b:=w.heap.size+1) a1) 1 (.int .i64 lost) (b:=w.heap.size+1) a1) (base':=w.heap.size) a4);clear a5 HR HS u0 u1 f0 f1;go_wp2;obtain ⟨d0,d1⟩:=R6.out.q2 rfl rfl;exact bodyPost_ret (v:=.tuple #[.agg #[.slice a3 V.length k3,.int .i64 lost],.int .i64 x,.int .i64 0]) (by simp [results,results178,go_sem,d0,d1]) rfl ⟨_,rfl,O6.out,B6.out⟩
theorem Zmo (a:Option Addr) (V:List Int) (cap:Nat) (lost size:Int) (w:World) (hw:Z4 w a V) (hl:V.length≤9223372036854775807) (hc:V.length≤cap):
  Calls prog 178 #[.agg #[.slice a V.length cap,.int .i64 lost],.int .i64 size] w fun e w'=>∃ v,e=.returned (.tuple #[.agg #[v,.int .i64 (Zjg V lost size)],.int .i64 (Zhk V lost size),.int .i64 (ckR V lost size)])∧w'.ownsRow w.heap.size 3 1 v (Zgw V lost size).length (ivs (Zgw V lost size))∧Below w.heap.size w w':=by
 by_cases h0:ckR V lost size=0
 ·cases V with
  | nil=>
   refine (Zlc a cap lost size w h0).mono ?_;rintro e w' ⟨rfl,hb⟩;exact ⟨.slice none 0 0,by simp [Zjg,Zhk,h0],by simp [Zgw,ivs];exact World.ownsRow_nil _ _ _ _,hb⟩
  | cons x V=>
   obtain ⟨b,o,rfl,_⟩:=hw 0 (by simp);refine (Zmu b o x V cap lost size w hw hc h0).mono ?_;rintro e w' ⟨v,rfl,ho,hb⟩;exact ⟨v,by simp [Zjg,Zhk,h0],by simp only [Zgw,h0,if_true];exact ho,hb⟩
 ·refine (Zni a V cap lost size w hw hl h0).mono ?_
  rintro e w' ⟨rfl,hb⟩;exact ⟨.slice none 0 0,by simp [Zjg,Zhk,h0],by simp [Zgw,h0,ivs];exact World.ownsRow_nil _ _ _ _,hb⟩
theorem Z4.takex {a:Option Addr} {ls:List Int} (h:Z4 w a ls) (k:Nat):Z4 w a (ls.take k):=by
 intro i hi
 have:i<ls.length:=by simp at hi;omega
 obtain ⟨b,o,e,h1⟩:=h i this;exact ⟨b,o,e,by simpa using h1⟩
theorem Zmp (n:Nat) (w:World) (hn:n≤4):
  Calls prog 167 #[.slice none 0 0,.int .i64 n] w fun e w'=>∃ v,e=.returned v∧w'.ownsRow w.heap.size 3 1 v 0 []∧Below w.heap.size w w':=by
 obtain ⟨i3,hi,hz,a4,a1⟩:=Zbk Tryz.info3x;have h1:¬ ((n:Int)<0):=by omega
 rcases Nat.eq_zero_or_pos n with rfl|hp
 ·go_enter func167,ntmps167
  go_wp2;go_ret;exact ⟨_,rfl,World.ownsRow_nil _ _ _ _,br⟩
 ·have h4:(n:Int)>0:=by omega
  have a2:∀ ty,(Builtin.append_ #[23,3] ty #[.slice none 0 0,.int .i64 (n:Int)]).run prog w =
    .ok (.slice (some ⟨w.heap.size,0,none⟩) n (grownCap w n 0 3)) (w.drew.alloc (.cells (Builtin.zeroCells #[.int .i64 0] n++Builtin.zeroCells #[.int .i64 0] (grownCap w n 0 3-n)) 3)):=fun ty=>by
   have:=Lib.run_append_nil_zeros (P:=prog) w 23 3 ty 3 i3 _ .i64 .i64 underlying23 underlying3 hi hz n hp (by omega) (by omega) (by rw [a1];omega)
   exact this
  have a5:=grownCap_ge w n 0 3;have a0:=grownCap_le_maxLen w n 0 3 (by unfold maxLen;omega);have a3:((grownCap w n 0 3:Nat):Int)≤9223372036854775807:=by unfold maxLen at a0;omega
  have HB:Hid (Below w.heap.size w (w.drew.alloc (.cells (Builtin.zeroCells #[.int .i64 0] n++Builtin.zeroCells #[.int .i64 0] (grownCap w n 0 3-n)) 3))):=hid (br.drew.alloc lr _);have HO:Hid ((w.drew.alloc (.cells (Builtin.zeroCells #[.int .i64 0] n++Builtin.zeroCells #[.int .i64 0] (grownCap w n 0 3-n)) 3)).ownsRow w.heap.size 3 1 (.slice (some ⟨w.heap.size,0,none⟩) 0 (grownCap w n 0 3)) 0 []):=by
   refine hid ⟨rfl,.inr ⟨w.heap.size,_,_,rfl,lr,heap_alloc_new _ _,zl,a0,?_,by simp⟩⟩;simp [Builtin.zeroCells];omega
  generalize hG:grownCap w n 0 3=G at *
  generalize w.drew.alloc _=w1 at *
  clear hG a0;go_enter func167,ntmps167;go_wp2_with (at_builtin;refine Lib.wpList_append_run _ rfl _ _ _ _ rfl _ _ rfl rfl _ _ (a2 _) ?_)
  all_goals (go_ret;exact ⟨_,rfl,HO.out,HB.out⟩)
theorem Zc6 (g:Nat) (a1 a2:Option Addr) (L1 L2:List Int) (c1 c2:Nat) (w:World) (h1:Z4 w a1 L1) (h2:Z4 w a2 L2) (hl:L1.length+L2.length≤4)
  (hc0:w.cell? ⟨g,0,none⟩=some (.slice a1 L1.length c1)) (hc1:w.cell? ⟨g,1,none⟩=some (.slice a2 L2.length c2)) :
  Calls prog 144 #[.slice (some ⟨g,0,none⟩) 2 2] w fun e w'=>∃ v,e=.returned v∧w'.ownsRow w.heap.size 3 1 v (L1++L2).length (ivs (L1++L2))∧Below w.heap.size w w':=by
 have H1:=hid h1;have H2:=hid h2;have a6:=hid hc0;have a9:=hid hc1;clear h1 h2;go_enter func144,ntmps144;go_wp2;go_loopw [3,11] (fun z i wr=>w=wr∧((i=.int .i64 0∧z=.int .i64 0)∨(i=.int .i64 1∧z=.int .i64 (L1.length:Int))∨(i=.int .i64 2∧z=.int .i64 ((L1.length+L2.length:Nat):Int)))) (fun z i _=>2-(intOf i).toNat)
 case atStart=>exact ⟨rfl,.inl ⟨rfl,rfl⟩⟩
 case round=>
  obtain ⟨rfl,⟨rfl,rfl⟩|⟨rfl,rfl⟩|⟨rfl,rfl⟩⟩:=hrel
  ·have hn:¬ ((L1.length:Int)<0):=by omega
   go_wp2;go_roundw
   case rel=>exact ⟨by trivial,.inr (.inl ⟨rfl,by go_num⟩)⟩
   case measure=>simp [intOf]
  ·have hn:¬ ((L1.length:Int)+(L2.length:Int)<0):=by omega
   have hw:wrap64 ((L1.length:Int)+(L2.length:Int))=(L1.length:Int)+(L2.length:Int):=by unfold wrap64;omega
   go_wp2;go_roundw
   case rel=>exact ⟨by trivial,.inr (.inr ⟨rfl,by simp⟩)⟩
   case measure=>simp [intOf]
  ·go_wp2_with fail
   refine (Zmp (L1.length+L2.length) _ hl).mono ?_;rintro e w1 ⟨v,rfl,a4,hb⟩;have HO:=hid a4;have HB:=hid hb;have K0:=hid (Zg hb a6 lr);have K1:=hid (Zg hb a9 lr);have P1:=hid (H1.out.keep hb);have P2:=hid (H2.out.keep hb);have ab:g<w.heap.size:=World.block_lt_of_cell? _ _ a6.out;clear a4 hb hc0 hc1;go_wp2;go_loopw [6,27] (fun z i wr=>∃ L:List Int,wr.ownsRow w.heap.size 3 1 z L.length (ivs L)∧Below w.heap.size w wr∧((i=.int .i64 0∧L=[])∨(i=.int .i64 1∧L=L1)∨(i=.int .i64 2∧L=L1++L2))) (fun z i _=>2-(intOf i).toNat)
   case atStart=>exact ⟨[],HO.out,HB.out,.inl ⟨rfl,rfl⟩⟩
   case round=>
    obtain ⟨L,a4,hb,hL⟩:=hrel;have a7:=hid a4;have a8:=hid hb;have M0:=Zg hb a6.out lr;have M1:=Zg hb a9.out lr;have Q1:=hid (H1.out.keep hb);have Q2:=hid (H2.out.keep hb);have aa:=a4.lt;have a5:=hb.size;clear a4 hb;rcases hL with ⟨rfl,rfl⟩|⟨rfl,rfl⟩|⟨rfl,rfl⟩
    ·go_wp2_with (at_builtin;refine Zb7 rfl _ _ rfl w.heap.size _ _ _ rfl a7.out L1 _ _ rfl Q1.out (by simp [maxLen];omega) (by simp;omega) a5 ?_)
     intro v' w3 a0 a3;have HE:=hid (show w3.ownsRow w.heap.size 3 1 v' L1.length (ivs L1)∧Below w.heap.size w w3 from ⟨by simpa [ivs] using a0,a8.out.grown a3 a5 (fun k hk=>(aa k hk).1)⟩);clear a0 a3;go_wp2;go_roundw
     case rel=>exact ⟨L1,HE.out.1,HE.out.2,.inr (.inl ⟨rfl,rfl⟩)⟩
     case measure=>simp [intOf]
    ·go_wp2_with (at_builtin;refine Zb7 rfl _ _ rfl w.heap.size _ _ _ rfl a7.out L2 _ _ rfl Q2.out (by simp [maxLen];omega) (by omega) a5 ?_)
     intro v' w3 a0 a3;have HE:=hid (show w3.ownsRow w.heap.size 3 1 v' (L++L2).length (ivs (L++L2))∧Below w.heap.size w w3 from ⟨by rw [Zsi,List.length_append];exact a0,a8.out.grown a3 a5 (fun k hk=>(aa k hk).1)⟩);clear a0 a3;go_wp2;go_roundw
     case rel=>exact ⟨L++L2,HE.out.1,HE.out.2,.inr (.inr ⟨rfl,rfl⟩)⟩
     case measure=>simp [intOf]
    ·go_wp2
     go_ret;exact ⟨_,rfl,a7.out,a8.out⟩
theorem Zxp (a:Option Addr) (V:List Int) (cap:Nat) (lost size:Int) (p:Option Addr) (L:List Int) (c:Nat) (w:World) (hw:Z4 w a V) (hl:V.length≤9223372036854775807) (hL:Z4 w p L) (hm:L.length≤9223372036854775807) (h0:ckR V lost size≠0):
  Calls prog 106 #[.agg #[.slice a V.length cap,.int .i64 lost],.int .i64 size,.slice p L.length c] w fun e w'=>e=.returned (.tuple #[.agg #[.slice none 0 0,.int .i64 0],.int .i64 (ckR V lost size)])∧Below w.heap.size w w':=by
 have q1:=Za w (.cells #[.slice a V.length cap,.int .i64 lost] 90);have q2:=Za (w.alloc (.cells #[.slice a V.length cap,.int .i64 lost] 90)) (.cells #[.slice none 0 0,.int .i64 0] 90);have HB:=hid (Zb q1 q2);have HW:=hid (hw.keep (Zb q1 q2));have HL:=hid (hL.keep (Zb q1 q2));have R2:Hid (Zf ((w.alloc (.cells #[.slice a V.length cap,.int .i64 lost] 90)).alloc (.cells #[.slice none 0 0,.int .i64 0] 90)) w.heap.size 90 [.slice a V.length cap,.int .i64 lost]):=hid ((Zc w _ [.slice a V.length cap,.int .i64 lost] 90 rfl).alloc _);have R4:Hid (Zf ((w.alloc (.cells #[.slice a V.length cap,.int .i64 lost] 90)).alloc (.cells #[.slice none 0 0,.int .i64 0] 90)) (w.heap.size+1) 90 [.slice none 0 0,.int .i64 0]):=hid (Zc _ _ [.slice none 0 0,.int .i64 0] 90 (by simp));clear q1 q2 hw hL;go_enter func106,ntmps106;go_wp2_with fail;refine (Jg a V cap lost size _ HW hl).mono ?_;rintro e w2 ⟨rfl,a0⟩;have R3:=hid (R2.out.below a0 lr);have R5:=hid (R4.out.below a0 lr);have B5:=hid (Zb HB a0);have W5:=hid (HW.out.keep a0);have L5:=hid (HL.out.keep a0);clear a0 HB HW HL R2 R4;have hx:(ckR V lost size != 0)=true:=by simp [h0]
 have x0:=R5.out.cell 0 _ rfl;have y0:=R5.out.frozen 0;have x1:=R5.out.cell 1 _ rfl;have y1:=R5.out.frozen 1;clear h0;generalize hq:ckR V lost size=q at *
 have HQ:=hid hq;clear hq;have R6:=hid ((R5.out.setCell 0 (.slice none 0 0)).setCell 1 (.int .i64 0));have B6:=hid ((B5.out.setCell (p:=⟨w.heap.size+1,0,none⟩) (by show w.heap.size≤w.heap.size+1;omega) (.slice none 0 0)).setCell (p:=⟨w.heap.size+1,1,none⟩) (by show w.heap.size≤w.heap.size+1;omega) (.int .i64 0));clear R5 B5;go_wp2;obtain ⟨d0,d1⟩:=R6.out.q2 rfl rfl;exact bodyPost_ret (v:=.tuple #[.agg #[.slice none 0 0,.int .i64 0],.int .i64 q]) (by simp [results,results106,go_sem,d0,d1]) rfl ⟨by rw [HQ.out],B6.out⟩
theorem Zsw (a:Option Addr) (V:List Int) (cap:Nat) (lost size:Int) (p:Option Addr) (L:List Int) (c:Nat) (w:World) (hw:Z4 w a V) (hl:V.length≤9223372036854775807) (hL:Z4 w p L) (hm:L.length≤140737488355328) (hcp:L.length≤c) (h0:ckR V lost size=0) (h1:Zbc L 0 255=true) (R:Nat) (hR:size=((V.length+R:Nat):Int)):
  Calls prog 106 #[.agg #[.slice a V.length cap,.int .i64 lost],.int .i64 size,.slice p L.length c] w fun e w'=>∃ v,e=.returned (.tuple #[.agg #[v,.int .i64 (Zm6 lost R L.length)],.int .i64 0])∧w'.ownsRow w.heap.size 3 1 v (Zkf V L R L.length).length (ivs (Zkf V L R L.length))∧Below w.heap.size w w':=by
 have ab:=hid hR;clear hR;have hk:=Zh7 h0;obtain ⟨⟨ai,aj⟩,ak,-,al,af⟩:=hk;have am:Hid (Zm6 lost R L.length=min (lost+((L.length:Int)-min (R:Int) (L.length:Int))) 100000):=hid (by unfold Zm6;omega);have an:Hid (Zkf V L R L.length=V++L.take (min R L.length)):=hid (by unfold Zkf;rw [Nat.min_comm]);have q1:=Za w (.cells #[.slice a V.length cap,.int .i64 lost] 90);have q2:=Za (w.alloc (.cells #[.slice a V.length cap,.int .i64 lost] 90)) (.cells #[.slice none 0 0,.int .i64 0] 90);have HB:=hid (Zb q1 q2);have HW:=hid (hw.keep (Zb q1 q2));have HL:=hid (hL.keep (Zb q1 q2));have R2:Hid (Zf ((w.alloc (.cells #[.slice a V.length cap,.int .i64 lost] 90)).alloc (.cells #[.slice none 0 0,.int .i64 0] 90)) w.heap.size 90 [.slice a V.length cap,.int .i64 lost]):=hid ((Zc w _ [.slice a V.length cap,.int .i64 lost] 90 rfl).alloc _);have R4:Hid (Zf ((w.alloc (.cells #[.slice a V.length cap,.int .i64 lost] 90)).alloc (.cells #[.slice none 0 0,.int .i64 0] 90)) (w.heap.size+1) 90 [.slice none 0 0,.int .i64 0]):=hid (Zc _ _ [.slice none 0 0,.int .i64 0] 90 (by simp));clear q1 q2 hw hL;go_enter func106,ntmps106;go_wp2_with fail;refine (Jg a V cap lost size _ HW hl).mono ?_;rintro e w2 ⟨rfl,a7⟩;have R3:=hid (R2.out.below a7 lr);have R5:=hid (R4.out.below a7 lr);have B5:=hid (Zb HB a7);have W5:=hid (HW.out.keep a7);have L5:=hid (HL.out.keep a7);clear a7 HB HW HL R2 R4;rw [h0];have H1:=hid h1;clear h0 h1;go_wp2_with fail;refine (Zhe 0 255 p L c _ L5.out (by omega)).mono ?_;rintro e w3 ⟨rfl,a8⟩;rw [H1.out];replace R3:=hid (R3.out.below a8 lr);replace R5:=hid (R5.out.below a8 lr);replace B5:=hid (Zb B5.out a8);replace W5:=hid (W5.out.keep a8);replace L5:=hid (L5.out.keep a8);clear a8;obtain ⟨z0,z1⟩:=R3.out.q2 rfl rfl;have ao:V.length+R≤4:=by have:=ab.out;omega
 have e1:size-(V.length:Int)=(R:Int):=by have:=ab.out;omega
 have ag:w.heap.size≤w3.heap.size:=B5.out.size;have ah:=R5.out.lt;have ap:¬ w.heap.size+1=w.heap.size:=by omega
 have HS:Hid (∀ w',Below w3.heap.size w3 w'→w'.cell? ⟨w.heap.size,0,none⟩=some (.slice a V.length cap)∧w'.cell? ⟨w.heap.size,1,none⟩=some (.int .i64 lost)):=hid fun w' hb=>⟨Zg hb z0 lr,Zg hb z1 lr⟩
 have HR:Hid (∀ w',Below w3.heap.size w3 w'→Zf w' (w.heap.size+1) 90 [.slice none 0 0,.int .i64 0]):=hid fun w' hb=>R5.out.below hb lr
 have hA:∀ n:Nat,Below w3.heap.size w3 (w3.alloc (.cells #[.slice a V.length cap,.slice p n c] 23)).drew:=fun n=>(Za _ _).drew
 clear R3;by_cases hle:R≤L.length
 ·have a9:size-(V.length:Int)≤(L.length:Int):=by omega
  have aa:(R:Int)≤(L.length:Int):=by omega
  by_cases hsum:lost+((L.length:Int)-(R:Int))≤100000
  ·have HT:Hid ((L.take R).length=R):=hid (by simp;try omega)
   have a1:Hid (Zm6 lost R L.length=lost+((L.length:Int)-(R:Int))):=hid (by unfold Zm6;omega);have a2:Hid (Zkf V L R L.length=V++L.take R):=hid (by unfold Zkf;rw [show min L.length R=R by omega];try simp);have ac:(0:Int)≤((R:Nat):Int):=by omega
   have ad:((R:Nat):Int)≤(c:Int):=by omega
   have ae:IntKind.i64.wrap (lost+((L.length:Int)-(R:Int)))=lost+((L.length:Int)-(R:Int)):=by rw [IntKind.wrap_i64];omega
   go_wp2_with fail;go_region_held3 (fun w'=>w'.cell? ⟨w.heap.size,0,none⟩=some (.slice a V.length cap)∧w'.cell? ⟨w.heap.size,1,none⟩=some (.int .i64 lost))
    (first|exact HS.out _ hB4|exact HS.out _ (hA _)|go_keep)
    (first
     | (go_at_call 144;refine (Zc6 w3.heap.size a p V (L.take R) cap c _ (W5.out.keep (hA R)) ((L5.out.keep (hA R)).takex R) (by rw [HT.out];omega) (by simp) (by rw [HT.out];simp)).mono ?_;rintro e w4 ⟨v,rfl,a0,a3⟩;have hB4:=Zb (hA R) a3;have u0:=(HR.out _ hB4).cell 0 _ rfl;have u1:=(HR.out _ hB4).cell 1 _ rfl;have f0:=(HR.out _ hB4).frozen 0;have f1:=(HR.out _ hB4).frozen 1;have a5:=hid a0;obtain ⟨a4,k4,rfl,-,-,-,-,-⟩:=Zen a0;clear a0))
   all_goals
    have HE:Hid ((V++L.take R).length=V.length+R):=hid (by rw [List.length_append,HT.out]);have a6:Hid (w4.ownsRow (w3.heap.size+1) 3 1 (.slice a4 (V.length+R) k4) (V.length+R) (ivs (V++L.take R))):=by
     have q:=a5.out;rw [HE.out] at q;exact hid (by simpa using q)
    have R6:=hid (((HR.out _ hB4).setCell 0 (.slice a4 (V.length+R) k4)).setCell 1 (.int .i64 (lost+((L.length:Int)-(R:Int)))));have B6:=hid (((Zb B5.out hB4).setCell (p:=⟨w.heap.size+1,0,none⟩) (by show w.heap.size≤w.heap.size+1;omega) (.slice a4 (V.length+R) k4)).setCell (p:=⟨w.heap.size+1,1,none⟩) (by show w.heap.size≤w.heap.size+1;omega) (.int .i64 (lost+((L.length:Int)-(R:Int)))));have O6:=hid (Ys (Jn (Jn a6 0 (.slice a4 (V.length+R) k4) (b:=w.heap.size+1) (by omega)) 1 (.int .i64 (lost+((L.length:Int)-(R:Int)))) (b:=w.heap.size+1) (by omega)) (base':=w.heap.size) (by omega));clear a5 a6 HR HS u0 u1 f0 f1 hB4 a3;go_wp2;obtain ⟨d0,d1⟩:=R6.out.q2 rfl rfl;refine bodyPost_ret (v:=.tuple #[.agg #[.slice a4 (V.length+R) k4,.int .i64 (lost+((L.length:Int)-(R:Int)))],.int .i64 0]) (by simp [results,results106,go_sem,d0,d1]) rfl ⟨_,by rw [a1.out],?_,B6.out⟩;rw [a2.out,HE.out];exact O6.out
  ·have HT:Hid ((L.take R).length=R):=hid (by simp;try omega)
   have a1:Hid (Zm6 lost R L.length=100000):=hid (by unfold Zm6;omega);have a2:Hid (Zkf V L R L.length=V++L.take R):=hid (by unfold Zkf;rw [show min L.length R=R by omega];try simp);have ac:(0:Int)≤((R:Nat):Int):=by omega
   have ad:((R:Nat):Int)≤(c:Int):=by omega
   have ae:IntKind.i64.wrap (lost+((L.length:Int)-(R:Int)))=lost+((L.length:Int)-(R:Int)):=by rw [IntKind.wrap_i64];omega
   go_wp2_with fail;go_region_held3 (fun w'=>w'.cell? ⟨w.heap.size,0,none⟩=some (.slice a V.length cap)∧w'.cell? ⟨w.heap.size,1,none⟩=some (.int .i64 lost))
    (first|exact HS.out _ hB4|exact HS.out _ (hA _)|go_keep)
    (first
     | (go_at_call 144;refine (Zc6 w3.heap.size a p V (L.take R) cap c _ (W5.out.keep (hA R)) ((L5.out.keep (hA R)).takex R) (by rw [HT.out];omega) (by simp) (by rw [HT.out];simp)).mono ?_;rintro e w4 ⟨v,rfl,a0,a3⟩;have hB4:=Zb (hA R) a3;have u0:=(HR.out _ hB4).cell 0 _ rfl;have u1:=(HR.out _ hB4).cell 1 _ rfl;have f0:=(HR.out _ hB4).frozen 0;have f1:=(HR.out _ hB4).frozen 1;have a5:=hid a0;obtain ⟨a4,k4,rfl,-,-,-,-,-⟩:=Zen a0;clear a0))
   all_goals
    have HE:Hid ((V++L.take R).length=V.length+R):=hid (by rw [List.length_append,HT.out]);have a6:Hid (w4.ownsRow (w3.heap.size+1) 3 1 (.slice a4 (V.length+R) k4) (V.length+R) (ivs (V++L.take R))):=by
     have q:=a5.out;rw [HE.out] at q;exact hid (by simpa using q)
    have R6:=hid (((HR.out _ hB4).setCell 0 (.slice a4 (V.length+R) k4)).setCell 1 (.int .i64 (100000)));have B6:=hid (((Zb B5.out hB4).setCell (p:=⟨w.heap.size+1,0,none⟩) (by show w.heap.size≤w.heap.size+1;omega) (.slice a4 (V.length+R) k4)).setCell (p:=⟨w.heap.size+1,1,none⟩) (by show w.heap.size≤w.heap.size+1;omega) (.int .i64 (100000)));have O6:=hid (Ys (Jn (Jn a6 0 (.slice a4 (V.length+R) k4) (b:=w.heap.size+1) (by omega)) 1 (.int .i64 (100000)) (b:=w.heap.size+1) (by omega)) (base':=w.heap.size) (by omega));clear a5 a6 HR HS u0 u1 f0 f1 hB4 a3;go_wp2;obtain ⟨d0,d1⟩:=R6.out.q2 rfl rfl;refine bodyPost_ret (v:=.tuple #[.agg #[.slice a4 (V.length+R) k4,.int .i64 (100000)],.int .i64 0]) (by simp [results,results106,go_sem,d0,d1]) rfl ⟨_,by rw [a1.out],?_,B6.out⟩;rw [a2.out,HE.out];exact O6.out
 ·have a9:¬ size-(V.length:Int)≤(L.length:Int):=by omega
  have aa:(L.length:Int)<size-(V.length:Int):=by omega
  have HT:Hid ((L).length=L.length):=hid (by simp;try omega);have a1:Hid (Zm6 lost R L.length=lost):=hid (by unfold Zm6;omega);have a2:Hid (Zkf V L R L.length=V++L):=hid (by unfold Zkf;rw [show min L.length R=L.length by omega];try simp);have ac:(0:Int)≤((L.length:Nat):Int):=by omega
  have ad:((L.length:Nat):Int)≤(c:Int):=by omega
  have ae:IntKind.i64.wrap lost=lost:=by rw [IntKind.wrap_i64];omega
  have aq:IntKind.i64.wrap (lost+0)=lost:=by rw [IntKind.wrap_i64];omega
  clear HT;go_wp2_with fail;go_region_held3 (fun w'=>w'.cell? ⟨w.heap.size,0,none⟩=some (.slice a V.length cap)∧w'.cell? ⟨w.heap.size,1,none⟩=some (.int .i64 lost))
   (first|exact HS.out _ hB4|exact HS.out _ (hA _)|go_keep)
   (first
    | (go_at_call 144;refine (Zc6 w3.heap.size a p V (L) cap c _ (W5.out.keep (hA L.length)) (L5.out.keep (hA L.length)) (by omega) (by simp) (by simp)).mono ?_;rintro e w4 ⟨v,rfl,a0,a3⟩;have hB4:=Zb (hA L.length) a3;have u0:=(HR.out _ hB4).cell 0 _ rfl;have u1:=(HR.out _ hB4).cell 1 _ rfl;have f0:=(HR.out _ hB4).frozen 0;have f1:=(HR.out _ hB4).frozen 1;have a5:=hid a0;obtain ⟨a4,k4,rfl,-,-,-,-,-⟩:=Zen a0;clear a0))
  all_goals
   have HE:Hid ((V++L).length=V.length+L.length):=hid (by rw [List.length_append]);have a6:Hid (w4.ownsRow (w3.heap.size+1) 3 1 (.slice a4 (V.length+L.length) k4) (V.length+L.length) (ivs (V++L))):=by
    have q:=a5.out;rw [HE.out] at q;exact hid (by simpa using q)
   have R6:=hid (((HR.out _ hB4).setCell 0 (.slice a4 (V.length+L.length) k4)).setCell 1 (.int .i64 (lost)));have B6:=hid (((Zb B5.out hB4).setCell (p:=⟨w.heap.size+1,0,none⟩) (by show w.heap.size≤w.heap.size+1;omega) (.slice a4 (V.length+L.length) k4)).setCell (p:=⟨w.heap.size+1,1,none⟩) (by show w.heap.size≤w.heap.size+1;omega) (.int .i64 (lost)));have O6:=hid (Ys (Jn (Jn a6 0 (.slice a4 (V.length+L.length) k4) (b:=w.heap.size+1) (by omega)) 1 (.int .i64 (lost)) (b:=w.heap.size+1) (by omega)) (base':=w.heap.size) (by omega));clear a5 a6 HR HS u0 u1 f0 f1 hB4 a3;go_wp2;obtain ⟨d0,d1⟩:=R6.out.q2 rfl rfl;refine bodyPost_ret (v:=.tuple #[.agg #[.slice a4 (V.length+L.length) k4,.int .i64 (lost)],.int .i64 0]) (by simp [results,results106,go_sem,d0,d1]) rfl ⟨_,by rw [a1.out],?_,B6.out⟩;rw [a2.out,HE.out];exact O6.out
abbrev bl (l:List Bool):List Value:=l.map Value.bool
theorem Zub (F T:List Bool) (x y:Bool) (h:F.length=T.length):orR (F++[x]) (T++[y])=orR F T++[x||y]:=by
 simp only [orR];rw [List.zipWith_append h];rfl
theorem Zpe (f t:Nat) (F T:List Bool) (c1 c2:Nat) (w:World) (hF:Zf w f 4 (bl F)) (hT:Zf w t 4 (bl T)) (hl:F.length=T.length) (hne:f≠t) (h4:T.length≤4):
  Calls prog 33 #[.slice (some ⟨f,0,none⟩) F.length c1,.slice (some ⟨t,0,none⟩) T.length c2] w fun e w'=>e=.returned (.tuple #[])∧Zf w' f 4 (bl (orR F T))∧w.grownBy w' (some f):=by
 have HF:=hid hF;have HT:=hid hT;clear hF hT;go_enter func33,ntmps33;go_wp2;go_loopw [8] (fun i wr=>∃ k:Nat,k≤T.length∧i=.int .i64 k∧Zf wr f 4 (bl (orR (F.take k) (T.take k)++F.drop k))∧w.grownBy wr (some f)) (fun i _=>T.length-(intOf i).toNat)
 case atStart=>exact ⟨0,zl,rfl,by simpa [orR] using HF.out,⟨rfl,rfl,rfl,lr,fun _ _ _=>rfl⟩⟩
 case round=>
  obtain ⟨k,hk,rfl,hR,hg⟩:=hrel;have HR:=hid hR;have HG:=hid hg;clear hR hg;by_cases hlt:k<T.length
  ·have a0:k<F.length:=by omega
   have a3:=(HT.out.grown' HG.out (by simp;omega)).cell k (.bool T[k]) (by simp [hlt]);have a4:=HR.out.frozen k;have a5:=HR.out.cell k (.bool F[k]) (by
    have e:(orR (F.take k) (T.take k)).length=k:=by rw [Znb (by simp;omega)];simp;omega
    simp only [bl,List.getElem?_map];rw [List.getElem?_append_right (by omega),e];simp [a0])
   have a1:Hid (Zf (wr.setCell ⟨f,k,none⟩ (.bool (F[k]||T[k]))) f 4 (bl (orR (F.take (k+1)) (T.take (k+1))++F.drop (k+1)))):=by
    have q:=HR.out.setCell k (.bool (F[k]||T[k]));have e:(orR (F.take k) (T.take k)).length=k:=by rw [Znb (by simp;omega)];simp;omega
    have e2:(bl (orR (F.take k) (T.take k)++F.drop k)).set k (.bool (F[k]||T[k]))=bl (orR (F.take (k+1)) (T.take (k+1))++F.drop (k+1)):=by
     rw [List.take_succ_eq_append_getElem hlt,List.take_succ_eq_append_getElem a0,Zub _ _ _ _ (by simp;omega)];rw [List.drop_eq_getElem_cons a0];simp only [bl,List.map_append,List.map_cons,List.append_assoc,List.cons_append,List.nil_append];rw [List.set_append_right _ _ (by simp [e])];simp [e]
    rw [e2] at q;exact q
   have a2:Hid (w.grownBy (wr.setCell ⟨f,k,none⟩ (.bool (F[k]||T[k]))) (some f)):=
    ⟨HG.out.os,HG.out.tape,HG.out.output,by simpa [World.setCell] using HG.out.size,fun j h1 h2=>by rw [Below.heap_setCell _ _ _ _ (by intro e;exact h2 (by rw [e]))];exact HG.out.block j h1 h2⟩
   clear HR HG;generalize hfk:F[k]=x at *
   generalize htk:T[k]=y at *
   clear hfk htk
   cases x<;>cases y <;>
   ·go_wp2
    go_roundw
    case rel=>exact ⟨k+1,by omega,by go_num,a1.out,a2.out⟩
    case measure=>simp [intOf];omega
  ·obtain rfl:k=T.length:=by omega
   go_wp2;go_end0;refine ⟨rfl,?_,HG.out⟩
   have:=HR.out
   rw [List.take_length,← hl,List.take_length,List.drop_length,List.append_nil] at this;exact this
structure Mat (w:World) (r D k:Nat) (M:Nat→List Bool):Prop where
 outer:∃ L,Zf w r 55 L∧L.length=D∧∀ i,i<k→L[i]? = some (.slice (some ⟨r+1+i,0,none⟩) D D)
 rows:∀ i,i<k→Zf w (r+1+i) 4 (bl (M i))
 len:∀ i,i<k→(M i).length=D
theorem Mat.grown {M:Nat→List Bool} (h:Mat w r D k M) (hg:w.grownBy w' row) (hr:∀ j,row=some j→j<r):Mat w' r D k M:=by
 obtain ⟨L,h1,h2,h3⟩:=h.outer;refine ⟨⟨L,h1.grown' hg (fun e=>?_),h2,h3⟩,fun i hi=>(h.rows i hi).grown' hg (fun e=>?_),h.len⟩
 ·have:=hr _ e.symm;omega
 ·have:=hr _ e.symm;omega
theorem Mat.below {M:Nat→List Bool} (h:Mat w r D k M) (hb:Below w.heap.size w w'):Mat w' r D k M:=
 h.grown (row:=none) ⟨hb.os,hb.tape,hb.output,hb.size,fun k hk _=>hb.block k hk⟩ (by simp)
theorem Mat.step {M:Nat→List Bool} {x:Int×Int×Int} (h:Mat w r D D M) (h1:x.1.toNat<D) (h2:x.2.1.toNat<D) (hr:Zf w' (r+1+x.1.toNat) 4 (bl (orR (M x.1.toNat) (M x.2.1.toNat)))) (hg:w.grownBy w' (some (r+1+x.1.toNat))):Mat w' r D D (Zd3 M x):=by
 obtain ⟨L,q1,q2,q3⟩:=h.outer;refine ⟨⟨L,q1.grown' hg (by simp;omega),q2,q3⟩,fun i hi=>?_,Zll h.len x h1 h2⟩;unfold Zd3;split
 ·rename_i e;rw [e];exact hr
 ·rename_i e;exact (h.rows i hi).grown' hg (by simp;omega)
structure Zw1 (w:World) (r D k:Nat):Prop where
 outer:Zf w r 55 ((List.range k).map (fun i=>Value.slice (some ⟨r+1+i,0,none⟩) D D)++List.replicate (D-k) (Value.slice none 0 0))
 rows:∀ i,i<k→Zf w (r+1+i) 4 (bl (idM D i))
 size:w.heap.size=r+1+k
theorem Zwq (D i:Nat):(idM D i).length=D:=by simp [idM]
theorem Zw1.mat (h:Zw1 w r D D):Mat w r D D (idM D):=by
 refine ⟨⟨_,h.outer,by simp,fun i hi=>?_⟩,h.rows,fun i _=>Zwq D i⟩;rw [List.getElem?_append_left (by simpa using hi)];simp [hi]
theorem Zv2 (D k:Nat):(Array.replicate D (Value.bool false)).setIfInBounds k (.bool true)=(bl (idM D k)).toArray:=by
 apply Array.ext';simp [bl,idM,List.map_set]
theorem Zrh (n f t:Nat) (F T:List Bool) (c1 c2:Nat) (w:World) (hF:Zf w f 4 (bl F)) (hT:Zf w t 4 (bl T)) (h1:F.length=n) (h2:T.length=n) (hne:f≠t) (h4:n≤4):
  Calls prog 33 #[.slice (some ⟨f,0,none⟩) n c1,.slice (some ⟨t,0,none⟩) n c2] w fun e w'=>e=.returned (.tuple #[])∧Zf w' f 4 (bl (orR F T))∧w.grownBy w' (some f):=by
 have q:=Zpe f t F T c1 c2 w hF hT (by omega) hne (by omega);rw [h1,h2] at q;exact q
theorem Zw1.next (h:Zw1 w r D k) (hk:k<D):
  Zw1 ((w.setCell ⟨r,k,none⟩ (.slice (some ⟨w.heap.size,0,none⟩) D D)).alloc (.cells ((Array.replicate D (Value.bool false)).setIfInBounds k (.bool true)) 4)) r D (k+1):=by
 have hs:=h.size;have a1:=h.outer.lt;rw [Zv2];refine ⟨?_,fun i hi=>?_,by simp [World.setCell];omega⟩
 ·have q:=(h.outer.setCell k (.slice (some ⟨w.heap.size,0,none⟩) D D)).alloc (.cells (bl (idM D k)).toArray 4)
  have e:((List.range k).map (fun i=>Value.slice (some ⟨r+1+i,0,none⟩) D D)++List.replicate (D-k) (Value.slice none 0 0)).set k (.slice (some ⟨w.heap.size,0,none⟩) D D)=(List.range (k+1)).map (fun i=>Value.slice (some ⟨r+1+i,0,none⟩) D D)++List.replicate (D-(k+1)) (Value.slice none 0 0):=by
   rw [List.set_append_right _ _ (by simp)];obtain ⟨m,hm⟩:∃ m,D-k=m+1:=⟨D-k-1,by omega⟩
   have a0:D-(k+1)=m:=by omega
   rw [hm,a0,List.range_succ,hs];simp [List.replicate_succ]
  rw [e] at q;exact q
 ·by_cases e:i=k
  ·subst e
   have hz:(w.setCell ⟨r,i,none⟩ (.slice (some ⟨w.heap.size,0,none⟩) D D)).heap.size=r+1+i:=by simp [World.setCell];omega
   exact Zc _ _ _ _ hz
  ·exact ((h.rows i (by omega)).setOther _ _ (by show r+1+i≠r;omega)).alloc _
theorem Tryz.info55b:(prog.info? 55).map (fun i=>(i.zero,i.size,i.bytes))=some (some (.slice none 0 0),1,24):=by kernel_rfl
theorem Tryz.info4b:(prog.info? 4).map (fun i=>(i.zero,i.size,i.bytes))=some (some (.bool false),1,1):=by kernel_rfl
theorem Zy5 (D:Nat) (h:D≤4) (w:World):(Instr.makeSlice 51 (.int .i64 D) (.int .i64 D)).run prog w=.ok (.slice (some ⟨w.heap.size,0,none⟩) D D) (w.alloc (.cells (List.replicate D (Value.slice none 0 0)).toArray 55)):=by
 have q:=run_make_row' (P:=prog) 51 55 (.slice none 0 0) 24 underlying51 Tryz.info55b rfl .i64 .i64 D (by omega) (by omega) w;rw [q];have e:madeCells #[Value.slice none 0 0] D=(List.replicate D (Value.slice none 0 0)).toArray:=by
  apply Array.ext
  ·simp [madeCells]
  ·intro i h1 h2
   simp [madeCells,Nat.mod_one]
 rw [e]
theorem Zyp (D:Nat) (h:D≤4) (w:World):(Instr.makeSlice 55 (.int .i64 D) (.int .i64 D)).run prog w=.ok (.slice (some ⟨w.heap.size,0,none⟩) D D) (w.alloc (.cells (bl (List.replicate D false)).toArray 4)):=by
 have q:=run_make_row' (P:=prog) 55 4 (.bool false) 1 underlying55 Tryz.info4b rfl .i64 .i64 D (by omega) (by omega) w;rw [q];have e:madeCells #[Value.bool false] D=(bl (List.replicate D false)).toArray:=by
  apply Array.ext
  ·simp [madeCells]
  ·intro i h1 h2
   simp [madeCells,Nat.mod_one]
 rw [e]
theorem Zsb (C:Zm) (A:Mem) (w:World) (hC:Z1 w A C) (h0:ckC C≠0):
  Calls prog 14 #[cv C A] w fun e w'=>e=.returned (.tuple #[.slice none 0 0,.int .i64 (ckC C)])∧Below w.heap.size w w':=by
 have q1:=Za w (.cells (cl C A) 27);have HC:=hid (hC.keep q1);have HQ:=hid q1;clear q1 hC;obtain ⟨a5,a6,a7,a8,c5,c6,c7,c8⟩:=A;dsimp only [cv,cl] at *
 go_enter func14,ntmps14;go_wp2_with fail;refine (Qz C ⟨a5,a6,a7,a8,c5,c6,c7,c8⟩ _ HC).mono ?_;rintro e w1 ⟨rfl,a0⟩;have a1:=hid (Zb HQ a0);clear a0 HC HQ;have H0:=hid h0;have a2:(ckC C != 0)=true:=by simp [h0]
 clear h0;generalize hq:ckC C=q at *
 have HE:=hid hq;clear hq;go_wp2;exact bodyPost_ret (v:=.tuple #[.slice none 0 0,.int .i64 q]) (by simp [results,results14,go_sem]) rfl ⟨by rw [HE.out],a1.out⟩
theorem Zjk (C:Zm) (A:Mem) (w:World) (hC:Z1 w A C) (h0:ckC C=0) (D:Nat) (hD:C.d=D):
  Calls prog 14 #[cv C A] w fun e w'=>∃ r,e=.returned (.tuple #[.slice (some ⟨r,0,none⟩) D D,.int .i64 0])∧Mat w' r D D (itM C.ch (idM D) D)∧w.heap.size≤r∧Below w.heap.size w w':=by
 have q1:=Za w (.cells (cl C A) 27);have HC:=hid (hC.keep q1);have HB:=hid (Yq w C A);have HQ:=hid q1;have HF:=hid (Zgr h0);have HN:=hid (Zz8 (Zcr h0).2.2.2.2.2.1);have b9:1≤D:=by have:=HF.out.d;omega
 have af:D≤4:=by have:=HF.out.d;omega
 have l7:=HF.out.l7;have a2:=Zy5 D af;have a3:=Zyp D af;have H0:=hid h0;have HD:=hid hD;clear q1 hC h0 hD;obtain ⟨a5,a6,a7,a8,c5,c6,c7,c8⟩:=A;dsimp only [cv,cl] at *
 go_enter func14,ntmps14;go_wp2_with fail;refine (Qz C ⟨a5,a6,a7,a8,c5,c6,c7,c8⟩ _ HC).mono ?_;rintro e w1 ⟨rfl,aa⟩;have ap:=hid (HC.out.keep aa);have ab:=hid (HB.out.keep aa);have aq:=hid (Zb HQ aa);clear aa HC HB HQ;rw [H0.out];have ba:w.heap.size<w1.heap.size:=ab.out.lt;obtain ⟨g0,g1,g2,g3,g4,g5,g6,g7,g8⟩:=ab.out;dsimp only at g5 g6 g7 g8;rw [HD.out] at g2;have ag:Hid (Zw1 (w1.alloc (.cells (List.replicate D (Value.slice none 0 0)).toArray 55)) w1.heap.size D 0):=by
  refine hid ⟨?_,fun i hi=>by omega,by simp⟩
  have:=Zc w1 _ (List.replicate D (Value.slice none 0 0)) 55 rfl
  simpa using this
 have ah:=hid (Za w1 (.cells (List.replicate D (Value.slice none 0 0)).toArray 55));go_wp2;go_loopw [19] (fun i wr=>∃ k:Nat,k≤D∧i=.int .i64 k∧Zw1 wr w1.heap.size D k∧Below w1.heap.size w1 wr) (fun i _=>D-(intOf i).toNat)
 case atStart=>exact ⟨0,zl,rfl,ag.out,ah.out⟩
 case round=>
  clear ag ah a2 g0 g1 g2 g3 g4 g5 g6 g7 g8;obtain ⟨k,hk,rfl,hM,hb⟩:=hrel;obtain ⟨g0,g1,g2,g3,g4,g5,g6,g7,g8⟩:=ab.out.keep hb;dsimp only at g5 g6 g7 g8;rw [HD.out] at g2;have bb:=hM.outer.lt;by_cases hlt:k<D
  ·have ai:=hM.outer.cell k (.slice none 0 0) (by
    rw [List.getElem?_append_right (by simp),List.getElem?_replicate];simp only [List.length_map,List.length_range,Nat.sub_self];rw [if_pos (by omega)])
   have bc:=hM.outer.frozen k;have ar:=hid (hM.next hlt);have bd:((k:Nat):Int)<(D:Int):=by omega
   have au:Hid (Below w1.heap.size w1 ((wr.setCell ⟨w1.heap.size,k,none⟩ (.slice (some ⟨wr.heap.size,0,none⟩) D D)).alloc (.cells ((Array.replicate D (Value.bool false)).setIfInBounds k (.bool true)) 4))):=
    (hb.setCell lr _).alloc (by simp [World.setCell];omega) _
   have be:(wr.alloc (.cells (bl (List.replicate D false)).toArray 4)).cell? ⟨wr.heap.size,k,none⟩=some (.bool false):=by
    rw [Z7 _ _ _ _ _ rfl];simp [hlt]
   have ac:¬ w1.heap.size=wr.heap.size:=by omega
   have ad:¬ wr.heap.size=w1.heap.size:=by omega
   clear hM;go_wp2;go_roundw
   case rel=>exact ⟨k+1,by omega,by go_num,ar.out,au.out⟩
   case measure=>simp [intOf];omega
  ·obtain rfl:k=D:=by omega
   have HM:=hid hM.mat;have a0:=hid hb;clear hM hb a3;go_wp2;go_loopw [37] (fun i wr=>∃ (n:Nat),n≤k∧i=.int .i64 n∧Mat wr w1.heap.size k k (itM C.ch (idM k) n)∧Below w1.heap.size w1 wr) (fun i _=>k-(intOf i).toNat)
   case atStart=>exact ⟨0,zl,rfl,HM.out,a0.out⟩
   case round=>
    clear HM a0 g0 g1 g2 g3 g4 g5 g6 g7 g8;obtain ⟨n,hn,rfl,hM,hb⟩:=hrel;have HM:=hid hM;have a0:=hid hb;clear hM;obtain ⟨g0,g1,g2,g3,g4,g5,g6,g7,g8⟩:=ab.out.keep hb;dsimp only at g5 g6 g7 g8;clear hb;by_cases hnk:n<k
    ·go_wp2
     go_loopw [42] (fun i wr=>∃ (m:Nat),m≤C.ch.length∧i=.int .i64 m∧Mat wr w1.heap.size k k ((C.ch.take m).foldl Zd3 (itM C.ch (idM k) n))∧Below w1.heap.size w1 wr) (fun i _=>C.ch.length-(intOf i).toNat)
     case atStart=>exact ⟨0,zl,rfl,by simpa using HM.out,a0.out⟩
     case round=>
      clear HM a0 g0 g1 g2 g3 g4 g5 g6 g7 g8;obtain ⟨m,hm,rfl,hM,hb⟩:=hrel;have HM:=hid hM;have a0:=hid hb;clear hM hb;by_cases hmk:m<C.ch.length
      ·obtain ⟨b,o,rfl,ai,aw,bf⟩:=(ap.out.keep a0).ch m hmk
       have HR:=HF.out.ch _ (List.getElem_mem hmk);have ax:=HN.out _ (List.getElem_mem hmk);have HL:=(HF.out.d)
       rw [HD.out] at HL;have aj:=Zx0 (Zcr H0).2.2.2.2.2.1 _ (List.getElem_mem hmk);rw [HD.out] at aj;obtain ⟨f,hf⟩:∃ f:Nat,C.ch[m].1=f:=⟨C.ch[m].1.toNat,by omega⟩
       obtain ⟨t,ht⟩:∃ t:Nat,C.ch[m].2.1=t:=⟨C.ch[m].2.1.toNat,by omega⟩
       have a1:f<k:=by omega
       have a4:t<k:=by omega
       have bg:f≠t:=by omega
       have ay:Hid (∀ M,Zd3 M C.ch[m]=Zd3 M ((f:Int),(t:Int),C.ch[m].2.2)):=by
        intro M;rw [← hf,← ht]
       rw [hf] at ai;rw [ht] at aw;clear HR ax HL aj hf ht;generalize C.ch[m].2.2=z at *
       obtain ⟨L,q1,q2,q3⟩:=HM.out.outer;have ak:=q1.cell f _ (q3 f a1);have al:=q1.cell t _ (q3 t a4);have az:=q1.lt;generalize hMM:(C.ch.take m).foldl Zd3 (itM C.ch (idM k) n)=M at *
       have b0:=hid hMM;clear hMM;have a9:=q1.alloc (.cells #[.int .i64 f,.int .i64 t,.int .i64 z] 99);have ak:=a9.cell f _ (q3 f a1);have al:=a9.cell t _ (q3 t a4);have ae:Hid (Zf (wr.alloc (.cells #[.int .i64 f,.int .i64 t,.int .i64 z] 99)).drew (w1.heap.size+1+f) 4 (bl (M f))):=(HM.out.rows f a1).alloc _;have am:Hid (Zf (wr.alloc (.cells #[.int .i64 f,.int .i64 t,.int .i64 z] 99)).drew (w1.heap.size+1+t) 4 (bl (M t))):=(HM.out.rows t a4).alloc _;have b1:=hid (HM.out.len f a1);have b2:=hid (HM.out.len t a4);have b3:=ae.out.lt;have an:Hid (w1.heap.size+1+f<wr.heap.size):=(HM.out.rows f a1).lt;have b4:((f:Nat):Int)<(k:Int):=by omega
       have b5:((t:Nat):Int)<(k:Int):=by omega
       have ac:¬ w1.heap.size+1+f=wr.heap.size:=by have:=an.out;omega
       have ad:¬ wr.heap.size=w1.heap.size+1+f:=by have:=an.out;omega
       have b6:¬ w1.heap.size=w1.heap.size+1+f:=by omega
       go_wp2_with fail;go_region_held3 (fun w'=>w'.cell? ⟨wr.heap.size,0,none⟩=some (.int .i64 f)∧w'.cell? ⟨wr.heap.size,1,none⟩=some (.int .i64 t)∧w'.cell? ⟨w1.heap.size,f,none⟩=some (.slice (some ⟨w1.heap.size+1+f,0,none⟩) k k)∧w'.cell? ⟨w1.heap.size,t,none⟩=some (.slice (some ⟨w1.heap.size+1+t,0,none⟩) k k)) (first|go_keep|exact ⟨hg5.cell (by simp) (by simp;omega),hg5.cell (by simp) (by simp;omega),hg5.cell ak (by simp;omega),hg5.cell al (by simp;omega)⟩)
        (first|(go_at_call 33;refine (Zrh k (w1.heap.size+1+f) (w1.heap.size+1+t) (M f) (M t) k k _ ae am b1 b2 (by omega) (by omega)).mono ?_;rintro e w5 ⟨rfl,ao,hg5⟩))
       have b7:Hid (Mat w5 w1.heap.size k k ((C.ch.take (m+1)).foldl Zd3 (itM C.ch (idM k) n))∧Below w1.heap.size w1 w5):=by
        refine hid ⟨?_,?_⟩
        ·rw [List.take_succ_eq_append_getElem hmk,List.foldl_append,b0.out]
         simp only [List.foldl_cons,List.foldl_nil];rw [ay.out];have q:=(HM.out.below (Za wr (.cells #[.int .i64 f,.int .i64 t,.int .i64 z] 99))).grown (w':=(wr.alloc (.cells #[.int .i64 f,.int .i64 t,.int .i64 z] 99)).drew) (row:=none) (Y2 _ _) (by simp);exact q.step (x:=((f:Int),(t:Int),z)) (by simpa using a1) (by simpa using a4) (by simpa using ao) (by simpa using hg5)
        ·exact ((a0.out.alloc (by omega) _).drew).grown hg5 (by simp;omega) (fun j hj=>by simp at hj;omega)
       clear ae am ao hg5 HM a0;go_wp2;go_roundw
       case rel=>exact ⟨m+1,by omega,by go_num,b7.out⟩
       case measure=>simp [intOf];omega
      ·obtain rfl:m=C.ch.length:=by omega
       have b8:Hid (Mat wr w1.heap.size k k (itM C.ch (idM k) (n+1))):=by
        have:=HM.out
        rw [List.take_length] at this;exact this
       clear HM;go_wp2;go_roundw
       case rel=>exact ⟨n+1,by omega,by go_num,b8.out,a0.out⟩
       case measure=>simp [intOf];omega
    ·obtain rfl:n=k:=by omega
     go_wp2;exact bodyPost_ret (v:=.tuple #[.slice (some ⟨w1.heap.size,0,none⟩) n n,.int .i64 0]) (by simp [results,results14,go_sem]) rfl ⟨w1.heap.size,rfl,HM.out,by omega,Zb aq.out a0.out⟩
def Rd (w:World) (rb:Nat) (s:ByteArray) (k:Nat):Prop:=Zf w rb 165 [.string s,.int .i64 k]
abbrev bad (n:Nat):Ending:=.panicked [{v:=.iface 162 (.agg #[.int .i64 n]),recovered:=false}]
def Zbz {α:Type} (w:World) (rb:Nat) (s:ByteArray) (r:Out α) (V:α→Value→World→Prop) (e:Ending) (w':World):Prop:=
 w.grownBy w' (some rb)∧((∃ x k v,r=.ok (x,k)∧k≤s.size∧e=.returned v∧V x v w'∧Rd w' rb s k)∨∃ n,r=.error n∧e=bad n)
def Zza (x:Int) (v:Value) (_:World):Prop:=v=.int .i64 x∧0≤x∧x≤255
theorem Zwj (s:ByteArray) (k:Nat) (h:k<s.size):(Zbg s)[k]? = some ((s.data[k]'h).toNat:Int):=by
 have h':k<s.data.size:=h;simp only [Zbg,List.getElem?_map,Array.getElem?_toList,Array.getElem?_eq_getElem h',Option.map_some]
theorem Zc9 (s:ByteArray):(Zbg s).length=s.size:=by simp only [Zbg,List.length_map,Array.length_toList];rfl
theorem Zbr (w:World) (n:Nat) (row:Option Nat):w.grownBy (w.drewN n) row:=⟨rfl,rfl,rfl,lr,fun _ _ _=>rfl⟩
theorem Zr {w1 w2:World} (h:w.grownBy w1 row) (k:w1.grownBy w2 row):w.grownBy w2 row:=
 ⟨k.os.trans h.os,k.tape.trans h.tape,k.output.trans h.output,Nat.le_trans h.size k.size,fun i h1 h2=>(k.block i (Nat.lt_of_lt_of_le h1 h.size) h2).trans (h.block i h1 h2)⟩
theorem Zf.drewN {g:Nat} {t:TypeId} {L:List Value} (h:Zf w g t L) (n:Nat):Zf (w.drewN n) g t L:=h
theorem Zy7 (s:ByteArray):p1 (Zbg s) s.size=.error s.size:=by
 rw [p1,List.getElem?_eq_none (by rw [Zc9];exact lr)]
theorem Zzx (s:ByteArray) (k:Nat) (h:k<s.size):p1 (Zbg s) k=.ok (((s.data[k]'h).toNat:Int),k+1):=by
 rw [p1,Zwj s k h]
theorem Jt (rb:Nat) (s:ByteArray) (k:Nat) (w:World) (hR:Rd w rb s k) (hk:k≤s.size) (hs:s.size≤200):
  Calls prog 108 #[.pointer (some ⟨rb,0,none⟩)] w (Zbz w rb s (p1 (Zbg s) k) Zza):=by
 have HR:=hid hR;have a1:w.cell? ⟨rb,0,none⟩=some (.string s):=Zf.cell hR 0 _ rfl;have a2:w.cell? ⟨rb,1,none⟩=some (.int .i64 k):=Zf.cell hR 1 _ rfl;have a3:=Zf.frozen hR 1;have a4:=Zf.lt hR;clear hR;by_cases hke:k=s.size
 ·subst hke
  go_enter func108,ntmps108;go_wp2_with fail;go_quiet (fail)
  go_wp2;exact ⟨rfl,Zbr _ _ _,.inr ⟨_,Zy7 s,rfl⟩⟩
 ·have a0:k<s.size:=by omega
  go_enter func108,ntmps108;go_wp2_with fail;go_quiet (fail)
  go_wp2_with fail;go_quiet (fail)
  go_wp2;have hb:((s.data[k]'a0).toNat:Int)≤255:=by have:=(s.data[k]'a0).toNat_lt;omega
  have e1:wrap64 ((s[k]'a0).toNat:Int)=((s.data[k]'a0).toNat:Int):=by
   show wrap64 ((s.data[k]'a0).toNat:Int)=_
   unfold wrap64;omega
  rw [e1];refine bodyPost_ret (results_tmp rfl _ _ _) rfl ⟨?_,.inl ⟨_,k+1,_,Zzx s k a0,by omega,rfl,⟨rfl,by omega,hb⟩,?_⟩⟩
  ·exact Zr (Zr (Zbr _ _ _) (Zo _ _ _ _)) (Zbr _ _ _)
  ·exact Zf.drewN (Zf.setCell (Zf.drewN HR _) 1 _) _
theorem Zxx (x y:Int) (h0:0≤x) (h1:x≤255) (h2:0≤y) (h3:y≤255):bits .or .i64 (x*256) y=256*x+y:=by
 rw [bits_join .i64 62 (by decide) (fun n h0 h1=>by rw [IntKind.wrap_i64];omega) 8 (x*256) y (by omega) (by omega) (by omega) h2 (by omega) (by omega)];omega
def Zx5 (x:Int) (v:Value) (_:World):Prop:=v=.int .i64 x∧0≤x∧x≤65535
theorem Zjf (rb:Nat) (s:ByteArray) (k:Nat) (w:World) (hR:Rd w rb s k) (hk:k≤s.size) (hs:s.size≤200):
  Calls prog 146 #[.pointer (some ⟨rb,0,none⟩)] w (Zbz w rb s (p2 (Zbg s) k) Zx5):=by
 go_enter func146,ntmps146;go_wp2_with fail;refine (Jt rb s k w hR hk hs).mono ?_;rintro e w1 ⟨hg,⟨x,k1,v,hp,a0,rfl,⟨rfl,a1,a2⟩,a3⟩|⟨n,hp,rfl⟩⟩
 ·have HG:=hid hg
  have HP:=hid hp;clear hg hp;go_wp2_with fail;refine (Jt rb s k1 w1 a3 a0 hs).mono ?_;rintro e w2 ⟨hg,⟨y,k2,v,hp,a4,rfl,⟨rfl,a5,a6⟩,a7⟩|⟨n,hp,rfl⟩⟩
  ·have a8:=hid hg
   have a9:=hid hp;clear hg hp;go_wp2;rw [Zxx x y a1 a2 a5 a6];refine bodyPost_ret (results_tmp rfl _ _ _) rfl ⟨Zr HG.out a8.out,.inl ⟨_,k2,_,by rw [p2,Zk HP.out,Zk a9.out],a4,rfl,⟨rfl,by omega,by omega⟩,a7⟩⟩
  ·exact ⟨rfl,Zr HG.out hg,.inr ⟨n,by rw [p2,Zk HP.out,Yj hp],rfl⟩⟩
 ·exact ⟨rfl,hg,.inr ⟨n,by rw [p2,Yj hp],rfl⟩⟩
end Go.Proofs.YtejhccmclanlmaaGreatDoor
namespace Go.Proofs.YtejhccmclanlmaaGreatDoor
variable {bs:List Int} {A:Mem} {pb:Nat} {u v v':Value} {w w' w1 w2 wr:World} {C:Zm}
namespace Wr
open Go.RowKit Go.Proofs.Tryz
structure WAt (w:World) (pb:Nat) (v:Value) (bs:List Int):Prop where
 row:Zf w pb 159 [v]
 own:w.ownsRow (pb+1) 5 1 v bs.length (by8 bs)
structure Zbd (w w':World) (pb:Nat) (v v':Value):Prop where
 os:w'.os=w.os
 tape:w'.tape=w.tape
 output:w'.output=w.output
 size:w.heap.size≤w'.heap.size
 block:∀ k,k<w.heap.size→k≠pb→some k≠v.ownBlock→w'.heap[k]? = w.heap[k]?
 own:∀ k,v'.ownBlock=some k→v.ownBlock=some k∨w.heap.size≤k
theorem Zbd.refl (w:World) (pb:Nat) (v:Value):Zbd w w pb v v:=⟨rfl,rfl,rfl,lr,fun _ _ _ _=>rfl,fun _ h=>.inl h⟩
theorem Zbd.trans {v1 v2:Value} (h:Zbd w w1 pb v v1) (k:Zbd w1 w2 pb v1 v2):Zbd w w2 pb v v2:=by
 refine ⟨k.os.trans h.os,k.tape.trans h.tape,k.output.trans h.output,Nat.le_trans h.size k.size,fun i h1 h2 h3=>?_,fun i hi=>?_⟩
 ·rw [k.block i (Nat.lt_of_lt_of_le h1 h.size) h2 ?_,h.block i h1 h2 h3]
  intro e;rcases h.own i e.symm with q|q
  ·exact h3 q.symm
  ·omega
 ·rcases k.own i hi with q|q
  ·exact h.own i q
  ·exact .inr (Nat.le_trans h.size q)
theorem Zbd.ofBelow (h:Below w.heap.size w w'):Zbd w w' pb v v:=
 ⟨h.os,h.tape,h.output,h.size,fun k hk _ _=>h.block k hk,fun _ h=>.inl h⟩
theorem WAt.lt (h:WAt w pb v bs):∀ k,v.ownBlock=some k→pb<k∧k<w.heap.size:=fun k hk=>h.own.lt k hk
theorem Zbd.below (h:Zbd w w' pb v v') (hW:WAt w pb v bs):Below pb w w':=by
 refine ⟨h.os,h.tape,h.output,h.size,fun k hk=>h.block k (Nat.lt_trans hk hW.row.lt) (by omega) ?_⟩;intro e
 have:=(hW.lt k e.symm).1
 omega
theorem Zbd.cell {p:Addr} (h:Zbd w w' pb v v') (hc:w.cell? p=some u) (h1:p.block≠pb) (h2:some p.block≠v.ownBlock):w'.cell? p=some u:=
 (World.cell?_of_block (h.block p.block (World.block_lt_of_cell? w p hc) h1 h2)).trans hc
theorem WAt.below (h:WAt w pb v bs) (hb:Below w.heap.size w w'):WAt w' pb v bs:=
 ⟨h.row.below hb lr,Zba h.own hb⟩
theorem Tryz.info5:(prog.info? 5).map (fun i=>(i.zero,i.size,i.bytes))=some (some (.int .u8 0),1,1):=by kernel_rfl
theorem Zn1 (pb:Nat) (v:Value) (bs L:List Int) (a:Option Addr) (cap:Nat) (w:World) (hW:WAt w pb v bs) (hL:Z4 w a L) (hne:∀ b o,a=some ⟨b,o,none⟩→L≠[]→b≠pb∧some b≠v.ownBlock)
  (hlen:bs.length+L.length≤1000) (hin:∀ x∈L,0≤x∧x≤255) :
  Calls prog 76 #[.pointer (some ⟨pb,0,none⟩),.slice a L.length cap] w fun e w'=>e=.returned (.tuple #[])∧∃ v',WAt w' pb v' (bs++L)∧Zbd w w' pb v v':=by
 obtain ⟨i5,hi,hz,hs,ag⟩:=Zbk Tryz.info5;have HW:=hid hW;have HL:=hid hL;clear hW hL;go_enter func76,ntmps76;go_wp2;go_loopw [8] (fun i wr=>∃ (k:Nat) (u:Value),k≤L.length∧i=.int .i64 k∧WAt wr pb u (bs++L.take k)∧Zbd w wr pb v u) (fun i _=>L.length-(intOf i).toNat)
 case atStart=>exact ⟨0,v,zl,rfl,by simpa using HW.out,Zbd.refl _ _ _⟩
 case round=>
  obtain ⟨k,u,hk,rfl,a4,ae⟩:=hrel;have a7:=hid a4;have a8:=hid ae;have an:=a4.row.cell 0 _ rfl;have ao:=a4.row.frozen 0;have ah:=a4.row.lt;have aa:=a4.lt;clear a4 ae;by_cases hlt:k<L.length
  ·obtain ⟨b,o,rfl,ai⟩:=HL.out k hlt
   have af:=hne b o rfl (by intro e;subst e;simp at hlt);have aj:wr.cell? ⟨b,o+k,none⟩=some (.int .i64 L[k]):=a8.out.cell ai af.1 af.2;have hr:=hin L[k] (List.getElem_mem hlt);have ap:=hr.1;have aq:=hr.2;have a5:Hid ((wr.alloc (.cells #[.int .u8 L[k]] 5)).ownsRow (pb+1) 5 1 u (bs++L.take k).length (by8 (bs++L.take k))):=a7.out.own.alloc _;have a6:Hid (Zf (wr.alloc (.cells #[.int .u8 L[k]] 5)) pb 159 [u]):=a7.out.row.alloc _;have a2:Hid (∀ j x,[Value.int .u8 L[k]][j]? = some x→(wr.alloc (.cells #[.int .u8 L[k]] 5)).cell? ((⟨wr.heap.size,0,none⟩:Addr).add j)=some x):=Zf.news (X:=[Value.int .u8 L[k]]) (Y:=[]) (t:=5) (Zc wr _ [Value.int .u8 L[k]] 5 rfl);have ak:(bs++L.take k).length=bs.length+k:=by simp;omega
   have ab:some pb≠u.ownBlock:=fun e=>by have:=(aa _ e.symm).1;omega
   go_wp2_with (first
    | (at_builtin;refine wpList_append_lies _ rfl _ _ 134 rfl (pb+1) 5 i5 _ 1 1 underlying134 hi hz hs ag rfl (by decide) u _ _ rfl a5.out ⟨wr.heap.size,0,none⟩ 1 1 [.int .u8 L[k]] rfl rfl a2.out ?c1 ?c2 ?c3 ?c4 ?c5 (wr.heap.size+1) ?c6 ?_))
   case c1=>intro x hx;rw [List.mem_singleton.1 hx];rfl
   case c2=>omega
   case c3=>simp [maxLen];omega
   case c4=>simp;omega
   case c5=>simp;omega
   case c6=>simp
   intro g a1 w1 a3 a0 ac al;have a9:=hid (a6.out.grown' a0 ab);have ar:=a9.out.cell 0 _ rfl;have au:=a9.out.frozen 0;have ad:Hid (WAt (w1.setCell ⟨pb,0,none⟩ (.slice (some ⟨g,0,none⟩) (bs.length+k+1) a1)) pb (.slice (some ⟨g,0,none⟩) (bs.length+k+1) a1) (bs++L.take (k+1))∧Zbd w (w1.setCell ⟨pb,0,none⟩ (.slice (some ⟨g,0,none⟩) (bs.length+k+1) a1)) pb v (.slice (some ⟨g,0,none⟩) (bs.length+k+1) a1)):=by
    have aw:pb+1≤g:=by
     rcases ac with q|q
     ·exact (aa _ q).1
     ·omega
    have e1:bs++L.take (k+1)=(bs++L.take k)++[L[k]]:=by rw [List.append_assoc,List.take_succ_eq_append_getElem hlt]
    have am:=a0.size;refine ⟨⟨a9.out.setCell 0 _,?_⟩,a8.out.trans ⟨a0.os,a0.tape,a0.output,?_,fun j h1 h2 h3=>?_,fun j hj=>?_⟩⟩
    ·have e2:(bs++L.take (k+1)).length=bs.length+k+1:=by simp;omega
     rw [e2,e1];have q:=a3.kept (row:=some pb) (w':=w1.setCell ⟨pb,0,none⟩ (.slice (some ⟨g,0,none⟩) (bs.length+k+1) a1)) (Zo _ _ _ _) (.inr (by simp [Value.ownBlock];omega));simpa only [ak,by8,List.map_append,List.map_cons,List.map_nil,List.append_assoc,List.map_take] using q
    ·simp [World.setCell] at am ⊢;omega
    ·rw [Below.heap_setCell _ _ _ _ (by show j≠pb;exact h2),a0.block j (by simp;omega) h3,Below.heap_alloc _ _ _ h1]
    ·simp only [Value.ownBlock,Option.some.injEq] at hj
     subst hj;rcases ac with q|q
     ·exact .inl q
     ·exact .inr (by omega)
   clear a9 a3 a0 ac a5 a6 a2 a7 a8 aa;go_wp2;go_roundw
   case rel=>exact ⟨k+1,_,by omega,by go_num,ad.out⟩
   case measure=>simp [intOf];omega
  ·obtain rfl:k=L.length:=by omega
   go_wp2;go_end0;exact ⟨rfl,_,by simpa using a7.out,a8.out⟩
theorem Zx1 (n:Int) (h0:0≤n) (h1:n≤65535):bits .and .i64 n 255=n%256:=by
 have h:=bits_mask .i64 62 (by decide) (fun n h0 h1=>by rw [IntKind.wrap_i64];omega) 8 (by decide) n h0 (by omega);exact h
theorem Ju (w:World) (l:List Int) (t:TypeId):Z4 (w.alloc (.cells (l.map fun n=>Value.int .i64 n).toArray t)) (some ⟨w.heap.size,0,none⟩) l:=by
 intro i hi;refine ⟨w.heap.size,0,rfl,?_⟩;rw [Z7 _ _ _ _ _ rfl];simp [hi]
theorem Zu3 (pb:Nat) (v:Value) (bs L:List Int) (a:Option Addr) (cap:Nat) (w:World) (hW:WAt w pb v bs) (hL:Z4 w a L) (hne:∀ b o,a=some ⟨b,o,none⟩→L≠[]→b≠pb∧some b≠v.ownBlock)
  (hlen:bs.length+2*L.length≤1000) (hin:∀ x∈L,0≤x∧x≤65535) :
  Calls prog 77 #[.pointer (some ⟨pb,0,none⟩),.slice a L.length cap] w fun e w'=>e=.returned (.tuple #[])∧∃ v',WAt w' pb v' (bs++L.flatMap hl)∧Zbd w w' pb v v':=by
 have HW:=hid hW;have HL:=hid hL;clear hW hL;go_enter func77,ntmps77;go_wp2;go_loopw [8] (fun i wr=>∃ (k:Nat) (u:Value),k≤L.length∧i=.int .i64 k∧WAt wr pb u (bs++(L.take k).flatMap hl)∧Zbd w wr pb v u) (fun i _=>L.length-(intOf i).toNat)
 case atStart=>exact ⟨0,v,zl,rfl,by simpa using HW.out,Zbd.refl _ _ _⟩
 case round=>
  obtain ⟨k,u,hk,rfl,a0,a5⟩:=hrel;have a2:=hid a0;have a1:=hid a5;have a8:=a0.row.lt;have a6:=a0.lt;clear a0 a5;by_cases hlt:k<L.length
  ·obtain ⟨b,o,rfl,a9⟩:=HL.out k hlt
   have a7:=hne b o rfl (by intro e;subst e;simp at hlt);have aa:wr.cell? ⟨b,o+k,none⟩=some (.int .i64 L[k]):=a1.out.cell a9 a7.1 a7.2;have hr:=hin L[k] (List.getElem_mem hlt);have ab:=hr.1;have ac:=hr.2;generalize hn:L[k]=n at *
   have Hn:=hid hn;clear hn;go_wp2_with fail;have a3:Hid (Below wr.heap.size wr (wr.alloc (.cells #[.int .i64 (n/256),.int .i64 (n%256)] 3))):=Za _ _;rw [Zx1 n ab ac];have ad:((L.take k).flatMap hl).length=2*k:=by
    rw [List.length_flatMap];have e:(L.take k).map (fun a=>(hl a).length)=List.replicate k 2:=by
     rw [show (fun a=>(hl a).length)=fun _=>2 from rfl,List.map_const',List.length_take,Nat.min_eq_left hk]
    rw [e];simp;omega
   refine (Zn1 pb u (bs++(L.take k).flatMap hl) [n/256,n%256] (some ⟨wr.heap.size,0,none⟩) 2 _ (a2.out.below a3.out) (Ju wr [n/256,n%256] 3) ?_ ?_ ?_).mono ?_
   ·intro b' o' e _
    simp only [Option.some.injEq,Addr.mk.injEq,and_true] at e;refine ⟨by omega,fun q=>?_⟩
    have:=(a6 _ q.symm).2
    omega
   ·simp only [List.length_append,ad,List.length_cons,List.length_nil];omega
   ·intro x hx
    simp only [List.mem_cons,List.not_mem_nil,or_false] at hx;omega
   rintro e w2 ⟨rfl,v2,h1,h2⟩;have a4:Hid (WAt w2 pb v2 (bs++(L.take (k+1)).flatMap hl)∧Zbd w w2 pb v v2):=by
    refine ⟨?_,a1.out.trans ((Zbd.ofBelow a3.out).trans h2)⟩;rw [List.take_succ_eq_append_getElem hlt,List.flatMap_append,Hn.out,← List.append_assoc];simpa [hl] using h1
   clear a2 a1 a3 a6 h1 h2;go_wp2;go_roundw
   case rel=>exact ⟨k+1,_,by omega,by go_num,a4.out⟩
   case measure=>simp [intOf];omega
  ·obtain rfl:k=L.length:=by omega
   go_wp2;go_end0;exact ⟨rfl,_,by simpa using a2.out,a1.out⟩
theorem Zeq (w:World) (l:List Int) (t:TypeId) (n:Nat) (h:w.heap.size=n):Z4 (w.alloc (.cells (l.map fun n=>Value.int .i64 n).toArray t)) (some ⟨n,0,none⟩) l:=by
 subst h;exact Ju w l t
structure Img (w:World) (C:Zm) (A:Mem) (wr:World) (bs:List Int):Prop where
 wri:∃ u,WAt wr (w.heap.size+1) u bs
 below:Below w.heap.size w wr
 box:Zs3 wr w.heap.size C A
theorem Img.lt (h:Img w C A wr bs):w.heap.size+1<wr.heap.size:=by
 obtain ⟨u,hu⟩:=h.wri;exact hu.row.lt
theorem Zwb (w:World) (C:Zm) (A:Mem):Img w C A ((w.alloc (.cells (cl C A) 27)).alloc (.cells #[.slice none 0 0] 159)) []:=by
 refine ⟨⟨.slice none 0 0,Zc _ _ [.slice none 0 0] 159 (by simp),World.ownsRow_nil _ _ _ _⟩,(Za _ _).alloc (by simp) _,?_⟩
 have:=(Yq w C A).keep (Za (w.alloc (.cells (cl C A) 27)) (.cells #[.slice none 0 0] 159))
 exact this
theorem Img.after {bs2:List Int} {u2:Value} (h:Img w C A wr bs) (hu:WAt wr (w.heap.size+1) u bs) (hb:Below wr.heap.size wr w1) (hw:Zbd w1 w2 (w.heap.size+1) u u2) (hu2:WAt w2 (w.heap.size+1) u2 bs2):
  Img w C A w2 bs2∧∀ k,wr.heap.size≤k→k<w1.heap.size→w2.heap[k]? = w1.heap[k]? := by
 have hq:=hw.below (hu.below hb);have hl:=h.lt;refine ⟨⟨⟨_,hu2⟩,(Zb h.below hb).trans (hq.mono (by omega)),(h.box.keep hb).same (hq.block _ (by omega))⟩,fun k h1 h2=>hw.block k h2 (by omega) ?_⟩;intro e
 have:=(hu.lt k e.symm).2
 omega
theorem Img.ones (h:Img w C A wr bs) (hb:Below wr.heap.size wr w1) (L:List Int) (a:Option Addr) (cap:Nat) (hL:Z4 w1 a L) (hge:∀ b o,a=some ⟨b,o,none⟩→L≠[]→wr.heap.size≤b∨b<w.heap.size) (hlen:bs.length+L.length≤1000) (hin:∀ x∈L,0≤x∧x≤255):
  Calls prog 76 #[.pointer (some ⟨w.heap.size+1,0,none⟩),.slice a L.length cap] w1 fun e w'=>e=.returned (.tuple #[])∧Img w C A w' (bs++L)∧∀ k,wr.heap.size≤k→k<w1.heap.size→w'.heap[k]? = w1.heap[k]? := by
 obtain ⟨u,hu⟩:=h.wri;have hl:=h.lt;refine (Zn1 _ u bs L a cap w1 (hu.below hb) hL ?_ hlen hin).mono ?_
 ·intro b o e a0
  have:=hge b o e a0
  refine ⟨by omega,fun q=>?_⟩
  have:=hu.lt b q.symm
  omega
 ·rintro e w2 ⟨rfl,u2,h1,h2⟩
  exact ⟨rfl,h.after hu hb h2 h1⟩
theorem Img.twos (h:Img w C A wr bs) (hb:Below wr.heap.size wr w1) (L:List Int) (a:Option Addr) (cap:Nat) (hL:Z4 w1 a L) (hge:∀ b o,a=some ⟨b,o,none⟩→L≠[]→wr.heap.size≤b∨b<w.heap.size) (hlen:bs.length+2*L.length≤1000) (hin:∀ x∈L,0≤x∧x≤65535):
  Calls prog 77 #[.pointer (some ⟨w.heap.size+1,0,none⟩),.slice a L.length cap] w1 fun e w'=>e=.returned (.tuple #[])∧Img w C A w' (bs++L.flatMap hl)∧∀ k,wr.heap.size≤k→k<w1.heap.size→w'.heap[k]? = w1.heap[k]? := by
 obtain ⟨u,hu⟩:=h.wri;have hl:=h.lt;refine (Zu3 _ u bs L a cap w1 (hu.below hb) hL ?_ hlen hin).mono ?_
 ·intro b o e a0
  have:=hge b o e a0
  refine ⟨by omega,fun q=>?_⟩
  have:=hu.lt b q.symm
  omega
 ·rintro e w2 ⟨rfl,u2,h1,h2⟩
  exact ⟨rfl,h.after hu hb h2 h1⟩
theorem Zqu (C:Zm) (A:Mem) (w:World) (hC:Z1 w A C) (hF:Zzf C):
  Calls prog 50 #[cv C A] w fun e w'=>e=.returned (.string (Zvd (en C)))∧Below w.heap.size w w':=by
 have HF:=hid hF;have HC:=hid hC;have l5:=hF.l5.2;have l6:=hF.l6;have l7:=hF.l7;have l8:=hF.l8;have HI:=hid (Zwb w C A);clear hF hC;obtain ⟨a5,a6,a7,a8,c5,c6,c7,c8⟩:=A;dsimp only [cv,cl] at *
 go_enter func50,ntmps50;go_wp2_with fail;refine (HI.out.ones (Za _ _) [67,C.s,C.w,C.d,C.p,C.q] (some ⟨w.heap.size+1+1,0,none⟩) 6 ?_ ?_ ?_ ?_).mono ?_
 ·exact Zeq _ [67,C.s,C.w,C.d,C.p,C.q] 3 _ (by simp)
 ·intro b o e _;simp at e ⊢;omega
 ·simp
 ·obtain ⟨s,w,d,p,q,_⟩:=HF.out
  intro x hx;simp at hx;omega
 rintro e w1 ⟨rfl,ai,_⟩;clear HI;have ac:=hid ai;clear ai;obtain ⟨g0,g1,g2,g3,g4,g5,g6,g7,g8⟩:=ac.out.box;dsimp only at g5 g6 g7 g8;go_wp2_with fail;refine (ac.out.ones (Za _ _) [(C.sl.length:Int)] (some ⟨w1.heap.size,0,none⟩) 1 ?_ ?_ ?_ ?_).mono ?_
 ·exact Ju _ [(C.sl.length:Int)] 3
 ·intro b o e _;simp at e ⊢;omega
 ·simp
 ·intro x hx;simp at hx;omega
 rintro e w2 ⟨rfl,aj,_⟩;clear ac g0 g1 g2 g3 g4 g5 g6 g7 g8;have ad:=hid aj;clear aj;obtain ⟨g0,g1,g2,g3,g4,g5,g6,g7,g8⟩:=ad.out.box;dsimp only at g5 g6 g7 g8;go_wp2;go_loopw [30] (fun i wr=>∃ k:Nat,k≤C.sl.length∧i=.int .i64 k∧Img w C ⟨a5,a6,a7,a8,c5,c6,c7,c8⟩ wr ([67,C.s,C.w,C.d,C.p,C.q,(C.sl.length:Int)]++(C.sl.take k).flatMap enS)) (fun i _=>C.sl.length-(intOf i).toNat)
 case atStart=>exact ⟨0,zl,rfl,by simpa using ad.out⟩
 case round=>
  clear g0 g1 g2 g3 g4 g5 g6 g7 g8 ad;obtain ⟨k,hk,rfl,hI⟩:=hrel;have HI:=hid hI;clear hI;by_cases hlt:k<C.sl.length
  ·obtain ⟨b,o,rfl,ak,al⟩:=(HC.out.keep HI.out.below).sl k hlt
   have HR:=hid (HF.out.sl _ (List.getElem_mem hlt));have am:Below wr.heap.size wr ((wr.alloc (.cells #[.int .i64 C.sl[k].1,.int .i64 C.sl[k].2] 106)).alloc (.cells #[.int .i64 C.sl[k].1] 3)):=(Za _ _).alloc (by simp) _;have a3:=hid am;clear am;go_wp2_with fail;refine (HI.out.ones a3.out [C.sl[k].1] (some ⟨wr.heap.size+1,0,none⟩) 1 ?_ ?_ ?_ ?_).mono ?_
   ·exact Zeq _ [C.sl[k].1] 3 _ (by simp)
   ·intro b o e _;simp at e ⊢;omega
   ·simp only [List.length_append,J3,List.length_take,List.length_cons,List.length_nil];omega
   ·have:=HR.out
    intro x hx;simp at hx;omega
   rintro e w3 ⟨rfl,a0,aa⟩;have ae:w3.cell? ⟨wr.heap.size,1,none⟩=some (.int .i64 C.sl[k].2):=by
    rw [World.cell?_of_block (w:=(wr.alloc (.cells #[.int .i64 C.sl[k].1,.int .i64 C.sl[k].2] 106)).alloc (.cells #[.int .i64 C.sl[k].1] 3)) (a:=⟨wr.heap.size,1,none⟩) (aa _ (by simp) (by simp;omega))];simp
   have a1:=hid a0;clear a0 aa a3 HI;go_wp2_with fail;refine (a1.out.twos (Za _ _) [C.sl[k].2] (some ⟨w3.heap.size,0,none⟩) 1 ?_ ?_ ?_ ?_).mono ?_
   ·exact Ju _ [C.sl[k].2] 3
   ·intro b o e _;simp at e ⊢;omega
   ·simp only [List.length_append,J3,List.length_take,List.length_cons,List.length_nil];omega
   ·have:=HR.out
    intro x hx;simp at hx;omega
   rintro e w4 ⟨rfl,a4,_⟩;have a2:Hid (Img w C ⟨some ⟨b,o,none⟩,a6,a7,a8,c5,c6,c7,c8⟩ w4 ([67,C.s,C.w,C.d,C.p,C.q,(C.sl.length:Int)]++(C.sl.take (k+1)).flatMap enS)):=by
    refine hid ?_;rw [List.take_succ_eq_append_getElem hlt,List.flatMap_append];simpa [enS] using a4
   clear a4 a1 ae;go_wp2;go_roundw
   case rel=>exact ⟨k+1,by omega,by go_num,a2.out⟩
   case measure=>simp [intOf];omega
  ·obtain rfl:k=C.sl.length:=by omega
   obtain ⟨g0,g1,g2,g3,g4,g5,g6,g7,g8⟩:=HI.out.box;dsimp only at g5 g6 g7 g8;go_wp2_with fail;refine (HI.out.ones (Za _ _) [(C.ow.length:Int)] (some ⟨wr.heap.size,0,none⟩) 1 ?_ ?_ ?_ ?_).mono ?_
   ·exact Ju _ [(C.ow.length:Int)] 3
   ·intro b o e _;simp at e ⊢;omega
   ·simp only [List.length_append,J3,List.length_take,List.length_cons,List.length_nil];omega
   ·intro x hx;simp at hx;omega
   rintro e w3 ⟨rfl,a0,_⟩;clear g0 g1 g2 g3 g4 g5 g6 g7 g8;have a1:=hid a0;clear a0 HI;obtain ⟨g0,g1,g2,g3,g4,g5,g6,g7,g8⟩:=a1.out.box;dsimp only at g5 g6 g7 g8;go_wp2_with fail;refine (a1.out.ones br C.ow a6 c6 (HC.out.keep a1.out.below).ow ?_ ?_ ?_).mono ?_
   ·intro b o e h0
    obtain ⟨b',o',e',aq⟩:=HC.out.ow 0 (List.length_pos_iff.2 h0);rw [e] at e';simp only [Option.some.injEq,Addr.mk.injEq,and_true] at e';exact .inr (by rw [e'.1];exact World.block_lt_of_cell? _ _ aq)
   ·simp only [List.length_append,J3,List.length_take,List.length_cons,List.length_nil];omega
   ·intro x hx
    have:=HF.out.ow x hx
    omega
   rintro e w4 ⟨rfl,a4,_⟩;clear g0 g1 g2 g3 g4 g5 g6 g7 g8;have a2:=hid a4;clear a4 a1;obtain ⟨g0,g1,g2,g3,g4,g5,g6,g7,g8⟩:=a2.out.box;dsimp only at g5 g6 g7 g8;go_wp2_with fail;refine (a2.out.ones (Za _ _) [(C.ch.length:Int)] (some ⟨w4.heap.size,0,none⟩) 1 ?_ ?_ ?_ ?_).mono ?_
   ·exact Ju _ [(C.ch.length:Int)] 3
   ·intro b o e _;simp at e ⊢;omega
   ·simp only [List.length_append,J3,List.length_take,List.length_cons,List.length_nil];omega
   ·intro x hx;simp at hx;omega
   rintro e w5 ⟨rfl,an,_⟩;clear g0 g1 g2 g3 g4 g5 g6 g7 g8;have af:=hid an;clear an a2;obtain ⟨g0,g1,g2,g3,g4,g5,g6,g7,g8⟩:=af.out.box;dsimp only at g5 g6 g7 g8;go_wp2;go_loopw [59] (fun i wr=>∃ k:Nat,k≤C.ch.length∧i=.int .i64 k∧Img w C ⟨a5,a6,a7,a8,c5,c6,c7,c8⟩ wr ([67,C.s,C.w,C.d,C.p,C.q,(C.sl.length:Int)]++C.sl.flatMap enS++[(C.ow.length:Int)]++C.ow++[(C.ch.length:Int)]++(C.ch.take k).flatMap enC)) (fun i _=>C.ch.length-(intOf i).toNat)
   case atStart=>exact ⟨0,zl,rfl,by simpa [List.append_assoc] using af.out⟩
   case round=>
    clear g0 g1 g2 g3 g4 g5 g6 g7 g8 af;obtain ⟨k,hk,rfl,hI⟩:=hrel;have HI:=hid hI;clear hI;by_cases hlt:k<C.ch.length
    ·obtain ⟨b,o,rfl,ak,al,ar⟩:=(HC.out.keep HI.out.below).ch k hlt
     have HR:=hid (HF.out.ch _ (List.getElem_mem hlt));have a3:Hid (Below wr.heap.size wr ((wr.alloc (.cells #[.int .i64 C.ch[k].1,.int .i64 C.ch[k].2.1,.int .i64 C.ch[k].2.2] 99)).alloc (.cells #[.int .i64 C.ch[k].1,.int .i64 C.ch[k].2.1,.int .i64 C.ch[k].2.2] 3))):=(Za _ _).alloc (by simp) _;go_wp2_with fail;refine (HI.out.ones a3.out [C.ch[k].1,C.ch[k].2.1,C.ch[k].2.2] (some ⟨wr.heap.size+1,0,none⟩) 3 ?_ ?_ ?_ ?_).mono ?_
     ·exact Zeq _ [C.ch[k].1,C.ch[k].2.1,C.ch[k].2.2] 3 _ (by simp)
     ·intro b o e _;simp at e ⊢;omega
     ·simp only [List.length_append,J3,Zdw,List.length_take,List.length_cons,List.length_nil];omega
     ·have:=HR.out
      intro x hx;simp at hx;omega
     rintro e w3 ⟨rfl,a0,_⟩;have a2:Hid (Img w C ⟨a5,a6,some ⟨b,o,none⟩,a8,c5,c6,c7,c8⟩ w3 ([67,C.s,C.w,C.d,C.p,C.q,(C.sl.length:Int)]++C.sl.flatMap enS++[(C.ow.length:Int)]++C.ow++[(C.ch.length:Int)]++(C.ch.take (k+1)).flatMap enC)):=by
      refine hid ?_;rw [List.take_succ_eq_append_getElem hlt,List.flatMap_append];simpa [enC,List.append_assoc] using a0
     clear a0 HI a3;go_wp2;go_roundw
     case rel=>exact ⟨k+1,by omega,by go_num,a2.out⟩
     case measure=>simp [intOf];omega
    ·obtain rfl:k=C.ch.length:=by omega
     obtain ⟨g0,g1,g2,g3,g4,g5,g6,g7,g8⟩:=HI.out.box;dsimp only at g5 g6 g7 g8;go_wp2_with fail;refine (HI.out.ones (Za _ _) [(C.ta.length:Int)] (some ⟨wr.heap.size,0,none⟩) 1 ?_ ?_ ?_ ?_).mono ?_
     ·exact Ju _ [(C.ta.length:Int)] 3
     ·intro b o e _;simp at e ⊢;omega
     ·simp only [List.length_append,J3,Zdw,List.length_take,List.length_cons,List.length_nil];omega
     ·intro x hx;simp at hx;omega
     rintro e w6 ⟨rfl,ao,_⟩;clear g0 g1 g2 g3 g4 g5 g6 g7 g8;have ag:=hid ao;clear ao HI;obtain ⟨g0,g1,g2,g3,g4,g5,g6,g7,g8⟩:=ag.out.box;dsimp only at g5 g6 g7 g8;go_wp2;go_loopw [80] (fun i wr=>∃ k:Nat,k≤C.ta.length∧i=.int .i64 k∧Img w C ⟨a5,a6,a7,a8,c5,c6,c7,c8⟩ wr ([67,C.s,C.w,C.d,C.p,C.q,(C.sl.length:Int)]++C.sl.flatMap enS++[(C.ow.length:Int)]++C.ow++[(C.ch.length:Int)]++C.ch.flatMap enC++[(C.ta.length:Int)]++(C.ta.take k).flatMap enT)) (fun i _=>C.ta.length-(intOf i).toNat)
     case atStart=>exact ⟨0,zl,rfl,by simpa [List.append_assoc] using ag.out⟩
     case round=>
      clear g0 g1 g2 g3 g4 g5 g6 g7 g8 ag;obtain ⟨k,hk,rfl,hI⟩:=hrel;have HI:=hid hI;clear hI;by_cases hlt:k<C.ta.length
      ·obtain ⟨b,o,rfl,ak,al,ar,az⟩:=(HC.out.keep HI.out.below).ta k hlt
       have HR:=hid (HF.out.ta _ (List.getElem_mem hlt));have a3:Hid (Below wr.heap.size wr ((wr.alloc (.cells #[.int .i64 C.ta[k].1,.int .i64 C.ta[k].2.1,.int .i64 C.ta[k].2.2.1,.int .i64 C.ta[k].2.2.2] 108)).alloc (.cells #[.int .i64 C.ta[k].1] 3))):=(Za _ _).alloc (by simp) _;go_wp2_with fail;refine (HI.out.ones a3.out [C.ta[k].1] (some ⟨wr.heap.size+1,0,none⟩) 1 ?_ ?_ ?_ ?_).mono ?_
       ·exact Zeq _ [C.ta[k].1] 3 _ (by simp)
       ·intro b o e _;simp at e ⊢;omega
       ·simp only [List.length_append,J3,Zdw,Zkd,List.length_take,List.length_cons,List.length_nil];omega
       ·have:=HR.out
        intro x hx;simp at hx;omega
       rintro e w3 ⟨rfl,a0,aa⟩;have HX:Hid (∀ i,w3.cell? ⟨wr.heap.size,i,none⟩=((wr.alloc (.cells #[.int .i64 C.ta[k].1,.int .i64 C.ta[k].2.1,.int .i64 C.ta[k].2.2.1,.int .i64 C.ta[k].2.2.2] 108)).alloc (.cells #[.int .i64 C.ta[k].1] 3)).cell? ⟨wr.heap.size,i,none⟩):=fun i=>
        World.cell?_of_block (a:=⟨wr.heap.size,i,none⟩) (aa _ (by simp) (by simp;omega))
       have ae:w3.cell? ⟨wr.heap.size,1,none⟩=some (.int .i64 C.ta[k].2.1):=by rw [HX.out];simp
       have au:w3.cell? ⟨wr.heap.size,2,none⟩=some (.int .i64 C.ta[k].2.2.1):=by rw [HX.out];simp
       have aw:w3.cell? ⟨wr.heap.size,3,none⟩=some (.int .i64 C.ta[k].2.2.2):=by rw [HX.out];simp
       have a1:=hid a0;clear a0 aa a3 HI HX;go_wp2_with fail;refine (a1.out.twos (Za _ _) [C.ta[k].2.1,C.ta[k].2.2.1,C.ta[k].2.2.2] (some ⟨w3.heap.size,0,none⟩) 3 ?_ ?_ ?_ ?_).mono ?_
       ·exact Ju _ [C.ta[k].2.1,C.ta[k].2.2.1,C.ta[k].2.2.2] 3
       ·intro b o e _;simp at e ⊢;omega
       ·simp only [List.length_append,J3,Zdw,Zkd,List.length_take,List.length_cons,List.length_nil];omega
       ·have:=HR.out
        intro x hx;simp at hx;omega
       rintro e w4 ⟨rfl,a4,_⟩;have a2:Hid (Img w C ⟨a5,a6,a7,some ⟨b,o,none⟩,c5,c6,c7,c8⟩ w4 ([67,C.s,C.w,C.d,C.p,C.q,(C.sl.length:Int)]++C.sl.flatMap enS++[(C.ow.length:Int)]++C.ow++[(C.ch.length:Int)]++C.ch.flatMap enC++[(C.ta.length:Int)]++(C.ta.take (k+1)).flatMap enT)):=by
        refine hid ?_;rw [List.take_succ_eq_append_getElem hlt,List.flatMap_append];simpa [enT,List.append_assoc] using a4
       clear a4 a1 ae au aw;go_wp2;go_roundw
       case rel=>exact ⟨k+1,by omega,by go_num,a2.out⟩
       case measure=>simp [intOf];omega
      ·obtain rfl:k=C.ta.length:=by omega
       have HE:Hid ([67,C.s,C.w,C.d,C.p,C.q,(C.sl.length:Int)]++C.sl.flatMap enS++[(C.ow.length:Int)]++C.ow++[(C.ch.length:Int)]++C.ch.flatMap enC++[(C.ta.length:Int)]++(C.ta.take C.ta.length).flatMap enT=en C):=by refine hid ?_;rw [List.take_length];simp only [en,List.append_assoc,List.cons_append,List.nil_append]
       obtain ⟨u,hu⟩:=HI.out.wri;rw [HE.out] at hu;have ax:=hid HI.out.below;obtain ⟨gg,ah,rfl,b0,b1⟩:=hu.own.form (by rw [Zn4];omega);have hc:=hu.row.cell 0 _ rfl;have a9:∀ j (hj:j<(u8s (en C)).length),wr.cell? ((⟨gg,0,none⟩:Addr).add j)=some (.int .u8 ((u8s (en C))[j].toNat:Int)):=by
        intro j hj;have ap:j<(en C).length:=by simpa [u8s] using hj
        have hb:=Zi1 HF.out _ (List.getElem_mem ap);refine hu.own.cells (g:=gg) rfl j _ ?_;simp only [by8,List.getElem?_map,List.getElem?_eq_getElem ap,Option.map_some,u8s,List.getElem_map];congr 2;simp;omega
       have ab:(en C).length=(u8s (en C)).length:=by simp [u8s]
       have ay:=run_convert_bytes_back (P:=prog) wr 134 9 5 ⟨gg,0,none⟩ ah (u8s (en C)) underlying134 underlying5 underlying9 a9;rw [← ab] at ay;clear HE a9 ab hu HI;go_wp2;go_ret;exact ⟨rfl,ax.out⟩
def encA (C:Zm):Value:=.tuple #[.string (if ckC C=0 then Zvd (en C) else ⟨#[]⟩),.int .i64 (ckC C)]
theorem encode_any (C:Zm) (A:Mem) (w:World) (hC:Z1 w A C):
  Calls prog 29 #[cv C A] w fun e w'=>e=.returned (encA C)∧Below w.heap.size w w':=by
 have q1:=Za w (.cells (cl C A) 27);have HC:=hid (hC.keep q1);have HB:=hid (Yq w C A);have HQ:=hid q1;clear q1 hC;obtain ⟨a5,a6,a7,a8,c5,c6,c7,c8⟩:=A;dsimp only [cv,cl] at *
 go_enter func29,ntmps29;go_wp2_with fail;refine (Qz C ⟨a5,a6,a7,a8,c5,c6,c7,c8⟩ _ HC).mono ?_;rintro e w1 ⟨rfl,a0⟩;have a3:=hid (HC.out.keep a0);have a4:=hid (HB.out.keep a0);have a1:=hid (Zb HQ a0);clear a0 HB HC HQ;obtain ⟨g0,g1,g2,g3,g4,g5,g6,g7,g8⟩:=a4.out;dsimp only at g5 g6 g7 g8;by_cases h0:ckC C=0
 ·have HF:=hid (Zgr h0)
  have H0:=hid h0;rw [h0];clear h0;go_wp2_with fail;refine (Zqu C ⟨a5,a6,a7,a8,c5,c6,c7,c8⟩ _ a3 HF).mono ?_;rintro e w2 ⟨rfl,a2⟩;have a9:=hid (Zb a1 a2);clear a2 g0 g1 g2 g3 g4 g5 g6 g7 g8;go_wp2;exact bodyPost_ret (v:=encA C) (by simp [results,results29,go_sem,encA,H0.out]) rfl ⟨rfl,a9.out⟩
 ·have H0:=hid h0
  have aa:(ckC C != 0)=true:=by simp [h0]
  clear h0;generalize hq:ckC C=q at *
  have HE:=hid hq;clear hq;go_wp2;exact bodyPost_ret (v:=encA C) (by simp [results,results29,go_sem,encA,HE.out,H0.out]) rfl ⟨rfl,a1.out⟩
end Wr
end Go.Proofs.YtejhccmclanlmaaGreatDoor
