/- Texts joined: Wt Wo Wp. -/
import Derived.Test.YtejhccmclanlmaaGreatDoorK00
import Derived.Test.YtejhccmclanlmaaGreatDoorK23
import Derived.Test.YtejhccmclanlmaaGreatDoorK28
import Derived.Test.YtejhccmclanlmaaGreatDoorK30
import Derived.Test.YtejhccmclanlmaaGreatDoorK34
import Derived.Test.YtejhccmclanlmaaGreatDoorK35
set_option linter.unusedVariables false
set_option maxRecDepth 100000
namespace Go.Proofs.YtejhccmclanlmaaGreatDoor
open Go.RowKit
def stepA (C:Conf) (dn:Int) (D:Dom) (K:KT) (now:Int) (k:Nat) (a:ActT):Dom:=
 endD C (nextD (actD C dn (spendD (startD D now k) k (spC K a)) (now+spC K a) a (spC K a))) (now+spC K a) k a
def aAt (L:List ActT) (D:Dom):ActT:=L.getD D.nxt.toNat (0,0,0)
def does (C:Conf) (L:List ActT) (te:Int) (D:Dom) (now:Int):Bool:=decide (0≤pickI C D.jobs) && decide (D.nxt<(L.length:Int)) && decide (wstA (aAt L D)≤te - now)
def stD (C:Conf) (dn:Int) (L:List ActT) (te:Int) (D:Dom) (K:KT) (now:Int):Dom:=if does C L te D now then stepA C dn D K now (pickI C D.jobs).toNat (aAt L D) else D
def stK (C:Conf) (L:List ActT) (te:Int) (D:Dom) (K:KT) (now:Int):KT:=if does C L te D now then spK K (aAt L D) else K
def stN (C:Conf) (dn:Int) (L:List ActT) (te:Int) (D:Dom) (K:KT) (now:Int):Int:=if does C L te D now then now+spC K (aAt L D) else if pickI C D.jobs<0 then dueW C dn D te else te
theorem ckA_ok {a:ActT} (h:ckA a=0):1≤a.1∧a.1≤8∧0≤a.2.1∧(a.1=1→1≤a.2.1∧a.2.1≤200)∧(a.1=2∨a.1=3→1≤a.2.1∧a.2.1≤1000):=by
 unfold ckA at h
 split at h
 ·rename_i h1
  split at h
  ·rename_i h2
   simp only [inR,Bool.and_eq_true,decide_eq_true_eq] at h1
   unfold inRng at h2
   refine ⟨h1.1,h1.2,?_,fun e=>?_,fun e=>?_⟩
   ·split at h2
    ·simp only [inR,Bool.and_eq_true,decide_eq_true_eq] at h2;omega
    ·split at h2
     ·simp only [inR,Bool.and_eq_true,decide_eq_true_eq] at h2;omega
     ·split at h2
      ·simp only [Bool.and_eq_true,decide_eq_true_eq] at h2;omega
      ·simpa using h2
   ·rw [if_pos e] at h2
    simp only [inR,Bool.and_eq_true,decide_eq_true_eq] at h2
    exact h2
   ·rw [if_neg (by omega),if_pos e] at h2
    simp only [inR,Bool.and_eq_true,decide_eq_true_eq] at h2
    exact h2
  ·omega
 ·omega
theorem setAt_lt {K:KT} (h:ck K=0) (l:Int):setAt K l<K.length∧l % (K.length:Int)=(setAt K l:Int):=by
 obtain ⟨_,h1,h4,_⟩:=ckK_ok h
 have hpos:(0:Int)<(K.length:Int):=by omega
 have hm0:=Int.emod_nonneg l (Int.ne_of_gt hpos)
 have hm1:=Int.emod_lt_of_pos l hpos
 unfold setAt
 omega
theorem spC_ok {K:KT} {a:ActT} (hK:ck K=0) (hA:ckA a=0):1≤spC K a∧spC K a≤wstA a∧wstA a≤200:=by
 obtain ⟨h1,h2,h3,h4,h5⟩:=ckA_ok hA
 unfold spC wstA
 by_cases e:a.1=2∨a.1=3
 ·rw [if_pos e,if_neg (by omega),if_pos e]
  have:=useSet_cost (K.getD (setAt K a.2.1) []) a.2.1 (decide (a.1=3))
  omega
 ·rw [if_neg e]
  split
  ·rename_i e1
   have:=h4 e1
   omega
  ·omega
theorem spK_ok {K:KT} {a:ActT} (hK:ck K=0) (hA:ckA a=0):ck (spK K a)=0:=by
 obtain ⟨h1,h2,h3,h4,h5⟩:=ckA_ok hA
 unfold spK
 split
 ·rename_i e
  obtain ⟨hl,hm⟩:=setAt_lt hK a.2.1
  have:=access_good K a.2.1 (decide (a.1=3)) (setAt K a.2.1) hl hK (h5 e).1 (h5 e).2 hm
  rw [show K.getD (setAt K a.2.1) []=K[setAt K a.2.1] by simp [hl]]
  exact this.1
 ·exact hK
theorem ckJob_iff {C:Conf} {dn:Int} {j:JobT}:ckJob C dn j=0↔(0≤j.1∧j.1<C.ta.length∧(tk C j.1.toNat).1=dn)∧inR j.2.1 0 100000=true∧inR j.2.2.1 0 100000=true∧inR j.2.2.2.1 0 (wrap64 ((tk C j.1.toNat).2.2.1 - 1))=true:=by
 unfold ckJob tk
 split
 ·rename_i h
  split
  ·rename_i h2
   simp only [Bool.and_eq_true] at h2
   exact ⟨fun _=>⟨h,h2.1.1,h2.1.2,h2.2⟩,fun _=>rfl⟩
  ·rename_i h2
   simp only [Bool.and_eq_true] at h2
   exact ⟨fun h'=>by omega,fun h'=>absurd ⟨⟨h'.2.1,h'.2.2.1⟩,h'.2.2.2⟩ h2⟩
 ·rename_i h
  exact ⟨fun h'=>by omega,fun h'=>absurd h'.1 h⟩
theorem used_iff {C:Conf} (hC:ckC C=0) (k:Nat) (hk:k<C.ta.length) (u:Int):inR u 0 (wrap64 ((tk C k).2.2.1 - 1))=true↔0≤u∧u<(tk C k).2.2.1:=by
 have:=taB_ok hC k hk
 rw [wrap_id (by omega) (by omega)]
 simp only [inR,Bool.and_eq_true,decide_eq_true_eq]
 omega
theorem soon_gt {s c n:Int} (hs:s<0∨n<s) (hc:n<c) (h0:0≤n):soon s c<0∨n<soon s c:=by
 unfold soon
 split
 ·omega
 ·split <;> omega
theorem dueL_gt (C:Conf) (D:Dom) (n:Int) (h0:0≤n):∀ (l:List NT),(∀ x∈l,n<comesAt C D x.1)→∀ s,(s<0∨n<s)→(l.foldl (fun s x=>soon s (comesAt C D x.1)) s<0∨n<l.foldl (fun s x=>soon s (comesAt C D x.1)) s):=by
 intro l
 induction l with
 | nil=>intro _ s hs;exact hs
 | cons x r ih=>intro h s hs;exact ih (fun y hy=>h y (List.mem_cons_of_mem _ hy)) _ (soon_gt hs (h x (List.mem_cons_self ..)) h0)
theorem due_gt {C:Conf} {dn now te:Int} {D:Dom} (hz:ckD C dn (shownD D)=0) (h0:0≤now) (h1:now<te) (h2:te≤100000):now<dueW C dn (relW C dn now D) te∧dueW C dn (relW C dn now D) te≤te:=by
 have hn:inR now 0 100000=true:=by simp [inR];omega
 have hR:=relD_ok hz hn
 have hq:∀ x∈ownT C dn C.ta.length,now<comesAt C (shownD (relW C dn now D)) x.1:=fun x hx=>by
  have hg:goOn C now x.1 (relD C dn now (shownD D))=false:=by
   rw [goOn_congr (D:=relAll C dn now (shownD D)) (by rw [relD,missN_rel])]
   exact relL_quiet hn _ (shownD D) own_mem hz x.1 (.inr ⟨x,hx,rfl⟩)
  have hxl:=(own_mem x hx).1
  have hC:=ckPlace_ok (ckD_iff.1 hR).1
  have hN:=(ckNums_iff.1 (ckD_iff.1 hR).2.2.1).1
  have hc:=comes_eq hC hN x.1 hxl
  have ht:=taB_ok hC x.1 hxl
  have hr:=relAt hN x.1
  have e:comesAt C (shownD (relW C dn now D)) x.1=comesAt C (relD C dn now (shownD D)) x.1:=rfl
  rw [e]
  simp only [goOn,Bool.and_eq_false_iff,decide_eq_false_iff_not] at hg
  rcases hg with hg|hg
  ·omega
  ·have e1:(relD C dn now (shownD D)).rel.getD x.1 0=100000:=by omega
   rw [hc.1,e1]
   omega
 have hd:=dueL_gt C (shownD (relW C dn now D)) now h0 _ hq (-1) (.inl (by omega))
 unfold dueW dueN dueL
 split
 ·omega
 ·rw [Int.min_def]
  split <;> omega
theorem spK_len (K:KT) (a:ActT):(spK K a).length=K.length:=by unfold spK;split <;> simp
theorem spK_small (K:KT) (a:ActT) (h:∀ ls∈K,0<ls.length∧ls.length≤3):∀ ls∈spK K a,ls.length≤3:=by
 intro ls hm
 unfold spK at hm
 split at hm
 ·rcases List.mem_or_eq_of_mem_set hm with h'|h'
  ·exact (h ls h').2
  ·subst h'
   by_cases hl:setAt K a.2.1<K.length
   ·have hm':K.getD (setAt K a.2.1) []∈K:=by
     rw [show K.getD (setAt K a.2.1) []=K[setAt K a.2.1] by simp [hl]]
     exact List.getElem_mem hl
    rw [useSet_len _ _ _ (h _ hm').1]
    exact (h _ hm').2
   ·rw [List.set_eq_of_length_le (by omega)] at hm
    exact (h _ hm).2
 ·exact (h ls hm).2
set_option maxHeartbeats 2000000 in
theorem spendW_ok (X:RC) (M:RM) (D:Dom) (K:KT) (now:Int) (k:Nat) (a:ActT) (w:World) (h:RO X w M D K now) (hk:k<D.jobs.length) (hK:ck K=0) (hA:ckA a=0) (hu:0≤(jat D k).2.2.2.1∧(jat D k).2.2.2.1≤1000000) (hn:0≤now∧now≤1000000) (hc:0≤spC K a∧spC K a≤1000) :
  Calls Tryz.prog 138 #[.pointer (some ⟨X.rb,0,none⟩),.int .i64 (k:Int),av a] w fun e w'=>e=.returned (.int .i64 (spC K a))∧∃ M',RO X w' M' (spendD D k (spC K a)) (spK K a) (now+spC K a):=by
 obtain ⟨ak,an,av'⟩:=a
 obtain ⟨_,hC1,hC4,hCn⟩:=ckK_ok hK
 have q1:=below_new w (.cells #[.int .i64 ak,.int .i64 an,.int .i64 av'] 63)
 have HB0:=hid q1
 have R1:=hid (rowAt_new w _ [.int .i64 ak,.int .i64 an,.int .i64 av'] 63 rfl)
 have h1:=h.below q1
 have c17:=h1.row.cell 17 _ rfl
 have a0:=R1.out.cell 0 _ rfl
 have a1:=R1.out.cell 1 _ rfl
 have a2:=R1.out.cell 2 _ rfl
 have hrb:X.rb<w.heap.size:=h.row.lt
 have HH:=hid h
 have hki:(k:Int)<(D.jobs.length:Int):=by omega
 have hlJ:=(owns_in h.px.jobs).2.2
 have HKL:=hid (spK_len K (ak,an,av'))
 have HKS:=hid (spK_small K (ak,an,av') hCn)
 go_enter Tryz.func138,Tryz.ntmps138
 go_upto_region 1 with fail
 have CX:Hid (∀ wx,Below (w.alloc (.cells #[.int .i64 ak,.int .i64 an,.int .i64 av'] 63)).heap.size (w.alloc (.cells #[.int .i64 ak,.int .i64 an,.int .i64 av'] 63)) wx→Calls Tryz.prog 160 #[.agg #[.slice M.aK K.length M.cK],.agg #[.int .i64 ak,.int .i64 an,.int .i64 av']] wx fun e w'=>∃ g0,e=.returned (.tuple #[.agg #[.slice (some ⟨g0,0,none⟩) K.length K.length],.int .i64 (spC K (ak,an,av')),.int .i64 0])∧OwnC w' g0 (spK K (ak,an,av')) K.length∧wx.heap.size≤g0∧Below wx.heap.size wx w'):=hid fun wx hb=>cost_ok (ak,an,av') M.aK K M.cK wx (h1.px.cache.keep hb) hK hA
 generalize hW:World.alloc w _=W at *
 clear hW h1 q1 h
 generalize hsc:spC K (ak,an,av')=sc at *
 generalize hsk:spK K (ak,an,av')=sk at *
 have HSC:=hid hsc
 have HSK:=hid hsk
 clear hsc hsk
 have HS:Hid (∀ w',Below W.heap.size W w'→w'.cell? ⟨X.rb,17,none⟩=some (.slice M.aK K.length M.cK)∧w'.cell? ⟨w.heap.size,0,none⟩=some (.int .i64 ak)∧w'.cell? ⟨w.heap.size,1,none⟩=some (.int .i64 an)∧w'.cell? ⟨w.heap.size,2,none⟩=some (.int .i64 av')):=hid fun w' hb=>⟨bkeep hb c17 lr,bkeep hb a0 lr,bkeep hb a1 lr,bkeep hb a2 lr⟩
 have hbz:Below W.heap.size W W.drew:=(Below.refl _ _).drew
 have hbz2:Below W.heap.size W (W.alloc (.cells #[.slice none 0 0] 72)).drew:=(below_new _ _).drew
 have RZ:Hid (RowAt (W.alloc (.cells #[.slice none 0 0] 72)).drew W.heap.size 72 [.slice none 0 0]):=hid (rowAt_new2 W W.heap.size [.slice none 0 0] 72 rfl)
 have hWw:w.heap.size≤W.heap.size:=HB0.out.size
 go_cut [7,8] (fun t u wx=>∃ Bc g0,t=.pointer (some ⟨Bc,0,none⟩)∧u=.int .i64 sc∧Below W.heap.size W wx∧RowAt wx Bc 72 [.slice (some ⟨g0,0,none⟩) K.length K.length]∧OwnC wx g0 sk K.length∧W.heap.size≤g0∧W.heap.size≤Bc)
 case first=>
  go_region_held3 (fun w'=>w'.cell? ⟨X.rb,17,none⟩=some (.slice M.aK K.length M.cK)∧w'.cell? ⟨w.heap.size,0,none⟩=some (.int .i64 ak)∧w'.cell? ⟨w.heap.size,1,none⟩=some (.int .i64 an)∧w'.cell? ⟨w.heap.size,2,none⟩=some (.int .i64 av'))
   (first|with_reducible exact HS.out _ hB2|with_reducible exact HS.out _ (hB2a _)|with_reducible exact HS.out _ (hB2c _)|with_reducible exact HS.out _ hbz|with_reducible exact HS.out _ hbz2|go_keep)
   (first
    | (go_at_call 160;with_reducible refine Calls.mono (CX.out _ hbz) ?_;rintro e w2 ⟨g0,rfl,ho2,hg2,hb2⟩;have hB2:=btrans hbz hb2;have HO2:=hid ho2;have HG2:=hid hg2;have hB2a:∀ o,Below W.heap.size W (w2.alloc o):=fun o=>btrans hB2 (below_new _ o))
    | (go_at_call 160;with_reducible refine Calls.mono (CX.out _ hbz2) ?_;rintro e w2 ⟨g0,rfl,ho2,hg2,hb2⟩;have hB2:=btrans hbz2 hb2;have HO2:=hid ho2;have HG2:=hid hg2;have HZ:=hid (RZ.out.below hb2 lr);have u0:=HZ.out.cell 0 _ rfl;have f0:=HZ.out.frozen 0;have hB2c:∀ v0,Below W.heap.size W (w2.setCell ⟨W.heap.size,0,none⟩ v0):=fun v0=>hB2.setCell (p:=⟨W.heap.size,0,none⟩) lr _))
  all_goals
   go_wp2
   go_meet
   case rel=>
    first
     | (have hM:=hB2a;have hG:W.heap.size≤g0:=HG2.out;exact ⟨w2.heap.size,g0,rfl,rfl,btrans hB2 (below_new _ _),rowAt_new2 w2 _ [.slice (some ⟨g0,0,none⟩) K.length K.length] 72 rfl,HO2.out.below (below_new _ _),hG,hB2.size⟩)
     | (have hM:=hB2c;have hG:W.heap.size+1≤g0:=(by simpa using HG2.out);exact ⟨W.heap.size,g0,rfl,rfl,hM _,rowAt_set1 HZ.out 0 _,HO2.out.setOther _ _ (by show W.heap.size<g0;omega),by omega,Nat.le_refl _⟩)
 case rest=>
  obtain ⟨Bc,g0,rfl,rfl,hbx,hRx,hOx,hge,hgc⟩:=hcut
  have hbw:=btrans HB0.out hbx
  have HX:=hid (HH.out.below hbw)
  obtain ⟨g,hg,hgl,hgb,hne,hfz,j0,j1,j2,j3,j4,j5⟩:=HX.out.jobAt k hk
  have x0:=HX.out.row.cell 0 _ rfl
  have x17:=HX.out.row.cell 17 _ rfl
  have x19:=HX.out.row.cell 19 _ rfl
  have f17:=HX.out.row.frozen 17
  have f19:=HX.out.row.frozen 19
  have f3:=hfz (k * 6+3)
  rw [hg] at x0
  have y0:=hRx.cell 0 _ rfl
  have HE:Hid (∃ M',RO X (((wc.setCell ⟨X.rb,17,none⟩ (.slice (some ⟨g0,0,none⟩) K.length K.length)).setCell ⟨X.rb,19,none⟩ (.int .i64 (now+sc))).setCell ⟨g,k * 6+3,none⟩ (.int .i64 ((jat D k).2.2.2.1+sc))) M' (spendD D k sc) sk (now+sc)):=by
   have h2:=HH.out.newCache (w1:=wc) hbw (a:=some ⟨g0,0,none⟩) (c:=K.length) (K':=sk) (fun w' hw'=>ownC_from (n:=w.heap.size) (by rw [HKL.out];exact hOx) (by omega) HKS.out (fun x hx1 hx2=>hw' x hx1 hx2))
   rw [HKL.out] at h2
   have h3:=(h2.setNow (now+sc)).setJob (g:=g) hg k 3 (jat D k) (useJ (jat D k) sc) (.int .i64 ((jat D k).2.2.2.1+sc)) (by simp [jat,hk]) (by omega) rfl
   exact hid ⟨_,h3⟩
  clear hRx hOx HS CX RZ hbz hbz2 HX
  generalize (jat D k).2.2.2.1=us at *
  go_wp2
  go_ret
  exact ⟨ret_int HSC.out.symm,by rw [HSC.out,HSK.out];exact HE.out⟩
set_option maxHeartbeats 2000000 in
theorem endW_ok (X:RC) (M:RM) (D:Dom) (K:KT) (now:Int) (k:Nat) (a:ActT) (w:World) (h:RO X w M D K now) (hk:k<D.jobs.length) (hl:D.evs.length≤1000000000000) (ht:0≤(jat D k).1∧(jat D k).1<X.C.ta.length) :
  Calls Tryz.prog 140 #[.pointer (some ⟨X.rb,0,none⟩),.int .i64 (k:Int),av a] w fun e w'=>e=.returned (.tuple #[])∧∃ M',RO X w' M' (endD X.C D now k a) K now:=by
 obtain ⟨ak,an,av'⟩:=a
 have q1:=below_new w (.cells #[.int .i64 ak,.int .i64 an,.int .i64 av'] 63)
 have HB0:=hid q1
 have R1:=hid (rowAt_new w _ [.int .i64 ak,.int .i64 an,.int .i64 av'] 63 rfl)
 have h1:=h.below q1
 have c0:=h1.row.cell 0 _ rfl
 obtain ⟨g,hg,hgl,hgb,hne,hfz,j0,j1,j2,j3,j4,j5⟩:=h1.jobAt k hk
 rw [hg] at c0
 have a0:=R1.out.cell 0 _ rfl
 have hrb:X.rb<w.heap.size:=h.row.lt
 have hki:(k:Int)<(D.jobs.length:Int):=by omega
 have hlJ:=(owns_in h.px.jobs).2.2
 have HH:=hid h
 have HD:Hid (endD X.C D now k (ak,an,av')=if ak=8 then dropD (tellE D (now,4,(jat D k).1,(jat D k).2.1)) k else if (tk X.C (jat D k).1.toNat).2.2.1≤(jat D k).2.2.2.1 then dropD (tellE D (now,5,(jat D k).1,(jat D k).2.1)) k else D):=hid rfl
 have CT:Hid (∀ kd wx,Below w.heap.size w wx→Calls Tryz.prog 159 #[.pointer (some ⟨X.rb,0,none⟩),.int .i64 kd,.int .i64 (jat D k).1,.int .i64 (jat D k).2.1] wx fun e w'=>e=.returned (.tuple #[])∧∃ a' c',RO X w' (evM M a' c') (tellE D (now,kd,(jat D k).1,(jat D k).2.1)) K now):=hid fun kd wx hb=>tellW_ok X M D K now kd _ _ wx (h.below hb) hl
 have CD:Hid (∀ kd M' wx,RO X wx M' (tellE D (now,kd,(jat D k).1,(jat D k).2.1)) K now→Calls Tryz.prog 166 #[.pointer (some ⟨X.rb,0,none⟩),.int .i64 (k:Int)] wx fun e w'=>e=.returned (.tuple #[])∧∃ a' c',RO X w' (jM M' a' c') (dropD (tellE D (now,kd,(jat D k).1,(jat D k).2.1)) k) K now):=hid fun kd M' wx hx=>dropW_ok X M' _ K now k wx hx hk
 have CB:Hid (∀ wx,Below w.heap.size w wx→Calls Tryz.prog 165 #[.pointer (some ⟨X.rb,0,none⟩),.agg #[.int .i64 (jat D k).1,.int .i64 (jat D k).2.1,.int .i64 (jat D k).2.2.1,.int .i64 (jat D k).2.2.2.1,.bool (jat D k).2.2.2.2.1,.bool (jat D k).2.2.2.2.2]] wx fun e w'=>e=.returned (.int .i64 (tk X.C (jat D k).1.toNat).2.2.1)∧Below wx.heap.size wx w'):=hid fun wx hb=>budgetW_ok X M D K now (jat D k) wx (h.below hb) ht.1 ht.2
 clear h h1 q1 ht
 generalize (tk X.C (jat D k).1.toNat).2.2.1=bg at *
 generalize jat D k=j at *
 obtain ⟨x0,x1,x2,x3,x4,x5⟩:=j
 dsimp only at *
 go_enter Tryz.func140,Tryz.ntmps140
 by_cases h8:ak=8
 ·subst h8
  rw [if_pos rfl] at HD
  go_wp2_with fail
  generalize hW:World.alloc (World.alloc w _) _=W at *
  have HBW:Hid (Below w.heap.size w W):=by rw [← hW];exact hid (btrans HB0.out (below_new _ _))
  clear hW
  refine Calls.mono (CT.out 4 W HBW.out) ?_
  rintro e w1 ⟨rfl,a',c',h1⟩
  have H1:=hid h1
  have hr1:=h1.row.lt
  clear h1
  go_wp2_with fail
  refine Calls.mono (CD.out 4 _ _ H1.out) ?_
  rintro e w2 ⟨rfl,a2',c2',h2⟩
  have H2:=hid h2
  clear h2
  go_wp2
  go_end0
  exact ⟨rfl,_,by rw [HD.out];exact H2.out⟩
 ·rw [if_neg h8] at HD
  have h8b:(ak == 8)=false:=by simp [h8]
  have RJ:=hid (rowAt_new (w.alloc (.cells #[.int .i64 ak,.int .i64 an,.int .i64 av'] 63)) (w.heap.size+1) [.int .i64 x0,.int .i64 x1,.int .i64 x2,.int .i64 x3,.bool x4,.bool x5] 87 (by simp))
  go_wp2_with fail
  have HBW:Hid (Below w.heap.size w ((w.alloc (.cells #[.int .i64 ak,.int .i64 an,.int .i64 av'] 63)).alloc (.cells #[.int .i64 x0,.int .i64 x1,.int .i64 x2,.int .i64 x3,.bool x4,.bool x5] 87))):=hid (btrans HB0.out (below_new _ _))
  generalize hW:World.alloc (World.alloc w _) _=W at *
  clear hW
  have HS:Hid (∀ w',Below W.heap.size W w'→w'.cell? ⟨w.heap.size+1,0,none⟩=some (.int .i64 x0)∧w'.cell? ⟨w.heap.size+1,1,none⟩=some (.int .i64 x1)∧w'.cell? ⟨w.heap.size+1,2,none⟩=some (.int .i64 x2)∧w'.cell? ⟨w.heap.size+1,3,none⟩=some (.int .i64 x3)∧w'.cell? ⟨w.heap.size+1,4,none⟩=some (.bool x4)∧w'.cell? ⟨w.heap.size+1,5,none⟩=some (.bool x5)):=hid fun w' hb=>⟨bkeep hb (RJ.out.cell 0 _ rfl) lr,bkeep hb (RJ.out.cell 1 _ rfl) lr,bkeep hb (RJ.out.cell 2 _ rfl) lr,bkeep hb (RJ.out.cell 3 _ rfl) lr,bkeep hb (RJ.out.cell 4 _ rfl) lr,bkeep hb (RJ.out.cell 5 _ rfl) lr⟩
  have hB:Below W.heap.size W W.drew:=(Below.refl _ _).drew
  have CB2:Hid (∀ wx,Below W.heap.size W wx→Calls Tryz.prog 165 #[.pointer (some ⟨X.rb,0,none⟩),.agg #[.int .i64 x0,.int .i64 x1,.int .i64 x2,.int .i64 x3,.bool x4,.bool x5]] wx fun e w'=>e=.returned (.int .i64 bg)∧Below wx.heap.size wx w'):=hid fun wx hb=>CB.out wx (btrans HBW.out hb)
  go_region_held3 (fun w'=>w'.cell? ⟨w.heap.size+1,0,none⟩=some (.int .i64 x0)∧w'.cell? ⟨w.heap.size+1,1,none⟩=some (.int .i64 x1)∧w'.cell? ⟨w.heap.size+1,2,none⟩=some (.int .i64 x2)∧w'.cell? ⟨w.heap.size+1,3,none⟩=some (.int .i64 x3)∧w'.cell? ⟨w.heap.size+1,4,none⟩=some (.bool x4)∧w'.cell? ⟨w.heap.size+1,5,none⟩=some (.bool x5))
   (first|with_reducible exact HS.out _ hB|with_reducible exact HS.out _ hB2|go_keep)
   (first
    | (go_at_call 165;with_reducible refine Calls.mono (CB2.out _ hB) ?_;rintro e w2 ⟨rfl,hb2⟩;have hB2:=btrans hB hb2;clear hb2))
  all_goals
   have s0:=(HS.out _ hB2).1
   have s1:=(HS.out _ hB2).2.1
   have HB2:=hid (btrans HBW.out hB2)
   clear HS CB CB2 hB hB2
   by_cases hbg:bg≤x3
   ·rw [if_pos hbg] at HD
    go_wp2_with fail
    refine Calls.mono (CT.out 5 w2 HB2.out) ?_
    rintro e w3 ⟨rfl,a',c',h3⟩
    have H3:=hid h3
    clear h3
    go_wp2_with fail
    refine Calls.mono (CD.out 5 _ _ H3.out) ?_
    rintro e w4 ⟨rfl,a4',c4',h4⟩
    have H4:=hid h4
    clear h4
    go_wp2
    go_end0
    exact ⟨rfl,_,by rw [HD.out];exact H4.out⟩
   ·rw [if_neg hbg] at HD
    go_wp2
    exact bodyPost_ret (v:=.tuple #[]) (by simp [results,Tryz.results140,go_sem]) rfl ⟨rfl,M,by rw [HD.out];exact HH.out.below HB2.out⟩
end Go.Proofs.YtejhccmclanlmaaGreatDoor
