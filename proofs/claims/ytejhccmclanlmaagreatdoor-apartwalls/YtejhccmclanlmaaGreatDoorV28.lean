/- Wt Wo Wp Ws2 Ws3 Wu Ws1 -/
import Derived.Test.YtejhccmclanlmaaGreatDoorV26
import Derived.Test.YtejhccmclanlmaaGreatDoorV27
set_option linter.all false
set_option maxRecDepth 100000
set_option maxHeartbeats 8000000
namespace Go.Proofs.YtejhccmclanlmaaGreatDoor
open Go.RowKit Go.Proofs.Tryz
variable {D D0:Dom} {c dn fr n now s te:Int} {K:KT} {k:Nat} {a:Qg} {C:Zm}
def Zh1 (C:Zm) (dn:Int) (D:Dom) (K:KT) (now:Int) (k:Nat) (a:Qg):Dom:=
 Zhd C (Jr (Zae C dn (Yp (Zp D now k) k (spC K a)) (now+spC K a) a (spC K a))) (now+spC K a) k a
def aAt (L:List Qg) (D:Dom):Qg:=L.getD D.nxt.toNat (0,0,0)
def Zms (C:Zm) (L:List Qg) (te:Int) (D:Dom) (now:Int):Bool:=decide (0≤J0 C D.jobs)&&decide (D.nxt<(L.length:Int))&&decide (Zie (aAt L D)≤te-now)
def stD (C:Zm) (dn:Int) (L:List Qg) (te:Int) (D:Dom) (K:KT) (now:Int):Dom:=if Zms C L te D now then Zh1 C dn D K now (J0 C D.jobs).toNat (aAt L D) else D
def stK (C:Zm) (L:List Qg) (te:Int) (D:Dom) (K:KT) (now:Int):KT:=if Zms C L te D now then spK K (aAt L D) else K
def stN (C:Zm) (dn:Int) (L:List Qg) (te:Int) (D:Dom) (K:KT) (now:Int):Int:=if Zms C L te D now then now+spC K (aAt L D) else if J0 C D.jobs<0 then Zt3 C dn D te else te
theorem Zlk (h:ckA a=0):1≤a.1∧a.1≤8∧0≤a.2.1∧(a.1=1→1≤a.2.1∧a.2.1≤200)∧(a.1=2∨a.1=3→1≤a.2.1∧a.2.1≤1000):=by
 unfold ckA at h
 split at h
 ·rename_i h1
  split at h
  ·rename_i h2
   simp only [inR,Bool.and_eq_true,decide_eq_true_eq] at h1;unfold Zmx at h2;refine ⟨h1.1,h1.2,?_,fun e=>?_,fun e=>?_⟩
   ·split at h2
    ·simp only [inR,Bool.and_eq_true,decide_eq_true_eq] at h2;omega
    ·split at h2
     ·simp only [inR,Bool.and_eq_true,decide_eq_true_eq] at h2;omega
     ·split at h2
      ·simp only [Bool.and_eq_true,decide_eq_true_eq] at h2;omega
      ·simpa using h2
   ·rw [if_pos e] at h2
    simp only [inR,Bool.and_eq_true,decide_eq_true_eq] at h2;exact h2
   ·rw [if_neg (by omega),if_pos e] at h2
    simp only [inR,Bool.and_eq_true,decide_eq_true_eq] at h2;exact h2
  ·omega
 ·omega
theorem Zuk (h:ck K=0) (l:Int):Zad K l<K.length∧l%(K.length:Int)=(Zad K l:Int):=by
 obtain ⟨_,h1,h4,_⟩:=Zh8 h;have a0:(0:Int)<(K.length:Int):=by omega
 have a1:=Int.emod_nonneg l (Int.ne_of_gt a0);have a2:=Int.emod_lt_of_pos l a0;unfold Zad;omega
theorem Zob (hK:ck K=0) (hA:ckA a=0):1≤spC K a∧spC K a≤Zie a∧Zie a≤200:=by
 obtain ⟨h1,h2,h3,h4,h5⟩:=Zlk hA;unfold spC Zie;by_cases e:a.1=2∨a.1=3
 ·rw [if_pos e,if_neg (by omega),if_pos e]
  have:=Znl (K.getD (Zad K a.2.1) []) a.2.1 (decide (a.1=3))
  omega
 ·rw [if_neg e]
  split
  ·rename_i e1
   have:=h4 e1
   omega
  ·omega
theorem Zy9 (hK:ck K=0) (hA:ckA a=0):ck (spK K a)=0:=by
 obtain ⟨h1,h2,h3,h4,h5⟩:=Zlk hA;unfold spK;split
 ·rename_i e
  obtain ⟨hl,hm⟩:=Zuk hK a.2.1
  have:=Zma K a.2.1 (decide (a.1=3)) (Zad K a.2.1) hl hK (h5 e).1 (h5 e).2 hm
  rw [show K.getD (Zad K a.2.1) []=K[Zad K a.2.1] by simp [hl]];exact this.1
 ·exact hK
theorem Zem {j:J6}:Za6 C dn j=0↔(0≤j.1∧j.1<C.ta.length∧(tk C j.1.toNat).1=dn)∧inR j.2.1 0 100000=true∧inR j.2.2.1 0 100000=true∧inR j.2.2.2.1 0 (wrap64 ((tk C j.1.toNat).2.2.1-1))=true:=by
 unfold Za6 tk;split
 ·rename_i h
  split
  ·rename_i h2
   simp only [Bool.and_eq_true] at h2;exact ⟨fun _=>⟨h,h2.1.1,h2.1.2,h2.2⟩,fun _=>rfl⟩
  ·rename_i h2
   simp only [Bool.and_eq_true] at h2;exact ⟨fun h'=>by omega,fun h'=>absurd ⟨⟨h'.2.1,h'.2.2.1⟩,h'.2.2.2⟩ h2⟩
 ·rename_i h
  exact ⟨fun h'=>by omega,fun h'=>absurd h'.1 h⟩
theorem Zi9 (hC:ckC C=0) (k:Nat) (hk:k<C.ta.length) (u:Int):inR u 0 (wrap64 ((tk C k).2.2.1-1))=true↔0≤u∧u<(tk C k).2.2.1:=by
 have:=Zkt hC k hk
 rw [Znp (by omega) (by omega)];simp only [inR,Bool.and_eq_true,decide_eq_true_eq];omega
theorem Zwf (hs:s<0∨n<s) (hc:n<c) (h0:0≤n):Znu s c<0∨n<Znu s c:=by
 unfold Znu;split
 ·omega
 ·split<;>omega
theorem Zwo (C:Zm) (D:Dom) (n:Int) (h0:0≤n):∀ (l:List NT),(∀ x∈l,n<Y0 C D x.1)→∀ s,(s<0∨n<s)→(l.foldl (fun s x=>Znu s (Y0 C D x.1)) s<0∨n<l.foldl (fun s x=>Znu s (Y0 C D x.1)) s):=by
 intro l
 induction l with
 | nil=>intro _ s hs;exact hs
 | cons x r ih=>intro h s hs;exact ih (fun y hy=>h y (List.mem_cons_of_mem _ hy)) _ (Zwf hs (h x (List.mem_cons_self ..)) h0)
theorem Zys (hz:ckD C dn (Zq D)=0) (h0:0≤now) (h1:now<te) (h2:te≤100000):now<Zt3 C dn (Zah C dn now D) te∧Zt3 C dn (Zah C dn now D) te≤te:=by
 have hn:inR now 0 100000=true:=by simp [inR];omega
 have hR:=Zsh hz hn;have hq:∀ x∈Za0 C dn C.ta.length,now<Y0 C (Zq (Zah C dn now D)) x.1:=fun x hx=>by
  have hg:Zfl C now x.1 (Zaa C dn now (Zq D))=false:=by
   rw [Zij (D:=Zdi C dn now (Zq D)) (by rw [Zaa,Zsd])];exact Zo5 hn _ (Zq D) Zb9 hz x.1 (.inr ⟨x,hx,rfl⟩)
  have a0:=(Zb9 x hx).1;have hC:=Q3 (Z0.1 hR).1;have hN:=(Yg.1 (Z0.1 hR).2.2.1).1;have hc:=Zol hC hN x.1 a0;have ht:=Zkt hC x.1 a0;have hr:=Zqc hN x.1;have e:Y0 C (Zq (Zah C dn now D)) x.1=Y0 C (Zaa C dn now (Zq D)) x.1:=rfl;rw [e];simp only [Zfl,Bool.and_eq_false_iff,decide_eq_false_iff_not] at hg;rcases hg with hg|hg
  ·omega
  ·have e1:(Zaa C dn now (Zq D)).rel.getD x.1 0=100000:=by omega
   rw [hc.1,e1];omega
 have hd:=Zwo C (Zq (Zah C dn now D)) now h0 _ hq (-1) (.inl (by omega));unfold Zt3 Zy2 Zq0;split
 ·omega
 ·rw [Int.min_def]
  split<;>omega
theorem Zwg (K:KT) (a:Qg):(spK K a).length=K.length:=by unfold spK;split<;>simp
theorem Zrd (K:KT) (a:Qg) (h:∀ ls∈K,0<ls.length∧ls.length≤3):∀ ls∈spK K a,ls.length≤3:=by
 intro ls hm;unfold spK at hm
 split at hm
 ·rcases List.mem_or_eq_of_mem_set hm with h'|h'
  ·exact (h ls h').2
  ·subst h'
   by_cases hl:Zad K a.2.1<K.length
   ·have a0:K.getD (Zad K a.2.1) []∈K:=by
     rw [show K.getD (Zad K a.2.1) []=K[Zad K a.2.1] by simp [hl]];exact List.getElem_mem hl
    rw [Ze8 _ _ _ (h _ a0).1];exact (h _ a0).2
   ·rw [List.set_eq_of_length_le (by omega)] at hm
    exact (h _ hm).2
 ·exact (h ls hm).2
theorem Zsz (X:RC) (M:RM) (D:Dom) (K:KT) (now:Int) (k:Nat) (a:Qg) (w:World) (h:RO X w M D K now) (hk:k<D.jobs.length) (hK:ck K=0) (hA:ckA a=0) (hu:0≤(jat D k).2.2.2.1∧(jat D k).2.2.2.1≤1000000) (hn:0≤now∧now≤1000000) (hc:0≤spC K a∧spC K a≤1000):
  Calls prog 138 #[.pointer (some ⟨X.rb,0,none⟩),.int .i64 (k:Int),av a] w fun e w'=>e=.returned (.int .i64 (spC K a))∧∃ M',RO X w' M' (Yp D k (spC K a)) (spK K a) (now+spC K a):=by
 obtain ⟨ak,an,a3⟩:=a;obtain ⟨_,ap,aq,ah⟩:=Zh8 hK;have q1:=Za w (.cells #[.int .i64 ak,.int .i64 an,.int .i64 a3] 63);have ab:=hid q1;have R1:=hid (Z5 w _ [.int .i64 ak,.int .i64 an,.int .i64 a3] 63 rfl);have h1:=h.below q1;have ai:=h1.row.cell 17 _ rfl;obtain ⟨a0,a1,a2⟩:=R1.out.q3 rfl rfl rfl;have ar:X.rb<w.heap.size:=h.row.lt;have HH:=hid h;have au:(k:Int)<(D.jobs.length:Int):=by omega
 have aw:=(Zz h.px.jobs).2.2;have ac:=hid (Zwg K (ak,an,a3));have aj:=hid (Zrd K (ak,an,a3) ah);go_enter func138,ntmps138;go_upto_region 1 with fail;have CX:Hid (∀ wx,Below (w.alloc (.cells #[.int .i64 ak,.int .i64 an,.int .i64 a3] 63)).heap.size (w.alloc (.cells #[.int .i64 ak,.int .i64 an,.int .i64 a3] 63)) wx→Calls prog 160 #[.agg #[.slice M.aK K.length M.cK],.agg #[.int .i64 ak,.int .i64 an,.int .i64 a3]] wx fun e w'=>∃ g0,e=.returned (.tuple #[.agg #[.slice (some ⟨g0,0,none⟩) K.length K.length],.int .i64 (spC K (ak,an,a3)),.int .i64 0])∧Zbo w' g0 (spK K (ak,an,a3)) K.length∧wx.heap.size≤g0∧Below wx.heap.size wx w'):=hid fun wx hb=>Zxm (ak,an,a3) M.aK K M.cK wx (h1.px.cache.keep hb) hK hA
 generalize hW:World.alloc w _=W at *
 clear hW h1 q1 h;generalize hsc:spC K (ak,an,a3)=sc at *
 generalize hsk:spK K (ak,an,a3)=sk at *
 have ad:=hid hsc;have al:=hid hsk;clear hsc hsk;have HS:Hid (∀ w',Below W.heap.size W w'→w'.cell? ⟨X.rb,17,none⟩=some (.slice M.aK K.length M.cK)∧w'.cell? ⟨w.heap.size,0,none⟩=some (.int .i64 ak)∧w'.cell? ⟨w.heap.size,1,none⟩=some (.int .i64 an)∧w'.cell? ⟨w.heap.size,2,none⟩=some (.int .i64 a3)):=hid fun w' hb=>⟨Zg hb ai lr,Zg hb a0 lr,Zg hb a1 lr,Zg hb a2 lr⟩
 have a5:Below W.heap.size W W.drew:=br.drew;have a4:Below W.heap.size W (W.alloc (.cells #[.slice none 0 0] 72)).drew:=(Za _ _).drew;have RZ:Hid (Zf (W.alloc (.cells #[.slice none 0 0] 72)).drew W.heap.size 72 [.slice none 0 0]):=hid (Zc W W.heap.size [.slice none 0 0] 72 rfl);have ax:w.heap.size≤W.heap.size:=ab.out.size;go_cut [7,8] (fun t u wx=>∃ Bc g0,t=.pointer (some ⟨Bc,0,none⟩)∧u=.int .i64 sc∧Below W.heap.size W wx∧Zf wx Bc 72 [.slice (some ⟨g0,0,none⟩) K.length K.length]∧Zbo wx g0 sk K.length∧W.heap.size≤g0∧W.heap.size≤Bc)
 case first=>
  go_region_held3 (fun w'=>w'.cell? ⟨X.rb,17,none⟩=some (.slice M.aK K.length M.cK)∧w'.cell? ⟨w.heap.size,0,none⟩=some (.int .i64 ak)∧w'.cell? ⟨w.heap.size,1,none⟩=some (.int .i64 an)∧w'.cell? ⟨w.heap.size,2,none⟩=some (.int .i64 a3))
   (first|with_reducible exact HS.out _ hB2|with_reducible exact HS.out _ (hB2a _)|with_reducible exact HS.out _ (hB2c _)|with_reducible exact HS.out _ a5|with_reducible exact HS.out _ a4|go_keep)
   (first
    | (go_at_call 160;with_reducible refine Calls.mono (CX.out _ a5) ?_;rintro e w2 ⟨g0,rfl,a7,a8,a6⟩;have hB2:=Zb a5 a6;have a9:=hid a7;have aa:=hid a8;have hB2a:∀ o,Below W.heap.size W (w2.alloc o):=fun o=>Zb hB2 (Za _ o))
    | (go_at_call 160;with_reducible refine Calls.mono (CX.out _ a4) ?_;rintro e w2 ⟨g0,rfl,a7,a8,a6⟩;have hB2:=Zb a4 a6;have a9:=hid a7;have aa:=hid a8;have HZ:=hid (RZ.out.below a6 lr);have u0:=HZ.out.cell 0 _ rfl;have f0:=HZ.out.frozen 0;have hB2c:∀ v0,Below W.heap.size W (w2.setCell ⟨W.heap.size,0,none⟩ v0):=fun v0=>hB2.setCell (p:=⟨W.heap.size,0,none⟩) lr _))
  all_goals
   go_wp2;go_meet
   case rel=>
    first
     | (have hM:=hB2a;have hG:W.heap.size≤g0:=aa.out;exact ⟨w2.heap.size,g0,rfl,rfl,Zb hB2 (Za _ _),Zc w2 _ [.slice (some ⟨g0,0,none⟩) K.length K.length] 72 rfl,a9.out.below (Za _ _),hG,hB2.size⟩)
     | (have hM:=hB2c;have hG:W.heap.size+1≤g0:=(by simpa using aa.out);exact ⟨W.heap.size,g0,rfl,rfl,hM _,Ze HZ.out 0 _,a9.out.setOther _ _ (by show W.heap.size<g0;omega),by omega,lr⟩)
 case rest=>
  obtain ⟨Bc,g0,rfl,rfl,am,ae,af,ay,az⟩:=hcut;have ag:=Zb ab.out am;have HX:=hid (HH.out.below ag);obtain ⟨g,hg,b0,b1,b2,ao,j0,j1,j2,j3,j4,j5⟩:=HX.out.jobAt k hk;have x0:=HX.out.row.cell 0 _ rfl;have b3:=HX.out.row.cell 17 _ rfl;have b4:=HX.out.row.cell 19 _ rfl;have b5:=HX.out.row.frozen 17;have b6:=HX.out.row.frozen 19;have f3:=ao (k*6+3);rw [hg] at x0;have y0:=ae.cell 0 _ rfl;have HE:Hid (∃ M',RO X (((wc.setCell ⟨X.rb,17,none⟩ (.slice (some ⟨g0,0,none⟩) K.length K.length)).setCell ⟨X.rb,19,none⟩ (.int .i64 (now+sc))).setCell ⟨g,k*6+3,none⟩ (.int .i64 ((jat D k).2.2.2.1+sc))) M' (Yp D k sc) sk (now+sc)):=by
   have h2:=HH.out.newCache (w1:=wc) ag (a:=some ⟨g0,0,none⟩) (c:=K.length) (K':=sk) (fun w' hw'=>Zrj (n:=w.heap.size) (by rw [ac.out];exact af) (by omega) aj.out (fun x hx1 hx2=>hw' x hx1 hx2));rw [ac.out] at h2;have h3:=(h2.setNow (now+sc)).setJob (g:=g) hg k 3 (jat D k) (Zna (jat D k) sc) (.int .i64 ((jat D k).2.2.2.1+sc)) (by simp [jat,hk]) (by omega) rfl;exact hid ⟨_,h3⟩
  clear ae af HS CX RZ a5 a4 HX;generalize (jat D k).2.2.2.1=us at *
  go_wp2;go_ret;exact ⟨Zh ad.out.symm,by rw [ad.out,al.out];exact HE.out⟩
theorem Zwl (X:RC) (M:RM) (D:Dom) (K:KT) (now:Int) (k:Nat) (a:Qg) (w:World) (h:RO X w M D K now) (hk:k<D.jobs.length) (hl:D.evs.length≤1000000000000) (ht:0≤(jat D k).1∧(jat D k).1<X.C.ta.length):
  Calls prog 140 #[.pointer (some ⟨X.rb,0,none⟩),.int .i64 (k:Int),av a] w fun e w'=>e=.returned (.tuple #[])∧∃ M',RO X w' M' (Zhd X.C D now k a) K now:=by
 obtain ⟨ak,an,a1⟩:=a;have q1:=Za w (.cells #[.int .i64 ak,.int .i64 an,.int .i64 a1] 63);have a3:=hid q1;have R1:=hid (Z5 w _ [.int .i64 ak,.int .i64 an,.int .i64 a1] 63 rfl);have h1:=h.below q1;have c0:=h1.row.cell 0 _ rfl;obtain ⟨g,hg,a7,a8,a9,aa,j0,j1,j2,j3,j4,j5⟩:=h1.jobAt k hk;rw [hg] at c0;have a0:=R1.out.cell 0 _ rfl;have ab:X.rb<w.heap.size:=h.row.lt;have ac:(k:Int)<(D.jobs.length:Int):=by omega
 have ad:=(Zz h.px.jobs).2.2;have HH:=hid h;have HD:Hid (Zhd X.C D now k (ak,an,a1)=if ak=8 then Zno (Y7 D (now,4,(jat D k).1,(jat D k).2.1)) k else if (tk X.C (jat D k).1.toNat).2.2.1≤(jat D k).2.2.2.1 then Zno (Y7 D (now,5,(jat D k).1,(jat D k).2.1)) k else D):=hid rfl;have CT:Hid (∀ kd wx,Below w.heap.size w wx→Calls prog 159 #[.pointer (some ⟨X.rb,0,none⟩),.int .i64 kd,.int .i64 (jat D k).1,.int .i64 (jat D k).2.1] wx fun e w'=>e=.returned (.tuple #[])∧∃ a' c',RO X w' (evM M a' c') (Y7 D (now,kd,(jat D k).1,(jat D k).2.1)) K now):=hid fun kd wx hb=>J2 X M D K now kd _ _ wx (h.below hb) hl
 have CD:Hid (∀ kd M' wx,RO X wx M' (Y7 D (now,kd,(jat D k).1,(jat D k).2.1)) K now→Calls prog 166 #[.pointer (some ⟨X.rb,0,none⟩),.int .i64 (k:Int)] wx fun e w'=>e=.returned (.tuple #[])∧∃ a' c',RO X w' (jM M' a' c') (Zno (Y7 D (now,kd,(jat D k).1,(jat D k).2.1)) k) K now):=hid fun kd M' wx hx=>Zuz X M' _ K now k wx hx hk
 have CB:Hid (∀ wx,Below w.heap.size w wx→Calls prog 165 #[.pointer (some ⟨X.rb,0,none⟩),.agg #[.int .i64 (jat D k).1,.int .i64 (jat D k).2.1,.int .i64 (jat D k).2.2.1,.int .i64 (jat D k).2.2.2.1,.bool (jat D k).2.2.2.2.1,.bool (jat D k).2.2.2.2.2]] wx fun e w'=>e=.returned (.int .i64 (tk X.C (jat D k).1.toNat).2.2.1)∧Below wx.heap.size wx w'):=hid fun wx hb=>Zp9 X M D K now (jat D k) wx (h.below hb) ht.1 ht.2
 clear h h1 q1 ht;generalize (tk X.C (jat D k).1.toNat).2.2.1=bg at *
 generalize jat D k=j at *
 obtain ⟨x0,x1,x2,x3,x4,x5⟩:=j;dsimp only at *
 go_enter func140,ntmps140;by_cases h8:ak=8
 ·subst h8
  rw [if_pos rfl] at HD;go_wp2_with fail;generalize hW:World.alloc (World.alloc w _) _=W at *
  have a2:Hid (Below w.heap.size w W):=by rw [← hW];exact hid (Zb a3.out (Za _ _))
  clear hW;refine Calls.mono (CT.out 4 W a2) ?_;rintro e w1 ⟨rfl,a',c',h1⟩;have H1:=hid h1;have ae:=h1.row.lt;clear h1;go_wp2_with fail;refine Calls.mono (CD.out 4 _ _ H1) ?_;rintro e w2 ⟨rfl,af,ag,h2⟩;have H2:=hid h2;clear h2;go_wp2;go_end0;exact ⟨rfl,_,by rw [HD.out];exact H2.out⟩
 ·rw [if_neg h8] at HD
  have ah:(ak==8)=false:=by simp [h8]
  have RJ:=hid (Z5 (w.alloc (.cells #[.int .i64 ak,.int .i64 an,.int .i64 a1] 63)) (w.heap.size+1) [.int .i64 x0,.int .i64 x1,.int .i64 x2,.int .i64 x3,.bool x4,.bool x5] 87 (by simp));go_wp2_with fail;have a2:Hid (Below w.heap.size w ((w.alloc (.cells #[.int .i64 ak,.int .i64 an,.int .i64 a1] 63)).alloc (.cells #[.int .i64 x0,.int .i64 x1,.int .i64 x2,.int .i64 x3,.bool x4,.bool x5] 87))):=hid (Zb a3 (Za _ _));generalize hW:World.alloc (World.alloc w _) _=W at *
  clear hW;have HS:Hid (∀ w',Below W.heap.size W w'→w'.cell? ⟨w.heap.size+1,0,none⟩=some (.int .i64 x0)∧w'.cell? ⟨w.heap.size+1,1,none⟩=some (.int .i64 x1)∧w'.cell? ⟨w.heap.size+1,2,none⟩=some (.int .i64 x2)∧w'.cell? ⟨w.heap.size+1,3,none⟩=some (.int .i64 x3)∧w'.cell? ⟨w.heap.size+1,4,none⟩=some (.bool x4)∧w'.cell? ⟨w.heap.size+1,5,none⟩=some (.bool x5)):=hid fun w' hb=>⟨Zg hb (RJ.out.cell 0 _ rfl) lr,Zg hb (RJ.out.cell 1 _ rfl) lr,Zg hb (RJ.out.cell 2 _ rfl) lr,Zg hb (RJ.out.cell 3 _ rfl) lr,Zg hb (RJ.out.cell 4 _ rfl) lr,Zg hb (RJ.out.cell 5 _ rfl) lr⟩
  have hB:Below W.heap.size W W.drew:=br.drew;have a4:Hid (∀ wx,Below W.heap.size W wx→Calls prog 165 #[.pointer (some ⟨X.rb,0,none⟩),.agg #[.int .i64 x0,.int .i64 x1,.int .i64 x2,.int .i64 x3,.bool x4,.bool x5]] wx fun e w'=>e=.returned (.int .i64 bg)∧Below wx.heap.size wx w'):=hid fun wx hb=>CB.out wx (Zb a2 hb)
  go_region_held3 (fun w'=>w'.cell? ⟨w.heap.size+1,0,none⟩=some (.int .i64 x0)∧w'.cell? ⟨w.heap.size+1,1,none⟩=some (.int .i64 x1)∧w'.cell? ⟨w.heap.size+1,2,none⟩=some (.int .i64 x2)∧w'.cell? ⟨w.heap.size+1,3,none⟩=some (.int .i64 x3)∧w'.cell? ⟨w.heap.size+1,4,none⟩=some (.bool x4)∧w'.cell? ⟨w.heap.size+1,5,none⟩=some (.bool x5))
   (first|with_reducible exact HS.out _ hB|with_reducible exact HS.out _ hB2|go_keep)
   (first
    | (go_at_call 165;with_reducible refine Calls.mono (a4.out _ hB) ?_;rintro e w2 ⟨rfl,a5⟩;have hB2:=Zb hB a5;clear a5))
  all_goals
   have s0:=(HS.out _ hB2).1;have s1:=(HS.out _ hB2).2.1;have a6:=hid (Zb a2 hB2);clear HS CB a4 hB hB2;by_cases hbg:bg≤x3
   ·rw [if_pos hbg] at HD
    go_wp2_with fail;refine Calls.mono (CT.out 5 w2 a6) ?_;rintro e w3 ⟨rfl,a',c',h3⟩;have H3:=hid h3;clear h3;go_wp2_with fail;refine Calls.mono (CD.out 5 _ _ H3) ?_;rintro e w4 ⟨rfl,ai,aj,h4⟩;have H4:=hid h4;clear h4;go_wp2;go_end0;exact ⟨rfl,_,by rw [HD.out];exact H4.out⟩
   ·rw [if_neg hbg] at HD
    go_wp2;exact bodyPost_ret (v:=.tuple #[]) (by simp [results,results140,go_sem]) rfl ⟨rfl,M,by rw [HD.out];exact HH.out.below a6.out⟩
theorem Zru (X:RC) (M:RM) (D:Dom) (K:KT) (now:Int) (w:World) (h:RO X w M D K now) (hz:ckD X.C X.dn (Zq D)=0) (hp:J0 X.C D.jobs<0):
  Calls prog 101 #[.pointer (some ⟨X.rb,0,none⟩)] w fun e w'=>e=.returned (.tuple #[])∧RO X w' M D K (Zt3 X.C X.dn D X.tq):=by
 have a2:X.rb<w.heap.size:=h.row.lt;have HH:=hid h;have CP:=hid (Zf0 X M D K now w h hz);have CD:Hid (∀ wx,Below w.heap.size w wx→Calls prog 136 #[.pointer (some ⟨X.rb,0,none⟩),.int .i64 X.tq] wx fun e w'=>e=.returned (.int .i64 (Zt3 X.C X.dn D X.tq))∧Below wx.heap.size wx w'):=hid fun wx hb=>Zvu X M D K now wx (h.below hb) hz
 have HR:Hid (∀ wx,Below w.heap.size w wx→Zf wx X.rb 152 (rl X M D K now)):=hid fun wx hb=>(h.below hb).row
 clear h;generalize J0 X.C D.jobs=p at *
 generalize Zt3 X.C X.dn D X.tq=du at *
 go_enter func101,ntmps101;go_wp2_with fail;refine Calls.mono CP.out ?_;rintro e w1 ⟨rfl,a0⟩;have hB:Below w.heap.size w w1.drew:=a0.drew;have HS:Hid (∀ w',Below w.heap.size w w'→w'.cell? ⟨X.rb,20,none⟩=some (.int .i64 X.tq)):=hid fun w' hb=>(HR.out w' hb).cell 20 _ rfl
 clear a0 CP;go_wp2_with fail;go_region_held3 (fun w'=>w'.cell? ⟨X.rb,20,none⟩=some (.int .i64 X.tq))
  (first|with_reducible exact HS.out _ hB|with_reducible exact HS.out _ hB2|exact z20 _|go_keep)
  (first
   | (go_at_call 136;with_reducible refine Calls.mono (CD.out _ hB) ?_;rintro e w2 ⟨rfl,a1⟩;have hB2:=Zb hB a1;have R2:=HR.out _ hB2;have a3:=R2.cell 19 _ rfl;have a4:=R2.frozen 19;have z20:∀ u,(w2.setCell ⟨X.rb,19,none⟩ u).cell? ⟨X.rb,20,none⟩=some (.int .i64 X.tq):=fun u=>(Ze R2 19 u).cell 20 _ rfl;clear R2 a1))
 all_goals
  have HE:=hid ((HH.out.below hB2).setNow du);clear hB hB2 HS CD HR;go_wp2;exact bodyPost_ret (v:=.tuple #[]) (by simp [results,results101,go_sem]) rfl ⟨rfl,HE.out⟩
theorem Zqw (X:RC) (M:RM) (D:Dom) (K:KT) (now:Int) (w:World) (h:RO X w M D K now) (hz:ckD X.C X.dn (Zq D)=0) (hp:0≤J0 X.C D.jobs) (hx:(X.L.length:Int)≤D.nxt):
  Calls prog 101 #[.pointer (some ⟨X.rb,0,none⟩)] w fun e w'=>e=.returned (.tuple #[])∧RO X w' M D K X.tq:=by
 have a2:X.rb<w.heap.size:=h.row.lt;have a3:=h.lL;have HH:=hid h;have CP:=hid (Zf0 X M D K now w h hz);have HR:Hid (∀ wx,Below w.heap.size w wx→Zf wx X.rb 152 (rl X M D K now)):=hid fun wx hb=>(h.below hb).row
 have a4:¬ J0 X.C D.jobs<0:=by omega
 clear h;generalize J0 X.C D.jobs=p at *
 go_enter func101,ntmps101;go_wp2_with fail;refine Calls.mono CP.out ?_;rintro e w1 ⟨rfl,a0⟩;have a1:=hid a0;have R1:=HR.out _ a0;have x2:=R1.cell 2 _ rfl;have a5:=R1.cell 18 _ rfl;have a6:=R1.cell 19 _ rfl;have a7:=R1.cell 20 _ rfl;have a8:=R1.frozen 19;have HE:=hid ((HH.out.below a0).setNow X.tq);clear a0 CP R1 HR;go_wp2_with fail;go_quiet (fail)
 go_wp2;exact bodyPost_ret (v:=.tuple #[]) (by simp [results,results101,go_sem]) rfl ⟨rfl,(HH.out.below (below_drewN a1.out _)).setNow X.tq⟩
theorem Zr4 (X:RC) (M:RM) (D:Dom) (K:KT) (now:Int) (m:Nat) (w:World) (h:RO X w M D K now) (hz:ckD X.C X.dn (Zq D)=0) (hp:0≤J0 X.C D.jobs) (hm:D.nxt=(m:Int)) (hx:m<X.L.length) (hn:0≤now∧now≤100000) (hto:0≤X.tq∧X.tq≤100000) (hw:X.tq-now<Zie X.L[m]):
  Calls prog 101 #[.pointer (some ⟨X.rb,0,none⟩)] w fun e w'=>e=.returned (.tuple #[])∧RO X w' M D K X.tq:=by
 have a9:X.rb<w.heap.size:=h.row.lt;have ag:=h.lL;have HH:=hid h;have CP:=hid (Zf0 X M D K now w h hz);have HR:Hid (∀ wx,Below w.heap.size w wx→Zf wx X.rb 152 (rl X M D K now)):=hid fun wx hb=>(h.below hb).row
 have ah:¬ J0 X.C D.jobs<0:=by omega
 obtain ⟨bA,oA,eA,t0,t1,t2⟩:=h.acts m hx;have aa:bA<w.heap.size:=World.block_lt_of_cell? _ _ t0;have ai:(m:Int)<(X.L.length:Int):=by omega
 have ab:¬ (X.L.length:Int)≤(m:Int):=by omega
 generalize hA:X.L[m]=a0 at *
 obtain ⟨ak,an,a1⟩:=a0;dsimp only at *
 have aj:=hid hA;have HM:=hid hm;clear h hA;generalize hpk:J0 X.C D.jobs=p at *
 have al:=hid hpk;clear hpk;go_enter func101,ntmps101;go_wp2_with fail;refine Calls.mono CP.out ?_;rintro e w1 ⟨rfl,a2⟩;have a6:=hid a2;have R1:=HR.out _ a2;have x2:=R1.cell 2 _ rfl;rw [hm] at x2;have a4:=R1.cell 18 _ rfl;rw [eA] at a4;have s0:=Zg a2 t0 lr;have s1:=Zg a2 t1 lr;have s2:=Zg a2 t2 lr;clear a2 CP R1 t0 t1 t2 hm;go_wp2_with fail;go_quiet (fail)
 go_upto_region 5 with fail;generalize hW:World.drewN w1 _=W at *
 have a5:Hid (Below w.heap.size w W):=by rw [← hW];exact hid (below_drewN a6.out _)
 have X2:W.cell? ⟨X.rb,2,none⟩=some (.int .i64 (m:Int)):=by rw [← hW];exact x2
 have ac:W.cell? ⟨X.rb,18,none⟩=some (.slice (some ⟨bA,oA,none⟩) X.L.length X.cL):=by rw [← hW];exact a4
 have S0:W.cell? ⟨bA,oA+m*3,none⟩=some (.int .i64 ak):=by rw [← hW];exact s0
 have S1:W.cell? ⟨bA,oA+m*3+1,none⟩=some (.int .i64 an):=by rw [← hW];exact s1
 have S2:W.cell? ⟨bA,oA+m*3+2,none⟩=some (.int .i64 a1):=by rw [← hW];exact s2
 have ad:X.rb<W.heap.size:=Nat.lt_of_lt_of_le a9 a5.out.size;have ae:bA<W.heap.size:=Nat.lt_of_lt_of_le aa a5.out.size;clear hW x2 a4 s0 s1 s2 a6;go_cut [3] (fun q wx=>∃ b,q=.pointer (some ⟨b,0,none⟩)∧RO (X.more b (.cells #[.int .i64 ak,.int .i64 an,.int .i64 a1] 63)) wx M D K now)
 case first=>
  go_region
  all_goals
   go_wp2;go_meet
   case rel=>exact ⟨_,rfl,((HH.out.below a5).push _).below br.drew⟩
 case rest=>
  obtain ⟨b,rfl,a7⟩:=hcut;have a3:=hid a7;clear a7 X2 ac S0 S1 S2;have HS:Hid (∀ w',Below wc.heap.size wc w'→w'.cell? ⟨b,0,none⟩=some (.int .i64 ak)∧w'.cell? ⟨b,1,none⟩=some (.int .i64 an)∧w'.cell? ⟨b,2,none⟩=some (.int .i64 a1)∧w'.cell? ⟨X.rb,19,none⟩=some (.int .i64 now)∧w'.cell? ⟨X.rb,20,none⟩=some (.int .i64 X.tq)):=hid fun w' hb=>⟨Zg hb (a3.out.topRow.cell 0 _ rfl) lr,Zg hb (a3.out.topRow.cell 1 _ rfl) lr,Zg hb (a3.out.topRow.cell 2 _ rfl) lr,Zg hb (a3.out.row.cell 19 _ rfl) lr,Zg hb (a3.out.row.cell 20 _ rfl) lr⟩
  have hB:Below wc.heap.size wc wc.drew:=br.drew;have CW:Hid (∀ wx,Calls prog 87 #[.agg #[.int .i64 ak,.int .i64 an,.int .i64 a1]] wx fun e w'=>e=.returned (.int .i64 (Zie (ak,an,a1)))∧Below wx.heap.size wx w'):=hid fun wx=>Zee (ak,an,a1) wx
  have af:IntKind.i64.wrap (X.tq-now)=X.tq-now:=by rw [IntKind.wrap_i64];omega
  generalize hws:Zie (ak,an,a1)=ws at *
  clear hws;go_wp2_with fail;go_region_held3 (fun w'=>w'.cell? ⟨b,0,none⟩=some (.int .i64 ak)∧w'.cell? ⟨b,1,none⟩=some (.int .i64 an)∧w'.cell? ⟨b,2,none⟩=some (.int .i64 a1)∧w'.cell? ⟨X.rb,19,none⟩=some (.int .i64 now)∧w'.cell? ⟨X.rb,20,none⟩=some (.int .i64 X.tq))
   (first|with_reducible exact HS.out _ hB|with_reducible exact HS.out _ hB2|go_keep)
   (first
    | (go_at_call 87;with_reducible refine Calls.mono (CW.out _) ?_;rintro e w2 ⟨rfl,a8⟩;have hB2:=Zb hB a8;clear a8))
  all_goals
   have H2:=hid (a3.out.below hB2);have y:=HS.out _ hB2;have y0:=y.1;have y1:=y.2.1;have y2:=y.2.2.1;have am:=y.2.2.2.1;have ao:=y.2.2.2.2;have ap:=H2.out.row.frozen 19;clear y hB hB2 HS CW af;have HE:=hid ((H2.out.setNow X.tq).pop);go_wp2;exact bodyPost_ret (v:=.tuple #[]) (by simp [results,results101,go_sem]) rfl ⟨rfl,HE.out⟩
structure Zz9 (D D':Dom):Prop where
 rel:D'.rel=D.rel
 nxt:D'.nxt=D.nxt
 ins:D'.ins.length=D.ins.length
 tak:D'.tak.length=D.tak.length
 out:D'.out.length=D.out.length
 jl:D'.jobs.length=D.jobs.length
theorem Zkb (hk:k<D.jobs.length) (j:J6):jat (Zs8 D k j) k=j:=by simp [jat,Zs8,hk]
theorem Zdy (D:Dom) (now:Int) (k:Nat):Zz9 D (Zp D now k):=by
 unfold Zp;split
 ·exact ⟨rfl,rfl,rfl,rfl,rfl,rfl⟩
 ·exact ⟨rfl,rfl,rfl,rfl,rfl,by simp [Zs8,Y7]⟩
theorem Ze5 (hk:k<D.jobs.length):(jat (Zp D now k) k).1=(jat D k).1∧(jat (Zp D now k) k).2.1=(jat D k).2.1∧(jat (Zp D now k) k).2.2.1=(jat D k).2.2.1∧(jat (Zp D now k) k).2.2.2.1=(jat D k).2.2.2.1:=by
 unfold Zp;split
 ·exact ⟨rfl,rfl,rfl,rfl⟩
 ·rw [Zkb (by simpa [Y7] using hk)]
  exact ⟨rfl,rfl,rfl,rfl⟩
theorem Zmy (D:Dom) (now:Int) (k:Nat):(Zp D now k).jobs=D.jobs∨(Zp D now k).jobs=D.jobs.set k (Zzu (jat D k)):=by
 unfold Zp;split
 ·exact .inl rfl
 ·exact .inr rfl
theorem Ze4 (D:Dom) (now:Int) (k:Nat):(Zp D now k).evs=D.evs∨(Zp D now k).evs=D.evs++[(now,3,(jat D k).1,(jat D k).2.1)]:=by
 unfold Zp;split
 ·exact .inl rfl
 ·exact .inr rfl
theorem Zdu (D:Dom) (now:Int) (k:Nat):(Zp D now k).ins=D.ins∧(Zp D now k).tak=D.tak∧(Zp D now k).out=D.out:=by
 unfold Zp
 split<;>exact ⟨rfl,rfl,rfl⟩
theorem Zdr (D:Dom) (k:Nat) (c:Int):Zz9 D (Yp D k c):=⟨rfl,rfl,rfl,rfl,rfl,by simp [Yp,Zs8]⟩
theorem Zg6 (C:Zm) (dn:Int) (D:Dom) (now:Int) (a:Qg) (c:Int):Zz9 D (Zae C dn D now a c)∧(Zae C dn D now a c).jobs=D.jobs:=by
 unfold Zae;split
 ·exact ⟨⟨rfl,rfl,rfl,rfl,rfl,rfl⟩,rfl⟩
 ·split
  ·exact ⟨⟨rfl,rfl,rfl,rfl,rfl,rfl⟩,rfl⟩
  ·split
   ·exact ⟨⟨rfl,rfl,rfl,rfl,by simp [Y7,Zjj],rfl⟩,rfl⟩
   ·split
    ·exact ⟨⟨rfl,rfl,by simp [Y7,Zds],rfl,rfl,rfl⟩,rfl⟩
    ·split
     ·exact ⟨⟨rfl,rfl,rfl,rfl,rfl,rfl⟩,rfl⟩
     ·split
      ·exact ⟨⟨rfl,rfl,rfl,by simp [Y7,Znq],rfl,rfl⟩,rfl⟩
      ·exact ⟨⟨rfl,rfl,rfl,rfl,rfl,rfl⟩,rfl⟩
theorem Zok (C:Zm) (dn:Int) (D:Dom) (now:Int) (a:Qg) (c:Int) (hA:ckA a=0):(a.1≠8∧∃ e,(Zae C dn D now a c).evs=D.evs++[e]∧e.1=now∧7≤e.2.1∧e.2.1≤12)∨(a.1=8∧(Zae C dn D now a c).evs=D.evs):=by
 obtain ⟨h1,h2,_,_,_⟩:=Zlk hA;by_cases e8:a.1=8
 ·right
  refine ⟨e8,?_⟩;have hm:Zht C dn a=true:=by unfold Zht;rw [if_neg (by omega),if_neg (by omega),if_neg (by omega)]
  unfold Zae;rw [hm,if_neg (by decide),if_neg (by omega),if_neg (by omega),if_neg (by omega),if_neg (by omega),if_neg (by omega)]
 ·left
  refine ⟨e8,?_⟩;unfold Zae;split
  ·exact ⟨_,rfl,rfl,by dsimp only;omega,by dsimp only;omega⟩
  ·split
   ·exact ⟨_,rfl,rfl,by dsimp only;omega,by dsimp only;omega⟩
   ·split
    ·exact ⟨_,rfl,rfl,by dsimp only;omega,by dsimp only;omega⟩
    ·split
     ·exact ⟨_,rfl,rfl,by dsimp only;omega,by dsimp only;omega⟩
     ·split
      ·exact ⟨_,rfl,rfl,by dsimp only;omega,by dsimp only;omega⟩
      ·split
       ·exact ⟨_,rfl,rfl,by dsimp only;omega,by dsimp only;omega⟩
       ·omega
theorem Zuh {V:List Int} {l:Int} (h:ckR V l s=0):ckR (V.drop 1) l s=0:=by
 obtain ⟨⟨h1,h2⟩,h3,h4,h5,h6⟩:=Zh7 h;have h7:Zbc (V.drop 1) 0 255=true:=List.all_eq_true.2 fun x hx=>List.all_eq_true.1 h4 x (List.mem_of_mem_drop hx)
 have h8:((V.drop 1).length:Int)≤s:=by rw [List.length_drop];omega
 unfold ckR;rw [if_neg (by simp [inR,h1,h2]),if_neg (by omega),if_neg (by rw [h7];decide),if_neg (by simp [inR,h5,h6])]
theorem Zti (h:Zaw C D=0):Zaw C (Zae C dn D now a c)=0:=by
 have a0:∀ D':Dom,D'.ins=D.ins→Zaw C D'=0:=fun D' e=>by
  have:Zaw C D'=Zaw C D:=by unfold Zaw Zex;rw [e]
  rw [this];exact h
 have a2:∀ i,Zaw C (Zds C D i)=0:=fun i=>by
  unfold Zaw;refine Qt _ _ (fun j hj=>?_);have a3:j<D.ins.length:=by simpa [Zds] using hj
  have a1:=Zx h j a3;unfold Zex at a1 ⊢;by_cases e:j=i
  ·subst e
   have e1:(Zds C D j).ins.getD j ([],0)=Zrf C D j:=by simp [Zds,a3]
   rw [e1];unfold Zrf;dsimp only;generalize D.ins.getD j ([],0)=r at *
   obtain ⟨V,l⟩:=r;dsimp only at *
   unfold Zgw Zjg;rw [if_pos a1,if_pos a1];exact Zuh a1
  ·have e1:(Zds C D i).ins.getD j ([],0)=D.ins.getD j ([],0):=by
    simp [Zds,List.getD_eq_getElem?_getD,List.getElem?_set_ne (fun h=>e h.symm)]
   rw [e1];exact a1
 unfold Zae;split
 ·exact a0 _ rfl
 ·split
  ·exact a0 _ rfl
  ·split
   ·exact a0 _ rfl
   ·split
    ·exact a2 _
    ·split
     ·exact a0 _ rfl
     ·split
      ·exact a0 _ rfl
      ·exact h
theorem Zuf (h:Zbc D.tak 0 15=true):Zbc (Zae C dn D now a c).tak 0 15=true:=by
 unfold Zae;split
 ·exact h
 ·split
  ·exact h
  ·split
   ·exact h
   ·split
    ·exact h
    ·split
     ·exact h
     ·split
      ·exact Zui h _ (by decide)
      ·exact h
theorem Ztz (h:∀ l∈D.out,(l.length:Int)≤n) (h0:0≤n):∀ l∈(Zae C dn D now a c).out,(l.length:Int)≤n+1:=by
 have a0:∀ l∈D.out,(l.length:Int)≤n+1:=fun l hl=>by have:=h l hl;omega
 unfold Zae;split
 ·exact a0
 ·split
  ·exact a0
  ·split
   ·intro l hl
    simp only [Y7,Zjj] at hl;rcases List.mem_or_eq_of_mem_set hl with h'|h'
    ·exact a0 l h'
    ·subst h'
     rw [List.length_append,List.length_singleton];by_cases hc:a.2.1.toNat<D.out.length
     ·have:D.out.getD a.2.1.toNat []∈D.out:=by
       rw [show D.out.getD a.2.1.toNat []=D.out[a.2.1.toNat] by simp [hc]];exact List.getElem_mem hc
      have:=h _ this
      omega
     ·rw [show D.out.getD a.2.1.toNat []=[] by simp [List.getD_eq_getElem?_getD,List.getElem?_eq_none (by omega:D.out.length≤a.2.1.toNat)]]
      simp;omega
   ·split
    ·exact a0
    ·split
     ·exact a0
     ·split
      ·exact a0
      ·exact a0
theorem Zoq (C:Zm) (D:Dom) (now:Int) (k:Nat) (a:Qg):(a.1=8∧(Zhd C D now k a).evs=D.evs++[(now,4,(jat D k).1,(jat D k).2.1)])∨(a.1≠8∧((Zhd C D now k a).evs=D.evs∨(Zhd C D now k a).evs=D.evs++[(now,5,(jat D k).1,(jat D k).2.1)])):=by
 unfold Zhd;by_cases e:a.1=8
 ·rw [if_pos e];exact .inl ⟨e,rfl⟩
 ·rw [if_neg e]
  refine .inr ⟨e,?_⟩;split
  ·exact .inr rfl
  ·exact .inl rfl
theorem Zqs (C:Zm) (D:Dom) (now:Int) (k:Nat) (a:Qg):(Zhd C D now k a).rel=D.rel∧(Zhd C D now k a).nxt=D.nxt∧(Zhd C D now k a).ins=D.ins∧(Zhd C D now k a).tak=D.tak∧(Zhd C D now k a).out=D.out:=by
 unfold Zhd;split
 ·exact ⟨rfl,rfl,rfl,rfl,rfl⟩
 ·split<;>exact ⟨rfl,rfl,rfl,rfl,rfl⟩
theorem Zqo (C:Zm) (D:Dom) (now:Int) (k:Nat) (a:Qg):(Zhd C D now k a).jobs=D.jobs.eraseIdx k∨((Zhd C D now k a).jobs=D.jobs∧(jat D k).2.2.2.1<(tk C (jat D k).1.toNat).2.2.1):=by
 unfold Zhd;split
 ·exact .inl rfl
 ·split
  ·exact .inl rfl
  ·rename_i h
   exact .inr ⟨rfl,by omega⟩
structure Zyw (C:Zm) (dn:Int) (D D':Dom) (now now':Int):Prop where
 jl:D'.jobs.length≤D.jobs.length
 js:∀ j∈D'.jobs,Za6 C dn j=0
 rel:D'.rel=D.rel
 nxt:D'.nxt=D.nxt+1
 il:D'.ins.length=D.ins.length
 ins:Zaw C D'=0
 tl:D'.tak.length=D.tak.length
 tak:Zbc D'.tak 0 15=true
 ol:D'.out.length=D.out.length
 out:∀ n:Int,0≤n→(∀ l∈D.out,(l.length:Int)≤n)→∀ l∈D'.out,(l.length:Int)≤n+1
 evs:∃ E,D'.evs=D.evs++E∧E.countP Zci=1∧E.length≤3∧∀ e∈E,e.1=now∨e.1=now'
theorem Zxc (hz:ckD C dn (Zq D)=0) (hk:k<D.jobs.length) (hK:ck K=0) (hA:ckA a=0):Zyw C dn D (Zh1 C dn D K now k a) now (now+spC K a):=by
 obtain ⟨c0,c1,c2,c3,c4,c5⟩:=Z0.1 hz;have hC:=Q3 c0;have hN:=Yg.1 c2;have hJ:=Y4.1 c3;obtain ⟨ad,ae,af⟩:=Zob hK hA;have n1:=Zdy D now k;have a9:k<(Zp D now k).jobs.length:=by rw [n1.jl];exact hk
 have n2:=Zdr (Zp D now k) k (spC K a);have r1:=Zdu D now k;generalize hc:spC K a=c at *
 have e2:jat (Yp (Zp D now k) k c) k=Zna (jat (Zp D now k) k) c:=Zkb a9 _;have j1:=Ze5 (now:=now) hk;have m3:=Zg6 C dn (Yp (Zp D now k) k c) (now+c) a c;have v3:=Zok C dn (Yp (Zp D now k) k c) (now+c) a c hA;have i3:Zaw C (Zae C dn (Yp (Zp D now k) k c) (now+c) a c)=0:=Zti (by
  have:Zaw C (Yp (Zp D now k) k c)=Zaw C (Zq D):=by unfold Zaw Zex;rw [show (Yp (Zp D now k) k c).ins=(Zp D now k).ins from rfl,r1.1];rfl
  rw [this];exact c4)
 have t3:Zbc (Zae C dn (Yp (Zp D now k) k c) (now+c) a c).tak 0 15=true:=Zuf (by
  rw [show (Yp (Zp D now k) k c).tak=(Zp D now k).tak from rfl,r1.2.1];exact hN.2.2)
 have o3:∀ n:Int,0≤n→(∀ l∈D.out,(l.length:Int)≤n)→∀ l∈(Zae C dn (Yp (Zp D now k) k c) (now+c) a c).out,(l.length:Int)≤n+1:=fun n h0 hn=>Ztz (by
  rw [show (Yp (Zp D now k) k c).out=(Zp D now k).out from rfl,r1.2.2];exact hn) h0
 have a3:(Yp (Zp D now k) k c).jobs=D.jobs.set k (Zna (jat (Zp D now k) k) c):=by
  show (Zp D now k).jobs.set k _=_
  rcases Zmy D now k with h|h
  ·rw [h]
  ·rw [h,List.set_set]
 have aa:jat D k=D.jobs[k]:=by simp [jat,hk]
 have a1:=Zem.1 (hJ.2 D.jobs[k] (List.getElem_mem hk));rw [← aa] at a1;have ab:=Ze4 D now k;unfold Zh1;rw [hc];generalize hD3:Zae C dn (Yp (Zp D now k) k c) (now+c) a c=D3 at *
 have r4:=Zqs C (Jr D3) (now+c) k a;have v4:=Zoq C (Jr D3) (now+c) k a;have b4:=Zqo C (Jr D3) (now+c) k a;have a0:(Jr D3).jobs=D.jobs.set k (Zna (jat (Zp D now k) k) c):=by
  show D3.jobs=_
  rw [m3.2,a3]
 have a5:jat (Jr D3) k=Zna (jat (Zp D now k) k) c:=by
  show (Jr D3).jobs.getD k (0,0,0,0,false,false)=_
  rw [a0];simp [hk]
 refine ⟨?_,?_,?_,?_,?_,?_,?_,?_,?_,?_,?_⟩
 ·rcases b4 with h|⟨h,_⟩
  ·rw [h,a0]
   have:=List.length_eraseIdx_le (l:=D.jobs.set k (Zna (jat (Zp D now k) k) c)) (i:=k)
   simpa using this
  ·rw [h,a0];simp
 ·intro j hj
  have a6:j∈D.jobs.set k (Zna (jat (Zp D now k) k) c):=by
   rcases b4 with h|⟨h,_⟩
   ·rw [h,a0] at hj;exact List.mem_of_mem_eraseIdx hj
   ·rw [h,a0] at hj;exact hj
  rcases b4 with h|⟨h,a8⟩
  ·rw [h,a0,List.eraseIdx_set_eq] at hj
   exact hJ.2 j (List.mem_of_mem_eraseIdx hj)
  ·rcases List.mem_or_eq_of_mem_set a6 with h'|h'
   ·exact hJ.2 j h'
   ·subst h'
    rw [a5] at a8;have a4:(jat (Zp D now k) k).2.2.2.1+c<(tk C (jat (Zp D now k) k).1.toNat).2.2.1:=a8;refine Zem.2 ⟨?_,?_,?_,?_⟩
    ·show 0≤(jat (Zp D now k) k).1∧_
     rw [show (Zna (jat (Zp D now k) k) c).1=(jat (Zp D now k) k).1 from rfl,j1.1];exact a1.1
    ·rw [show (Zna (jat (Zp D now k) k) c).2.1=(jat (Zp D now k) k).2.1 from rfl,j1.2.1]
     exact a1.2.1
    ·rw [show (Zna (jat (Zp D now k) k) c).2.2.1=(jat (Zp D now k) k).2.2.1 from rfl,j1.2.2.1]
     exact a1.2.2.1
    ·have hu:=(Zi9 hC (jat D k).1.toNat (by have:=a1.1;omega) _).1 a1.2.2.2
     rw [j1.1,j1.2.2.2] at a4;rw [show (Zna (jat (Zp D now k) k) c).1=(jat (Zp D now k) k).1 from rfl,show (Zna (jat (Zp D now k) k) c).2.2.2.1=(jat (Zp D now k) k).2.2.2.1+c from rfl,j1.1,j1.2.2.2];exact (Zi9 hC (jat D k).1.toNat (by have:=a1.1;omega) _).2 ⟨by omega,a4⟩
 ·rw [r4.1]
  show D3.rel=_
  rw [m3.1.rel,n2.rel,n1.rel]
 ·rw [r4.2.1]
  show D3.nxt+1=_
  rw [m3.1.nxt,n2.nxt,n1.nxt]
 ·rw [r4.2.2.1]
  show D3.ins.length=_
  rw [m3.1.ins,n2.ins,n1.ins]
 ·have:Zaw C (Zhd C (Jr D3) (now+c) k a)=Zaw C D3:=by unfold Zaw Zex;rw [r4.2.2.1];rfl
  rw [this];exact i3
 ·rw [r4.2.2.2.1]
  show D3.tak.length=_
  rw [m3.1.tak,n2.tak,n1.tak]
 ·rw [r4.2.2.2.1];exact t3
 ·rw [r4.2.2.2.2]
  show D3.out.length=_
  rw [m3.1.out,n2.out,n1.out]
 ·intro n h0 hn
  rw [r4.2.2.2.2];exact o3 n h0 hn
 ·have e0:(Yp (Zp D now k) k c).evs=(Zp D now k).evs:=rfl
  have e1:(Jr D3).evs=D3.evs:=rfl;rw [e0] at v3;rw [e1] at v4;obtain ⟨Z,hZ,ac⟩:∃ Z:List EvT,(Zp D now k).evs=D.evs++Z∧(Z=[]∨Z=[(now,3,(jat D k).1,(jat D k).2.1)]):=by
   rcases ab with h|h
   ·exact ⟨[],by simp [h],.inl rfl⟩
   ·exact ⟨_,h,.inr rfl⟩
  have a2:Z.countP Zci=0∧Z.length≤1∧∀ e∈Z,e.1=now∨e.1=now+c:=by
   rcases ac with rfl|rfl
   ·exact ⟨rfl,by simp,fun e he=>by simp at he⟩
   ·exact ⟨by simp [Zci],by simp,fun e he=>by simp at he;subst he;exact .inl rfl⟩
  rw [hZ] at v3;rcases v3 with ⟨h8,e,he,h1,h2,h3⟩|⟨h8,he⟩
  ·rcases v4 with ⟨a7,_⟩|⟨_,hv⟩
   ·exact absurd a7 h8
   ·have ht:Zci e=true:=by simp [Zci];omega
    rcases hv with hv|hv
    ·refine ⟨Z++[e],by rw [hv,he,List.append_assoc],by rw [List.countP_append,a2.1];simp [ht],by simp;omega,fun x hx=>?_⟩
     rcases List.mem_append.1 hx with hx|hx
     ·exact a2.2.2 x hx
     ·simp at hx;subst hx;exact .inr h1
    ·refine ⟨Z++[e]++[(now+c,5,(jat (Jr D3) k).1,(jat (Jr D3) k).2.1)],by rw [hv,he,List.append_assoc,List.append_assoc,List.append_assoc],by rw [List.countP_append,List.countP_append,a2.1,List.countP_singleton,List.countP_singleton,ht];simp [Zci],by simp;omega,fun x hx=>?_⟩
     rcases List.mem_append.1 hx with hx|hx
     ·rcases List.mem_append.1 hx with hx|hx
      ·exact a2.2.2 x hx
      ·simp at hx;subst hx;exact .inr h1
     ·simp at hx;subst hx;exact .inr rfl
  ·rcases v4 with ⟨_,hv⟩|⟨a7,_⟩
   ·refine ⟨Z++[(now+c,4,(jat (Jr D3) k).1,(jat (Jr D3) k).2.1)],by rw [hv,he,List.append_assoc],by rw [List.countP_append,a2.1];simp [Zci],by simp;omega,fun x hx=>?_⟩
    rcases List.mem_append.1 hx with hx|hx
    ·exact a2.2.2 x hx
    ·simp at hx;subst hx;exact .inr rfl
   ·exact absurd h8 a7
structure SI (C:Zm) (dn:Int) (D0:Dom) (fr te:Int) (s:Int) (D:Dom) (K:KT) (now:Int):Prop where
 win:Win C dn D0 fr te D now
 ck:ck K=0
 ev:(D.evs.length:Int)≤D0.evs.length+100*(now-fr)+s
 out:∀ l∈D.out,(l.length:Int)≤60+D.nxt
theorem SI.release {t:Int} (h:SI C dn D0 fr te s D K now) (ht:inR t 0 100000=true) (hto:t≤te):SI C dn D0 fr te (s+40) (Zah C dn t D) K now:=by
 refine ⟨h.win.release ht hto,h.ck,?_,h.out⟩
 have:=Zny h.win.ck ht
 have h1:=h.ev;simp only [Zq,List.length_nil] at this;show ((D.evs++_).length:Int)≤_
 rw [List.length_append];have e:(Zaa C dn t (Zq D)).evs.length≤40:=by simpa [Zq] using this
 omega
theorem SI.nx (h:SI C dn D0 fr te s D K now):0≤D.nxt∧D.nxt≤100000:=by
 have:=(Yg.1 (Z0.1 h.win.ck).2.2.1).2.1
 simp only [Zq,inR,Bool.and_eq_true] at this;exact ⟨of_decide_eq_true this.1,of_decide_eq_true this.2⟩
theorem SI.step {L:List Qg} (h:SI C dn D0 fr te 40 (Zah C dn now D) K now) (hz:ckD C dn (Zq D)=0) (h0:0≤fr) (hlt:now<te) (hte:te≤100000) (hL:L.length≤60) (hAs:∀ a∈L,ckA a=0):
  SI C dn D0 fr te 0 (stD C dn L te (Zah C dn now D) K now) (stK C L te (Zah C dn now D) K now) (stN C dn L te (Zah C dn now D) K now)∧now<stN C dn L te (Zah C dn now D) K now∧stN C dn L te (Zah C dn now D) K now≤te:=by
 have a6:=h.win.lo;have a7:=h.nx;have hd:=Zys (te:=te) hz (by omega) hlt hte;unfold stD stK stN
 cases hdo:Zms C L te (Zah C dn now D) now with
 | false=>
  simp only [Bool.false_eq_true,if_false];have a0:∀ t,now<t→t≤te→SI C dn D0 fr te 0 (Zah C dn now D) K t:=fun t h1 h2=>⟨h.win.idle (by omega) h2,h.ck,by have:=h.ev;omega,h.out⟩
  split
  ·exact ⟨a0 _ hd.1 hd.2,hd.1,hd.2⟩
  ·exact ⟨a0 _ hlt (Int.le_refl _),hlt,Int.le_refl _⟩
 | true=>
  simp only [if_true];simp only [Zms,Bool.and_eq_true,decide_eq_true_eq] at hdo;obtain ⟨⟨hp,hn⟩,hw⟩:=hdo;obtain ⟨m,hm⟩:∃ m:Nat,(Zah C dn now D).nxt=(m:Int):=⟨(Zah C dn now D).nxt.toNat,by omega⟩
  have a1:m<L.length:=by omega
  have ha:aAt L (Zah C dn now D)=L[m]:=by unfold aAt;rw [hm];simp [a1]
  have hA:ckA (aAt L (Zah C dn now D))=0:=by rw [ha];exact hAs _ (List.getElem_mem a1)
  obtain ⟨k,hk,a2⟩:∃ k:Nat,k<(Zah C dn now D).jobs.length∧J0 C (Zah C dn now D).jobs=(k:Int):=by
   rcases Zes C (Zah C dn now D).jobs with ⟨_,h'⟩|⟨k,h1,h2,_⟩
   ·omega
   ·exact ⟨k,h1,h2⟩
  rw [a2,Int.toNat_natCast];have st:=Zxc (now:=now) h.win.ck hk h.ck hA;obtain ⟨a8,a9,aa⟩:=Zob h.ck hA;generalize Zh1 C dn (Zah C dn now D) K now k (aAt L (Zah C dn now D))=D' at *
  generalize hcc:spC K (aAt L (Zah C dn now D))=c at *
  obtain ⟨E,hE,a3,ab,a4⟩:=st.evs;have a5:Zaw C D'=0:=st.ins;refine ⟨⟨h.win.acted (now2:=now+c) (by omega) (by omega) (by omega) st.jl st.js st.rel st.nxt st.il a5 st.tl st.tak st.ol E hE (fun e he=>?_) a3,Zy9 h.ck hA,?_,?_⟩,by omega,by omega⟩
  ·rcases a4 e he with h'|h'
   ·exact ⟨by omega,.inl (by omega)⟩
   ·exact ⟨by omega,.inl (by omega)⟩
  ·have:=h.ev
   rw [hE,List.length_append];omega
  ·rw [st.nxt]
   intro l hl
   have:=st.out (60+(Zah C dn now D).nxt) (by omega) h.out l hl
   omega
theorem Zv8 (X:RC) (M:RM) (D:Dom) (K:KT) (now:Int) (a:Qg) (cost:Int) (w:World) (h:RO X w M D K now) (hA:ckA a=0) (hl:D.evs.length≤1000000000000) (hI:D.ins.length=X.C.ch.length) (hO:D.out.length=X.C.ch.length) (hT:D.tak.length=X.C.ow.length) (hout:∀ l∈D.out,l.length≤1000000000) (hq:1≤X.C.q∧X.C.q≤100) (hn:0≤now∧now≤1000000):
  Calls prog 139 #[.pointer (some ⟨X.rb,0,none⟩),av a,.int .i64 cost] w fun e w'=>e=.returned (.tuple #[])∧∃ M',RO X w' M' (Zae X.C X.dn D now a cost) K now:=by
 obtain ⟨k,n,v⟩:=a;obtain ⟨h1,h2,h3,_,_⟩:=Zlk hA;dsimp only at h1 h2 h3;obtain ⟨m,rfl⟩:∃ m:Nat,n=(m:Int):=⟨n.toNat,by omega⟩
 cases hm:Zht X.C X.dn (k,(m:Int),v) with
 | false=>
  have e:Zae X.C X.dn D now (k,(m:Int),v) cost=Y7 D (now,12,D.nxt,0):=by unfold Zae;rw [if_pos hm]
  rw [e];exact Zyz X M D K now k m v cost w h hl hm
 | true=>
  have a0:¬ Zht X.C X.dn (k,(m:Int),v)=false:=by rw [hm];decide
  have hk:k=1∨k=2∨k=3∨k=4∨k=5∨k=6∨k=7∨k=8:=by omega
  rcases hk with rfl|rfl|rfl|rfl|rfl|rfl|rfl|rfl
  ·have e:Zae X.C X.dn D now (1,(m:Int),v) cost=Y7 D (now,11,cost,0):=by unfold Zae;rw [if_neg a0];rfl
   rw [e];exact Yaa X M D K now m v cost w h hl hm
  ·have e:Zae X.C X.dn D now (2,(m:Int),v) cost=Y7 D (now,11,cost,0):=by unfold Zae;rw [if_neg a0];rfl
   rw [e];exact Zzo X M D K now m v cost w h hl hm
  ·have e:Zae X.C X.dn D now (3,(m:Int),v) cost=Y7 D (now,11,cost,0):=by unfold Zae;rw [if_neg a0];rfl
   rw [e];exact Zz4 X M D K now m v cost w h hl hm
  ·have e:Zae X.C X.dn D now (4,(m:Int),v) cost=Y7 (Zjj D m v) (now,9,(m:Int),0):=by unfold Zae;rw [if_neg a0];simp
   rw [e];exact Zzt X M D K now m v cost w h hl hm hO hout
  ·have e:Zae X.C X.dn D now (5,(m:Int),v) cost=Y7 (Zds X.C D m) (now,8,(m:Int),Zlb X.C D m):=by unfold Zae;rw [if_neg a0];simp
   rw [e];exact Zzv X M D K now m v cost w h hl hm hI
  ·have e:Zae X.C X.dn D now (6,(m:Int),v) cost=Y7 D (now,7,now-now.tmod X.C.q,0):=by unfold Zae;rw [if_neg a0];simp
   rw [e];exact Yaf X M D K now m v cost w h hl hm hq hn
  ·have e:Zae X.C X.dn D now (7,(m:Int),v) cost=Y7 (Znq D m) (now,10,(m:Int),D.tak.getD m 0):=by unfold Zae;rw [if_neg a0];simp
   rw [e];exact Yae X M D K now m v cost w h hl hm hT
  ·have e:Zae X.C X.dn D now (8,(m:Int),v) cost=D:=by unfold Zae;rw [if_neg a0];simp
   rw [e];exact Zzn X M D K now m v cost w h hl hm
end Go.Proofs.YtejhccmclanlmaaGreatDoor
