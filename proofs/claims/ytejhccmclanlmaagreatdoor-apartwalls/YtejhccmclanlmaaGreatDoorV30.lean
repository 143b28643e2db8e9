/- Ws4 Wv Ga Wz Gb Ak Gf Wzb Wza -/
import Derived.Deep.LoopGhost
import Derived.Test.YtejhccmclanlmaaGreatDoorV28
import Derived.Test.YtejhccmclanlmaaGreatDoorV29
set_option linter.all false
set_option maxRecDepth 100000
set_option maxHeartbeats 8000000
namespace Go.Proofs.YtejhccmclanlmaaGreatDoor
open Go.RowKit Go.Proofs.Tryz
variable {D E:Dom} {dn fr now te:Int} {K:KT} {V:List Int} {L:List Qg} {l:List Value} {b b' base c cap g gA gI gO k m n n0 p q rb s v:Nat} {a:Option Addr} {w w':World} {A:Yk} {C:Zm}
theorem Zuv (X:RC) (M:RM) (D:Dom) (K:KT) (now:Int) (m:Nat) (w:World) (h:RO X w M D K now) (hz:ckD X.C X.dn (Zq D)=0) (hp:0≤J0 X.C D.jobs) (hm:D.nxt=(m:Int)) (hx:m<X.L.length) (hn:0≤now∧now≤100000) (hto:0≤X.tq∧X.tq≤100000) (k:Nat) (hpk0:J0 X.C D.jobs=(k:Int)) (hk:k<D.jobs.length) (hK:ck K=0) (hA0:ckA X.L[m]=0) (hw:Zie X.L[m]≤X.tq-now) (hl:D.evs.length≤100000000000) (hout:∀ l∈D.out,l.length≤100000000):
  Calls prog 101 #[.pointer (some ⟨X.rb,0,none⟩)] w fun e w'=>e=.returned (.tuple #[])∧∃ M',RO X w' M' (Zh1 X.C X.dn D K now k X.L[m]) (spK K X.L[m]) (now+spC K X.L[m]):=by
 have ah:X.rb<w.heap.size:=h.row.lt;have b7:=h.lL;have HH:=hid h;have CP:=hid (Zf0 X M D K now w h hz);have HR:Hid (∀ wx,Below w.heap.size w wx→Zf wx X.rb 152 (rl X M D K now)):=hid fun wx hb=>(h.below hb).row
 have ai:¬ J0 X.C D.jobs<0:=by omega
 obtain ⟨bA,oA,eA,t0,t1,t2⟩:=h.acts m hx;have aj:bA<w.heap.size:=World.block_lt_of_cell? _ _ t0;have b8:(m:Int)<(X.L.length:Int):=by omega
 have al:¬ (X.L.length:Int)≤(m:Int):=by omega
 have a7:Hid (ckA X.L[m]=0):=hid hA0;have hq:1≤X.C.q∧X.C.q≤100:=by
  have:=(Zcr (Q3 (Z0.1 hz).1)).1
  unfold Zep at this
  split at this
  ·rename_i hx
   simp only [inR,Bool.and_eq_true,decide_eq_true_eq] at hx;omega
  ·omega
 have a1:=Ye.1 (Z0.1 hz).2.1;simp only [Zq,List.length_replicate] at a1;have hJ:=(Y4.1 (Z0.1 hz).2.2.2.1).2 D.jobs[k] (List.getElem_mem hk);rw [show D.jobs[k]=jat D k by simp [jat,hk]] at hJ;have a3:=Zem.1 hJ;have am:=(Zi9 (Q3 (Z0.1 hz).1) (jat D k).1.toNat (by have:=a3.1;omega) _).1 a3.2.2.2;have ao:=Zkt (Q3 (Z0.1 hz).1) (jat D k).1.toNat (by have:=a3.1;omega);have ap:=Zob hK a7.out;have n1:=Zdy D now k;have j1:=Ze5 (now:=now) hk;have ac:=Ze4 D now k;have r1:=Zdu D now k;have a9:Hid ((Zp D now k).jobs.length=D.jobs.length∧(Zp D now k).evs.length≤D.evs.length+1):=hid ⟨n1.jl,by rcases ac with e|e<;>rw [e]<;>simp⟩;have m3:=Zg6 X.C X.dn (Yp (Zp D now k) k (spC K X.L[m])) (now+spC K X.L[m]) X.L[m] (spC K X.L[m]);have v3:=Zok X.C X.dn (Yp (Zp D now k) k (spC K X.L[m])) (now+spC K X.L[m]) X.L[m] (spC K X.L[m]) a7.out;have n2:=Zdr (Zp D now k) k (spC K X.L[m]);have aq:Hid (∀ b o wx,RO (X.more b o) wx M D K now→Calls prog 137 #[.pointer (some ⟨X.rb,0,none⟩),.int .i64 (k:Int)] wx fun e w'=>e=.returned (.tuple #[])∧∃ M',RO (X.more b o) w' M' (Zp D now k) K now):=hid fun b o wx hx=>Zrb _ M D K now k wx hx hk (by omega)
 have ar:Hid (∀ b o M' wx,RO (X.more b o) wx M' (Zp D now k) K now→Calls prog 138 #[.pointer (some ⟨X.rb,0,none⟩),.int .i64 (k:Int),av X.L[m]] wx fun e w'=>e=.returned (.int .i64 (spC K X.L[m]))∧∃ M',RO (X.more b o) w' M' (Yp (Zp D now k) k (spC K X.L[m])) (spK K X.L[m]) (now+spC K X.L[m])):=hid fun b o M' wx hx=>Zsz _ M' _ K now k X.L[m] wx hx (by rw [n1.jl];exact hk) hK a7.out (by rw [j1.2.2.2];omega) (by omega) (by omega)
 have au:Hid (∀ b o M' wx,RO (X.more b o) wx M' (Yp (Zp D now k) k (spC K X.L[m])) (spK K X.L[m]) (now+spC K X.L[m])→Calls prog 139 #[.pointer (some ⟨X.rb,0,none⟩),av X.L[m],.int .i64 (spC K X.L[m])] wx fun e w'=>e=.returned (.tuple #[])∧∃ M',RO (X.more b o) w' M' (Zae X.C X.dn (Yp (Zp D now k) k (spC K X.L[m])) (now+spC K X.L[m]) X.L[m] (spC K X.L[m])) (spK K X.L[m]) (now+spC K X.L[m])):=hid fun b o M' wx hx=>Zv8 _ M' _ _ _ X.L[m] _ wx hx a7.out (by show (Zp D now k).evs.length≤_;have:=a9.out.2;omega) (by show (Zp D now k).ins.length=_;rw [r1.1];exact a1.2.1) (by show (Zp D now k).out.length=_;rw [r1.2.2];exact a1.2.2.1) (by show (Zp D now k).tak.length=_;rw [r1.2.1];exact a1.2.2.2) (by show ∀ l∈(Zp D now k).out,_;rw [r1.2.2];intro l aw;have:=hout l aw;omega) hq (by omega)
 have ad:(Zae X.C X.dn (Yp (Zp D now k) k (spC K X.L[m])) (now+spC K X.L[m]) X.L[m] (spC K X.L[m])).jobs.length=D.jobs.length:=by rw [m3.1.jl,n2.jl,n1.jl]
 have ax:(Zae X.C X.dn (Yp (Zp D now k) k (spC K X.L[m])) (now+spC K X.L[m]) X.L[m] (spC K X.L[m])).evs.length≤D.evs.length+2:=by
  have:=a9.out.2
  have e0:(Yp (Zp D now k) k (spC K X.L[m])).evs.length=(Zp D now k).evs.length:=rfl;rcases v3 with ⟨_,e,he,_⟩|⟨_,he⟩<;>rw [he]
  ·rw [List.length_append];simp;omega
  ·omega
 have a8:(Zae X.C X.dn (Yp (Zp D now k) k (spC K X.L[m])) (now+spC K X.L[m]) X.L[m] (spC K X.L[m])).nxt=(m:Int):=by rw [m3.1.nxt,n2.nxt,n1.nxt,hm]
 have a6:(jat (Zae X.C X.dn (Yp (Zp D now k) k (spC K X.L[m])) (now+spC K X.L[m]) X.L[m] (spC K X.L[m])) k).1=(jat D k).1:=by
  have e1:jat (Zae X.C X.dn (Yp (Zp D now k) k (spC K X.L[m])) (now+spC K X.L[m]) X.L[m] (spC K X.L[m])) k=jat (Yp (Zp D now k) k (spC K X.L[m])) k:=by unfold jat;rw [m3.2]
  have e2:jat (Yp (Zp D now k) k (spC K X.L[m])) k=Zna (jat (Zp D now k) k) (spC K X.L[m]):=Zkb (by rw [n1.jl];exact hk) _;rw [e1,e2];exact j1.1
 have ay:Hid (Zh1 X.C X.dn D K now k X.L[m]=Zhd X.C (Jr (Zae X.C X.dn (Yp (Zp D now k) k (spC K X.L[m])) (now+spC K X.L[m]) X.L[m] (spC K X.L[m]))) (now+spC K X.L[m]) k X.L[m]):=hid rfl;generalize Zae X.C X.dn (Yp (Zp D now k) k (spC K X.L[m])) (now+spC K X.L[m]) X.L[m] (spC K X.L[m])=D3 at *
 generalize Yp (Zp D now k) k (spC K X.L[m])=D2 at *
 generalize Zp D now k=D1 at *
 have az:Hid (∀ b o M' wx,RO (X.more b o) wx M' (Jr D3) (spK K X.L[m]) (now+spC K X.L[m])→Calls prog 140 #[.pointer (some ⟨X.rb,0,none⟩),.int .i64 (k:Int),av X.L[m]] wx fun e w'=>e=.returned (.tuple #[])∧∃ M',RO (X.more b o) w' M' (Zhd X.C (Jr D3) (now+spC K X.L[m]) k X.L[m]) (spK K X.L[m]) (now+spC K X.L[m])):=hid fun b o M' wx hx=>Zwl _ M' (Jr D3) _ _ k X.L[m] wx hx (by show k<D3.jobs.length;rw [ad];exact hk) (by show D3.evs.length≤_;omega) (by show 0≤(jat D3 k).1∧(jat D3 k).1<_;rw [a6];exact ⟨a3.1.1,a3.1.2.1⟩)
 have b0:Hid (∀ b o M' wx,RO (X.more b o) wx M' D3 (spK K X.L[m]) (now+spC K X.L[m])→RO (X.more b o) (wx.setCell ⟨X.rb,2,none⟩ (.int .i64 ((m:Int)+1))) M' (Jr D3) (spK K X.L[m]) (now+spC K X.L[m])):=hid fun b o M' wx hx=>by
  have:=hx.setNext (D3.nxt+1)
  rw [a8] at this;have e:Jr D3=⟨D3.jobs,D3.rel,(m:Int)+1,D3.ins,D3.tak,D3.out,D3.evs⟩:=by unfold Jr;rw [a8]
  rw [e];exact this
 have b1:=hid a8;clear hJ a3 am ao n1 j1 ac r1 m3 v3 n2 ad ax a8 a6 a1 a9 hout hl ap;generalize hsc:spC K X.L[m]=sc at *
 generalize hsk:spK K X.L[m]=sk at *
 have b9:=hid hsc;have ba:=hid hsk;clear hsc hsk;generalize hA:X.L[m]=a0 at *
 obtain ⟨ak,an,a2⟩:=a0;dsimp only at *
 have bb:=hid hA;have HM:=hid hm;clear h hA;rw [hpk0] at CP hp ai;clear hpk0;go_enter func101,ntmps101;go_wp2_with fail;refine Calls.mono CP.out ?_;rintro e w1 ⟨rfl,a4⟩;have ae:=hid a4;have R1:=HR.out _ a4;have x2:=R1.cell 2 _ rfl;rw [hm] at x2;have aa:=R1.cell 18 _ rfl;rw [eA] at aa;have s0:=Zg a4 t0 lr;have s1:=Zg a4 t1 lr;have s2:=Zg a4 t2 lr;clear a4 CP R1 t0 t1 t2 hm;go_wp2_with fail;go_quiet (fail)
 go_upto_region 5 with fail;generalize hW:World.drewN w1 _=W at *
 have ab:Hid (Below w.heap.size w W):=by rw [← hW];exact hid (below_drewN ae.out _)
 have X2:W.cell? ⟨X.rb,2,none⟩=some (.int .i64 (m:Int)):=by rw [← hW];exact x2
 have b2:W.cell? ⟨X.rb,18,none⟩=some (.slice (some ⟨bA,oA,none⟩) X.L.length X.cL):=by rw [← hW];exact aa
 have S0:W.cell? ⟨bA,oA+m*3,none⟩=some (.int .i64 ak):=by rw [← hW];exact s0
 have S1:W.cell? ⟨bA,oA+m*3+1,none⟩=some (.int .i64 an):=by rw [← hW];exact s1
 have S2:W.cell? ⟨bA,oA+m*3+2,none⟩=some (.int .i64 a2):=by rw [← hW];exact s2
 have b3:X.rb<W.heap.size:=Nat.lt_of_lt_of_le ah ab.out.size;have b4:bA<W.heap.size:=Nat.lt_of_lt_of_le aj ab.out.size;clear hW x2 aa s0 s1 s2 ae;go_cut [3] (fun q wx=>∃ b,q=.pointer (some ⟨b,0,none⟩)∧RO (X.more b (.cells #[.int .i64 ak,.int .i64 an,.int .i64 a2] 63)) wx M D K now)
 case first=>
  go_region
  all_goals
   go_wp2;go_meet
   case rel=>exact ⟨_,rfl,((HH.out.below ab).push _).below br.drew⟩
 case rest=>
  obtain ⟨b,rfl,af⟩:=hcut;have a5:=hid af;clear af X2 b2 S0 S1 S2;have HS:Hid (∀ w',Below wc.heap.size wc w'→w'.cell? ⟨b,0,none⟩=some (.int .i64 ak)∧w'.cell? ⟨b,1,none⟩=some (.int .i64 an)∧w'.cell? ⟨b,2,none⟩=some (.int .i64 a2)∧w'.cell? ⟨X.rb,19,none⟩=some (.int .i64 now)∧w'.cell? ⟨X.rb,20,none⟩=some (.int .i64 X.tq)):=hid fun w' hb=>⟨Zg hb (a5.out.topRow.cell 0 _ rfl) lr,Zg hb (a5.out.topRow.cell 1 _ rfl) lr,Zg hb (a5.out.topRow.cell 2 _ rfl) lr,Zg hb (a5.out.row.cell 19 _ rfl) lr,Zg hb (a5.out.row.cell 20 _ rfl) lr⟩
  have hB:Below wc.heap.size wc wc.drew:=br.drew;have CW:Hid (∀ wx,Calls prog 87 #[.agg #[.int .i64 ak,.int .i64 an,.int .i64 a2]] wx fun e w'=>e=.returned (.int .i64 (Zie (ak,an,a2)))∧Below wx.heap.size wx w'):=hid fun wx=>Zee (ak,an,a2) wx
  have b5:IntKind.i64.wrap (X.tq-now)=X.tq-now:=by rw [IntKind.wrap_i64];omega
  generalize hws:Zie (ak,an,a2)=ws at *
  clear hws;go_wp2_with fail;go_region_held3 (fun w'=>w'.cell? ⟨b,0,none⟩=some (.int .i64 ak)∧w'.cell? ⟨b,1,none⟩=some (.int .i64 an)∧w'.cell? ⟨b,2,none⟩=some (.int .i64 a2)∧w'.cell? ⟨X.rb,19,none⟩=some (.int .i64 now)∧w'.cell? ⟨X.rb,20,none⟩=some (.int .i64 X.tq))
   (first|with_reducible exact HS.out _ hB|with_reducible exact HS.out _ hB2|go_keep)
   (first
    | (go_at_call 87;with_reducible refine Calls.mono (CW.out _) ?_;rintro e w2 ⟨rfl,ag⟩;have hB2:=Zb hB ag;clear ag))
  all_goals
   have H2:=hid (a5.out.below hB2);have y:=HS.out _ hB2;have y0:=y.1;have y1:=y.2.1;have y2:=y.2.2.1;have bc:=y.2.2.2.1;have bd:=y.2.2.2.2;have be:=H2.out.row.frozen 19;clear y hB hB2 HS CW b5;have b6:True:=trivial;go_wp2_with fail;refine Calls.mono (aq.out _ _ _ H2) ?_;rintro e w3 ⟨rfl,M3,h3⟩;obtain ⟨y0,y1,y2⟩:=h3.topRow.q3 rfl rfl rfl;have H3:=hid h3;clear h3;go_wp2_with fail;refine Calls.mono (ar.out _ _ _ _ H3) ?_;rintro e w4 ⟨rfl,M4,h4⟩;obtain ⟨y0,y1,y2⟩:=h4.topRow.q3 rfl rfl rfl;have H4:=hid h4;clear h4;go_wp2_with fail;refine Calls.mono (au.out _ _ _ _ H4) ?_;rintro e w5 ⟨rfl,M5,h5⟩;obtain ⟨y0,y1,y2⟩:=h5.topRow.q3 rfl rfl rfl;have z2:=h5.row.cell 2 _ rfl;rw [b1.out] at z2;have g2:=h5.row.frozen 2;have h6:=b0.out _ _ _ _ h5;obtain ⟨bf,bg,bh⟩:=h6.topRow.q3 rfl rfl rfl;have H6:=hid h6;clear h6 h5;go_wp2_with fail;refine Calls.mono (az.out _ _ _ _ H6) ?_;rintro e w7 ⟨rfl,M7,h7⟩;have H7:=hid h7.pop;clear h7;go_wp2;go_end0;exact ⟨rfl,M7,by rw [ay.out];exact H7.out⟩
theorem Zs9 (X:RC) (M:RM) (D:Dom) (K:KT) (now:Int) (w:World) (h:RO X w M D K now) (hz:ckD X.C X.dn (Zq D)=0) (hK:ck K=0) (hAs:∀ a∈X.L,ckA a=0) (hn:0≤now∧now≤100000) (hto:0≤X.tq∧X.tq≤100000) (hl:D.evs.length≤100000000000) (hout:∀ l∈D.out,l.length≤100000000):
  Calls prog 101 #[.pointer (some ⟨X.rb,0,none⟩)] w fun e w'=>e=.returned (.tuple #[])∧∃ M',RO X w' M' (stD X.C X.dn X.L X.tq D K now) (stK X.C X.L X.tq D K now) (stN X.C X.dn X.L X.tq D K now):=by
 have a2:=(Yg.1 (Z0.1 hz).2.2.1).2.1;simp only [Zq,inR,Bool.and_eq_true] at a2;have a4:0≤D.nxt:=of_decide_eq_true a2.1;obtain ⟨m,hm⟩:∃ m:Nat,D.nxt=(m:Int):=⟨D.nxt.toNat,by omega⟩
 by_cases hp:J0 X.C D.jobs<0
 ·have hd:Zms X.C X.L X.tq D now=false:=by unfold Zms;simp;intro h';omega
  unfold stD stK stN;simp only [hd,Bool.false_eq_true,if_false,if_pos hp];exact (Zru X M D K now w h hz hp).mono fun e w' ⟨h1,h2⟩=>⟨h1,M,h2⟩
 ·have a1:0≤J0 X.C D.jobs:=by omega
  by_cases hx:(X.L.length:Int)≤D.nxt
  ·have hd:Zms X.C X.L X.tq D now=false:=by unfold Zms;simp;intro _ h';omega
   unfold stD stK stN;simp only [hd,Bool.false_eq_true,if_false,if_neg hp];exact (Zqw X M D K now w h hz a1 hx).mono fun e w' ⟨h1,h2⟩=>⟨h1,M,h2⟩
  ·have a0:m<X.L.length:=by omega
   have ha:aAt X.L D=X.L[m]:=by unfold aAt;rw [hm];simp [a0]
   by_cases hw:X.tq-now<Zie X.L[m]
   ·have hd:Zms X.C X.L X.tq D now=false:=by unfold Zms;rw [ha];simp;intro _ _;omega
    unfold stD stK stN;simp only [hd,Bool.false_eq_true,if_false,if_neg hp];exact (Zr4 X M D K now m w h hz a1 hm a0 hn hto hw).mono fun e w' ⟨h1,h2⟩=>⟨h1,M,h2⟩
   ·have hd:Zms X.C X.L X.tq D now=true:=by
     unfold Zms;rw [ha];simp only [Bool.and_eq_true,decide_eq_true_eq];omega
    obtain ⟨k,hk,a3⟩:∃ k:Nat,k<D.jobs.length∧J0 X.C D.jobs=(k:Int):=by
     rcases Zes X.C D.jobs with ⟨_,h'⟩|⟨k,h1,h2,_⟩
     ·omega
     ·exact ⟨k,h1,h2⟩
    unfold stD stK stN;simp only [hd,if_true];rw [ha,a3,Int.toNat_natCast];exact Zuv X M D K now m w h hz a1 hm a0 hn hto k a3 hk hK (hAs _ (List.getElem_mem a0)) (by omega) hl hout
def Zbq (C:Zm) (dn:Int) (L:List Qg) (te:Int):Nat→Dom→KT→Int→Dom×KT
 | 0,D,K,_=>(Zah C dn te D,K)
 | n+1,D,K,now=>if now<te then Zbq C dn L te n (stD C dn L te (Zah C dn now D) K now) (stK C L te (Zah C dn now D) K now) (stN C dn L te (Zah C dn now D) K now) else (Zah C dn te D,K)
theorem Zka (C:Zm) (dn:Int) (L:List Qg) (te:Int) (n:Nat) (D:Dom) (K:KT) (now:Int) (h:¬ now<te):Zbq C dn L te n D K now=(Zah C dn te D,K):=by
 cases n with
 | zero=>rfl
 | succ n=>unfold Zbq;rw [if_neg h]
theorem Zv3 (X:RC) (M:RM) (D D0:Dom) (K:KT) (fr:Int) (w:World) (h:RO X w M D K fr) (hS:SI X.C X.dn D0 fr X.tq 0 D K fr) (hAs:∀ a∈X.L,ckA a=0) (hL:X.L.length≤60) (hfr:0≤fr) (hto:X.tq≤100000) (hD0:D0.evs.length≤10000000000):
  Calls prog 71 #[.pointer (some ⟨X.rb,0,none⟩)] w fun e w'=>e=.returned (.tuple #[])∧∃ M',RO X w' M' (Zbq X.C X.dn X.L X.tq (X.tq-fr).toNat D K fr).1 (Zbq X.C X.dn X.L X.tq (X.tq-fr).toNat D K fr).2 X.tq∧SI X.C X.dn D0 fr X.tq 40 (Zbq X.C X.dn X.L X.tq (X.tq-fr).toNat D K fr).1 (Zbq X.C X.dn X.L X.tq (X.tq-fr).toNat D K fr).2 X.tq:=by
 have ah:fr≤X.tq:=hS.win.hi;have HH:=hid h;have ai:=hid hS;have a9:=hid hAs;clear h hS hAs;generalize hN:(X.tq-fr).toNat=N at *
 generalize hR:Zbq X.C X.dn X.L X.tq N D K fr=R at *
 have HN:=hid hN;have HR:=hid hR;clear hN hR;go_enter func71,ntmps71;go_wp2;go_loopg [] N (fun gk wr=>∃ M' D' K' now',RO X wr M' D' K' now'∧SI X.C X.dn D0 fr X.tq 0 D' K' now'∧(X.tq-now').toNat≤gk∧Zbq X.C X.dn X.L X.tq gk D' K' now'=R)
 case atStart=>exact ⟨M,D,K,fr,HH.out,ai.out,by rw [HN.out];exact lr,HR.out⟩
 case round=>
  obtain ⟨M1,D1,K1,n1,h1,a0,aj,aa⟩:=hrel;have an:=a0.win.lo;have ao:=a0.win.hi;have ap:=a0.ev;have aq:X.rb<wr.heap.size:=h1.row.lt;have a4:=h1.row.cell 19 _ rfl;have a5:=h1.row.cell 20 _ rfl;have H1:=hid h1;have ab:=hid a0;have ar:=a0.nx;have a1:∀ l∈D1.out,l.length≤100000000:=fun l hl=>by have:=a0.out l hl;omega
  have HZ:=hid a0.win.ck;have ac:=hid aa;have a6:=hid a1;have CR:Hid (∀ t wx,0≤t→t≤100000→Below wr.heap.size wr wx→Calls prog 100 #[.pointer (some ⟨X.rb,0,none⟩),.int .i64 t] wx fun e w'=>e=.returned (.tuple #[])∧∃ M',RO X w' M' (Zah X.C X.dn t D1) K1 n1):=hid fun t wx h0 h9 hb=>Zl6 X M1 D1 K1 n1 t wx (H1.out.below hb) HZ.out (by simp [inR,h0,h9]) (by omega)
  clear h1 a0 aa a1;by_cases hlt:n1<X.tq
  ·have a7:inR n1 0 100000=true:=by simp [inR];omega
   have SR:=ab.out.release a7 (by omega);have a8:=SR.ev;have CS:Hid (∀ M' wx,RO X wx M' (Zah X.C X.dn n1 D1) K1 n1→Calls prog 101 #[.pointer (some ⟨X.rb,0,none⟩)] wx fun e w'=>e=.returned (.tuple #[])∧∃ M',RO X w' M' (stD X.C X.dn X.L X.tq (Zah X.C X.dn n1 D1) K1 n1) (stK X.C X.L X.tq (Zah X.C X.dn n1 D1) K1 n1) (stN X.C X.dn X.L X.tq (Zah X.C X.dn n1 D1) K1 n1)):=hid fun M' wx hx=>Zs9 X M' _ K1 n1 wx hx SR.win.ck SR.ck a9.out (by omega) (by omega) (by omega) a6.out
   have ad:=hid (SI.step (L:=X.L) SR HZ hfr hlt hto hL a9);obtain ⟨g,hg⟩:∃ g,gk=g+1:=⟨gk-1,by omega⟩
   have HG:=hid hg;have ak:Hid (Zbq X.C X.dn X.L X.tq g (stD X.C X.dn X.L X.tq (Zah X.C X.dn n1 D1) K1 n1) (stK X.C X.L X.tq (Zah X.C X.dn n1 D1) K1 n1) (stN X.C X.dn X.L X.tq (Zah X.C X.dn n1 D1) K1 n1)=R):=by
    have:=ac.out
    rw [hg] at this;unfold Zbq at this;rw [if_pos hlt] at this;exact hid this
   have al:(X.tq-n1).toNat≤g+1:=by omega
   have a2:Hid (∀ wx,Below wr.heap.size wr wx→Calls prog 100 #[.pointer (some ⟨X.rb,0,none⟩),.int .i64 n1] wx fun e w'=>e=.returned (.tuple #[])∧∃ M',RO X w' M' (Zah X.C X.dn n1 D1) K1 n1):=hid fun wx hb=>CR.out n1 wx (by omega) (by omega) hb
   clear SR a8 hg aj CR;generalize Zah X.C X.dn n1 D1=DR at *
   generalize stD X.C X.dn X.L X.tq DR K1 n1=D2 at *
   generalize stK X.C X.L X.tq DR K1 n1=K2 at *
   generalize stN X.C X.dn X.L X.tq DR K1 n1=n2 at *
   go_wp2_with fail;go_quiet (fail)
   go_upto_region 1 with fail;generalize hW:World.drewN wr _=W at *
   have a3:Hid (Below wr.heap.size wr W):=by rw [← hW];exact hid (below_drewN br _)
   clear hW;have hB:Below wr.heap.size wr W.drew:=a3.out.drew;have ae:W.cell? ⟨X.rb,19,none⟩=some (.int .i64 n1):=Zg a3.out a4 lr;clear a4 a5;go_region_held3 (fun w'=>w'.cell? ⟨X.rb,19,none⟩=some (.int .i64 n1))
    (first|exact ae|exact y19|go_keep)
    (first
     | (go_at_call 100;with_reducible refine Calls.mono (a2.out _ hB) ?_;rintro e w2 ⟨rfl,M2,h2⟩;have y19:=h2.row.cell 19 _ rfl;have H2:=hid h2;clear h2))
   all_goals
    clear ae hB a2;go_wp2_with fail;refine Calls.mono (CS.out _ _ H2) ?_;rintro e w3 ⟨rfl,M3,h3⟩;have H3:=hid h3;clear h3 CS;go_wp2;go_roundg g
    case measure=>have:=HG.out;omega
    case rel=>exact ⟨M3,D2,K2,n2,H3.out,ad.out.1,by have:=ad.out.2;omega,ak.out⟩
  ·have he:n1=X.tq:=by omega
   subst he;have a7:inR X.tq 0 100000=true:=by simp [inR];omega
   have am:=hid (ab.out.release a7 (Int.le_refl _));have a2:Hid (∀ wx,Below wr.heap.size wr wx→Calls prog 100 #[.pointer (some ⟨X.rb,0,none⟩),.int .i64 X.tq] wx fun e w'=>e=.returned (.tuple #[])∧∃ M',RO X w' M' (Zah X.C X.dn X.tq D1) K1 X.tq):=hid fun wx hb=>CR.out X.tq wx (by omega) (by omega) hb
   have af:Hid (R=(Zah X.C X.dn X.tq D1,K1)):=hid (by rw [← ac.out,Zka _ _ _ _ _ _ _ _ hlt]);clear CR;go_wp2_with fail;go_quiet (fail)
   go_upto_region 3 with fail;generalize hW:World.drewN wr _=W at *
   have a3:Hid (Below wr.heap.size wr W):=by rw [← hW];exact hid (below_drewN br _)
   clear hW;have hB:Below wr.heap.size wr W.drew:=a3.out.drew;have ag:W.cell? ⟨X.rb,20,none⟩=some (.int .i64 X.tq):=Zg a3.out a5 lr;clear a4 a5;go_region_held3 (fun w'=>w'.cell? ⟨X.rb,20,none⟩=some (.int .i64 X.tq))
    (first|exact ag|exact y20|go_keep)
    (first
     | (go_at_call 100;with_reducible refine Calls.mono (a2.out _ hB) ?_;rintro e w2 ⟨rfl,M2,h2⟩;have y20:=h2.row.cell 20 _ rfl;have H2:=hid h2;clear h2))
   all_goals
    clear ag hB a2;go_wp2;go_end0;exact ⟨rfl,M2,by rw [af.out];exact H2.out,by rw [af.out];exact am.out⟩
structure Scr where
 acts:List (List Qg)
 arr:List (Int×Int)
 rounds:Nat
def Zct {α:Type} (f:Nat→α) (k:Nat) (v:α):Nat→α:=fun i=>if i=k then v else f i
theorem Yb {α:Type} (f:Nat→α) (k:Nat) (v:α):Zct f k v k=v:=if_pos rfl
theorem Z9 {α:Type} (f:Nat→α) {i:Nat} (v:α) (h:i≠k):Zct f k v i=f i:=if_neg h
def Zbw (C:Zm) (arr:List (Int×Int)) (dn:Int) (slot:Nat) (D:Dom) (last now:Int):Dom:=
 ⟨D.jobs,D.rel,D.nxt,D.ins,(List.range D.tak.length).map fun l=>min (D.tak.getD l 0+Jl C arr dn last now l) 15,D.out,D.evs++[(now,1,(slot:Int),0)]⟩
def Znj (D:Dom) (te:Int):Dom:=⟨D.jobs,D.rel,D.nxt,D.ins,D.tak,D.out,D.evs++[(te,13,0,0)]⟩
def slD (C:Zm) (slot:Nat):Nat:=(C.sl.getD slot (0,0)).1.toNat
def Zvk (C:Zm) (arr:List (Int×Int)) (L:List Qg) (slot:Nat) (fr te last:Int) (D:Dom):Dom:=
 Znj (Zbq C (slD C slot) L te (te-fr).toNat (Zbw C arr (slD C slot) slot D last fr) (Qb C.s.toNat C.w.toNat) fr).1 te
def chF (C:Zm) (c:Nat):Nat:=(C.ch.getD c (0,0,0)).1.toNat
def chT (C:Zm) (c:Nat):Nat:=(C.ch.getD c (0,0,0)).2.1.toNat
def Zde (D E:Dom) (c:Nat) (size:Int):Dom:=
 ⟨D.jobs,D.rel,D.nxt,D.ins.set c (Zkf (D.ins.getD c ([],0)).1 (E.out.getD c []) (size.toNat-(D.ins.getD c ([],0)).1.length) (E.out.getD c []).length,Zm6 (D.ins.getD c ([],0)).2 (size.toNat-(D.ins.getD c ([],0)).1.length) (E.out.getD c []).length),D.tak,D.out,D.evs⟩
def Zgb (D:Dom) (c:Nat):Dom:=⟨D.jobs,D.rel,D.nxt,D.ins,D.tak,D.out.set c [],D.evs⟩
def Zm1 (C:Zm) (c:Nat) (Ds:Nat→Dom):Nat→Dom:=
 let Ds1:=Zct Ds (chT C c) (Zde (Ds (chT C c)) (Ds (chF C c)) c (C.ch.getD c (0,0,0)).2.2)
 Zct Ds1 (chF C c) (Zgb (Ds1 (chF C c)) c)
def J4 (C:Zm) (dn:Nat) (Ds:Nat→Dom):Nat→Dom:=
 (List.range C.ch.length).foldl (fun Ds c=>if chF C c=dn then Zm1 C c Ds else Ds) Ds
def Zcg (C:Zm) (S:Scr) (t:Nat×Int×Int) (X:(Nat→Dom)×(Nat→Int)):(Nat→Dom)×(Nat→Int):=
 (J4 C (slD C t.1) (Zct X.1 (slD C t.1) (Zvk C S.arr (S.acts.getD (slD C t.1) []) t.1 t.2.1 t.2.2 (X.2 (slD C t.1)) (X.1 (slD C t.1)))),Zct X.2 (slD C t.1) t.2.1)
def Qm (C:Zm) (rounds:Nat):List (Nat×Int×Int):=
 (List.range rounds).flatMap fun (r:Nat)=>(List.range C.sl.length).map fun (k:Nat)=>(k,(r:Int)*Ji C.sl+Ji (C.sl.take k),(r:Int)*Ji C.sl+Ji (C.sl.take k)+(C.sl.getD k (0,0)).2-C.p)
def J9 (C:Zm) (S:Scr):(Nat→Dom)×(Nat→Int):=(Qm C S.rounds).foldl (fun X t=>Zcg C S t X) (fun _=>Zch C,fun _=>0)
def Zrn (R:Nat→Prop) (X Y:(Nat→Dom)×(Nat→Int)):Prop:=∀ i,R i→X.1 i=Y.1 i∧X.2 i=Y.2 i
structure Zq3 (C:Zm) (R:Nat→Prop) (S T:Scr):Prop where
 rounds:S.rounds=T.rounds
 acts:∀ i,R i→S.acts.getD i []=T.acts.getD i []
 came:∀ i,R i→∀ fr te l,Jl C S.arr (i:Int) fr te l=Jl C T.arr (i:Int) fr te l
theorem Zow {R:Nat→Prop} {Ds Es:Nat→Dom} (hR:R (chT C c)→R (chF C c)) (h:∀ i,R i→Ds i=Es i):∀ i,R i→Zm1 C c Ds i=Zm1 C c Es i:=by
 intro i hi;unfold Zm1;have h1:∀ j,R j→Zct Ds (chT C c) (Zde (Ds (chT C c)) (Ds (chF C c)) c (C.ch.getD c (0,0,0)).2.2) j=Zct Es (chT C c) (Zde (Es (chT C c)) (Es (chF C c)) c (C.ch.getD c (0,0,0)).2.2) j:=by
  intro j hj;by_cases e:j=chT C c
  ·subst e
   rw [Yb,Yb,h _ hj,h _ (hR hj)]
  ·rw [Z9 _ _ e,Z9 _ _ e,h _ hj]
 by_cases e:i=chF C c
 ·subst e
  rw [Yb,Yb,h1 _ hi]
 ·rw [Z9 _ _ e,Z9 _ _ e,h1 _ hi]
theorem Zle {R:Nat→Prop} (hR:∀ c,c<C.ch.length→R (chT C c)→R (chF C c)) (dn:Nat) {Ds Es:Nat→Dom} (h:∀ i,R i→Ds i=Es i):∀ i,R i→J4 C dn Ds i=J4 C dn Es i:=by
 unfold J4;have a0:∀ (l:List Nat),(∀ c∈l,c<C.ch.length)→∀ Ds Es:Nat→Dom,(∀ i,R i→Ds i=Es i)→∀ i,R i→l.foldl (fun Ds c=>if chF C c=dn then Zm1 C c Ds else Ds) Ds i=l.foldl (fun Ds c=>if chF C c=dn then Zm1 C c Ds else Ds) Es i:=by
  intro l
  induction l with
  | nil=>intro _ Ds Es h i hi;exact h i hi
  | cons c l ih=>
   intro hl Ds Es h i hi;simp only [List.foldl_cons];refine ih (fun x hx=>hl x (List.mem_cons_of_mem _ hx)) _ _ ?_ i hi;intro j hj;split
   ·exact Zow (hR c (hl c (List.mem_cons_self ..))) h j hj
   ·exact h j hj
 exact a0 _ (fun c hc=>List.mem_range.1 hc) Ds Es h
theorem Zwe {S T:List (Int×Int)} {dn:Nat} {slot:Nat} {last:Int} (h:∀ fr te l,Jl C S (dn:Int) fr te l=Jl C T (dn:Int) fr te l):Zbw C S (dn:Int) slot D last now=Zbw C T (dn:Int) slot D last now:=by
 unfold Zbw;simp only [h]
theorem Zmm {R:Nat→Prop} {S T:Scr} (hR:∀ c,c<C.ch.length→R (chT C c)→R (chF C c)) (hS:Zq3 C R S T) (t:Nat×Int×Int) {X Y:(Nat→Dom)×(Nat→Int)} (h:Zrn R X Y):Zrn R (Zcg C S t X) (Zcg C T t Y):=by
 intro i hi;unfold Zcg;dsimp only;constructor
 ·refine Zle hR _ ?_ i hi
  intro j hj;by_cases e:j=slD C t.1
  ·subst e
   rw [Yb,Yb,hS.acts _ hj,(h _ hj).1,(h _ hj).2];unfold Zvk;rw [Zwe (hS.came _ hj)]
  ·rw [Z9 _ _ e,Z9 _ _ e,(h _ hj).1]
 ·by_cases e:i=slD C t.1
  ·subst e;rw [Yb,Yb]
  ·rw [Z9 _ _ e,Z9 _ _ e,(h _ hi).2]
theorem Zm5 {R:Nat→Prop} {S T:Scr} (hR:∀ c,c<C.ch.length→R (chT C c)→R (chF C c)) (hS:Zq3 C R S T):Zrn R (J9 C S) (J9 C T):=by
 unfold J9;rw [hS.rounds];have a0:∀ (l:List (Nat×Int×Int)) (X Y:(Nat→Dom)×(Nat→Int)),Zrn R X Y→Zrn R (l.foldl (fun X t=>Zcg C S t X) X) (l.foldl (fun X t=>Zcg C T t X) Y):=by
  intro l
  induction l with
  | nil=>intro X Y h;exact h
  | cons t l ih=>intro X Y h;exact ih _ _ (Zmm hR hS t h)
 exact a0 _ _ _ (fun i _=>⟨rfl,rfl⟩)
theorem Zq9 (h:Zd2 C dn D K L fr te=0):ckD C dn D=0∧ck K=0∧(List.length L≤60∧∀ a∈L,ckA a=0)∧0≤fr∧fr≤te∧te≤100000:=by
 unfold Zd2 at h
 split at h
 ·rename_i h1;exact absurd h h1
 ·rename_i h1
  split at h
  ·rename_i h2;exact absurd h h2
  ·rename_i h2
   split at h
   ·rename_i h3;exact absurd h h3
   ·rename_i h3
    split at h
    ·omega
    ·rename_i h4
     refine ⟨by omega,by omega,?_,by omega,by omega,by omega⟩;have h5:Zdj L=0:=by omega
     unfold Zdj at h5
     split at h5
     ·omega
     ·refine ⟨by omega,fun a ha=>?_⟩
      obtain ⟨i,hi,rfl⟩:=List.getElem_of_mem ha
      have:=Zx h5 i hi
      rw [show L.getD i (0,0,0)=L[i] by simp [hi]] at this;exact this
theorem Zfz (hz:ckD C dn D=0) (hK:ck K=0) (h:fr≤te):SI C dn D fr te 0 D K fr:=by
 refine ⟨Win.begin hz h,hK,by omega,fun l hl=>?_⟩;have h1:=(Za8 hz).2.2.2.2 l hl;have h2:=(Yg.1 (Z0.1 hz).2.2.1).2.1;simp only [inR,Bool.and_eq_true] at h2;have h3:0≤D.nxt:=of_decide_eq_true h2.1;omega
theorem Zd9 {F:Nat→List Int} {v:Nat→Value} {t:Nat} (h:Zap w m p F v k) (hr:Zf w rb t l) (ht:t≠3) (hk:∀ x,x≠rb→w'.heap[x]? = w.heap[x]?):Zap w' m p F v k:=by
 obtain ⟨B,h1,h2,h3,h4⟩:=h;exact ⟨B,fun j hj=>⟨Zi (h1 j hj).1 (fun x hx=>hk x (Yi (h1 j hj).1 hr (Ne.symm ht) x hx)),(h1 j hj).2⟩,h2,h3,h4⟩
theorem Qn {g' t t':Nat} {l':List Value} (h:Zf w g t l) (h':Zf w g' t' l') (hne:t≠t'):g≠g':=fun e=>by
 subst e;have h1:w.heap[g]? = _:=h;have h2:w.heap[g]? = _:=h';rw [h1] at h2;simp at h2;exact hne h2.2
theorem Zkc (h:Qu base w A D gI gO m p q) (hr:Zf w rb 152 l) (_ht:152≠3) (hs:w.heap.size≤w'.heap.size) (hk:∀ x,x≠rb→w'.heap[x]? = w.heap[x]?):Qu base w' A D gI gO m p q:=by
 have hm:=h.mp;refine ⟨Zi h.j (fun x hx=>hk x (Yi h.j hr (by decide) x hx)),Zi h.r (fun x hx=>hk x (Yi h.r hr (by decide) x hx)),Zi h.t (fun x hx=>hk x (Yi h.t hr (by decide) x hx)),Zi h.e (fun x hx=>hk x (Yi h.e hr (by decide) x hx)),h.rt,?_,?_,h.aI,h.aO,h.cI,h.cO,h.bI,h.bO,⟨hm.1,hm.2.1,Nat.le_trans hm.2.2 hs⟩,h.lt⟩
 ·obtain ⟨cs,v,h1,h2,h3,h4⟩:=h.i
  exact ⟨cs,v,(hk gI (Qn h1 hr (by decide))).trans h1,h2,h3,Zd9 h4 hr (by decide) hk⟩
 ·obtain ⟨cs,v,h1,h2,h3,h4⟩:=h.o
  exact ⟨cs,v,(hk gO (Qn h1 hr (by decide))).trans h1,h2,h3,Zd9 h4 hr (by decide) hk⟩
theorem Znd {g0:Nat} (h:Zbo w g0 K k) (hr:Zf w rb 152 l) (hk:∀ x,x≠rb→w'.heap[x]? = w.heap[x]?):Zbo w' g0 K k:=by
 obtain ⟨L,G,cp,k1,k2,k4,k5⟩:=h;exact ⟨L,G,cp,(hk g0 (Qn k1 hr (by decide))).trans k1,k2,fun j hj hl=>⟨(k4 j hj hl).1,Zi (k4 j hj hl).2 (fun x hx=>hk x (Yi (k4 j hj hl).2 hr (by decide) x hx))⟩,k5⟩
theorem Yal (h:Zf w b 72 l) (u:Value):Zf (w.setCell ⟨b,0,none⟩ u).drew b 72 (l.set 0 u):=(Ze h 0 u).drew
theorem Zzb {x:Nat} (hx:x≠b') (u:Value):(w.setCell ⟨b',0,none⟩ u).drew.heap[x]? = w.heap[x]? := Zd w b' 0 u x hx
theorem Yav (h:Zf w b 46 [.slice none 0 0,.slice none 0 0,.int .i64 0,.slice none 0 0,.slice none 0 0,.slice none 0 0,.slice none 0 0]) (hne:b≠b') (v0 v1 v2 v3 v4 v5 v6 u:Value):Zf ((((((((w.setCell ⟨b,0,none⟩ v0).setCell ⟨b,1,none⟩ v1).setCell ⟨b,2,none⟩ v2).setCell ⟨b,3,none⟩ v3).setCell ⟨b,4,none⟩ v4).setCell ⟨b,5,none⟩ v5).setCell ⟨b,6,none⟩ v6).setCell ⟨b',0,none⟩ u).drew b 46 [v0,v1,v2,v3,v4,v5,v6]:=by
 have h1:Zf (((((((w.setCell ⟨b,0,none⟩ v0).setCell ⟨b,1,none⟩ v1).setCell ⟨b,2,none⟩ v2).setCell ⟨b,3,none⟩ v3).setCell ⟨b,4,none⟩ v4).setCell ⟨b,5,none⟩ v5).setCell ⟨b,6,none⟩ v6) b 46 [v0,v1,v2,v3,v4,v5,v6]:=Jc [v0,v1,v2,v3,v4,v5,v6] [] [.slice none 0 0,.slice none 0 0,.int .i64 0,.slice none 0 0,.slice none 0 0,.slice none 0 0,.slice none 0 0] w h rfl;have h2:Zf ((((((((w.setCell ⟨b,0,none⟩ v0).setCell ⟨b,1,none⟩ v1).setCell ⟨b,2,none⟩ v2).setCell ⟨b,3,none⟩ v3).setCell ⟨b,4,none⟩ v4).setCell ⟨b,5,none⟩ v5).setCell ⟨b,6,none⟩ v6).setCell ⟨b',0,none⟩ u) b 46 [v0,v1,v2,v3,v4,v5,v6]:=(Zd (((((((w.setCell ⟨b,0,none⟩ v0).setCell ⟨b,1,none⟩ v1).setCell ⟨b,2,none⟩ v2).setCell ⟨b,3,none⟩ v3).setCell ⟨b,4,none⟩ v4).setCell ⟨b,5,none⟩ v5).setCell ⟨b,6,none⟩ v6) b' 0 u b hne).trans h1;exact h2.drew
theorem Yw {c A B:Prop} [Decidable c] (hc:c) (h:A):if c then A else B:=by rw [if_pos hc];exact h
def dSR:Nat→Nat
 | 0=>32
 | 1=>33
 | 2=>34
 | 3=>35
 | 4=>36
 | 5=>37
 | 6=>38
 | 7=>39
 | 8=>40
 | 9=>41
 | 10=>42
 | 11=>18
 | _=>99
def dOR:Nat→List Nat:=fun i=>[i]
def FCR (C:Zm) (B:Mem) (dn:Int) (D:Dom) (A:Yk) (aK:Option Addr) (K:KT) (cK:Nat) (aL:Option Addr) (L:List Qg) (cL:Nat) (fr te:Int) (n0:Nat) (i:Nat) (x:Nat→Value) (w:World):Prop:=
 match i with
 | 0=>x 32=.agg #[.slice A.aJ D.jobs.length A.cJ,.slice A.aR D.rel.length A.cR,.int .i64 D.nxt,.slice A.aI D.ins.length A.cI,.slice A.aT D.tak.length A.cT,.slice A.aO D.out.length A.cO,.slice A.aE D.evs.length A.cE]
 | 1=>∃ jJ jR jI jT jO jE kJ kR kI kT kO kE gI gO m p q,x 33=.agg #[.slice jJ D.jobs.length kJ,.slice jR D.rel.length kR,.int .i64 D.nxt,.slice jI D.ins.length kI,.slice jT D.tak.length kT,.slice jO D.out.length kO,.slice jE D.evs.length kE]∧Qu n0 w ⟨jJ,jR,jI,jT,jO,jE,kJ,kR,kI,kT,kO,kE⟩ D gI gO m p q
 | 2=>x 34=.agg #[.int .i64 C.s,.int .i64 C.w,.int .i64 C.d,.int .i64 C.p,.int .i64 C.q,.slice B.a5 C.sl.length B.c5,.slice B.a6 C.ow.length B.c6,.slice B.a7 C.ch.length B.c7,.slice B.a8 C.ta.length B.c8]
 | 3=>x 35=.int .i64 dn
 | 4=>∃ jJ jR jI jT jO jE kJ kR kI kT kO kE gI gO m p q,x 36=.agg #[.slice jJ D.jobs.length kJ,.slice jR D.rel.length kR,.int .i64 D.nxt,.slice jI D.ins.length kI,.slice jT D.tak.length kT,.slice jO D.out.length kO,.slice jE D.evs.length kE,.int .i64 C.s,.int .i64 C.w,.int .i64 C.d,.int .i64 C.p,.int .i64 C.q,.slice B.a5 C.sl.length B.c5,.slice B.a6 C.ow.length B.c6,.slice B.a7 C.ch.length B.c7,.slice B.a8 C.ta.length B.c8,.int .i64 dn]∧Qu n0 w ⟨jJ,jR,jI,jT,jO,jE,kJ,kR,kI,kT,kO,kE⟩ D gI gO m p q
 | 5=>x 37=.agg #[.slice aK (List.length K) cK]
 | 6=>∃ g0,x 38=.agg #[.slice (some ⟨g0,0,none⟩) (List.length K) (List.length K)]∧n0≤g0∧Zbo w g0 K (List.length K)
 | 7=>x 39=.slice aL (List.length L) cL
 | 8=>x 40=.int .i64 fr
 | 9=>x 41=.int .i64 te
 | 10=>∃ jJ jR jI jT jO jE kJ kR kI kT kO kE gI gO m p q g0,x 42=.agg #[.slice jJ D.jobs.length kJ,.slice jR D.rel.length kR,.int .i64 D.nxt,.slice jI D.ins.length kI,.slice jT D.tak.length kT,.slice jO D.out.length kO,.slice jE D.evs.length kE,.int .i64 C.s,.int .i64 C.w,.int .i64 C.d,.int .i64 C.p,.int .i64 C.q,.slice B.a5 C.sl.length B.c5,.slice B.a6 C.ow.length B.c6,.slice B.a7 C.ch.length B.c7,.slice B.a8 C.ta.length B.c8,.int .i64 dn,.slice (some ⟨g0,0,none⟩) (List.length K) (List.length K),.slice aL (List.length L) cL,.int .i64 fr,.int .i64 te]∧Qu n0 w ⟨jJ,jR,jI,jT,jO,jE,kJ,kR,kI,kT,kO,kE⟩ D gI gO m p q∧n0≤g0∧Zbo w g0 K (List.length K)
 | 11=>∃ rb,x 18=.pointer (some ⟨rb,0,none⟩)∧n0≤rb∧Zf w rb 152 [.slice none 0 0,.slice none 0 0,.int .i64 0,.slice none 0 0,.slice none 0 0,.slice none 0 0,.slice none 0 0,.int .i64 0,.int .i64 0,.int .i64 0,.int .i64 0,.int .i64 0,.slice none 0 0,.slice none 0 0,.slice none 0 0,.slice none 0 0,.int .i64 0,.slice none 0 0,.slice none 0 0,.int .i64 0,.int .i64 0]
 | _=>True
def AFR (C:Zm) (B:Mem) (dn:Int) (D:Dom) (A:Yk) (aK:Option Addr) (K:KT) (cK:Nat) (aL:Option Addr) (L:List Qg) (cL:Nat) (fr te:Int) (n:Nat) (x:Nat→Value):Act:={tmps:=#[cv C B,.int .i64 dn,dv D A,.agg #[.slice aK (List.length K) cK],.slice aL (List.length L) cL,.int .i64 fr,.int .i64 te,.pointer (some ⟨n,0,none⟩),undef,.pointer (some ⟨n+1,0,none⟩),.pointer (some ⟨n+1+1,0,none⟩),undef,undef,undef,.pointer (some ⟨n+1+1+1,0,none⟩),.pointer (some ⟨n+1+1+1+1,0,none⟩),.int .i64 0,.int .i64 0,x 18,.agg #[.int .i64 C.s,.int .i64 C.w,.int .i64 C.d,.int .i64 C.p,.int .i64 C.q,.slice B.a5 C.sl.length B.c5,.slice B.a6 C.ow.length B.c6,.slice B.a7 C.ch.length B.c7,.slice B.a8 C.ta.length B.c8],.int .i64 dn,.agg #[.slice A.aJ D.jobs.length A.cJ,.slice A.aR D.rel.length A.cR,.int .i64 D.nxt,.slice A.aI D.ins.length A.cI,.slice A.aT D.tak.length A.cT,.slice A.aO D.out.length A.cO,.slice A.aE D.evs.length A.cE],.agg #[.slice aK (List.length K) cK],.slice aL (List.length L) cL,.int .i64 fr,.int .i64 te,.int .i64 0,.int .i64 0,.bool false,undef,undef,undef,x 32,x 33,x 34,x 35,x 36,x 37,x 38,x 39,x 40,x 41,x 42,undef,undef,undef,undef,undef,undef],defers:=[]}
def DNR (C:Zm) (B:Mem) (dn:Int) (D:Dom) (A:Yk) (aK:Option Addr) (K:KT) (cK:Nat) (aL:Option Addr) (L:List Qg) (cL:Nat) (fr te:Int) (n0:Nat) (x:Nat→Value) (w:World):Prop:=∃ jJ jR jI jT jO jE kJ kR kI kT kO kE gI gO m p q g0 rb,x 18=.pointer (some ⟨rb,0,none⟩)∧Zf w rb 152 [.slice jJ D.jobs.length kJ,.slice jR D.rel.length kR,.int .i64 D.nxt,.slice jI D.ins.length kI,.slice jT D.tak.length kT,.slice jO D.out.length kO,.slice jE D.evs.length kE,.int .i64 C.s,.int .i64 C.w,.int .i64 C.d,.int .i64 C.p,.int .i64 C.q,.slice B.a5 C.sl.length B.c5,.slice B.a6 C.ow.length B.c6,.slice B.a7 C.ch.length B.c7,.slice B.a8 C.ta.length B.c8,.int .i64 dn,.slice (some ⟨g0,0,none⟩) (List.length K) (List.length K),.slice aL (List.length L) cL,.int .i64 fr,.int .i64 te]∧Qu n0 w ⟨jJ,jR,jI,jT,jO,jE,kJ,kR,kI,kT,kO,kE⟩ D gI gO m p q∧Zbo w g0 K (List.length K)∧n0≤g0∧n0≤rb
theorem Jp {B:Mem} {aK:Option Addr} {cK:Nat} {aL:Option Addr} {cL:Nat} (i:Nat) (x x':Nat→Value) (w w':World) (hb:Below w.heap.size w w') (hx:∀ j∈dOR i,x' (dSR j)=x (dSR j)) (h:FCR C B dn D A aK K cK aL L cL fr te n0 i x w):FCR C B dn D A aK K cK aL L cL fr te n0 i x' w':=by
 match i with
 | 0=>exact (hx 0 (by simp [dOR])).trans h
 | 1=>
  have e:x' 33=x 33:=hx 1 (by simp [dOR]);obtain ⟨jJ,jR,jI,jT,jO,jE,kJ,kR,kI,kT,kO,kE,gI,gO,m,p,q,h1,h2⟩:=h;exact ⟨jJ,jR,jI,jT,jO,jE,kJ,kR,kI,kT,kO,kE,gI,gO,m,p,q,e.trans h1,h2.keep hb⟩
 | 2=>exact (hx 2 (by simp [dOR])).trans h
 | 3=>exact (hx 3 (by simp [dOR])).trans h
 | 4=>
  have e:x' 36=x 36:=hx 4 (by simp [dOR]);obtain ⟨jJ,jR,jI,jT,jO,jE,kJ,kR,kI,kT,kO,kE,gI,gO,m,p,q,h1,h2⟩:=h;exact ⟨jJ,jR,jI,jT,jO,jE,kJ,kR,kI,kT,kO,kE,gI,gO,m,p,q,e.trans h1,h2.keep hb⟩
 | 5=>exact (hx 5 (by simp [dOR])).trans h
 | 6=>
  have e:x' 38=x 38:=hx 6 (by simp [dOR]);obtain ⟨g0,h1,h2,h3⟩:=h;exact ⟨g0,e.trans h1,h2,h3.below hb⟩
 | 7=>exact (hx 7 (by simp [dOR])).trans h
 | 8=>exact (hx 8 (by simp [dOR])).trans h
 | 9=>exact (hx 9 (by simp [dOR])).trans h
 | 10=>
  have e:x' 42=x 42:=hx 10 (by simp [dOR]);obtain ⟨jJ,jR,jI,jT,jO,jE,kJ,kR,kI,kT,kO,kE,gI,gO,m,p,q,g0,h1,h2,h3,h4⟩:=h;exact ⟨jJ,jR,jI,jT,jO,jE,kJ,kR,kI,kT,kO,kE,gI,gO,m,p,q,g0,e.trans h1,h2.keep hb,h3,h4.below hb⟩
 | 11=>
  have e:x' 18=x 18:=hx 11 (by simp [dOR]);obtain ⟨rb,h1,h2,h3⟩:=h;exact ⟨rb,e.trans h1,h2,h3.below hb lr⟩
 | n+12=>trivial
theorem Zas:∀ i,i<12→∀ j,j<12→i≠j→dSR i≠dSR j:=by decide
theorem Zck:∀ i,i<12→∀ j∈dOR i,j<12:=by decide
theorem Zqp {l:Array Bool} (hs:l.size=13) (h:∀ i,i<12→l.getD i false=true):∀ i,i<13→(l.setIfInBounds 12 true).getD i false=true:=by
 intro i hi;by_cases e:i=12
 ·subst e;exact Qv (by omega)
 ·exact getD_set_true (h i (by omega))
theorem Zs0 (C:Zm) (B:Mem) (dn:Int) (D:Dom) (A:Yk) (K:KT) (aK:Option Addr) (cK:Nat) (L:List Qg) (aL:Option Addr) (cL:Nat) (fr te:Int) (w:World) (hC:Z1 w B C) (hD:Yz w A D) (hK:Z8 w aK K) (hL:Yn w aL L) (h0:Zd2 C dn D K L fr te=0) (hev:D.evs.length≤10000000000):
  Calls prog 46 #[cv C B,.int .i64 dn,dv D A,.agg #[.slice aK K.length cK],.slice aL L.length cL,.int .i64 fr,.int .i64 te] w fun e w'=>∃ A' aK' cK',e=.returned (.tuple #[dv (Zbq C dn L te (te-fr).toNat D K fr).1 A',.agg #[.slice aK' (List.length (Zbq C dn L te (te-fr).toNat D K fr).2) cK'],.int .i64 0])∧(∀ wx:World,(∀ x,w.heap.size≤x→wx.heap[x]? = w'.heap[x]?)→Yz wx A' (Zbq C dn L te (te-fr).toNat D K fr).1∧Z8 wx aK' (Zbq C dn L te (te-fr).toNat D K fr).2)∧Below w.heap.size w w'∧SI C dn D fr te 40 (Zbq C dn L te (te-fr).toNat D K fr).1 (Zbq C dn L te (te-fr).toNat D K fr).2 te∧EvO w.heap.size w' A' (Zbq C dn L te (te-fr).toNat D K fr).1 aK' (Zbq C dn L te (te-fr).toNat D K fr).2:=by
 obtain ⟨hz,ak,⟨aa,al⟩,b3,b4,b5⟩:=Zq9 h0;have b6:=hid al;have b7:=hid (Zfz hz ak b4);have am:=Za8 hz;obtain ⟨_,cb,cc,an⟩:=Zh8 ak;have ao:=hid an;have q1:=Za w (.cells (cl C B) 27);have q2:=Za (w.alloc (.cells (cl C B) 27)) (.cells (dl D A) 46);have q3:=Za ((w.alloc (.cells (cl C B) 27)).alloc (.cells (dl D A) 46)) (.cells #[.slice aK (List.length K) cK] 72);have q4:=Za (((w.alloc (.cells (cl C B) 27)).alloc (.cells (dl D A) 46)).alloc (.cells #[.slice aK (List.length K) cK] 72)) (.cells #[.slice none 0 0,.slice none 0 0,.int .i64 0,.slice none 0 0,.slice none 0 0,.slice none 0 0,.slice none 0 0] 46);have q5:=Za ((((w.alloc (.cells (cl C B) 27)).alloc (.cells (dl D A) 46)).alloc (.cells #[.slice aK (List.length K) cK] 72)).alloc (.cells #[.slice none 0 0,.slice none 0 0,.int .i64 0,.slice none 0 0,.slice none 0 0,.slice none 0 0,.slice none 0 0] 46)) (.cells #[.slice none 0 0] 72);have hb:=Zb (Zb (Zb (Zb q1 q2) q3) q4) q5;have HB:=hid hb;have b8:=hid hC;have b9:=hid hL;have HC:=hid (hC.keep hb);have HD:=hid (hD.keep hb);have HK:=hid (hK.keep hb);have HL:=hid (hL.keep hb);have R1:=hid (((((Z5 w _ (cl C B).toList 27 rfl).below q2 lr).below q3 lr).below q4 lr).below q5 lr);have R2:=hid ((((Z5 (w.alloc (.cells (cl C B) 27)) (w.heap.size+1) (dl D A).toList 46 (by simp)).below q3 lr).below q4 lr).below q5 lr);have R3:=hid (((Z5 ((w.alloc (.cells (cl C B) 27)).alloc (.cells (dl D A) 46)) (w.heap.size+1+1) [.slice aK (List.length K) cK] 72 (by simp)).below q4 lr).below q5 lr);have R4:=hid ((Z5 (((w.alloc (.cells (cl C B) 27)).alloc (.cells (dl D A) 46)).alloc (.cells #[.slice aK (List.length K) cK] 72)) (w.heap.size+1+1+1) [.slice none 0 0,.slice none 0 0,.int .i64 0,.slice none 0 0,.slice none 0 0,.slice none 0 0,.slice none 0 0] 46 (by simp)).below q5 lr);have R5:=hid (Z5 ((((w.alloc (.cells (cl C B) 27)).alloc (.cells (dl D A) 46)).alloc (.cells #[.slice aK (List.length K) cK] 72)).alloc (.cells #[.slice none 0 0,.slice none 0 0,.int .i64 0,.slice none 0 0,.slice none 0 0,.slice none 0 0,.slice none 0 0] 46)) (w.heap.size+1+1+1+1) [.slice none 0 0] 72 (by simp));clear q1 q2 q3 q4 q5 hb hC hD hK hL an al;have H0:=hid h0;have cd:Hid ((te-fr).toNat=(te-fr).toNat):=hid rfl;clear h0;go_enter func46,ntmps46;go_wp2_with fail;refine (Zlu C B dn D A K aK cK L aL cL fr te _ HC HD HK (by omega) HL (by omega)).mono ?_;rintro e w1 ⟨rfl,a2⟩;rw [H0.out];generalize hW:World.alloc (World.alloc (World.alloc (World.alloc (World.alloc w _) _) _) _) _=W at *
 clear hW;have ap:=hid (Zb HB a2);have ba:=hid (HD.out.keep a2);have bb:=hid (HK.out.keep a2);have T1:=hid (R1.out.below a2 lr);have T2:=hid (R2.out.below a2 lr);have T3:=hid (R3.out.below a2 lr);have T4:=hid (R4.out.below a2 lr);have T5:=hid (R5.out.below a2 lr);clear R1 R2 R3 R4 R5 HB HC HD HK HL a2;have ce:w.heap.size+1+1+1+1<w1.heap.size:=T5.out.lt;have HS:Hid (∀ w',Below w1.heap.size w1 w'→w'.cell? ⟨w.heap.size,0,none⟩=some (.int .i64 C.s)∧w'.cell? ⟨w.heap.size,1,none⟩=some (.int .i64 C.w)∧w'.cell? ⟨w.heap.size,2,none⟩=some (.int .i64 C.d)∧w'.cell? ⟨w.heap.size,3,none⟩=some (.int .i64 C.p)∧w'.cell? ⟨w.heap.size,4,none⟩=some (.int .i64 C.q)∧w'.cell? ⟨w.heap.size,5,none⟩=some (.slice B.a5 C.sl.length B.c5)∧w'.cell? ⟨w.heap.size,6,none⟩=some (.slice B.a6 C.ow.length B.c6)∧w'.cell? ⟨w.heap.size,7,none⟩=some (.slice B.a7 C.ch.length B.c7)∧w'.cell? ⟨w.heap.size,8,none⟩=some (.slice B.a8 C.ta.length B.c8)∧w'.cell? ⟨w.heap.size+1,0,none⟩=some (.slice A.aJ D.jobs.length A.cJ)∧w'.cell? ⟨w.heap.size+1,1,none⟩=some (.slice A.aR D.rel.length A.cR)∧w'.cell? ⟨w.heap.size+1,2,none⟩=some (.int .i64 D.nxt)∧w'.cell? ⟨w.heap.size+1,3,none⟩=some (.slice A.aI D.ins.length A.cI)∧w'.cell? ⟨w.heap.size+1,4,none⟩=some (.slice A.aT D.tak.length A.cT)∧w'.cell? ⟨w.heap.size+1,5,none⟩=some (.slice A.aO D.out.length A.cO)∧w'.cell? ⟨w.heap.size+1,6,none⟩=some (.slice A.aE D.evs.length A.cE)∧w'.cell? ⟨w.heap.size+1+1,0,none⟩=some (.slice aK (List.length K) cK)):=hid fun w' hb=>⟨Zg hb (T1.out.cell 0 _ rfl) lr,Zg hb (T1.out.cell 1 _ rfl) lr,Zg hb (T1.out.cell 2 _ rfl) lr,Zg hb (T1.out.cell 3 _ rfl) lr,Zg hb (T1.out.cell 4 _ rfl) lr,Zg hb (T1.out.cell 5 _ rfl) lr,Zg hb (T1.out.cell 6 _ rfl) lr,Zg hb (T1.out.cell 7 _ rfl) lr,Zg hb (T1.out.cell 8 _ rfl) lr,Zg hb (T2.out.cell 0 _ rfl) lr,Zg hb (T2.out.cell 1 _ rfl) lr,Zg hb (T2.out.cell 2 _ rfl) lr,Zg hb (T2.out.cell 3 _ rfl) lr,Zg hb (T2.out.cell 4 _ rfl) lr,Zg hb (T2.out.cell 5 _ rfl) lr,Zg hb (T2.out.cell 6 _ rfl) lr,Zg hb (T3.out.cell 0 _ rfl) lr⟩
 have bc:Below w1.heap.size w1 w1.drew:=br.drew;have ab:Below w1.heap.size w1 (w1.alloc (.cells #[.slice none 0 0,.slice none 0 0,.int .i64 0,.slice none 0 0,.slice none 0 0,.slice none 0 0,.slice none 0 0,.int .i64 0,.int .i64 0,.int .i64 0,.int .i64 0,.int .i64 0,.slice none 0 0,.slice none 0 0,.slice none 0 0,.slice none 0 0,.int .i64 0,.slice none 0 0,.slice none 0 0,.int .i64 0,.int .i64 0] 152)).drew:=(Za _ _).drew;have RZ:Hid (Zf (w1.alloc (.cells #[.slice none 0 0,.slice none 0 0,.int .i64 0,.slice none 0 0,.slice none 0 0,.slice none 0 0,.slice none 0 0,.int .i64 0,.int .i64 0,.int .i64 0,.int .i64 0,.int .i64 0,.slice none 0 0,.slice none 0 0,.slice none 0 0,.slice none 0 0,.int .i64 0,.slice none 0 0,.slice none 0 0,.int .i64 0,.int .i64 0] 152)).drew w1.heap.size 152 [.slice none 0 0,.slice none 0 0,.int .i64 0,.slice none 0 0,.slice none 0 0,.slice none 0 0,.slice none 0 0,.int .i64 0,.int .i64 0,.int .i64 0,.int .i64 0,.int .i64 0,.slice none 0 0,.slice none 0 0,.slice none 0 0,.slice none 0 0,.int .i64 0,.slice none 0 0,.slice none 0 0,.int .i64 0,.int .i64 0]):=hid (Zc w1 _ [.slice none 0 0,.slice none 0 0,.int .i64 0,.slice none 0 0,.slice none 0 0,.slice none 0 0,.slice none 0 0,.int .i64 0,.int .i64 0,.int .i64 0,.int .i64 0,.int .i64 0,.slice none 0 0,.slice none 0 0,.slice none 0 0,.slice none 0 0,.int .i64 0,.slice none 0 0,.slice none 0 0,.int .i64 0,.int .i64 0] 152 rfl);have CX:=hid (fun wx (hb:Below w1.heap.size w1 wx)=>Zda D A wx (ba.out.keep hb) ⟨by omega,by omega,by omega,by omega⟩ (by omega) (by omega) (fun r hr=>by have:=am.2.2.2.1 r hr;omega) (fun r hr=>by have:=am.2.2.2.2 r hr;omega));have CY:=hid (fun wx (hb:Below w1.heap.size w1 wx)=>Zgc aK K cK wx (bb.out.keep hb) (by omega) (by omega) ao);dsimp only [dv,dl] at CX;go_upto_region 4 with fail;go_cut [18] (fun t wx=>∃ rb jJ jR jI jT jO jE kJ kR kI kT kO kE gI gO m p q g0,t=.pointer (some ⟨rb,0,none⟩)∧Below w1.heap.size w1 wx∧Zf wx rb 152 [.slice jJ D.jobs.length kJ,.slice jR D.rel.length kR,.int .i64 D.nxt,.slice jI D.ins.length kI,.slice jT D.tak.length kT,.slice jO D.out.length kO,.slice jE D.evs.length kE,.int .i64 C.s,.int .i64 C.w,.int .i64 C.d,.int .i64 C.p,.int .i64 C.q,.slice B.a5 C.sl.length B.c5,.slice B.a6 C.ow.length B.c6,.slice B.a7 C.ch.length B.c7,.slice B.a8 C.ta.length B.c8,.int .i64 dn,.slice (some ⟨g0,0,none⟩) (List.length K) (List.length K),.slice aL (List.length L) cL,.int .i64 fr,.int .i64 te]∧Qu w1.heap.size wx ⟨jJ,jR,jI,jT,jO,jE,kJ,kR,kI,kT,kO,kE⟩ D gI gO m p q∧Zbo wx g0 K (List.length K)∧w1.heap.size≤g0∧w1.heap.size≤rb)
 case first=>
  refine wp_region_any (by kernel_rfl) ?_;change wpAny _ _ _ _ _ _ _ (World.drew _);refine Zg4 (fun l a w'=>∃ x,a=AFR C B dn D A aK K cK aL L cL fr te w.heap.size x∧(RPg (FCR C B dn D A aK K cK aL L cL fr te w1.drew.heap.size) dOR 12 13 w1.drew l x w'∨((∀ i,i<13→l.getD i false=true)∧l.size=13∧Below w1.drew.heap.size w1.drew w'∧DNR C B dn D A aK K cK aL L cL fr te w1.drew.heap.size x w'))) (by kernel_rfl) ?step ?fin _ _ _ _ rfl (by decide) ?start
  case start=>exact ⟨fun _=>undef,rfl,.inl ⟨rfl,br,fun i hi=>by simp [Array.getD_eq_getD_getElem?,Array.getElem?_replicate];split<;>simp,fun i h=>absurd h (by simp [Array.getD_eq_getD_getElem?,Array.getElem?_replicate];split<;>simp),fun i h=>absurd h (by simp [Array.getD_eq_getD_getElem?,Array.getElem?_replicate];split<;>simp)⟩⟩
  case step=>
   intro l a w2 i o h ho hl a1 K' hK;have hi:i<13:=by
    have:=(Array.getElem?_eq_some_iff.1 ho).1
    simpa using this
   obtain ⟨x,rfl,h⟩:=h;have bd:i=0∨i=1∨i=2∨i=3∨i=4∨i=5∨i=6∨i=7∨i=8∨i=9∨i=10∨i=11∨i=12:=by omega
   rcases bd with rfl|rfl|rfl|rfl|rfl|rfl|rfl|rfl|rfl|rfl|rfl|rfl|rfl
   ·simp only [xJ1,xJ2,xJ4] at ho
    subst ho;rcases h with h|⟨a0,-,-⟩
    case inr=>rw [a0 0 (by decide)] at hl;cases hl
    clear a1;have HT:=T2.out.below (Zb br.drew h.b) lr;simp only [AFR];refine Yw (by rfl) ?_;refine wp_load_mid 46 _ rfl (w.heap.size+1) 0 (by rfl) [.slice A.aJ D.jobs.length A.cJ,.slice A.aR D.rel.length A.cR,.int .i64 D.nxt,.slice A.aI D.ins.length A.cI,.slice A.aT D.tak.length A.cT,.slice A.aO D.out.length A.cO,.slice A.aE D.evs.length A.cE] _ (fun j u hu=>by rw [Nat.zero_add];exact HT.cell j u hu) underlying46 rfl (by kernel_rfl) ?_;exact hK.out _ _ ⟨upd x 32 (.agg #[.slice A.aJ D.jobs.length A.cJ,.slice A.aR D.rel.length A.cR,.int .i64 D.nxt,.slice A.aI D.ins.length A.cI,.slice A.aT D.tak.length A.cT,.slice A.aO D.out.length A.cO,.slice A.aE D.evs.length A.cE]),rfl,.inl (Zj Jp Zas Zck h 0 _ (by decide) hl br rfl (fun j hj hne=>absurd hj (by simp [dOR,hne])))⟩
   ·simp only [xJ1,xJ2,xJ3,xJ4] at ho
    subst ho;rcases h with h|⟨a0,-,-⟩
    case inr=>rw [a0 1 (by decide)] at hl;cases hl
    have be:=Zn a1 0 (by kernel_rfl);have f0:x 32=.agg #[.slice A.aJ D.jobs.length A.cJ,.slice A.aR D.rel.length A.cR,.int .i64 D.nxt,.slice A.aI D.ins.length A.cI,.slice A.aT D.tak.length A.cT,.slice A.aO D.out.length A.cO,.slice A.aE D.evs.length A.cE]:=h.fc 0 be;clear a1;have a3:=h.b.size;simp only [AFR,f0];go_simp;refine Calls.mono (CX.out _ (Zb br.drew h.b)) ?_;rintro e w2 ⟨⟨jJ,jR,jI,jT,jO,jE,kJ,kR,kI,kT,kO,kE⟩,gI,gO,m,p,q,rfl,ac,ad⟩;exact hK.out _ _ ⟨upd x 33 (.agg #[.slice jJ D.jobs.length kJ,.slice jR D.rel.length kR,.int .i64 D.nxt,.slice jI D.ins.length kI,.slice jT D.tak.length kT,.slice jO D.out.length kO,.slice jE D.evs.length kE]),(by simp only [AFR,upd,reduceIte,Nat.reduceEqDiff,f0]),.inl (Zj Jp Zas Zck h 1 _ (by decide) hl ad ⟨jJ,jR,jI,jT,jO,jE,kJ,kR,kI,kT,kO,kE,gI,gO,m,p,q,rfl,ac.base a3⟩ (fun j hj hne=>absurd hj (by simp [dOR,hne])))⟩
   ·simp only [xJ1,xJ2,xJ3,xJ4] at ho
    subst ho;rcases h with h|⟨a0,-,-⟩
    case inr=>rw [a0 2 (by decide)] at hl;cases hl
    clear a1;have HT:=T1.out.below (Zb br.drew h.b) lr;simp only [AFR];refine Yw (by rfl) ?_;refine wp_load_mid 27 _ rfl (w.heap.size) 0 (by rfl) [.int .i64 C.s,.int .i64 C.w,.int .i64 C.d,.int .i64 C.p,.int .i64 C.q,.slice B.a5 C.sl.length B.c5,.slice B.a6 C.ow.length B.c6,.slice B.a7 C.ch.length B.c7,.slice B.a8 C.ta.length B.c8] _ (fun j u hu=>by rw [Nat.zero_add];exact HT.cell j u hu) underlying27 rfl (by kernel_rfl) ?_;exact hK.out _ _ ⟨upd x 34 (.agg #[.int .i64 C.s,.int .i64 C.w,.int .i64 C.d,.int .i64 C.p,.int .i64 C.q,.slice B.a5 C.sl.length B.c5,.slice B.a6 C.ow.length B.c6,.slice B.a7 C.ch.length B.c7,.slice B.a8 C.ta.length B.c8]),rfl,.inl (Zj Jp Zas Zck h 2 _ (by decide) hl br rfl (fun j hj hne=>absurd hj (by simp [dOR,hne])))⟩
   ·simp only [xJ1,xJ2,xJ3,xJ4] at ho
    subst ho;rcases h with h|⟨a0,-,-⟩
    case inr=>rw [a0 3 (by decide)] at hl;cases hl
    clear a1;simp only [AFR];go_simp;exact hK.out _ _ ⟨upd x 35 (.int .i64 dn),rfl,.inl (Zj Jp Zas Zck h 3 _ (by decide) hl br rfl (fun j hj hne=>absurd hj (by simp [dOR,hne])))⟩
   ·simp only [xJ1,xJ2,xJ3,xJ4] at ho
    subst ho;rcases h with h|⟨a0,-,-⟩
    case inr=>rw [a0 4 (by decide)] at hl;cases hl
    have bf:=Zn a1 1 (by kernel_rfl);have bg:=Zn a1 2 (by kernel_rfl);have bh:=Zn a1 3 (by kernel_rfl);obtain ⟨jJ,jR,jI,jT,jO,jE,kJ,kR,kI,kT,kO,kE,gI,gO,m,p,q,f1,bi⟩:=h.fc 1 bf;have f2:x 34=.agg #[.int .i64 C.s,.int .i64 C.w,.int .i64 C.d,.int .i64 C.p,.int .i64 C.q,.slice B.a5 C.sl.length B.c5,.slice B.a6 C.ow.length B.c6,.slice B.a7 C.ch.length B.c7,.slice B.a8 C.ta.length B.c8]:=h.fc 2 bg;have f3:x 35=.int .i64 dn:=h.fc 3 bh;clear a1;simp only [AFR,f1,f2,f3];refine Yw (by rfl) ?_;refine Zfw (v:=.agg #[.slice jJ D.jobs.length kJ,.slice jR D.rel.length kR,.int .i64 D.nxt,.slice jI D.ins.length kI,.slice jT D.tak.length kT,.slice jO D.out.length kO,.slice jE D.evs.length kE,.int .i64 C.s,.int .i64 C.w,.int .i64 C.d,.int .i64 C.p,.int .i64 C.q,.slice B.a5 C.sl.length B.c5,.slice B.a6 C.ow.length B.c6,.slice B.a7 C.ch.length B.c7,.slice B.a8 C.ta.length B.c8,.int .i64 dn]) (by kernel_rfl) ?_;refine hK.out _ _ ⟨upd x 36 (.agg #[.slice jJ D.jobs.length kJ,.slice jR D.rel.length kR,.int .i64 D.nxt,.slice jI D.ins.length kI,.slice jT D.tak.length kT,.slice jO D.out.length kO,.slice jE D.evs.length kE,.int .i64 C.s,.int .i64 C.w,.int .i64 C.d,.int .i64 C.p,.int .i64 C.q,.slice B.a5 C.sl.length B.c5,.slice B.a6 C.ow.length B.c6,.slice B.a7 C.ch.length B.c7,.slice B.a8 C.ta.length B.c8,.int .i64 dn]),?_,.inl (Zj Jp Zas Zck h 4 _ (by decide) hl br ⟨jJ,jR,jI,jT,jO,jE,kJ,kR,kI,kT,kO,kE,gI,gO,m,p,q,rfl,bi⟩ (fun j hj hne=>absurd hj (by simp [dOR,hne])))⟩;simp only [Act.put,List.setIfInBounds_toArray,List.set_cons_zero,List.set_cons_succ,AFR,upd,f1,f2,f3,reduceIte,Nat.reduceEqDiff]
   ·simp only [xJ1,xJ2,xJ3,xJ4] at ho
    subst ho;rcases h with h|⟨a0,-,-⟩
    case inr=>rw [a0 5 (by decide)] at hl;cases hl
    clear a1;have HT:=T3.out.below (Zb br.drew h.b) lr;simp only [AFR];refine Yw (by rfl) ?_;refine wp_load_mid 72 _ rfl (w.heap.size+1+1) 0 (by rfl) [.slice aK (List.length K) cK] _ (fun j u hu=>by rw [Nat.zero_add];exact HT.cell j u hu) underlying72 rfl (by kernel_rfl) ?_;exact hK.out _ _ ⟨upd x 37 (.agg #[.slice aK (List.length K) cK]),rfl,.inl (Zj Jp Zas Zck h 5 _ (by decide) hl br rfl (fun j hj hne=>absurd hj (by simp [dOR,hne])))⟩
   ·simp only [xJ1,xJ2,xJ3,xJ4] at ho
    subst ho;rcases h with h|⟨a0,-,-⟩
    case inr=>rw [a0 6 (by decide)] at hl;cases hl
    have bj:=Zn a1 5 (by kernel_rfl);have f5:x 37=.agg #[.slice aK (List.length K) cK]:=h.fc 5 bj;clear a1;have a3:=h.b.size;simp only [AFR,f5];go_simp;refine Calls.mono (CY.out _ (Zb br.drew h.b)) ?_;rintro e w2 ⟨g0,rfl,bk,ac,ad⟩;exact hK.out _ _ ⟨upd x 38 (.agg #[.slice (some ⟨g0,0,none⟩) (List.length K) (List.length K)]),(by simp only [AFR,upd,reduceIte,Nat.reduceEqDiff,f5]),.inl (Zj Jp Zas Zck h 6 _ (by decide) hl ad ⟨g0,rfl,Nat.le_trans a3 bk,ac⟩ (fun j hj hne=>absurd hj (by simp [dOR,hne])))⟩
   ·simp only [xJ1,xJ2,xJ3,xJ4] at ho
    subst ho;rcases h with h|⟨a0,-,-⟩
    case inr=>rw [a0 7 (by decide)] at hl;cases hl
    clear a1;simp only [AFR];go_simp;exact hK.out _ _ ⟨upd x 39 (.slice aL (List.length L) cL),rfl,.inl (Zj Jp Zas Zck h 7 _ (by decide) hl br rfl (fun j hj hne=>absurd hj (by simp [dOR,hne])))⟩
   ·simp only [xJ1,xJ2,xJ3,xJ4] at ho
    subst ho;rcases h with h|⟨a0,-,-⟩
    case inr=>rw [a0 8 (by decide)] at hl;cases hl
    clear a1;simp only [AFR];go_simp;exact hK.out _ _ ⟨upd x 40 (.int .i64 fr),rfl,.inl (Zj Jp Zas Zck h 8 _ (by decide) hl br rfl (fun j hj hne=>absurd hj (by simp [dOR,hne])))⟩
   ·simp only [xJ1,xJ2,xJ3,xJ4] at ho
    subst ho;rcases h with h|⟨a0,-,-⟩
    case inr=>rw [a0 9 (by decide)] at hl;cases hl
    clear a1;simp only [AFR];go_simp;exact hK.out _ _ ⟨upd x 41 (.int .i64 te),rfl,.inl (Zj Jp Zas Zck h 9 _ (by decide) hl br rfl (fun j hj hne=>absurd hj (by simp [dOR,hne])))⟩
   ·simp only [xJ1,xJ2,xJ3,xJ4] at ho
    subst ho;rcases h with h|⟨a0,-,-⟩
    case inr=>rw [a0 10 (by decide)] at hl;cases hl
    have bm:=Zn a1 4 (by kernel_rfl);have bn:=Zn a1 6 (by kernel_rfl);have bo:=Zn a1 7 (by kernel_rfl);have bp:=Zn a1 8 (by kernel_rfl);have bq:=Zn a1 9 (by kernel_rfl);obtain ⟨jJ,jR,jI,jT,jO,jE,kJ,kR,kI,kT,kO,kE,gI,gO,m,p,q,f4,bs⟩:=h.fc 4 bm;obtain ⟨g0,f6,bt,bu⟩:=h.fc 6 bn;have f7:x 39=.slice aL (List.length L) cL:=h.fc 7 bo;have f8:x 40=.int .i64 fr:=h.fc 8 bp;have f9:x 41=.int .i64 te:=h.fc 9 bq;clear a1;simp only [AFR,f4,f6,f7,f8,f9];refine Yw (by rfl) ?_;refine Zfw (v:=.agg #[.slice jJ D.jobs.length kJ,.slice jR D.rel.length kR,.int .i64 D.nxt,.slice jI D.ins.length kI,.slice jT D.tak.length kT,.slice jO D.out.length kO,.slice jE D.evs.length kE,.int .i64 C.s,.int .i64 C.w,.int .i64 C.d,.int .i64 C.p,.int .i64 C.q,.slice B.a5 C.sl.length B.c5,.slice B.a6 C.ow.length B.c6,.slice B.a7 C.ch.length B.c7,.slice B.a8 C.ta.length B.c8,.int .i64 dn,.slice (some ⟨g0,0,none⟩) (List.length K) (List.length K),.slice aL (List.length L) cL,.int .i64 fr,.int .i64 te]) (by kernel_rfl) ?_;refine hK.out _ _ ⟨upd x 42 (.agg #[.slice jJ D.jobs.length kJ,.slice jR D.rel.length kR,.int .i64 D.nxt,.slice jI D.ins.length kI,.slice jT D.tak.length kT,.slice jO D.out.length kO,.slice jE D.evs.length kE,.int .i64 C.s,.int .i64 C.w,.int .i64 C.d,.int .i64 C.p,.int .i64 C.q,.slice B.a5 C.sl.length B.c5,.slice B.a6 C.ow.length B.c6,.slice B.a7 C.ch.length B.c7,.slice B.a8 C.ta.length B.c8,.int .i64 dn,.slice (some ⟨g0,0,none⟩) (List.length K) (List.length K),.slice aL (List.length L) cL,.int .i64 fr,.int .i64 te]),?_,.inl (Zj Jp Zas Zck h 10 _ (by decide) hl br ⟨jJ,jR,jI,jT,jO,jE,kJ,kR,kI,kT,kO,kE,gI,gO,m,p,q,g0,rfl,bs,bt,bu⟩ (fun j hj hne=>absurd hj (by simp [dOR,hne])))⟩;simp only [Act.put,List.setIfInBounds_toArray,List.set_cons_zero,List.set_cons_succ,AFR,upd,f4,f6,f7,f8,f9,reduceIte,Nat.reduceEqDiff]
   ·simp only [xJ1,xJ2,xJ3,xJ4] at ho
    subst ho;rcases h with h|⟨a0,-,-⟩
    case inr=>rw [a0 11 (by decide)] at hl;cases hl
    clear a1;have a3:=h.b.size;simp only [AFR];go_simp;exact hK.out _ _ ⟨upd x 18 (.pointer (some ⟨w2.heap.size,0,none⟩)),rfl,.inl (Zj Jp Zas Zck h 11 _ (by decide) hl (Za _ _) ⟨w2.heap.size,rfl,a3,Z5 w2 _ [.slice none 0 0,.slice none 0 0,.int .i64 0,.slice none 0 0,.slice none 0 0,.slice none 0 0,.slice none 0 0,.int .i64 0,.int .i64 0,.int .i64 0,.int .i64 0,.int .i64 0,.slice none 0 0,.slice none 0 0,.slice none 0 0,.slice none 0 0,.int .i64 0,.slice none 0 0,.slice none 0 0,.int .i64 0,.int .i64 0] 152 rfl⟩ (fun j hj hne=>absurd hj (by simp [dOR,hne])))⟩
   ·simp only [xJ1,xJ2,xJ3,xJ4] at ho
    subst ho;rcases h with h|⟨a0,-,-⟩
    case inr=>rw [a0 12 (by decide)] at hl;cases hl
    have ae:=Zn a1 10 (by kernel_rfl);have af:=Zn a1 11 (by kernel_rfl);obtain ⟨jJ,jR,jI,jT,jO,jE,kJ,kR,kI,kT,kO,kE,gI,gO,m,p,q,g0,aq,ho,hg,hc⟩:=h.fc 10 ae;obtain ⟨rb,ar,a4,a9⟩:=h.fc 11 af;have ah:Hid (∀ j,j<13→(l.setIfInBounds 12 true).getD j false=true):=hid (Zqp h.sz (Zrt 12 a1 (by kernel_rfl)));have HH:=hid h;have bv:=hid aq;have au:=hid ar;simp only [AFR,aq,ar];refine Yw (by rfl) ?_;refine wp_store_mid 152 _ _ rfl rb 0 #[.slice jJ D.jobs.length kJ,.slice jR D.rel.length kR,.int .i64 D.nxt,.slice jI D.ins.length kI,.slice jT D.tak.length kT,.slice jO D.out.length kO,.slice jE D.evs.length kE,.int .i64 C.s,.int .i64 C.w,.int .i64 C.d,.int .i64 C.p,.int .i64 C.q,.slice B.a5 C.sl.length B.c5,.slice B.a6 C.ow.length B.c6,.slice B.a7 C.ch.length B.c7,.slice B.a8 C.ta.length B.c8,.int .i64 dn,.slice (some ⟨g0,0,none⟩) (List.length K) (List.length K),.slice aL (List.length L) cL,.int .i64 fr,.int .i64 te] (by rfl) (by rfl) (show w2.there rb 0 21 from Zc1 a9) (by kernel_rfl) (by kernel_rfl) ?_;have hn:=fun k (hk:k≠rb)=>Y6 rb [.slice jJ D.jobs.length kJ,.slice jR D.rel.length kR,.int .i64 D.nxt,.slice jI D.ins.length kI,.slice jT D.tak.length kT,.slice jO D.out.length kO,.slice jE D.evs.length kE,.int .i64 C.s,.int .i64 C.w,.int .i64 C.d,.int .i64 C.p,.int .i64 C.q,.slice B.a5 C.sl.length B.c5,.slice B.a6 C.ow.length B.c6,.slice B.a7 C.ch.length B.c7,.slice B.a8 C.ta.length B.c8,.int .i64 dn,.slice (some ⟨g0,0,none⟩) (List.length K) (List.length K),.slice aL (List.length L) cL,.int .i64 fr,.int .i64 te] 0 w2 k hk
    refine hK.out _ _ ⟨x,?_,.inr ⟨ah.out,by rw [Array.size_setIfInBounds];exact HH.out.sz,Qq HH.out.b _ a4 _ _,jJ,jR,jI,jT,jO,jE,kJ,kR,kI,kT,kO,kE,gI,gO,m,p,q,g0,rb,au.out,Jc _ [] _ w2 a9 rfl,Zkc ho a9 (by decide) (Qq (Below.refl w2.heap.size w2 |>.mono zl) rb zl _ _).size (fun k hk=>hn k hk),Znd hc a9 (fun k hk=>hn k hk),hg,a4⟩⟩;simp only [Act.put,AFR,bv.out,au.out]
  case fin=>
   rintro l a w2 ⟨x,rfl,h|⟨_,_,hb,h⟩⟩ a0
   ·have:=a0 12 (by decide)
    rw [h.un 12 (by decide)] at this;cases this
   obtain ⟨jJ,jR,jI,jT,jO,jE,kJ,kR,kI,kT,kO,kE,gI,gO,m,p,q,g0,rb,bw,hr,ho,hc,hg,a4⟩:=h;have bx:=hid hr;have bz:=hid ho;have c0:=hid hc;have c1:Hid (Below w1.heap.size w1 w2):=hid (Zb br.drew hb);have c2:w1.heap.size≤g0:=hg;have ai:w1.heap.size≤rb:=a4;simp only [AFR,bw];clear hr ho hc hb;go_wp2;go_meet
   case rel=>exact ⟨rb,jJ,jR,jI,jT,jO,jE,kJ,kR,kI,kT,kO,kE,gI,gO,m,p,q,g0,rfl,c1.out,bx.out,bz.out,c0.out,c2,ai⟩
 case rest=>
  obtain ⟨rb,jJ,jR,jI,jT,jO,jE,kJ,kR,kI,kT,kO,kE,gI,gO,m,p,q,g0,rfl,aj,aw,ax,ay,cf,c3⟩:=hcut;have c4:w.heap.size≤w1.heap.size:=ap.out.size;have U4:=hid (T4.out.below aj lr);have U5:=hid (T5.out.below aj lr);obtain ⟨M,az⟩:=RO.start (X:=⟨w,rb,C,B,dn,L,aL,cL,te,[(w.heap.size+1+1+1,.cells #[.slice none 0 0,.slice none 0 0,.int .i64 0,.slice none 0 0,.slice none 0 0,.slice none 0 0,.slice none 0 0] 46),(w.heap.size+1+1+1+1,.cells #[.slice none 0 0] 72)]⟩) (w:=wc) (fr0:=fr) (ax.base c4) aw (by show w.heap.size≤rb;omega) ay (fun ls hm=>(ao.out ls hm).2) (by show w.heap.size≤g0;omega) (Zb ap aj) (fun pr hp=>by
   simp only [List.mem_cons,List.not_mem_nil,or_false] at hp;rcases hp with rfl|rfl
   ·exact ⟨U4.out,.inr (.inl (Zdb U4.out))⟩
   ·exact ⟨U5.out,.inr (.inr (Zdb U5.out))⟩) b8.out b9.out (by show List.length L≤1000;omega) (by omega) (by omega)
  have CR:=hid (Zv3 _ M D D K fr wc az b7 b6 aa b3 b5 hev);clear az aw ax ay HS CX CY RZ bc ab T1 T2 T3 T4 T5 U4 U5;dsimp only at CR;generalize hR:Zbq C dn L te (te-fr).toNat D K fr=R at *
  have HR:=hid hR;clear hR;obtain ⟨RD,RK⟩:=R;dsimp only at CR;go_wp2_with fail;refine Calls.mono CR.out ?_;rintro e w5 ⟨rfl,M5,h5,b0⟩;have F4:=hid (show Zf w5 (w.heap.size+1+1+1) 46 [.slice none 0 0,.slice none 0 0,.int .i64 0,.slice none 0 0,.slice none 0 0,.slice none 0 0,.slice none 0 0] from h5.px.frame (w.heap.size+1+1+1,.cells #[.slice none 0 0,.slice none 0 0,.int .i64 0,.slice none 0 0,.slice none 0 0,.slice none 0 0,.slice none 0 0] 46) (by simp));have F5:=hid (show Zf w5 (w.heap.size+1+1+1+1) 72 [.slice none 0 0] from h5.px.frame (w.heap.size+1+1+1+1,.cells #[.slice none 0 0] 72) (by simp));have H5:=hid h5;have c9:=hid b0;obtain ⟨x0,x1,x2,x3,x4,x5,x6⟩:=h5.row.q7 rfl rfl rfl rfl rfl rfl rfl;have b1:=h5.row.cell 17 _ rfl;obtain ⟨y0,y1,y2,y3,y4,y5,y6⟩:=F4.out.q7 rfl rfl rfl rfl rfl rfl rfl;have z0:=F5.out.cell 0 _ rfl;have f0:=F4.out.frozen 0;have f1:=F4.out.frozen 1;have f2:=F4.out.frozen 2;have f3:=F4.out.frozen 3;have f4:=F4.out.frozen 4;have f5:=F4.out.frozen 5;have f6:=F4.out.frozen 6;have k0:=F5.out.frozen 0;have n1:¬ w.heap.size+1+1+1=rb:=by omega
  have n2:¬ w.heap.size+1+1+1+1=rb:=by omega
  have n3:¬ rb=w.heap.size+1+1+1:=by omega
  have n4:¬ rb=w.heap.size+1+1+1+1:=by omega
  have n5:¬ w.heap.size+1+1+1=w.heap.size+1+1+1+1:=by omega
  have n6:¬ w.heap.size+1+1+1+1=w.heap.size+1+1+1:=by omega
  clear h5 b0 CR;dsimp only at x0 x1 x2 x3 x4 x5 x6 b1;go_wp2_with fail;go_region
  all_goals
   have NE:Hid (∀ x,x≠w.heap.size+1+1+1→(((((((w5.setCell ⟨w.heap.size+1+1+1,0,none⟩ (.slice M5.A.aJ RD.jobs.length M5.A.cJ)).setCell ⟨w.heap.size+1+1+1,1,none⟩ (.slice M5.A.aR RD.rel.length M5.A.cR)).setCell ⟨w.heap.size+1+1+1,2,none⟩ (.int .i64 RD.nxt)).setCell ⟨w.heap.size+1+1+1,3,none⟩ (.slice M5.A.aI RD.ins.length M5.A.cI)).setCell ⟨w.heap.size+1+1+1,4,none⟩ (.slice M5.A.aT RD.tak.length M5.A.cT)).setCell ⟨w.heap.size+1+1+1,5,none⟩ (.slice M5.A.aO RD.out.length M5.A.cO)).setCell ⟨w.heap.size+1+1+1,6,none⟩ (.slice M5.A.aE RD.evs.length M5.A.cE)).heap[x]? = w5.heap[x]?):=hid fun x hx=>((Zd _ _ 6 _ x hx).trans ((Zd _ _ 5 _ x hx).trans ((Zd _ _ 4 _ x hx).trans ((Zd _ _ 3 _ x hx).trans ((Zd _ _ 2 _ x hx).trans ((Zd _ _ 1 _ x hx).trans (Zd _ _ 0 _ x hx)))))))
   have Q4:Zf ((((((((w5.setCell ⟨w.heap.size+1+1+1,0,none⟩ (.slice M5.A.aJ RD.jobs.length M5.A.cJ)).setCell ⟨w.heap.size+1+1+1,1,none⟩ (.slice M5.A.aR RD.rel.length M5.A.cR)).setCell ⟨w.heap.size+1+1+1,2,none⟩ (.int .i64 RD.nxt)).setCell ⟨w.heap.size+1+1+1,3,none⟩ (.slice M5.A.aI RD.ins.length M5.A.cI)).setCell ⟨w.heap.size+1+1+1,4,none⟩ (.slice M5.A.aT RD.tak.length M5.A.cT)).setCell ⟨w.heap.size+1+1+1,5,none⟩ (.slice M5.A.aO RD.out.length M5.A.cO)).setCell ⟨w.heap.size+1+1+1,6,none⟩ (.slice M5.A.aE RD.evs.length M5.A.cE)).setCell ⟨w.heap.size+1+1+1+1,0,none⟩ (.slice M5.aK (List.length RK) M5.cK)).drew (w.heap.size+1+1+1) 46 [.slice M5.A.aJ RD.jobs.length M5.A.cJ,.slice M5.A.aR RD.rel.length M5.A.cR,.int .i64 RD.nxt,.slice M5.A.aI RD.ins.length M5.A.cI,.slice M5.A.aT RD.tak.length M5.A.cT,.slice M5.A.aO RD.out.length M5.A.cO,.slice M5.A.aE RD.evs.length M5.A.cE]:=Yav F4.out n5 _ _ _ _ _ _ _ _;have Q5:Zf ((((((((w5.setCell ⟨w.heap.size+1+1+1,0,none⟩ (.slice M5.A.aJ RD.jobs.length M5.A.cJ)).setCell ⟨w.heap.size+1+1+1,1,none⟩ (.slice M5.A.aR RD.rel.length M5.A.cR)).setCell ⟨w.heap.size+1+1+1,2,none⟩ (.int .i64 RD.nxt)).setCell ⟨w.heap.size+1+1+1,3,none⟩ (.slice M5.A.aI RD.ins.length M5.A.cI)).setCell ⟨w.heap.size+1+1+1,4,none⟩ (.slice M5.A.aT RD.tak.length M5.A.cT)).setCell ⟨w.heap.size+1+1+1,5,none⟩ (.slice M5.A.aO RD.out.length M5.A.cO)).setCell ⟨w.heap.size+1+1+1,6,none⟩ (.slice M5.A.aE RD.evs.length M5.A.cE)).setCell ⟨w.heap.size+1+1+1+1,0,none⟩ (.slice M5.aK (List.length RK) M5.cK)).drew (w.heap.size+1+1+1+1) 72 [.slice M5.aK (List.length RK) M5.cK]:=Yal (show Zf _ _ 72 [.slice none 0 0] from (NE.out _ n6).trans F5.out) _;obtain ⟨d0,d1,d2,d3,d4,d5,d6⟩:=Q4.q7 rfl rfl rfl rfl rfl rfl rfl;have d7:=Q5.cell 0 _ rfl;have ca:Hid (Below w.heap.size w ((((((((w5.setCell ⟨w.heap.size+1+1+1,0,none⟩ (.slice M5.A.aJ RD.jobs.length M5.A.cJ)).setCell ⟨w.heap.size+1+1+1,1,none⟩ (.slice M5.A.aR RD.rel.length M5.A.cR)).setCell ⟨w.heap.size+1+1+1,2,none⟩ (.int .i64 RD.nxt)).setCell ⟨w.heap.size+1+1+1,3,none⟩ (.slice M5.A.aI RD.ins.length M5.A.cI)).setCell ⟨w.heap.size+1+1+1,4,none⟩ (.slice M5.A.aT RD.tak.length M5.A.cT)).setCell ⟨w.heap.size+1+1+1,5,none⟩ (.slice M5.A.aO RD.out.length M5.A.cO)).setCell ⟨w.heap.size+1+1+1,6,none⟩ (.slice M5.A.aE RD.evs.length M5.A.cE)).setCell ⟨w.heap.size+1+1+1+1,0,none⟩ (.slice M5.aK (List.length RK) M5.cK)).drew):=hid ((((((((H5.out.ag.setCell (p:=⟨w.heap.size+1+1+1,0,none⟩) (by show w.heap.size≤w.heap.size+1+1+1;omega) _).setCell (p:=⟨w.heap.size+1+1+1,1,none⟩) (by show w.heap.size≤w.heap.size+1+1+1;omega) _).setCell (p:=⟨w.heap.size+1+1+1,2,none⟩) (by show w.heap.size≤w.heap.size+1+1+1;omega) _).setCell (p:=⟨w.heap.size+1+1+1,3,none⟩) (by show w.heap.size≤w.heap.size+1+1+1;omega) _).setCell (p:=⟨w.heap.size+1+1+1,4,none⟩) (by show w.heap.size≤w.heap.size+1+1+1;omega) _).setCell (p:=⟨w.heap.size+1+1+1,5,none⟩) (by show w.heap.size≤w.heap.size+1+1+1;omega) _).setCell (p:=⟨w.heap.size+1+1+1,6,none⟩) (by show w.heap.size≤w.heap.size+1+1+1;omega) _).setCell (p:=⟨w.heap.size+1+1+1+1,0,none⟩) (by show w.heap.size≤w.heap.size+1+1+1+1;omega) _).drew;have b2:Hid (∀ x,x≠w.heap.size+1+1+1→x≠w.heap.size+1+1+1+1→((((((((w5.setCell ⟨w.heap.size+1+1+1,0,none⟩ (.slice M5.A.aJ RD.jobs.length M5.A.cJ)).setCell ⟨w.heap.size+1+1+1,1,none⟩ (.slice M5.A.aR RD.rel.length M5.A.cR)).setCell ⟨w.heap.size+1+1+1,2,none⟩ (.int .i64 RD.nxt)).setCell ⟨w.heap.size+1+1+1,3,none⟩ (.slice M5.A.aI RD.ins.length M5.A.cI)).setCell ⟨w.heap.size+1+1+1,4,none⟩ (.slice M5.A.aT RD.tak.length M5.A.cT)).setCell ⟨w.heap.size+1+1+1,5,none⟩ (.slice M5.A.aO RD.out.length M5.A.cO)).setCell ⟨w.heap.size+1+1+1,6,none⟩ (.slice M5.A.aE RD.evs.length M5.A.cE)).setCell ⟨w.heap.size+1+1+1+1,0,none⟩ (.slice M5.aK (List.length RK) M5.cK)).drew.heap[x]? = w5.heap[x]?):=hid fun x hx hx'=>(Zzb hx' _).trans (NE.out x hx)
   clear Q4 Q5 x0 x1 x2 x3 x4 x5 x6 b1 y0 y1 y2 y3 y4 y5 y6 z0 f0 f1 f2 f3 f4 f5 f6 k0 F4 F5 NE;generalize World.drew (World.setCell (World.setCell (World.setCell (World.setCell (World.setCell (World.setCell (World.setCell (World.setCell w5 _ _) _ _) _ _) _ _) _ _) _ _) _ _) _ _)=W9 at *
   go_wp2;refine bodyPost_ret (v:=.tuple #[.agg #[.slice M5.A.aJ RD.jobs.length M5.A.cJ,.slice M5.A.aR RD.rel.length M5.A.cR,.int .i64 RD.nxt,.slice M5.A.aI RD.ins.length M5.A.cI,.slice M5.A.aT RD.tak.length M5.A.cT,.slice M5.A.aO RD.out.length M5.A.cO,.slice M5.A.aE RD.evs.length M5.A.cE],.agg #[.slice M5.aK (List.length RK) M5.cK],.int .i64 0]) (by simp [results,results46,go_sem,d0,d1,d2,d3,d4,d5,d6,d7]) rfl ⟨M5.A,M5.aK,M5.cK,by rw [HR.out],fun wx hwx=>?_,ca.out,by rw [HR.out];exact c9.out,?_⟩
   ·rw [HR.out]
    exact H5.out.domAt (fun x hx hnf=>(hwx x hx).trans (b2.out x (fun e=>hnf _ (List.mem_cons_self ..) e.symm) (fun e=>hnf _ (List.mem_cons_of_mem _ (List.mem_cons_self ..)) e.symm)))
   ·rw [HR.out]
    exact H5.out.domE (fun x hx hnf=>b2.out x (fun e=>hnf _ (List.mem_cons_self ..) e.symm) (fun e=>hnf _ (List.mem_cons_of_mem _ (List.mem_cons_self ..)) e.symm))
theorem Zbu:Zcz D=0↔∀ l∈D.out,l.length≤60∧Zbc l 0 255=true:=by
 unfold Zcz;constructor
 ·intro h l hl
  split at h
  ·omega
  ·rename_i h1
   split at h
   ·omega
   ·rename_i h2
    simp only [List.any_eq_true,not_exists,not_and,Zbj,Zcv,decide_eq_true_eq] at h1 h2;exact ⟨by have:=h1 l hl;omega,by have:=h2 l hl;simpa using this⟩
 ·intro h
  rw [if_neg,if_neg]
  ·simp only [List.any_eq_true,not_exists,not_and,Zcv]
   intro l hl;simp [(h l hl).2]
  ·simp only [List.any_eq_true,not_exists,not_and,Zbj,decide_eq_true_eq]
   intro l hl
   have:=(h l hl).1
   omega
theorem Ztv (h:ckD C dn (Zq D)=0) (ho:∀ l∈D.out,l.length≤60∧Zbc l 0 255=true):ckD C dn D=0:=by
 obtain ⟨h0,h1,h2,h3,h4,_⟩:=Z0.1 h;refine Z0.2 ⟨h0,?_,h2,h3,h4,Zbu.2 ho⟩
 have:=Ye.1 h1
 simp only [Zq,List.length_replicate] at this;exact Ye.2 this
structure OI (m:Nat) (D:Dom):Prop where
 nx:D.nxt≤m
 out:∀ l∈D.out,(l.length:Int)≤D.nxt∧Zbc l 0 255=true
theorem OI.of (h:OI m D) (hn:E.nxt=D.nxt) (ho:E.out=D.out):OI m E:=⟨by rw [hn];exact h.nx,by rw [hn,ho];exact h.out⟩
theorem Zfh (D:Dom) (now:Int) (k:Nat):(Zp D now k).nxt=D.nxt∧(Zp D now k).out=D.out:=by
 unfold Zp
 split<;>exact ⟨rfl,rfl⟩
theorem Zik (C:Zm) (D:Dom) (now:Int) (k:Nat) (a:Qg):(Zhd C D now k a).nxt=D.nxt∧(Zhd C D now k a).out=D.out:=by
 unfold Zhd;split
 ·exact ⟨rfl,rfl⟩
 ·split<;>exact ⟨rfl,rfl⟩
theorem Ziu (C:Zm) (dn:Int) (D:Dom) (now:Int) (a:Qg) (cost:Int):(Zae C dn D now a cost).nxt=D.nxt∧((Zae C dn D now a cost).out=D.out∨(a.1=4∧(Zae C dn D now a cost).out=D.out.set a.2.1.toNat (D.out.getD a.2.1.toNat []++[a.2.2]))):=by
 unfold Zae;split
 ·exact ⟨rfl,.inl rfl⟩
 ·split
  ·exact ⟨rfl,.inl rfl⟩
  ·split
   ·rename_i h4
    exact ⟨rfl,.inr ⟨h4,rfl⟩⟩
   ·split
    ·exact ⟨rfl,.inl rfl⟩
    ·split
     ·exact ⟨rfl,.inl rfl⟩
     ·split
      ·exact ⟨rfl,.inl rfl⟩
      ·exact ⟨rfl,.inl rfl⟩
theorem Zkq {a:Qg} (h:ckA a=0) (h4:a.1=4):inR a.2.2 0 255=true:=by
 unfold ckA at h
 split at h
 ·split at h
  ·rename_i hr
   unfold Zmx at hr;rw [if_neg (by omega),if_neg (by omega),if_pos h4] at hr;exact (Bool.and_eq_true _ _ ▸ hr).2
  ·omega
 ·omega
theorem OI.rel (C:Zm) (dn t:Int) (h:OI m D):OI m (Zah C dn t D):=h.of rfl rfl
theorem OI.step (h0:0≤D.nxt) (h:OI L.length D) (hA:∀ a∈L,ckA a=0):OI L.length (stD C dn L te D K now):=by
 unfold stD;split
 ·rename_i hd
  unfold Zms at hd;simp only [Bool.and_eq_true,decide_eq_true_eq] at hd;have a0:D.nxt.toNat<L.length:=by omega
  have ha:ckA (aAt L D)=0:=by
   unfold aAt;rw [show L.getD D.nxt.toNat (0,0,0)=L[D.nxt.toNat] by simp [a0]];exact hA _ (List.getElem_mem _)
  generalize aAt L D=a at *
  unfold Zh1;generalize (J0 C D.jobs).toNat=k;have e1:=Zfh D now k;generalize Zp D now k=D1 at *
  have e2:(Yp D1 k (spC K a)).nxt=D.nxt∧(Yp D1 k (spC K a)).out=D.out:=⟨e1.1,e1.2⟩
  generalize Yp D1 k (spC K a)=D2 at *
  have e3:=Ziu C dn D2 (now+spC K a) a (spC K a);generalize Zae C dn D2 (now+spC K a) a (spC K a)=D3 at *
  have e4:(Jr D3).nxt=D3.nxt+1∧(Jr D3).out=D3.out:=⟨rfl,rfl⟩
  generalize Jr D3=D4 at *
  have e5:=Zik C D4 (now+spC K a) k a;generalize Zhd C D4 (now+spC K a) k a=D5 at *
  have hn:D5.nxt=D.nxt+1:=by rw [e5.1,e4.1,e3.1,e2.1]
  refine ⟨by rw [hn];omega,?_⟩;rw [hn,e5.2,e4.2];intro l hl;rcases e3.2 with e|⟨h4,e⟩
  ·rw [e,e2.2] at hl
   have:=h.out l hl
   exact ⟨by omega,this.2⟩
  ·rw [e,e2.2] at hl
   rcases List.mem_or_eq_of_mem_set hl with hl|rfl
   ·have:=h.out l hl
    exact ⟨by omega,this.2⟩
   ·by_cases hc:a.2.1.toNat<D.out.length
    ·have hm:=h.out _ (List.getElem_mem hc)
     rw [show D.out.getD a.2.1.toNat []=D.out[a.2.1.toNat] by simp [hc]];refine ⟨by simp;omega,?_⟩
     have:=Zkq ha h4
     simp only [Zbc,List.all_append,List.all_cons,List.all_nil,Bool.and_true,Bool.and_eq_true] at *
     exact ⟨hm.2,this⟩
    ·rw [show D.out.getD a.2.1.toNat []=[] by simp only [List.getD];rw [List.getElem?_eq_none (Nat.le_of_not_lt hc)];rfl]
     refine ⟨by simp;omega,?_⟩
     have:=Zkq ha h4
     simpa [Zbc] using this
 ·exact h
theorem Zzl:D.nxt≤(stD C dn L te D K now).nxt:=by
 unfold stD;split
 ·unfold Zh1
  rw [(Zik ..).1];show D.nxt≤(Zae ..).nxt+1
  rw [(Ziu ..).1];show D.nxt≤(Zp ..).nxt+1
  rw [(Zfh ..).1];omega
 ·exact Int.le_refl _
theorem OI.run (hA:∀ a∈L,ckA a=0):∀ (n:Nat) (D:Dom) (K:KT) (now:Int),0≤D.nxt→OI L.length D→OI L.length (Zbq C dn L te n D K now).1
 | 0,D,K,now,h0,h=>h.rel C dn te
 | n+1,D,K,now,h0,h=>by
  unfold Zbq;split
  ·refine OI.run hA n _ _ _ ?_ (OI.step (by exact h0) (h.rel C dn now) hA)
   have h1:(Zah C dn now D).nxt=D.nxt:=rfl
   have:=Zzl (C:=C) (dn:=dn) (L:=L) (te:=te) (D:=Zah C dn now D) (K:=K) (now:=now)
   omega
  ·exact h.rel C dn te
def Ext (X:Nat→Prop) (w wx:World):Prop:=w.heap.size≤wx.heap.size∧∀ k,k<w.heap.size→¬ X k→wx.heap[k]? = w.heap[k]?
theorem Ext.refl (X:Nat→Prop) (w:World):Ext X w w:=⟨lr,fun _ _ _=>rfl⟩
theorem Ext.trans {X:Nat→Prop} {a b c:World} (h:Ext X a b) (k:Ext X b c):Ext X a c:=
 ⟨Nat.le_trans h.1 k.1,fun i hi hx=>(k.2 i (Nat.lt_of_lt_of_le hi h.1) hx).trans (h.2 i hi hx)⟩
theorem Ext.below {X:Nat→Prop} (h:Below w.heap.size w w'):Ext X w w':=⟨h.size,fun k hk _=>h.block k hk⟩
theorem Ext.set {X:Nat→Prop} (w:World) (hg:X g) (o:Nat) (u:Value):Ext X w (w.setCell ⟨g,o,none⟩ u):=
 ⟨by simp [World.setCell],fun k hk hx=>Zd _ _ _ _ _ (fun e=>hx (e ▸ hg))⟩
theorem Ext.wider {X Y:Nat→Prop} (h:Ext X w w') (hxy:∀ k,X k→Y k):Ext Y w w':=⟨h.1,fun k hk hy=>h.2 k hk (fun hx=>hy (hxy k hx))⟩
def Zxq (w:World) (n:Nat):World:={w with heap:=w.heap.extract 0 n}
theorem Zmi (w:World) (n k:Nat) (h:n≤w.heap.size):(Zxq w n).heap[k]? = if k<n then w.heap[k]? else none:=by
 show (w.heap.extract 0 n)[k]? = _
 rw [Array.getElem?_extract];simp only [Nat.zero_add,Nat.sub_zero];rw [Nat.min_eq_left h]
theorem Zly (w:World) (n:Nat) (h:n≤w.heap.size):(Zxq w n).heap.size=n:=by
 show (w.heap.extract 0 n).size=n
 simp;omega
theorem Ze9 (w:World) (n:Nat) (h:n≤w.heap.size):Below (Zxq w n).heap.size (Zxq w n) w:=
 ⟨rfl,rfl,rfl,by rw [Zly w n h];exact h,fun k hk=>by rw [Zly w n h] at hk;rw [Zmi w n k h,if_pos hk]⟩
def Zax (n:Nat) (w:World) (A:Yk) (D:Dom):Prop:=∀ wx:World,Ext (fun k=>k<n) w wx→Yz wx A D
theorem Zug (h:∀ wx:World,(∀ x,n≤x→wx.heap[x]? = w.heap[x]?)→Yz wx A D):Zax n w A D:=by
 intro wx hx;refine (h (Zxq wx w.heap.size) fun x hn=>?_).keep (Ze9 _ _ hx.1);rw [Zmi _ _ _ hx.1];split
 ·rename_i a0
  exact hx.2 x a0 (by omega)
 ·rename_i a0
  exact (Array.getElem?_eq_none (by omega)).symm
theorem Zax.ext (h:Zax n w A D) (hx:Ext (fun k=>k<n) w w'):Zax n w' A D:=fun wx hw=>h wx (hx.trans hw)
theorem Zax.lower {n':Nat} (h:Zax n w A D) (hn:n'≤n):Zax n' w A D:=fun wx hw=>h wx (hw.wider fun k hk=>by omega)
structure ClD (X:Nat→Prop) (w:World) (A:Yk) (D:Dom) (gI gO:Nat):Prop where
 j:∀ wx,Ext X w wx→Zcp wx A.aJ D.jobs
 r:∀ wx,Ext X w wx→Z4 wx A.aR D.rel
 t:∀ wx,Ext X w wx→Z4 wx A.aT D.tak
 e:∀ wx,Ext X w wx→Zev wx A.aE D.evs
 i:∃ cs,Zf w gI 90 cs∧cs.length=D.ins.length*2∧∀ k (h:k<D.ins.length),∃ a c,cs[k*2]? = some (.slice a D.ins[k].1.length c)∧cs[k*2+1]? = some (.int .i64 D.ins[k].2)∧(∀ wx,Ext X w wx→Z4 wx a D.ins[k].1)∧D.ins[k].1.length≤c∧D.ins[k].1.length≤9223372036854775807
 o:∃ cs,Zf w gO 23 cs∧cs.length=D.out.length∧∀ k (h:k<D.out.length),∃ a c,cs[k]? = some (.slice a D.out[k].length c)∧(∀ wx,Ext X w wx→Z4 wx a D.out[k])∧D.out[k].length≤c∧D.out[k].length≤9223372036854775807
 aI:A.aI=some ⟨gI,0,none⟩
 aO:A.aO=some ⟨gO,0,none⟩
 xI:X gI
 xO:X gO
 lJ:D.jobs.length≤9223372036854775807
 lR:D.rel.length≤9223372036854775807
 lI:D.ins.length≤9223372036854775807
 lT:D.tak.length≤9223372036854775807
 lO:D.out.length≤9223372036854775807
 lE:D.evs.length≤9223372036854775807
theorem ClD.ext {X:Nat→Prop} (h:ClD X w A D gI gO) (hx:Ext X w w') (hI:w'.heap[gI]? = w.heap[gI]?) (hO:w'.heap[gO]? = w.heap[gO]?):ClD X w' A D gI gO:=by
 obtain ⟨cs,i1,i2,i3⟩:=h.i;obtain ⟨ds,o1,o2,o3⟩:=h.o;refine ⟨fun wx q=>h.j wx (hx.trans q),fun wx q=>h.r wx (hx.trans q),fun wx q=>h.t wx (hx.trans q),fun wx q=>h.e wx (hx.trans q),⟨cs,hI.trans i1,i2,fun k hk=>?_⟩,⟨ds,hO.trans o1,o2,fun k hk=>?_⟩,h.aI,h.aO,h.xI,h.xO,h.lJ,h.lR,h.lI,h.lT,h.lO,h.lE⟩
 ·obtain ⟨a,c,p1,p2,p3,p4⟩:=i3 k hk
  exact ⟨a,c,p1,p2,fun wx q=>p3 wx (hx.trans q),p4⟩
 ·obtain ⟨a,c,p1,p3,p4⟩:=o3 k hk
  exact ⟨a,c,p1,fun wx q=>p3 wx (hx.trans q),p4⟩
theorem ClD.ltI {X:Nat→Prop} (h:ClD X w A D gI gO):gI<w.heap.size:=by
 obtain ⟨cs,i1,_⟩:=h.i;exact (Array.getElem?_eq_some_iff.1 i1).1
theorem ClD.ltO {X:Nat→Prop} (h:ClD X w A D gI gO):gO<w.heap.size:=by
 obtain ⟨cs,i1,_⟩:=h.o;exact (Array.getElem?_eq_some_iff.1 i1).1
theorem ClD.keep {X:Nat→Prop} (h:ClD X w A D gI gO) (hb:Below w.heap.size w w'):ClD X w' A D gI gO:=
 h.ext (Ext.below hb) (hb.block _ h.ltI) (hb.block _ h.ltO)
theorem ClD.dom {X:Nat→Prop} (h:ClD X w A D gI gO) (hn:∀ k,k<n→X k) (hI:n≤gI) (hO:n≤gO):Zax n w A D:=by
 intro wx hx;have hX:Ext X w wx:=hx.wider hn;obtain ⟨cs,i1,i2,i3⟩:=h.i;obtain ⟨ds,o1,o2,o3⟩:=h.o;have r1:Zf wx gI 90 cs:=(hx.2 gI h.ltI (by omega)).trans i1;have r2:Zf wx gO 23 ds:=(hx.2 gO h.ltO (by omega)).trans o1;refine ⟨h.j wx hX,h.r wx hX,?_,h.t wx hX,?_,h.e wx hX,h.lJ,h.lR,h.lI,h.lT,h.lO,h.lE⟩
 ·intro k hk
  obtain ⟨a,c,p1,p2,p3,p4⟩:=i3 k hk;exact ⟨gI,0,a,c,h.aI,by rw [Nat.zero_add];exact r1.cell _ _ p1,by rw [Nat.zero_add];exact r1.cell _ _ p2,p3 wx hX,p4⟩
 ·intro k hk
  obtain ⟨a,c,p1,p3,p4⟩:=o3 k hk;exact ⟨gO,0,a,c,h.aO,by rw [Nat.zero_add];exact r2.cell _ _ p1,p3 wx hX,p4⟩
theorem ClD.setIn {X:Nat→Prop} (h:ClD X w A D gI gO) (hc:c<D.ins.length) {lost:Int} (hV:∀ wx,Ext X w wx→Z4 wx a V) (hle:V.length≤cap) (hl:V.length≤9223372036854775807) (hne:gI≠gO):
  ClD X ((w.setCell ⟨gI,c*2,none⟩ (.slice a V.length cap)).setCell ⟨gI,c*2+1,none⟩ (.int .i64 lost)) A ⟨D.jobs,D.rel,D.nxt,D.ins.set c (V,lost),D.tak,D.out,D.evs⟩ gI gO:=by
 have hx:Ext X w ((w.setCell ⟨gI,c*2,none⟩ (.slice a V.length cap)).setCell ⟨gI,c*2+1,none⟩ (.int .i64 lost)):=(Ext.set w h.xI _ _).trans (Ext.set _ h.xI _ _);obtain ⟨cs,i1,i2,i3⟩:=h.i;obtain ⟨ds,o1,o2,o3⟩:=h.o;refine ⟨fun wx q=>h.j wx (hx.trans q),fun wx q=>h.r wx (hx.trans q),fun wx q=>h.t wx (hx.trans q),fun wx q=>h.e wx (hx.trans q),⟨_,Ze (Ze i1 _ _) _ _,by simp [i2],fun k hk=>?_⟩,⟨ds,?_,o2,fun k hk=>?_⟩,h.aI,h.aO,h.xI,h.xO,h.lJ,h.lR,by simp;exact h.lI,h.lT,h.lO,h.lE⟩
 ·simp only [List.length_set] at hk
  by_cases e:k=c
  ·subst e
   refine ⟨a,cap,?_,?_,fun wx q=>?_,?_⟩
   ·rw [List.getElem?_set_ne (by omega),List.getElem?_set_self (by omega)]
    simp
   ·rw [List.getElem?_set_self (by simp;omega)]
    simp
   ·simpa using hV wx (hx.trans q)
   ·simpa using ⟨hle,hl⟩
  ·obtain ⟨a',c',p1,p2,p3,p4⟩:=i3 k hk
   refine ⟨a',c',?_,?_,fun wx q=>?_,?_⟩
   ·rw [List.getElem?_set_ne (by omega),List.getElem?_set_ne (by omega),p1]
    simp [List.getElem_set_ne (Ne.symm e)]
   ·rw [List.getElem?_set_ne (by omega),List.getElem?_set_ne (by omega),p2]
    simp [List.getElem_set_ne (Ne.symm e)]
   ·simpa [List.getElem_set_ne (Ne.symm e)] using p3 wx (hx.trans q)
   ·simpa [List.getElem_set_ne (Ne.symm e)] using p4
 ·show (World.heap _)[gO]? = _
  rw [Zd _ _ _ _ _ (Ne.symm hne),Zd _ _ _ _ _ (Ne.symm hne)];exact o1
 ·obtain ⟨a',c',p1,p3,p4⟩:=o3 k hk
  exact ⟨a',c',p1,fun wx q=>p3 wx (hx.trans q),p4⟩
theorem ClD.setOut {X:Nat→Prop} (h:ClD X w A D gI gO) {c:Nat} (hne:gI≠gO):
  ClD X (w.setCell ⟨gO,c,none⟩ (.slice none 0 0)) A (Zgb D c) gI gO:=by
 have hx:Ext X w (w.setCell ⟨gO,c,none⟩ (.slice none 0 0)):=Ext.set w h.xO _ _;obtain ⟨cs,i1,i2,i3⟩:=h.i;obtain ⟨ds,o1,o2,o3⟩:=h.o;refine ⟨fun wx q=>h.j wx (hx.trans q),fun wx q=>h.r wx (hx.trans q),fun wx q=>h.t wx (hx.trans q),fun wx q=>h.e wx (hx.trans q),⟨cs,?_,i2,fun k hk=>?_⟩,⟨_,Ze o1 _ _,by simp [o2,Zgb],fun k hk=>?_⟩,h.aI,h.aO,h.xI,h.xO,h.lJ,h.lR,h.lI,h.lT,by simp [Zgb];exact h.lO,h.lE⟩
 ·show (World.heap _)[gI]? = _
  rw [Zd _ _ _ _ _ hne];exact i1
 ·obtain ⟨a',c',p1,p2,p3,p4⟩:=i3 k hk
  exact ⟨a',c',p1,p2,fun wx q=>p3 wx (hx.trans q),p4⟩
 ·simp only [Zgb,List.length_set] at hk ⊢
  by_cases e:k=c
  ·subst e
   refine ⟨none,0,?_,fun wx q=>?_,?_⟩
   ·rw [List.getElem?_set_self (by omega)]
    simp
   ·intro i hi;simp at hi
   ·simp
  ·obtain ⟨a',c',p1,p3,p4⟩:=o3 k hk
   refine ⟨a',c',?_,fun wx q=>?_,?_⟩
   ·rw [List.getElem?_set_ne (by omega),p1]
    simp [List.getElem_set_ne (Ne.symm e)]
   ·simpa [List.getElem_set_ne (Ne.symm e)] using p3 wx (hx.trans q)
   ·simpa [List.getElem_set_ne (Ne.symm e)] using p4
theorem ClD.of {X:Nat→Prop} (h:Qu base w A D gI gO m p q) (hI:D.ins.length≤9223372036854775807) (hO:D.out.length≤9223372036854775807) (xI:X gI) (xO:X gO) (hX:∀ k,base≤k→k<q→k≠gI→k≠gO→¬ X k):ClD X w A D gI gO:=by
 have a0:=h.mp;obtain ⟨cs,v,i1,i2,i3,B,i4,i5,i6,i7⟩:=h.i;obtain ⟨ds,u,o1,o2,o3,E,o4,o5,o6,o7⟩:=h.o;have nb:∀ {e sz n:Nat} {v:Value} {xs:List Value},w.ownsRow base e sz v n xs→(∀ x,v.ownBlock=some x→x<m)→e≠90→e≠23→∀ wx,Ext X w wx→wx.ownsRow base e sz v n xs:=by
  intro e sz n v xs ho hm h1 h2 wx hx;refine Zi ho fun k hk=>hx.2 k (Zt ho k hk) (hX k (Zv ho k hk) (by have:=hm k hk;omega) (Zbl ho i1 h1 k hk) (Zbl ho o1 h2 k hk))
 have lt:=h.lt;refine ⟨fun wx hx=>Za5 (Zz (nb h.j (fun x hx=>lt x (.inl hx)) (by decide) (by decide) wx hx)).1,fun wx hx=>Yc (Zz (nb h.r (fun x hx=>lt x (.inr (.inl hx))) (by decide) (by decide) wx hx)).1,fun wx hx=>Yc (Zz (nb h.t (fun x hx=>lt x (.inr (.inr (.inl hx)))) (by decide) (by decide) wx hx)).1,fun wx hx=>Zb4 (Zz (nb h.e (fun x hx=>lt x (.inr (.inr (.inr hx)))) (by decide) (by decide) wx hx)).1,⟨cs,i1,i2,fun k hk=>?_⟩,⟨ds,o1,o2,fun k hk=>?_⟩,h.aI,h.aO,xI,xO,(Zz h.j).2.2,(Zz h.r).2.2,hI,(Zz h.t).2.2,hO,(Zz h.e).2.2⟩
 ·obtain ⟨c0,c1⟩:=i3 k hk
  obtain ⟨o,hu⟩:=i4 k hk;have e:D.ins.getD k ([],0)=D.ins[k]:=by simp [hk]
  simp only [e] at o c1;obtain ⟨a,c,ev,hc,hm,hI,_⟩:=Zu o;have b1:=Zce i5 0 k (by omega) (by omega);have b2:=Zce i5 (k+1) D.ins.length (by omega) (by omega);have bI:=h.bI;have bO:=h.bO;refine ⟨a,c,by rw [c0,ev],c1,fun wx hx=>?_,hc,by simp only [maxLen] at hm;omega⟩;rw [ev] at o hu;exact Yc (Zz (Zi o fun x hx'=>hx.2 x (Zt o x hx') (hX x (by have:=Zv o x hx';omega) (by have:=hu x hx';omega) (by have:=Zv o x hx';omega) (by have:=Zv o x hx';omega)))).1
 ·have c0:=o3 k hk
  obtain ⟨o,hu⟩:=o4 k hk;have e:D.out.getD k []=D.out[k]:=by simp [hk]
  simp only [e] at o;obtain ⟨a,c,ev,hc,hm,hI,_⟩:=Zu o;have b1:=Zce o5 0 k (by omega) (by omega);have b2:=Zce o5 (k+1) D.out.length (by omega) (by omega);have bI:=h.bI;have bO:=h.bO;refine ⟨a,c,by rw [c0,ev],fun wx hx=>?_,hc,by simp only [maxLen] at hm;omega⟩;rw [ev] at o hu;exact Yc (Zz (Zi o fun x hx'=>hx.2 x (Zt o x hx') (hX x (by have:=Zv o x hx';omega) (by have:=hu x hx';omega) (by have:=Zv o x hx';omega) (by have:=Zv o x hx';omega)))).1
structure ClS (X:Nat→Prop) (w:World) (gA n:Nat) (Ds:Nat→Dom) (As:Nat→Yk) (gI gO:Nat→Nat):Prop where
 at_:∀ i,i<n→Qx w gA 0 i (Ds i) (As i)
 cl:∀ i,i<n→ClD X w (As i) (Ds i) (gI i) (gO i)
 nI:∀ i j,i<n→j<n→i≠j→gI i≠gI j∧gO i≠gO j
 nA:∀ i,i<n→gA≠gI i∧gA≠gO i
 nIO:∀ i j,i<n→j<n→gI i≠gO j
theorem ClS.keep {X:Nat→Prop} {Ds:Nat→Dom} {As:Nat→Yk} {gI gO:Nat→Nat} (h:ClS X w gA n Ds As gI gO) (hb:Below w.heap.size w w'):ClS X w' gA n Ds As gI gO:=
 ⟨fun i hi=>(h.at_ i hi).keep hb,fun i hi=>(h.cl i hi).keep hb,h.nI,h.nA,h.nIO⟩
theorem Qx.other {o i:Nat} (h:Qx w b o i D A) (hk:w'.heap[b]? = w.heap[b]?):Qx w' b o i D A:=by
 have e:∀ k,w'.cell? ⟨b,k,none⟩=w.cell? ⟨b,k,none⟩:=fun k=>World.cell?_of_block (w:=w) (a:=⟨b,k,none⟩) hk
 exact ⟨by rw [e];exact h.c0,by rw [e];exact h.c1,by rw [e];exact h.c2,by rw [e];exact h.c3,by rw [e];exact h.c4,by rw [e];exact h.c5,by rw [e];exact h.c6⟩
theorem Qx.like {o i:Nat} (h:Qx w b o i D A) (h0:E.jobs=D.jobs) (h1:E.rel=D.rel) (h2:E.nxt=D.nxt) (h3:E.ins.length=D.ins.length) (h4:E.tak=D.tak) (h5:E.out.length=D.out.length) (h6:E.evs=D.evs):Qx w b o i E A:=
 ⟨by rw [h0];exact h.c0,by rw [h1];exact h.c1,by rw [h2];exact h.c2,by rw [h3];exact h.c3,by rw [h4];exact h.c4,by rw [h5];exact h.c5,by rw [h6];exact h.c6⟩
theorem ClS.deliver {X:Nat→Prop} {Ds:Nat→Dom} {As:Nat→Yk} {gI gO:Nat→Nat} (h:ClS X w gA n Ds As gI gO) {f t:Nat} (hf:f<n) (ht:t<n) (hft:f≠t) (hc:c<(Ds t).ins.length) {lost:Int} (hV:∀ wx,Ext X w wx→Z4 wx a V) (hle:V.length≤cap) (hl:V.length≤9223372036854775807):
  ClS X (((w.setCell ⟨gI t,c*2,none⟩ (.slice a V.length cap)).setCell ⟨gI t,c*2+1,none⟩ (.int .i64 lost)).setCell ⟨gO f,c,none⟩ (.slice none 0 0)) gA n (Zct (Zct Ds t ⟨(Ds t).jobs,(Ds t).rel,(Ds t).nxt,(Ds t).ins.set c (V,lost),(Ds t).tak,(Ds t).out,(Ds t).evs⟩) f (Zgb (Ds f) c)) As gI gO∧Ext X w (((w.setCell ⟨gI t,c*2,none⟩ (.slice a V.length cap)).setCell ⟨gI t,c*2+1,none⟩ (.int .i64 lost)).setCell ⟨gO f,c,none⟩ (.slice none 0 0))∧(((w.setCell ⟨gI t,c*2,none⟩ (.slice a V.length cap)).setCell ⟨gI t,c*2+1,none⟩ (.int .i64 lost)).setCell ⟨gO f,c,none⟩ (.slice none 0 0)).heap[gA]? = w.heap[gA]? := by
 have xI:=(h.cl t ht).xI;have xO:=(h.cl f hf).xO;have hT:=(h.cl t ht).setIn hc hV hle hl (h.nIO t t ht ht) (lost:=lost);have x1:Ext X w ((w.setCell ⟨gI t,c*2,none⟩ (.slice a V.length cap)).setCell ⟨gI t,c*2+1,none⟩ (.int .i64 lost)):=(Ext.set w xI _ _).trans (Ext.set _ xI _ _);have k1:∀ k,k≠gI t→((w.setCell ⟨gI t,c*2,none⟩ (.slice a V.length cap)).setCell ⟨gI t,c*2+1,none⟩ (.int .i64 lost)).heap[k]? = w.heap[k]? := fun k hk=>by
  rw [Zd _ _ _ _ _ hk,Zd _ _ _ _ _ hk]
 generalize (w.setCell ⟨gI t,c*2,none⟩ (.slice a V.length cap)).setCell ⟨gI t,c*2+1,none⟩ (.int .i64 lost)=w1 at *
 have x2:Ext X w1 (w1.setCell ⟨gO f,c,none⟩ (.slice none 0 0)):=Ext.set _ xO _ _;have k2:∀ k,k≠gO f→(w1.setCell ⟨gO f,c,none⟩ (.slice none 0 0)).heap[k]? = w1.heap[k]? := fun k hk=>Zd _ _ _ _ _ hk
 have hF:ClD X w1 (As f) (Ds f) (gI f) (gO f):=(h.cl f hf).ext x1 (k1 _ (h.nI f t hf ht hft).1) (k1 _ (Ne.symm (h.nIO t f ht hf)));have a0:=hF.setOut (c:=c) (h.nIO f f hf hf);generalize hw2:w1.setCell ⟨gO f,c,none⟩ (.slice none 0 0)=w2 at *
 have kA:w2.heap[gA]? = w.heap[gA]? := (k2 gA (h.nA f hf).2).trans (k1 gA (h.nA t ht).1);refine ⟨⟨fun i hi=>?_,fun i hi=>?_,h.nI,h.nA,h.nIO⟩,x1.trans x2,kA⟩
 ·have:=(h.at_ i hi).other kA
  by_cases e:i=f
  ·subst e
   rw [Yb];exact this.like rfl rfl rfl rfl rfl (by simp [Zgb]) rfl
  ·rw [Z9 _ _ e]
   by_cases e':i=t
   ·subst e'
    rw [Yb];exact this.like rfl rfl rfl (by simp) rfl rfl rfl
   ·rw [Z9 _ _ e']
    exact this
 ·by_cases e:i=f
  ·subst e
   rw [Yb];exact a0
  ·rw [Z9 _ _ e]
   by_cases e':i=t
   ·subst e'
    rw [Yb];exact hT.ext x2 (k2 _ (h.nIO i f hi hf)) (k2 _ (h.nI i f hi hf e).2)
   ·rw [Z9 _ _ e']
    exact (h.cl i hi).ext (x1.trans x2) ((k2 _ (h.nIO i f hi hf)).trans (k1 _ (h.nI i t hi ht e').1)) ((k2 _ (h.nI i f hi hf e).2).trans (k1 _ (Ne.symm (h.nIO t i ht hi))))
theorem Zuo {X:Nat→Prop} {v:Value} {L:List Int} (h:w.ownsRow n0 3 1 v L.length (ivs L)) (hX:∀ k,n0≤k→¬ X k):∃ a c,v=.slice a L.length c∧(∀ wx,Ext X w wx→Z4 wx a L)∧L.length≤c∧L.length≤9223372036854775807:=by
 obtain ⟨a,c,ev,hc,hm,_⟩:=Zu h;refine ⟨a,c,ev,fun wx hx=>?_,hc,by simp only [maxLen] at hm;omega⟩;rw [ev] at h;exact Yc (Zz (Zi h fun x hx'=>hx.2 x (Zt h x hx') (hX x (Zv h x hx')))).1
def Shp (s v:Nat) (K:KT):Prop:=List.length K=s∧∀ l∈K,List.length l=v
theorem Shp.sp (h:Shp s v K) (hv:1≤v) (a:Qg):Shp s v (spK K a):=by
 unfold spK;split
 ·refine ⟨by rw [List.length_set];exact h.1,fun l hl=>?_⟩
  generalize Zad K a.2.1=p at *
  by_cases hp:p<List.length K
  ·rcases List.mem_or_eq_of_mem_set hl with hl|rfl
   ·exact h.2 l hl
   ·have e:K.getD p []=K[p]:=by simp [hp]
    have h1:=h.2 _ (List.getElem_mem hp);rw [e,Ze8 _ _ _ (by omega)];exact h1
  ·rw [List.set_eq_of_length_le (by omega)] at hl
   exact h.2 l hl
 ·exact h
theorem Shp.run (hv:1≤v) (C:Zm) (dn:Int) (L:List Qg) (te:Int):∀ (n:Nat) (D:Dom) (K:KT) (now:Int),Shp s v K→Shp s v (Zbq C dn L te n D K now).2
 | 0,D,K,now,h=>h
 | n+1,D,K,now,h=>by
  unfold Zbq;split
  ·refine Shp.run hv C dn L te n _ _ _ ?_
   unfold stK;split
   ·exact h.sp hv _
   ·exact h
  ·exact h
theorem Shp.empty (s v:Nat):Shp s v (Qb s v):=⟨by simp [Qb],fun l hl=>by rw [List.eq_of_mem_replicate hl];simp⟩
end Go.Proofs.YtejhccmclanlmaaGreatDoor
