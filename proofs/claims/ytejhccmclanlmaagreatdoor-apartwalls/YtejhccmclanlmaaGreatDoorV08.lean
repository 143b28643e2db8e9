/- Qb Qc -/
import Derived.Test.YtejhccmclanlmaaGreatDoorV05
set_option linter.all false
set_option maxRecDepth 100000
set_option maxHeartbeats 8000000
namespace Go.Proofs.YtejhccmclanlmaaGreatDoor
open Go.RowKit Go.Proofs.Tryz
variable {s:ByteArray} {k rb:Nat} {w w':World}
def Zvq (_:Unit) (v:Value) (_:World):Prop:=v=.tuple #[]
def Zyi (x:Int×Int) (v:Value) (_:World):Prop:=v=.agg #[.int .i64 x.1,.int .i64 x.2]
def Zxv (x:Int×Int×Int) (v:Value) (_:World):Prop:=v=.agg #[.int .i64 x.1,.int .i64 x.2.1,.int .i64 x.2.2]
def Zyf (x:Int×Int×Int×Int) (v:Value) (_:World):Prop:=v=.agg #[.int .i64 x.1,.int .i64 x.2.1,.int .i64 x.2.2.1,.int .i64 x.2.2.2]
theorem Zsq (rb:Nat) (s:ByteArray) (w:World) (hR:Rd w rb s 0) (hs:s.size≤200):
  Calls prog 107 #[.pointer (some ⟨rb,0,none⟩)] w (Zbz w rb s (Zgu (Zbg s) 0) Zvq):=by
 go_enter func107,ntmps107;go_wp2_with fail;refine (Jt rb s 0 w hR zl hs).mono ?_;rintro e w1 ⟨hg,⟨x,k1,v,hp,a1,rfl,⟨rfl,a3,a4⟩,a0⟩|⟨n,hp,rfl⟩⟩
 ·have HG:=hid hg
  have a2:k1=1:=by
   unfold p1 at hp
   split at hp
   ·simp at hp;omega
   ·simp at hp
  subst a2;have HP:=hid hp;have a5:w1.cell? ⟨rb,1,none⟩=some (.int .i64 1):=Zf.cell a0 1 _ rfl;clear hg hp;by_cases hx:x=67
  ·subst hx
   go_wp2;go_end0;exact ⟨HG.out,.inl ⟨(),1,_,by rw [Zgu,Zk HP.out];rfl,a1,rfl,rfl,a0⟩⟩
  ·have HX:=hid hx
   have a6:(x != 67)=true:=by simp [hx]
   clear hx;go_wp2;exact ⟨rfl,HG.out,.inr ⟨0,by rw [Zgu,Zk HP.out,if_neg HX.out],rfl⟩⟩
 ·exact ⟨rfl,hg,.inr ⟨n,by rw [Zgu,Yj hp],rfl⟩⟩
theorem Zw7 {B:List Int} {k1:Nat} {x:Int} (h:p1 B k=.ok (x,k1)):k1=k+1:=by
 unfold p1 at h
 split at h
 ·simp at h;omega
 ·simp at h
theorem Zei (m:Int) (rb:Nat) (s:ByteArray) (k:Nat) (w:World) (hR:Rd w rb s k) (hk:k≤s.size) (hs:s.size≤200):
  Calls prog 145 #[.pointer (some ⟨rb,0,none⟩),.int .i64 m] w (Zbz w rb s (Zig m (Zbg s) k) fun x v _=>v=.int .i64 x∧0≤x∧x≤m):=by
 go_enter func145,ntmps145;go_wp2_with fail;refine (Jt rb s k w hR hk hs).mono ?_;rintro e w1 ⟨hg,⟨x,k1,v,hp,a1,rfl,⟨rfl,a2,a4⟩,a0⟩|⟨n,hp,rfl⟩⟩
 ·have HG:=hid hg
  have a3:=Zw7 hp;subst a3;have HP:=hid hp;have a5:w1.cell? ⟨rb,1,none⟩=some (.int .i64 ((k:Int)+1)):=Zf.cell a0 1 _ rfl;clear hg hp;by_cases hx:x>m
  ·go_wp2
   exact ⟨rfl,HG.out,.inr ⟨k,by rw [Zig,Zk HP.out,if_neg (by omega)],rfl⟩⟩
  ·go_wp2
   refine bodyPost_ret (results_tmp rfl _ _ _) rfl ⟨HG.out,.inl ⟨x,k+1,_,by rw [Zig,Zk HP.out,if_pos (by omega)],a1,rfl,⟨rfl,a2,by omega⟩,a0⟩⟩
 ·exact ⟨rfl,hg,.inr ⟨n,by rw [Zig,Yj hp],rfl⟩⟩
theorem Zvv (rb:Nat) (s:ByteArray) (k:Nat) (w:World) (hR:Rd w rb s k) (hk:k≤s.size) (hs:s.size≤200):
  Calls prog 116 #[.pointer (some ⟨rb,0,none⟩)] w (Zbz w rb s (Zzd (Zbg s) k) Zvq):=by
 have HR:=hid hR;have a0:w.cell? ⟨rb,0,none⟩=some (.string s):=Zf.cell hR 0 _ rfl;have a1:w.cell? ⟨rb,1,none⟩=some (.int .i64 k):=Zf.cell hR 1 _ rfl;have a2:=Zf.lt hR;clear hR;by_cases hke:k<s.size
 ·go_enter func116,ntmps116
  go_wp2_with fail;go_quiet (fail)
  go_wp2;exact ⟨rfl,Zbr _ _ _,.inr ⟨_,by rw [Zzd,Zc9,if_pos hke],rfl⟩⟩
 ·go_enter func116,ntmps116
  go_wp2_with fail;go_quiet (fail)
  go_wp2;go_end0;exact ⟨Zbr _ _ _,.inl ⟨(),k,_,by rw [Zzd,Zc9,if_neg hke],hk,rfl,rfl,Zf.drewN HR.out _⟩⟩
theorem Rd.grownN (h:Rd w rb s k) (hb:Below w.heap.size w w'):Rd w' rb s k:=Zf.below h hb lr
theorem Zfy (row:Option Nat) (h:Below w.heap.size w w'):w.grownBy w' row:=⟨h.os,h.tape,h.output,h.size,fun k hk _=>h.block k hk⟩
theorem Y8 {row:Option Nat} (h:w.grownBy w' row) (b i:Nat) (v:Value) (hb:w.heap.size≤b):w.grownBy (w'.setCell ⟨b,i,none⟩ v) row:=
 ⟨h.os,h.tape,h.output,by simpa [World.setCell] using h.size,fun k h1 h2=>by rw [Below.heap_setCell _ _ _ _ (by show k≠b;omega)];exact h.block k h1 h2⟩
theorem Rd.set (h:Rd w rb s k) (b i:Nat) (v:Value) (hb:rb≠b):Rd (w.setCell ⟨b,i,none⟩ v) rb s k:=Zf.setOther h _ _ hb
theorem Zuy (rb:Nat) (s:ByteArray) (k:Nat) (w:World) (hR:Rd w rb s k) (hk:k≤s.size) (hs:s.size≤200):
  Calls prog 110 #[.pointer (some ⟨rb,0,none⟩)] w (Zbz w rb s (Zhn (Zbg s) k) Zyi):=by
 have q1:=Za w (.cells #[.int .i64 0,.int .i64 0] 106);have a1:=hid (Zfy (some rb) q1);have a3:=hid (hR.grownN q1);have ag:rb<w.heap.size:=Zf.lt hR;have a4:Hid (Zf (w.alloc (.cells #[.int .i64 0,.int .i64 0] 106)) w.heap.size 106 [.int .i64 0,.int .i64 0]):=Zc _ _ _ _ rfl;clear q1 hR;go_enter func110,ntmps110;go_wp2_with fail;refine (Jt rb s k _ a3 hk hs).mono ?_;rintro e w1 ⟨hg,⟨x,k1,v,hp,aa,rfl,⟨rfl,ah,ai⟩,a5⟩|⟨n,hp,rfl⟩⟩
 ·have a6:=hid hp
  have a2:=hid (Zr a1 hg);have a7:=hid (a4.out.grown' hg (by simp;omega));have a8:=hid a5;clear hg hp a1 a4 a3 a5;go_wp2_with fail;refine (Zjf rb s k1 w1 a8 aa hs).mono ?_;rintro e w2 ⟨hg,⟨y,k2,v,hp,ab,rfl,⟨rfl,aj,ak⟩,a9⟩|⟨n,hp,rfl⟩⟩
  ·have ac:=hid hp
   have ad:=hid (Zr a2 hg);have a0:=hid (a7.out.grown' hg (by simp;omega));have ae:=hid a9;clear hg hp a2 a7 a8 a9;have c0:=a0.out.cell 0 _ rfl;have f0:=a0.out.frozen 0;have c1:=a0.out.cell 1 _ rfl;have f1:=a0.out.frozen 1;have af:=hid ((a0.out.setCell 0 (.int .i64 x)).setCell 1 (.int .i64 y));go_wp2;obtain ⟨d0,d1⟩:=af.out.q2 rfl rfl;refine bodyPost_ret (v:=.agg #[.int .i64 x,.int .i64 y]) (by simp [results,results110,go_sem,d0,d1]) rfl ⟨(Y8 (Y8 ad.out _ _ _ lr) _ _ _ lr),.inl ⟨(x,y),k2,_,by rw [Zhn,Zk a6.out,Zk ac.out],ab,rfl,rfl,((ae.out.set _ _ _ (by omega)).set _ _ _ (by omega))⟩⟩
  ·exact ⟨rfl,Zr a2.out hg,.inr ⟨n,by rw [Zhn,Zk a6.out,Yj hp],rfl⟩⟩
 ·exact ⟨rfl,Zr a1.out hg,.inr ⟨n,by rw [Zhn,Yj hp],rfl⟩⟩
theorem Zm4 (rb:Nat) (s:ByteArray) (k:Nat) (w:World) (hR:Rd w rb s k) (hk:k≤s.size) (hs:s.size≤200):
  Calls prog 113 #[.pointer (some ⟨rb,0,none⟩)] w (Zbz w rb s (Zgf (Zbg s) k) Zxv):=by
 have q1:=Za w (.cells #[.int .i64 0,.int .i64 0,.int .i64 0] 99);have a1:=hid (Zfy (some rb) q1);have a5:=hid (hR.grownN q1);have am:rb<w.heap.size:=Zf.lt hR;have a6:Hid (Zf (w.alloc (.cells #[.int .i64 0,.int .i64 0,.int .i64 0] 99)) w.heap.size 99 [.int .i64 0,.int .i64 0,.int .i64 0]):=Zc _ _ _ _ rfl;clear q1 hR;go_enter func113,ntmps113;go_wp2_with fail;refine (Jt rb s k _ a5 hk hs).mono ?_;rintro e w1 ⟨hg,⟨x,k1,v,hp,af,rfl,⟨rfl,an,ao⟩,a7⟩|⟨n,hp,rfl⟩⟩
 ·have a2:=hid hp
  have a3:=hid (Zr a1 hg);have a8:=hid (a6.out.grown' hg (by simp;omega));have a9:=hid a7;clear hg hp a1 a6 a5 a7;go_wp2_with fail;refine (Jt rb s k1 w1 a9 af hs).mono ?_;rintro e w2 ⟨hg,⟨y,k2,v,hp,ag,rfl,⟨rfl,ap,aq⟩,aa⟩|⟨n,hp,rfl⟩⟩
  ·have ab:=hid hp
   have a4:=hid (Zr a3 hg);have ac:=hid (a8.out.grown' hg (by simp;omega));have ad:=hid aa;clear hg hp a3 a8 a9 aa;go_wp2_with fail;refine (Jt rb s k2 w2 ad ag hs).mono ?_;rintro e w3 ⟨hg,⟨z,k3,v,hp,ah,rfl,⟨rfl,ar,au⟩,ae⟩|⟨n,hp,rfl⟩⟩
   ·have ai:=hid hp
    have aj:=hid (Zr a4 hg);have a0:=hid (ac.out.grown' hg (by simp;omega));have ak:=hid ae;clear hg hp a4 ac ad ae;have c0:=a0.out.cell 0 _ rfl;have f0:=a0.out.frozen 0;have c1:=a0.out.cell 1 _ rfl;have f1:=a0.out.frozen 1;have c2:=a0.out.cell 2 _ rfl;have f2:=a0.out.frozen 2;have al:=hid (((a0.out.setCell 0 (.int .i64 x)).setCell 1 (.int .i64 y)).setCell 2 (.int .i64 z));go_wp2;obtain ⟨d0,d1,d2⟩:=al.out.q3 rfl rfl rfl;refine bodyPost_ret (v:=.agg #[.int .i64 x,.int .i64 y,.int .i64 z]) (by simp [results,results113,go_sem,d0,d1,d2]) rfl ⟨(Y8 (Y8 (Y8 aj.out _ _ _ lr) _ _ _ lr) _ _ _ lr),.inl ⟨(x,y,z),k3,_,by rw [Zgf,Zk a2.out,Zk ab.out,Zk ai.out],ah,rfl,rfl,(((ak.out.set _ _ _ (by omega)).set _ _ _ (by omega)).set _ _ _ (by omega))⟩⟩
   ·exact ⟨rfl,Zr a4.out hg,.inr ⟨n,by rw [Zgf,Zk a2.out,Zk ab.out,Yj hp],rfl⟩⟩
  ·exact ⟨rfl,Zr a3.out hg,.inr ⟨n,by rw [Zgf,Zk a2.out,Yj hp],rfl⟩⟩
 ·exact ⟨rfl,Zr a1.out hg,.inr ⟨n,by rw [Zgf,Yj hp],rfl⟩⟩
theorem Zu0 (rb:Nat) (s:ByteArray) (k:Nat) (w:World) (hR:Rd w rb s k) (hk:k≤s.size) (hs:s.size≤200):
  Calls prog 115 #[.pointer (some ⟨rb,0,none⟩)] w (Zbz w rb s (Zfq (Zbg s) k) Zyf):=by
 have q1:=Za w (.cells #[.int .i64 0,.int .i64 0,.int .i64 0,.int .i64 0] 108);have a2:=hid (Zfy (some rb) q1);have a7:=hid (hR.grownN q1);have au:rb<w.heap.size:=Zf.lt hR;have a8:Hid (Zf (w.alloc (.cells #[.int .i64 0,.int .i64 0,.int .i64 0,.int .i64 0] 108)) w.heap.size 108 [.int .i64 0,.int .i64 0,.int .i64 0,.int .i64 0]):=Zc _ _ _ _ rfl;clear q1 hR;go_enter func115,ntmps115;go_wp2_with fail;refine (Jt rb s k _ a7 hk hs).mono ?_;rintro e w1 ⟨hg,⟨x,k1,v,hp,ak,rfl,⟨rfl,aw,ax⟩,a9⟩|⟨n,hp,rfl⟩⟩
 ·have a1:=hid hp
  have a3:=hid (Zr a2 hg);have aa:=hid (a8.out.grown' hg (by simp;omega));have ab:=hid a9;clear hg hp a2 a8 a7 a9;go_wp2_with fail;refine (Zjf rb s k1 w1 ab ak hs).mono ?_;rintro e w2 ⟨hg,⟨y,k2,v,hp,al,rfl,⟨rfl,ay,az⟩,ac⟩|⟨n,hp,rfl⟩⟩
  ·have a4:=hid hp
   have a5:=hid (Zr a3 hg);have ad:=hid (aa.out.grown' hg (by simp;omega));have ae:=hid ac;clear hg hp a3 aa ab ac;go_wp2_with fail;refine (Zjf rb s k2 w2 ae al hs).mono ?_;rintro e w3 ⟨hg,⟨z,k3,v,hp,am,rfl,⟨rfl,b0,b1⟩,af⟩|⟨n,hp,rfl⟩⟩
   ·have ag:=hid hp
    have a6:=hid (Zr a5 hg);have ah:=hid (ad.out.grown' hg (by simp;omega));have ai:=hid af;clear hg hp a5 ad ae af;go_wp2_with fail;refine (Zjf rb s k3 w3 ai am hs).mono ?_;rintro e w4 ⟨hg,⟨u,k4,v,hp,an,rfl,⟨rfl,b2,b3⟩,aj⟩|⟨n,hp,rfl⟩⟩
    ·have ao:=hid hp
     have ap:=hid (Zr a6 hg);have a0:=hid (ah.out.grown' hg (by simp;omega));have aq:=hid aj;clear hg hp a6 ah ai aj;have c0:=a0.out.cell 0 _ rfl;have f0:=a0.out.frozen 0;have c1:=a0.out.cell 1 _ rfl;have f1:=a0.out.frozen 1;have c2:=a0.out.cell 2 _ rfl;have f2:=a0.out.frozen 2;have c3:=a0.out.cell 3 _ rfl;have f3:=a0.out.frozen 3;have ar:=hid ((((a0.out.setCell 0 (.int .i64 x)).setCell 1 (.int .i64 y)).setCell 2 (.int .i64 z)).setCell 3 (.int .i64 u));go_wp2;obtain ⟨d0,d1,d2,d3⟩:=ar.out.q4 rfl rfl rfl rfl;refine bodyPost_ret (v:=.agg #[.int .i64 x,.int .i64 y,.int .i64 z,.int .i64 u]) (by simp [results,results115,go_sem,d0,d1,d2,d3]) rfl ⟨(Y8 (Y8 (Y8 (Y8 ap.out _ _ _ lr) _ _ _ lr) _ _ _ lr) _ _ _ lr),.inl ⟨(x,y,z,u),k4,_,by rw [Zfq,Zk a1.out,Zk a4.out,Zk ag.out,Zk ao.out],an,rfl,rfl,((((aq.out.set _ _ _ (by omega)).set _ _ _ (by omega)).set _ _ _ (by omega)).set _ _ _ (by omega))⟩⟩
    ·exact ⟨rfl,Zr a6.out hg,.inr ⟨n,by rw [Zfq,Zk a1.out,Zk a4.out,Zk ag.out,Yj hp],rfl⟩⟩
   ·exact ⟨rfl,Zr a5.out hg,.inr ⟨n,by rw [Zfq,Zk a1.out,Zk a4.out,Yj hp],rfl⟩⟩
  ·exact ⟨rfl,Zr a3.out hg,.inr ⟨n,by rw [Zfq,Zk a1.out,Yj hp],rfl⟩⟩
 ·exact ⟨rfl,Zr a2.out hg,.inr ⟨n,by rw [Zfq,Yj hp],rfl⟩⟩
def Zuj {α:Type} (base:Nat) (t:TypeId) (sz:Nat) (fl:List α→List Value) (L:List α) (v:Value) (w:World):Prop:=w.ownsRow base t sz v L.length (fl L)
def flI (l:List Int):List Value:=l.flatMap fun x=>[.int .i64 x]
theorem Zty (l:List Int) (x:Int):flI (l++[x])=flI l++[.int .i64 x]:=by simp [flI]
theorem Tryz.info3r:(prog.info? 3).map (fun i=>(i.zero,i.size,i.bytes))=some (some (.int .i64 0),1,8):=by kernel_rfl
theorem Ztm (m:Int) (rb:Nat) (s:ByteArray) (k:Nat) (w:World) (hR:Rd w rb s k) (hk:k≤s.size) (hs:s.size≤200) (hm:m≤6):
  Calls prog 111 #[.pointer (some ⟨rb,0,none⟩),.int .i64 m,.func (.func 108) #[.pointer (some ⟨rb,0,none⟩)] #[]] w (Zbz w rb s (Zbf (Zbg s) m (p1 (Zbg s)) k) (Zuj w.heap.size 3 1 flI)):=by
 obtain ⟨i3,hi,hz,ak,al⟩:=Zbk Tryz.info3r;have au:rb<w.heap.size:=Zf.lt hR;have ac:=hid hR;clear hR;go_enter func111,ntmps111;go_wp2_with fail;refine (Zei m rb s k w ac hk hs).mono ?_;rintro e w1 ⟨hg,⟨n,k1,v,hp,am,rfl,⟨rfl,aw,ax⟩,ad⟩|⟨n,hp,rfl⟩⟩
 ·obtain ⟨N,rfl⟩:∃ N:Nat,n=N:=⟨n.toNat,by omega⟩
  have HP:=hid hp;have HG:=hid hg;have a3:=hid ad;clear hg hp ad ac;go_wp2;go_loopw [7,11] (fun v i wr=>∃ (q:Nat) (L:List Int) (j:Nat),q≤N∧i=.int .i64 q∧Jz (p1 (Zbg s)) q k1=.ok (L,j)∧j≤s.size∧wr.ownsRow w.heap.size 3 1 v L.length (flI L)∧Rd wr rb s j∧w.grownBy wr (some rb)) (fun v i _=>N-(intOf i).toNat)
  case atStart=>exact ⟨0,[],k1,zl,rfl,rfl,am,World.ownsRow_nil _ _ _ _,a3.out,HG.out⟩
  case round=>
   clear a3 HG;obtain ⟨q,L,j,hq,rfl,a7,hj,a2,ae,a8⟩:=hrel;have a9:=hid a7;have HO:=hid a2;have HG:=hid a8;have a3:=hid ae;have an:=a8.size;have hL:=Zef q a7;have aa:=a2.lt;clear a7 a2 a8 ae;by_cases hlt2:q<N
   ·go_wp2_with fail
    refine (Jt rb s j _ a3 hj hs).mono ?_;rintro e w2 ⟨a4,⟨x,j2,v,a6,ao,rfl,hv,af⟩|⟨n,a6,rfl⟩⟩
    ·obtain ⟨rfl,ay,az⟩:=hv
     have ap:=a4.size;have ag:Hid ((w2.alloc (.cells #[.int .i64 x] 3)).ownsRow w.heap.size 3 1 u7 L.length (flI L)):=by
      refine hid ((HO.out.kept a4 ?_).alloc _)
      cases hvo:u7.ownBlock with
      | none=>exact .inl rfl
      | some z=>right;have:=(aa z hvo).1;simp;omega
     have ah:Hid (∀ i u,[Value.int .i64 x][i]? = some u→(w2.alloc (.cells #[.int .i64 x] 3)).cell? ((⟨w2.heap.size,0,none⟩:Addr).add i)=some u):=
      Zf.news (X:=[Value.int .i64 x]) (Y:=[]) (t:=3) (Zc w2 _ [Value.int .i64 x] 3 rfl)
     have a5:=hid (Zr HG a4);have ai:=hid af;have aj:=hid a6;clear a4 af a6 HO HG a3;go_wp2_with (first
      | (at_builtin;refine wpList_append_lies _ rfl _ _ 23 rfl w.heap.size 3 i3 _ 1 8 underlying23 hi hz ak al rfl (by decide) _ _ _ rfl ag ⟨w2.heap.size,0,none⟩ 1 1 [.int .i64 x] rfl rfl ah ?c1 ?c2 ?c3 ?c4 ?c5 (w2.heap.size+1) ?c6 ?_))
     case c1=>intro u hu;simp only [List.mem_cons,List.not_mem_nil,or_false] at hu;rcases hu with rfl<;>rfl
     case c2=>omega
     case c3=>simp [maxLen];omega
     case c4=>omega
     case c5=>simp;omega
     case c6=>simp
     intro g ab w3 a1 a0 aq ar;have HF:Hid (∃ (q':Nat) (L':List Int) (j':Nat),q'≤N∧(q:Int)+1=q'∧Jz (p1 (Zbg s)) q' k1=.ok (L',j')∧j'≤s.size∧w3.ownsRow w.heap.size 3 1 (.slice (some ⟨g,0,none⟩) (q+1) ab) L'.length (flI L')∧Rd w3 rb s j'∧w.grownBy w3 (some rb)):=by
      refine hid ⟨q+1,L++[x],j2,by omega,by omega,?_,ao,?_,?_,?_⟩
      ·rw [Jz,Zk a9.out,Zk aj.out]
      ·have e:(L++[x]).length=q+1:=by rw [List.length_append,hL];rfl
       rw [Zty,e];exact a1
      ·refine Zf.grown' (Zf.alloc ai _) a0 (fun e=>?_)
       have:=(aa _ e.symm).1
       omega
      ·refine ⟨a0.os.trans a5.out.os,a0.tape.trans a5.out.tape,a0.output.trans a5.out.output,?_,fun b h1 h2=>?_⟩
       ·have:=a0.size
        simp at this;omega
       ·rw [a0.block b (by simp;omega) (fun e=>?_),Below.heap_alloc _ _ _ (by omega),a5.out.block b h1 h2]
        have:=(aa _ e.symm).1
        omega
     clear a1 a0 aq ag ah a5 ai aj;go_wp2;go_roundw
     case rel=>
      obtain ⟨q',L',j',h1,h2,h3⟩:=HF.out;exact ⟨q',L',j',h1,by rw [h2],h3⟩
     case measure=>simp [intOf];omega
    ·exact ⟨rfl,Zr HG.out a4,.inr ⟨n,by rw [Zbf,Zk HP.out];exact Zek (n:=q+1) (by simp;omega) (by rw [Jz,Zk a9.out,Yj a6]),rfl⟩⟩
   ·obtain rfl:q=N:=by omega
    go_wp2;refine bodyPost_ret (v:=u7) (by simp [results,results111,go_sem]) rfl ⟨HG.out,.inl ⟨L,j,u7,by rw [Zbf,Zk HP.out];simpa using a9.out,hj,rfl,HO.out,a3.out⟩⟩
 ·exact ⟨rfl,hg,.inr ⟨n,by rw [Zbf,Yj hp],rfl⟩⟩
def flS (l:List (Int×Int)):List Value:=l.flatMap fun x=>[.int .i64 x.1,.int .i64 x.2]
theorem Ztn (l:List (Int×Int)) (x:(Int×Int)):flS (l++[x])=flS l++[.int .i64 x.1,.int .i64 x.2]:=by simp [flS]
theorem Tryz.info106r:(prog.info? 106).map (fun i=>(i.zero,i.size,i.bytes))=some (some (.agg #[.int .i64 0,.int .i64 0]),2,16):=by kernel_rfl
theorem Zsk (m:Int) (rb:Nat) (s:ByteArray) (k:Nat) (w:World) (hR:Rd w rb s k) (hk:k≤s.size) (hs:s.size≤200) (hm:m≤6):
  Calls prog 109 #[.pointer (some ⟨rb,0,none⟩),.int .i64 m,.func (.func 110) #[.pointer (some ⟨rb,0,none⟩)] #[]] w (Zbz w rb s (Zbf (Zbg s) m (Zhn (Zbg s)) k) (Zuj w.heap.size 106 2 flS)):=by
 obtain ⟨ak,hi,hz,al,am⟩:=Zbk Tryz.info106r;have aw:rb<w.heap.size:=Zf.lt hR;have ac:=hid hR;clear hR;go_enter func109,ntmps109;go_wp2_with fail;refine (Zei m rb s k w ac hk hs).mono ?_;rintro e w1 ⟨hg,⟨n,k1,v,hp,an,rfl,⟨rfl,ax,ay⟩,ad⟩|⟨n,hp,rfl⟩⟩
 ·obtain ⟨N,rfl⟩:∃ N:Nat,n=N:=⟨n.toNat,by omega⟩
  have HP:=hid hp;have HG:=hid hg;have a3:=hid ad;clear hg hp ad ac;go_wp2;go_loopw [7,11] (fun v i wr=>∃ (q:Nat) (L:List (Int×Int)) (j:Nat),q≤N∧i=.int .i64 q∧Jz (Zhn (Zbg s)) q k1=.ok (L,j)∧j≤s.size∧wr.ownsRow w.heap.size 106 2 v L.length (flS L)∧Rd wr rb s j∧w.grownBy wr (some rb)) (fun v i _=>N-(intOf i).toNat)
  case atStart=>exact ⟨0,[],k1,zl,rfl,rfl,an,World.ownsRow_nil _ _ _ _,a3.out,HG.out⟩
  case round=>
   clear a3 HG;obtain ⟨q,L,j,hq,rfl,a7,hj,a2,ae,a8⟩:=hrel;have a9:=hid a7;have HO:=hid a2;have HG:=hid a8;have a3:=hid ae;have ao:=a8.size;have hL:=Zef q a7;have aa:=a2.lt;clear a7 a2 a8 ae;by_cases hlt2:q<N
   ·go_wp2_with fail
    refine (Zuy rb s j _ a3 hj hs).mono ?_;rintro e w2 ⟨a4,⟨x,j2,v,a6,ap,rfl,hv,af⟩|⟨n,a6,rfl⟩⟩
    ·obtain rfl:v=.agg #[.int .i64 x.1,.int .i64 x.2]:=hv
     have aq:=a4.size;have ag:Hid ((w2.alloc (.cells #[.int .i64 x.1,.int .i64 x.2] 106)).ownsRow w.heap.size 106 2 u7 L.length (flS L)):=by
      refine hid ((HO.out.kept a4 ?_).alloc _)
      cases hvo:u7.ownBlock with
      | none=>exact .inl rfl
      | some z=>right;have:=(aa z hvo).1;simp;omega
     have ah:Hid (∀ i u,[Value.int .i64 x.1,Value.int .i64 x.2][i]? = some u→(w2.alloc (.cells #[.int .i64 x.1,.int .i64 x.2] 106)).cell? ((⟨w2.heap.size,0,none⟩:Addr).add i)=some u):=
      Zf.news (X:=[Value.int .i64 x.1,Value.int .i64 x.2]) (Y:=[]) (t:=106) (Zc w2 _ [Value.int .i64 x.1,Value.int .i64 x.2] 106 rfl)
     have a5:=hid (Zr HG a4);have ai:=hid af;have aj:=hid a6;clear a4 af a6 HO HG a3;go_wp2_with (first
      | (at_builtin;refine wpList_append_lies _ rfl _ _ 22 rfl w.heap.size 106 ak _ 2 16 underlying22 hi hz al am rfl (by decide) _ _ _ rfl ag ⟨w2.heap.size,0,none⟩ 1 1 [.int .i64 x.1,.int .i64 x.2] rfl rfl ah ?c1 ?c2 ?c3 ?c4 ?c5 (w2.heap.size+1) ?c6 ?_))
     case c1=>intro u hu;simp only [List.mem_cons,List.not_mem_nil,or_false] at hu;rcases hu with rfl|rfl<;>rfl
     case c2=>omega
     case c3=>simp [maxLen];omega
     case c4=>omega
     case c5=>simp;omega
     case c6=>simp
     intro g ab w3 a1 a0 ar au;have HF:Hid (∃ (q':Nat) (L':List (Int×Int)) (j':Nat),q'≤N∧(q:Int)+1=q'∧Jz (Zhn (Zbg s)) q' k1=.ok (L',j')∧j'≤s.size∧w3.ownsRow w.heap.size 106 2 (.slice (some ⟨g,0,none⟩) (q+1) ab) L'.length (flS L')∧Rd w3 rb s j'∧w.grownBy w3 (some rb)):=by
      refine hid ⟨q+1,L++[x],j2,by omega,by omega,?_,ap,?_,?_,?_⟩
      ·rw [Jz,Zk a9.out,Zk aj.out]
      ·have e:(L++[x]).length=q+1:=by rw [List.length_append,hL];rfl
       rw [Ztn,e];exact a1
      ·refine Zf.grown' (Zf.alloc ai _) a0 (fun e=>?_)
       have:=(aa _ e.symm).1
       omega
      ·refine ⟨a0.os.trans a5.out.os,a0.tape.trans a5.out.tape,a0.output.trans a5.out.output,?_,fun b h1 h2=>?_⟩
       ·have:=a0.size
        simp at this;omega
       ·rw [a0.block b (by simp;omega) (fun e=>?_),Below.heap_alloc _ _ _ (by omega),a5.out.block b h1 h2]
        have:=(aa _ e.symm).1
        omega
     clear a1 a0 ar ag ah a5 ai aj;go_wp2;go_roundw
     case rel=>
      obtain ⟨q',L',j',h1,h2,h3⟩:=HF.out;exact ⟨q',L',j',h1,by rw [h2],h3⟩
     case measure=>simp [intOf];omega
    ·exact ⟨rfl,Zr HG.out a4,.inr ⟨n,by rw [Zbf,Zk HP.out];exact Zek (n:=q+1) (by simp;omega) (by rw [Jz,Zk a9.out,Yj a6]),rfl⟩⟩
   ·obtain rfl:q=N:=by omega
    go_wp2;refine bodyPost_ret (v:=u7) (by simp [results,results109,go_sem]) rfl ⟨HG.out,.inl ⟨L,j,u7,by rw [Zbf,Zk HP.out];simpa using a9.out,hj,rfl,HO.out,a3.out⟩⟩
 ·exact ⟨rfl,hg,.inr ⟨n,by rw [Zbf,Yj hp],rfl⟩⟩
def flC (l:List (Int×Int×Int)):List Value:=l.flatMap fun x=>[.int .i64 x.1,.int .i64 x.2.1,.int .i64 x.2.2]
theorem Ztg (l:List (Int×Int×Int)) (x:(Int×Int×Int)):flC (l++[x])=flC l++[.int .i64 x.1,.int .i64 x.2.1,.int .i64 x.2.2]:=by simp [flC]
theorem Tryz.info99r:(prog.info? 99).map (fun i=>(i.zero,i.size,i.bytes))=some (some (.agg #[.int .i64 0,.int .i64 0,.int .i64 0]),3,24):=by kernel_rfl
theorem Zq5 (m:Int) (rb:Nat) (s:ByteArray) (k:Nat) (w:World) (hR:Rd w rb s k) (hk:k≤s.size) (hs:s.size≤200) (hm:m≤6):
  Calls prog 112 #[.pointer (some ⟨rb,0,none⟩),.int .i64 m,.func (.func 113) #[.pointer (some ⟨rb,0,none⟩)] #[]] w (Zbz w rb s (Zbf (Zbg s) m (Zgf (Zbg s)) k) (Zuj w.heap.size 99 3 flC)):=by
 obtain ⟨ak,hi,hz,al,am⟩:=Zbk Tryz.info99r;have aw:rb<w.heap.size:=Zf.lt hR;have ac:=hid hR;clear hR;go_enter func112,ntmps112;go_wp2_with fail;refine (Zei m rb s k w ac hk hs).mono ?_;rintro e w1 ⟨hg,⟨n,k1,v,hp,an,rfl,⟨rfl,ax,ay⟩,ad⟩|⟨n,hp,rfl⟩⟩
 ·obtain ⟨N,rfl⟩:∃ N:Nat,n=N:=⟨n.toNat,by omega⟩
  have HP:=hid hp;have HG:=hid hg;have a3:=hid ad;clear hg hp ad ac;go_wp2;go_loopw [7,11] (fun v i wr=>∃ (q:Nat) (L:List (Int×Int×Int)) (j:Nat),q≤N∧i=.int .i64 q∧Jz (Zgf (Zbg s)) q k1=.ok (L,j)∧j≤s.size∧wr.ownsRow w.heap.size 99 3 v L.length (flC L)∧Rd wr rb s j∧w.grownBy wr (some rb)) (fun v i _=>N-(intOf i).toNat)
  case atStart=>exact ⟨0,[],k1,zl,rfl,rfl,an,World.ownsRow_nil _ _ _ _,a3.out,HG.out⟩
  case round=>
   clear a3 HG;obtain ⟨q,L,j,hq,rfl,a7,hj,a2,ae,a8⟩:=hrel;have a9:=hid a7;have HO:=hid a2;have HG:=hid a8;have a3:=hid ae;have ao:=a8.size;have hL:=Zef q a7;have aa:=a2.lt;clear a7 a2 a8 ae;by_cases hlt2:q<N
   ·go_wp2_with fail
    refine (Zm4 rb s j _ a3 hj hs).mono ?_;rintro e w2 ⟨a4,⟨x,j2,v,a6,ap,rfl,hv,af⟩|⟨n,a6,rfl⟩⟩
    ·obtain rfl:v=.agg #[.int .i64 x.1,.int .i64 x.2.1,.int .i64 x.2.2]:=hv
     have aq:=a4.size;have ag:Hid ((w2.alloc (.cells #[.int .i64 x.1,.int .i64 x.2.1,.int .i64 x.2.2] 99)).ownsRow w.heap.size 99 3 u7 L.length (flC L)):=by
      refine hid ((HO.out.kept a4 ?_).alloc _)
      cases hvo:u7.ownBlock with
      | none=>exact .inl rfl
      | some z=>right;have:=(aa z hvo).1;simp;omega
     have ah:Hid (∀ i u,[Value.int .i64 x.1,Value.int .i64 x.2.1,Value.int .i64 x.2.2][i]? = some u→(w2.alloc (.cells #[.int .i64 x.1,.int .i64 x.2.1,.int .i64 x.2.2] 99)).cell? ((⟨w2.heap.size,0,none⟩:Addr).add i)=some u):=
      Zf.news (X:=[Value.int .i64 x.1,Value.int .i64 x.2.1,Value.int .i64 x.2.2]) (Y:=[]) (t:=99) (Zc w2 _ [Value.int .i64 x.1,Value.int .i64 x.2.1,Value.int .i64 x.2.2] 99 rfl)
     have a5:=hid (Zr HG a4);have ai:=hid af;have aj:=hid a6;clear a4 af a6 HO HG a3;go_wp2_with (first
      | (at_builtin;refine wpList_append_lies _ rfl _ _ 24 rfl w.heap.size 99 ak _ 3 24 underlying24 hi hz al am rfl (by decide) _ _ _ rfl ag ⟨w2.heap.size,0,none⟩ 1 1 [.int .i64 x.1,.int .i64 x.2.1,.int .i64 x.2.2] rfl rfl ah ?c1 ?c2 ?c3 ?c4 ?c5 (w2.heap.size+1) ?c6 ?_))
     case c1=>intro u hu;simp only [List.mem_cons,List.not_mem_nil,or_false] at hu;rcases hu with rfl|rfl|rfl<;>rfl
     case c2=>omega
     case c3=>simp [maxLen];omega
     case c4=>omega
     case c5=>simp;omega
     case c6=>simp
     intro g ab w3 a1 a0 ar au;have HF:Hid (∃ (q':Nat) (L':List (Int×Int×Int)) (j':Nat),q'≤N∧(q:Int)+1=q'∧Jz (Zgf (Zbg s)) q' k1=.ok (L',j')∧j'≤s.size∧w3.ownsRow w.heap.size 99 3 (.slice (some ⟨g,0,none⟩) (q+1) ab) L'.length (flC L')∧Rd w3 rb s j'∧w.grownBy w3 (some rb)):=by
      refine hid ⟨q+1,L++[x],j2,by omega,by omega,?_,ap,?_,?_,?_⟩
      ·rw [Jz,Zk a9.out,Zk aj.out]
      ·have e:(L++[x]).length=q+1:=by rw [List.length_append,hL];rfl
       rw [Ztg,e];exact a1
      ·refine Zf.grown' (Zf.alloc ai _) a0 (fun e=>?_)
       have:=(aa _ e.symm).1
       omega
      ·refine ⟨a0.os.trans a5.out.os,a0.tape.trans a5.out.tape,a0.output.trans a5.out.output,?_,fun b h1 h2=>?_⟩
       ·have:=a0.size
        simp at this;omega
       ·rw [a0.block b (by simp;omega) (fun e=>?_),Below.heap_alloc _ _ _ (by omega),a5.out.block b h1 h2]
        have:=(aa _ e.symm).1
        omega
     clear a1 a0 ar ag ah a5 ai aj;go_wp2;go_roundw
     case rel=>
      obtain ⟨q',L',j',h1,h2,h3⟩:=HF.out;exact ⟨q',L',j',h1,by rw [h2],h3⟩
     case measure=>simp [intOf];omega
    ·exact ⟨rfl,Zr HG.out a4,.inr ⟨n,by rw [Zbf,Zk HP.out];exact Zek (n:=q+1) (by simp;omega) (by rw [Jz,Zk a9.out,Yj a6]),rfl⟩⟩
   ·obtain rfl:q=N:=by omega
    go_wp2;refine bodyPost_ret (v:=u7) (by simp [results,results112,go_sem]) rfl ⟨HG.out,.inl ⟨L,j,u7,by rw [Zbf,Zk HP.out];simpa using a9.out,hj,rfl,HO.out,a3.out⟩⟩
 ·exact ⟨rfl,hg,.inr ⟨n,by rw [Zbf,Yj hp],rfl⟩⟩
def flT (l:List (Int×Int×Int×Int)):List Value:=l.flatMap fun x=>[.int .i64 x.1,.int .i64 x.2.1,.int .i64 x.2.2.1,.int .i64 x.2.2.2]
theorem Ztj (l:List (Int×Int×Int×Int)) (x:(Int×Int×Int×Int)):flT (l++[x])=flT l++[.int .i64 x.1,.int .i64 x.2.1,.int .i64 x.2.2.1,.int .i64 x.2.2.2]:=by simp [flT]
theorem Tryz.info108r:(prog.info? 108).map (fun i=>(i.zero,i.size,i.bytes))=some (some (.agg #[.int .i64 0,.int .i64 0,.int .i64 0,.int .i64 0]),4,32):=by kernel_rfl
theorem Zr5 (m:Int) (rb:Nat) (s:ByteArray) (k:Nat) (w:World) (hR:Rd w rb s k) (hk:k≤s.size) (hs:s.size≤200) (hm:m≤6):
  Calls prog 114 #[.pointer (some ⟨rb,0,none⟩),.int .i64 m,.func (.func 115) #[.pointer (some ⟨rb,0,none⟩)] #[]] w (Zbz w rb s (Zbf (Zbg s) m (Zfq (Zbg s)) k) (Zuj w.heap.size 108 4 flT)):=by
 obtain ⟨ak,hi,hz,al,am⟩:=Zbk Tryz.info108r;have aw:rb<w.heap.size:=Zf.lt hR;have ac:=hid hR;clear hR;go_enter func114,ntmps114;go_wp2_with fail;refine (Zei m rb s k w ac hk hs).mono ?_;rintro e w1 ⟨hg,⟨n,k1,v,hp,an,rfl,⟨rfl,ax,ay⟩,ad⟩|⟨n,hp,rfl⟩⟩
 ·obtain ⟨N,rfl⟩:∃ N:Nat,n=N:=⟨n.toNat,by omega⟩
  have HP:=hid hp;have HG:=hid hg;have a3:=hid ad;clear hg hp ad ac;go_wp2;go_loopw [7,11] (fun v i wr=>∃ (q:Nat) (L:List (Int×Int×Int×Int)) (j:Nat),q≤N∧i=.int .i64 q∧Jz (Zfq (Zbg s)) q k1=.ok (L,j)∧j≤s.size∧wr.ownsRow w.heap.size 108 4 v L.length (flT L)∧Rd wr rb s j∧w.grownBy wr (some rb)) (fun v i _=>N-(intOf i).toNat)
  case atStart=>exact ⟨0,[],k1,zl,rfl,rfl,an,World.ownsRow_nil _ _ _ _,a3.out,HG.out⟩
  case round=>
   clear a3 HG;obtain ⟨q,L,j,hq,rfl,a7,hj,a2,ae,a8⟩:=hrel;have a9:=hid a7;have HO:=hid a2;have HG:=hid a8;have a3:=hid ae;have ao:=a8.size;have hL:=Zef q a7;have aa:=a2.lt;clear a7 a2 a8 ae;by_cases hlt2:q<N
   ·go_wp2_with fail
    refine (Zu0 rb s j _ a3 hj hs).mono ?_;rintro e w2 ⟨a4,⟨x,j2,v,a6,ap,rfl,hv,af⟩|⟨n,a6,rfl⟩⟩
    ·obtain rfl:v=.agg #[.int .i64 x.1,.int .i64 x.2.1,.int .i64 x.2.2.1,.int .i64 x.2.2.2]:=hv
     have aq:=a4.size;have ag:Hid ((w2.alloc (.cells #[.int .i64 x.1,.int .i64 x.2.1,.int .i64 x.2.2.1,.int .i64 x.2.2.2] 108)).ownsRow w.heap.size 108 4 u7 L.length (flT L)):=by
      refine hid ((HO.out.kept a4 ?_).alloc _)
      cases hvo:u7.ownBlock with
      | none=>exact .inl rfl
      | some z=>right;have:=(aa z hvo).1;simp;omega
     have ah:Hid (∀ i u,[Value.int .i64 x.1,Value.int .i64 x.2.1,Value.int .i64 x.2.2.1,Value.int .i64 x.2.2.2][i]? = some u→(w2.alloc (.cells #[.int .i64 x.1,.int .i64 x.2.1,.int .i64 x.2.2.1,.int .i64 x.2.2.2] 108)).cell? ((⟨w2.heap.size,0,none⟩:Addr).add i)=some u):=
      Zf.news (X:=[Value.int .i64 x.1,Value.int .i64 x.2.1,Value.int .i64 x.2.2.1,Value.int .i64 x.2.2.2]) (Y:=[]) (t:=108) (Zc w2 _ [Value.int .i64 x.1,Value.int .i64 x.2.1,Value.int .i64 x.2.2.1,Value.int .i64 x.2.2.2] 108 rfl)
     have a5:=hid (Zr HG a4);have ai:=hid af;have aj:=hid a6;clear a4 af a6 HO HG a3;go_wp2_with (first
      | (at_builtin;refine wpList_append_lies _ rfl _ _ 25 rfl w.heap.size 108 ak _ 4 32 underlying25 hi hz al am rfl (by decide) _ _ _ rfl ag ⟨w2.heap.size,0,none⟩ 1 1 [.int .i64 x.1,.int .i64 x.2.1,.int .i64 x.2.2.1,.int .i64 x.2.2.2] rfl rfl ah ?c1 ?c2 ?c3 ?c4 ?c5 (w2.heap.size+1) ?c6 ?_))
     case c1=>intro u hu;simp only [List.mem_cons,List.not_mem_nil,or_false] at hu;rcases hu with rfl|rfl|rfl|rfl<;>rfl
     case c2=>omega
     case c3=>simp [maxLen];omega
     case c4=>omega
     case c5=>simp;omega
     case c6=>simp
     intro g ab w3 a1 a0 ar au;have HF:Hid (∃ (q':Nat) (L':List (Int×Int×Int×Int)) (j':Nat),q'≤N∧(q:Int)+1=q'∧Jz (Zfq (Zbg s)) q' k1=.ok (L',j')∧j'≤s.size∧w3.ownsRow w.heap.size 108 4 (.slice (some ⟨g,0,none⟩) (q+1) ab) L'.length (flT L')∧Rd w3 rb s j'∧w.grownBy w3 (some rb)):=by
      refine hid ⟨q+1,L++[x],j2,by omega,by omega,?_,ap,?_,?_,?_⟩
      ·rw [Jz,Zk a9.out,Zk aj.out]
      ·have e:(L++[x]).length=q+1:=by rw [List.length_append,hL];rfl
       rw [Ztj,e];exact a1
      ·refine Zf.grown' (Zf.alloc ai _) a0 (fun e=>?_)
       have:=(aa _ e.symm).1
       omega
      ·refine ⟨a0.os.trans a5.out.os,a0.tape.trans a5.out.tape,a0.output.trans a5.out.output,?_,fun b h1 h2=>?_⟩
       ·have:=a0.size
        simp at this;omega
       ·rw [a0.block b (by simp;omega) (fun e=>?_),Below.heap_alloc _ _ _ (by omega),a5.out.block b h1 h2]
        have:=(aa _ e.symm).1
        omega
     clear a1 a0 ar ag ah a5 ai aj;go_wp2;go_roundw
     case rel=>
      obtain ⟨q',L',j',h1,h2,h3⟩:=HF.out;exact ⟨q',L',j',h1,by rw [h2],h3⟩
     case measure=>simp [intOf];omega
    ·exact ⟨rfl,Zr HG.out a4,.inr ⟨n,by rw [Zbf,Zk HP.out];exact Zek (n:=q+1) (by simp;omega) (by rw [Jz,Zk a9.out,Yj a6]),rfl⟩⟩
   ·obtain rfl:q=N:=by omega
    go_wp2;refine bodyPost_ret (v:=u7) (by simp [results,results114,go_sem]) rfl ⟨HG.out,.inl ⟨L,j,u7,by rw [Zbf,Zk HP.out];simpa using a9.out,hj,rfl,HO.out,a3.out⟩⟩
 ·exact ⟨rfl,hg,.inr ⟨n,by rw [Zbf,Yj hp],rfl⟩⟩
end Go.Proofs.YtejhccmclanlmaaGreatDoor
