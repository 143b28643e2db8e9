/- Qd Qe Qf -/
import Derived.Defers
import Derived.Recover
import Derived.Test.YtejhccmclanlmaaGreatDoorV08
set_option linter.all false
set_option maxRecDepth 100000
namespace Go.Proofs.YtejhccmclanlmaaGreatDoor
open Go.RowKit Go.Proofs.Tryz
variable {s:ByteArray} {V xs:List Value} {b base base' e k n rb size:Nat} {v v5 v6 v7 v8:Value} {w w' wr:World} {C:Zm}
theorem Zaq (h:w.ownsRow base e size v n xs) (hb:base'≤base):w.ownsRow base' e size v n xs:=by
 refine ⟨h.1,?_⟩;rcases h.2 with q|⟨g,a0,a1,e1,e2,r⟩
 ·exact .inl q
 ·exact .inr ⟨g,a0,a1,e1,by omega,r⟩
theorem Qe (h:w.ownsRow base e size v n xs) (hg:w.grownBy w' (some b)) (hb:b<base):w'.ownsRow base e size v n xs:=by
 refine h.kept hg ?_
 cases hv:v.ownBlock with
 | none=>exact .inl rfl
 | some g=>right;have:=(h.lt g hv).1;simp;omega
theorem Jj (h:w.ownsRow base e size v n xs) (i:Nat) (u:Value) (hb:b<base):(w.setCell ⟨b,i,none⟩ u).ownsRow base e size v n xs:=Qe h (Zo _ _ _ _) hb
structure Jh (w:World) (base:Nat) (v5 v6 v7 v8:Value) (C:Zm):Prop where
 sl:w.ownsRow base 106 2 v5 C.sl.length (flS C.sl)
 ow:w.ownsRow base 3 1 v6 C.ow.length (flI C.ow)
 ch:w.ownsRow base 99 3 v7 C.ch.length (flC C.ch)
 ta:w.ownsRow base 108 4 v8 C.ta.length (flT C.ta)
theorem Jh.kept (h:Jh w base v5 v6 v7 v8 C) (hg:w.grownBy w' (some b)) (hb:b<base):Jh w' base v5 v6 v7 v8 C:=
 ⟨Qe h.sl hg hb,Qe h.ow hg hb,Qe h.ch hg hb,Qe h.ta hg hb⟩
theorem Jh.set (h:Jh w base v5 v6 v7 v8 C) (i:Nat) (u:Value) (hb:b<base):Jh (w.setCell ⟨b,i,none⟩ u) base v5 v6 v7 v8 C:=h.kept (Zo _ _ _ _) hb
theorem Jh.mono (h:Jh w base v5 v6 v7 v8 C) (hb:base'≤base):Jh w base' v5 v6 v7 v8 C:=
 ⟨Zaq h.sl hb,Zaq h.ow hb,Zaq h.ch hb,Zaq h.ta hb⟩
theorem Jh.below (h:Jh w base v5 v6 v7 v8 C) (hb:Below w.heap.size w w'):Jh w' base v5 v6 v7 v8 C:=
 ⟨Zba h.sl hb,Zba h.ow hb,Zba h.ch hb,Zba h.ta hb⟩
theorem Zyb (l:List Int):∀ i (h:i<l.length),(flI l)[i*1]? = some (.int .i64 l[i]):=by
 induction l with
 | nil=>intro i h;simp at h
 | cons x l ih=>
  intro i h;have e:flI (x::l)=[.int .i64 x]++flI l:=by simp [flI]
  rw [e]
  cases i with
  | zero=>simp
  | succ i=>
   have:=ih i (by simpa using h)
   simp only [List.getElem_cons_succ];rw [List.getElem?_append_right (by simp)];simpa using this
theorem Zvo {l:List Int} (h:w.ownsRow base 3 1 v l.length (flI l)):∃ a c,v=.slice a l.length c∧Z4 w a l∧l.length≤c∧l.length≤9223372036854775807∧∀ b o,a=some ⟨b,o,none⟩→base≤b:=by
 obtain ⟨hl,hv⟩:=h;rcases hv with ⟨rfl,hn⟩|⟨g,a1,a3,rfl,hb,hg,a2,hm,a4,ht⟩
 ·exact ⟨none,0,by rw [hn],fun i hi=>by omega,by omega,by omega,fun b o e=>by simp at e⟩
 ·refine ⟨_,a1,rfl,fun i hi=>?_,a2,by simp only [maxLen] at hm;omega,fun b o e=>by simp at e;omega⟩
  have q:=Zyb l i hi;have a0:∀ j u,(flI l)[j]? = some u→w.cell? ⟨g,0+j,none⟩=some u:=by
   intro j u hu
   have:=World.ownsRow.cells (w:=w) (base:=base) (e:=3) (size:=1) (n:=l.length) (v:=.slice (some ⟨g,0,none⟩) l.length a1) ⟨hl,.inr ⟨g,a1,a3,rfl,hb,hg,a2,hm,a4,ht⟩⟩ (g:=g) rfl j u hu
   rw [Zvb] at this;rw [Nat.zero_add];exact this
  refine ⟨g,0,rfl,?_⟩
  have:=a0 _ _ q
  rwa [Nat.mul_one] at this
theorem Zx8 (l:List (Int×Int)):∀ i (h:i<l.length),(flS l)[i*2]? = some (.int .i64 l[i].1)∧(flS l)[i*2+1]? = some (.int .i64 l[i].2):=by
 induction l with
 | nil=>intro i h;simp at h
 | cons x l ih=>
  intro i h;have e:flS (x::l)=[.int .i64 x.1,.int .i64 x.2]++flS l:=by simp [flS]
  rw [e]
  cases i with
  | zero=>simp
  | succ i=>
   have:=ih i (by simpa using h)
   simp only [List.getElem_cons_succ];refine ⟨?_,?_⟩
   ·rw [List.getElem?_append_right (by simp;omega),← this.1]
    congr 1;simp;omega
   ·rw [List.getElem?_append_right (by simp;omega),← this.2]
    congr 1;simp;omega
theorem Zvm {l:List (Int×Int)} (h:w.ownsRow base 106 2 v l.length (flS l)):∃ a c,v=.slice a l.length c∧Qs w a l∧l.length≤c∧l.length≤9223372036854775807∧∀ b o,a=some ⟨b,o,none⟩→base≤b:=by
 obtain ⟨hl,hv⟩:=h;rcases hv with ⟨rfl,hn⟩|⟨g,a1,a3,rfl,hb,hg,a2,hm,a4,ht⟩
 ·exact ⟨none,0,by rw [hn],fun i hi=>by omega,by omega,by omega,fun b o e=>by simp at e⟩
 ·refine ⟨_,a1,rfl,fun i hi=>?_,a2,by simp only [maxLen] at hm;omega,fun b o e=>by simp at e;omega⟩
  have q:=Zx8 l i hi;have a0:∀ j u,(flS l)[j]? = some u→w.cell? ⟨g,0+j,none⟩=some u:=by
   intro j u hu
   have:=World.ownsRow.cells (w:=w) (base:=base) (e:=106) (size:=2) (n:=l.length) (v:=.slice (some ⟨g,0,none⟩) l.length a1) ⟨hl,.inr ⟨g,a1,a3,rfl,hb,hg,a2,hm,a4,ht⟩⟩ (g:=g) rfl j u hu
   rw [Zvb] at this;rw [Nat.zero_add];exact this
  exact ⟨g,0,rfl,a0 _ _ q.1,by rw [Nat.add_assoc];exact a0 _ _ q.2⟩
theorem Zzc (l:List (Int×Int×Int)):∀ i (h:i<l.length),(flC l)[i*3]? = some (.int .i64 l[i].1)∧(flC l)[i*3+1]? = some (.int .i64 l[i].2.1)∧(flC l)[i*3+2]? = some (.int .i64 l[i].2.2):=by
 induction l with
 | nil=>intro i h;simp at h
 | cons x l ih=>
  intro i h;have e:flC (x::l)=[.int .i64 x.1,.int .i64 x.2.1,.int .i64 x.2.2]++flC l:=by simp [flC]
  rw [e]
  cases i with
  | zero=>simp
  | succ i=>
   have:=ih i (by simpa using h)
   simp only [List.getElem_cons_succ];refine ⟨?_,?_,?_⟩
   ·rw [List.getElem?_append_right (by simp;omega),← this.1]
    congr 1;simp;omega
   ·rw [List.getElem?_append_right (by simp;omega),← this.2.1]
    congr 1;simp;omega
   ·rw [List.getElem?_append_right (by simp;omega),← this.2.2]
    congr 1;simp;omega
theorem Zvt {l:List (Int×Int×Int)} (h:w.ownsRow base 99 3 v l.length (flC l)):∃ a c,v=.slice a l.length c∧Yn w a l∧l.length≤c∧l.length≤9223372036854775807∧∀ b o,a=some ⟨b,o,none⟩→base≤b:=by
 obtain ⟨hl,hv⟩:=h;rcases hv with ⟨rfl,hn⟩|⟨g,a1,a3,rfl,hb,hg,a2,hm,a4,ht⟩
 ·exact ⟨none,0,by rw [hn],fun i hi=>by omega,by omega,by omega,fun b o e=>by simp at e⟩
 ·refine ⟨_,a1,rfl,fun i hi=>?_,a2,by simp only [maxLen] at hm;omega,fun b o e=>by simp at e;omega⟩
  have q:=Zzc l i hi;have a0:∀ j u,(flC l)[j]? = some u→w.cell? ⟨g,0+j,none⟩=some u:=by
   intro j u hu
   have:=World.ownsRow.cells (w:=w) (base:=base) (e:=99) (size:=3) (n:=l.length) (v:=.slice (some ⟨g,0,none⟩) l.length a1) ⟨hl,.inr ⟨g,a1,a3,rfl,hb,hg,a2,hm,a4,ht⟩⟩ (g:=g) rfl j u hu
   rw [Zvb] at this;rw [Nat.zero_add];exact this
  exact ⟨g,0,rfl,a0 _ _ q.1,by rw [Nat.add_assoc];exact a0 _ _ q.2.1,by rw [Nat.add_assoc];exact a0 _ _ q.2.2⟩
theorem Zy3 (l:List (Int×Int×Int×Int)):∀ i (h:i<l.length),(flT l)[i*4]? = some (.int .i64 l[i].1)∧(flT l)[i*4+1]? = some (.int .i64 l[i].2.1)∧(flT l)[i*4+2]? = some (.int .i64 l[i].2.2.1)∧(flT l)[i*4+3]? = some (.int .i64 l[i].2.2.2):=by
 induction l with
 | nil=>intro i h;simp at h
 | cons x l ih=>
  intro i h;have e:flT (x::l)=[.int .i64 x.1,.int .i64 x.2.1,.int .i64 x.2.2.1,.int .i64 x.2.2.2]++flT l:=by simp [flT]
  rw [e]
  cases i with
  | zero=>simp
  | succ i=>
   have:=ih i (by simpa using h)
   simp only [List.getElem_cons_succ];refine ⟨?_,?_,?_,?_⟩
   ·rw [List.getElem?_append_right (by simp;omega),← this.1]
    congr 1;simp;omega
   ·rw [List.getElem?_append_right (by simp;omega),← this.2.1]
    congr 1;simp;omega
   ·rw [List.getElem?_append_right (by simp;omega),← this.2.2.1]
    congr 1;simp;omega
   ·rw [List.getElem?_append_right (by simp;omega),← this.2.2.2]
    congr 1;simp;omega
theorem Zvi {l:List (Int×Int×Int×Int)} (h:w.ownsRow base 108 4 v l.length (flT l)):∃ a c,v=.slice a l.length c∧Jb w a l∧l.length≤c∧l.length≤9223372036854775807∧∀ b o,a=some ⟨b,o,none⟩→base≤b:=by
 obtain ⟨hl,hv⟩:=h;rcases hv with ⟨rfl,hn⟩|⟨g,a1,a3,rfl,hb,hg,a2,hm,a4,ht⟩
 ·exact ⟨none,0,by rw [hn],fun i hi=>by omega,by omega,by omega,fun b o e=>by simp at e⟩
 ·refine ⟨_,a1,rfl,fun i hi=>?_,a2,by simp only [maxLen] at hm;omega,fun b o e=>by simp at e;omega⟩
  have q:=Zy3 l i hi;have a0:∀ j u,(flT l)[j]? = some u→w.cell? ⟨g,0+j,none⟩=some u:=by
   intro j u hu
   have:=World.ownsRow.cells (w:=w) (base:=base) (e:=108) (size:=4) (n:=l.length) (v:=.slice (some ⟨g,0,none⟩) l.length a1) ⟨hl,.inr ⟨g,a1,a3,rfl,hb,hg,a2,hm,a4,ht⟩⟩ (g:=g) rfl j u hu
   rw [Zvb] at this;rw [Nat.zero_add];exact this
  exact ⟨g,0,rfl,a0 _ _ q.1,by rw [Nat.add_assoc];exact a0 _ _ q.2.1,by rw [Nat.add_assoc];exact a0 _ _ q.2.2.1,by rw [Nat.add_assoc];exact a0 _ _ q.2.2.2⟩
theorem Jh.conf (h:Jh w base v5 v6 v7 v8 C):∃ A:Mem,v5=.slice A.a5 C.sl.length A.c5∧v6=.slice A.a6 C.ow.length A.c6∧v7=.slice A.a7 C.ch.length A.c7∧v8=.slice A.a8 C.ta.length A.c8∧Z1 w A C:=by
 obtain ⟨a5,c5,e5,i5,k5,l5,_⟩:=Zvm h.sl;obtain ⟨a6,c6,e6,i6,k6,l6,_⟩:=Zvo h.ow;obtain ⟨a7,c7,e7,i7,k7,l7,_⟩:=Zvt h.ch;obtain ⟨a8,c8,e8,i8,k8,l8,_⟩:=Zvi h.ta;exact ⟨⟨a5,a6,a7,a8,c5,c6,c7,c8⟩,e5,e6,e7,e8,⟨i5,i6,i7,i8,l5,l6,l7,l8,k7⟩⟩
abbrev Zhu:List Value:=[.int .i64 0,.int .i64 0,.int .i64 0,.int .i64 0,.int .i64 0,.slice none 0 0,.slice none 0 0,.slice none 0 0,.slice none 0 0]
structure Cf (w wr:World) (rb:Nat) (s:ByteArray) (k:Nat) (V:List Value):Prop where
 rd:Rd wr rb s k
 g:w.grownBy wr (some rb)
 b2:Zf wr w.heap.size 27 Zhu
 b3:Zf wr (w.heap.size+1) 27 V
theorem Cf.call {w1:World} {k1:Nat} (h:Cf w wr rb s k V) (hlt:rb<w.heap.size) (hg:wr.grownBy w1 (some rb)) (hR:Rd w1 rb s k1):Cf w w1 rb s k1 V:=
 ⟨hR,Zr h.g hg,h.b2.grown' hg (by simp;omega),h.b3.grown' hg (by simp;omega)⟩
theorem Cf.set (h:Cf w wr rb s k V) (hlt:rb<w.heap.size) (i:Nat) (v:Value):Cf w (wr.setCell ⟨w.heap.size+1,i,none⟩ v) rb s k (V.set i v):=
 ⟨h.rd.set _ _ _ (by omega),Y8 h.g _ _ _ (by omega),h.b2.setOther _ _ (by show w.heap.size≠w.heap.size+1;omega),h.b3.setCell i v⟩
theorem Cf.lt (h:Cf w wr rb s k V):w.heap.size+2≤wr.heap.size:=h.b3.lt
def Zom (base:Nat) (C:Zm) (v:Value) (w:World):Prop:=∃ v5 v6 v7 v8,v=.agg #[.int .i64 C.s,.int .i64 C.w,.int .i64 C.d,.int .i64 C.p,.int .i64 C.q,v5,v6,v7,v8]∧Jh w base v5 v6 v7 v8 C
set_option maxHeartbeats 2000000 in
theorem Zpv (rb:Nat) (s:ByteArray) (w:World) (hR:Rd w rb s 0) (hs:s.size≤200):
  Calls prog 79 #[.pointer (some ⟨rb,0,none⟩)] w (Zbz w rb s (Zcc (Zbg s)) (Zom (w.heap.size+2))):=by
 have bm:∀ (fn:Fn) (first cap:Array Value) (w:World),(Instr.makeFunc fn first cap).run prog w=.ok (.func fn first cap) w:=fun _ _ _ _=>rfl
 have a2:rb<w.heap.size:=Zf.lt hR;have C0:Hid (Cf w ((w.alloc (.cells #[.int .i64 0,.int .i64 0,.int .i64 0,.int .i64 0,.int .i64 0,.slice none 0 0,.slice none 0 0,.slice none 0 0,.slice none 0 0] 27)).alloc (.cells #[.int .i64 0,.int .i64 0,.int .i64 0,.int .i64 0,.int .i64 0,.slice none 0 0,.slice none 0 0,.slice none 0 0,.slice none 0 0] 27)) rb s 0 Zhu):=by
  have q1:=Za w (.cells #[.int .i64 0,.int .i64 0,.int .i64 0,.int .i64 0,.int .i64 0,.slice none 0 0,.slice none 0 0,.slice none 0 0,.slice none 0 0] 27);have q2:=Za (w.alloc (.cells #[.int .i64 0,.int .i64 0,.int .i64 0,.int .i64 0,.int .i64 0,.slice none 0 0,.slice none 0 0,.slice none 0 0,.slice none 0 0] 27)) (.cells #[.int .i64 0,.int .i64 0,.int .i64 0,.int .i64 0,.int .i64 0,.slice none 0 0,.slice none 0 0,.slice none 0 0,.slice none 0 0] 27);exact hid ⟨(hR.grownN q1).grownN q2,Zfy _ (Zb q1 q2),(Zc w _ Zhu 27 rfl).alloc _,Zc _ _ Zhu 27 (by simp)⟩
 clear hR;go_enter func79,ntmps79;go_wp2_with fail;refine (Zsq rb s _ C0.out.rd hs).mono ?_;rintro e w1 ⟨hg,⟨x0,k1,v,hp,au,rfl,rfl,hR⟩|⟨n,hp,rfl⟩⟩
 ·have aa:=hid hp
  have C1:=hid (C0.out.call a2 hg hR);clear hg hp hR C0;go_wp2_with fail;refine (Jt rb s k1 _ C1.out.rd au hs).mono ?_;rintro e w2 ⟨hg,⟨xs,k2,v,hp,aw,rfl,⟨rfl,ax,ay⟩,hR⟩|⟨n,hp,rfl⟩⟩
  ·have ac:=hid hp
   have C2:=hid (C1.out.call a2 hg hR);clear hg hp hR C1;go_wp2_with fail;refine (Jt rb s k2 _ C2.out.rd aw hs).mono ?_;rintro e w3 ⟨hg,⟨xw,k3,v,hp,az,rfl,⟨rfl,b0,b1⟩,hR⟩|⟨n,hp,rfl⟩⟩
   ·have ad:=hid hp
    have C3:=hid (C2.out.call a2 hg hR);clear hg hp hR C2;go_wp2_with fail;refine (Jt rb s k3 _ C3.out.rd az hs).mono ?_;rintro e w4 ⟨hg,⟨xd,k4,v,hp,b4,rfl,⟨rfl,b5,b6⟩,hR⟩|⟨n,hp,rfl⟩⟩
    ·have ae:=hid hp
     have C4:=hid (C3.out.call a2 hg hR);clear hg hp hR C3;have c0:=C4.out.b3.cell 0 _ rfl;have f0:=C4.out.b3.frozen 0;have c1:=C4.out.b3.cell 1 _ rfl;have f1:=C4.out.b3.frozen 1;have c2:=C4.out.b3.cell 2 _ rfl;have f2:=C4.out.b3.frozen 2;have c3:=C4.out.b3.cell 3 _ rfl;have f3:=C4.out.b3.frozen 3;have c4:=C4.out.b3.cell 4 _ rfl;have f4:=C4.out.b3.frozen 4;have c5:=C4.out.b3.cell 5 _ rfl;have f5:=C4.out.b3.frozen 5;have c6:=C4.out.b3.cell 6 _ rfl;have f6:=C4.out.b3.frozen 6;have c7:=C4.out.b3.cell 7 _ rfl;have f7:=C4.out.b3.frozen 7;have c8:=C4.out.b3.cell 8 _ rfl;have f8:=C4.out.b3.frozen 8;have C5:=hid ((((C4.out.set a2 0 (.int .i64 xs)).set a2 1 (.int .i64 xw)).set a2 2 (.int .i64 xd)));go_wp2_with fail;refine (Jt rb s k4 _ C5.out.rd b4 hs).mono ?_;rintro e w5 ⟨hg,⟨xp,k5,v,hp,b7,rfl,⟨rfl,b8,b9⟩,hR⟩|⟨n,hp,rfl⟩⟩
     ·have af:=hid hp
      have C6:=hid (C5.out.call a2 hg hR);clear hg hp hR C5;clear c0 c1 c2 c3 c4 c5 c6 c7 c8 f0 f1 f2 f3 f4 f5 f6 f7 f8;go_wp2_with fail;refine (Jt rb s k5 _ C6.out.rd b7 hs).mono ?_;rintro e w6 ⟨hg,⟨xq,k6,v,hp,ba,rfl,⟨rfl,bb,bc⟩,hR⟩|⟨n,hp,rfl⟩⟩
      ·have ag:=hid hp
       have C7:=hid (C6.out.call a2 hg hR);clear hg hp hR C6;have c0:=C7.out.b3.cell 0 _ rfl;have f0:=C7.out.b3.frozen 0;have c1:=C7.out.b3.cell 1 _ rfl;have f1:=C7.out.b3.frozen 1;have c2:=C7.out.b3.cell 2 _ rfl;have f2:=C7.out.b3.frozen 2;have c3:=C7.out.b3.cell 3 _ rfl;have f3:=C7.out.b3.frozen 3;have c4:=C7.out.b3.cell 4 _ rfl;have f4:=C7.out.b3.frozen 4;have c5:=C7.out.b3.cell 5 _ rfl;have f5:=C7.out.b3.frozen 5;have c6:=C7.out.b3.cell 6 _ rfl;have f6:=C7.out.b3.frozen 6;have c7:=C7.out.b3.cell 7 _ rfl;have f7:=C7.out.b3.frozen 7;have c8:=C7.out.b3.cell 8 _ rfl;have f8:=C7.out.b3.frozen 8;have C8:=hid (((C7.out.set a2 3 (.int .i64 xp)).set a2 4 (.int .i64 xq)));go_wp2_with fail;have ab:=C8.out.lt;refine (Zsk 6 rb s k6 _ C8.out.rd ba hs (by omega)).mono ?_;rintro e w7 ⟨hg,⟨sl,k7,v,hp,bd,rfl,a1,hR⟩|⟨n,hp,rfl⟩⟩
       ·have ah:=hid hp
        have C9:=hid (C8.out.call a2 hg hR);clear hg hp hR C8;clear c0 c1 c2 c3 c4 c5 c6 c7 c8 f0 f1 f2 f3 f4 f5 f6 f7 f8;have R5:Hid (w7.ownsRow (w.heap.size+2) 106 2 v sl.length (flS sl)):=hid (Zaq a1 ab);clear a1 ab;obtain ⟨a5,q5,rfl,_⟩:=Zvm R5.out;have c0:=C9.out.b3.cell 0 _ rfl;have f0:=C9.out.b3.frozen 0;have c1:=C9.out.b3.cell 1 _ rfl;have f1:=C9.out.b3.frozen 1;have c2:=C9.out.b3.cell 2 _ rfl;have f2:=C9.out.b3.frozen 2;have c3:=C9.out.b3.cell 3 _ rfl;have f3:=C9.out.b3.frozen 3;have c4:=C9.out.b3.cell 4 _ rfl;have f4:=C9.out.b3.frozen 4;have c5:=C9.out.b3.cell 5 _ rfl;have f5:=C9.out.b3.frozen 5;have c6:=C9.out.b3.cell 6 _ rfl;have f6:=C9.out.b3.frozen 6;have c7:=C9.out.b3.cell 7 _ rfl;have f7:=C9.out.b3.frozen 7;have c8:=C9.out.b3.cell 8 _ rfl;have f8:=C9.out.b3.frozen 8;replace R5:=hid (Jj R5.out 5 (.slice a5 sl.length q5) (b:=w.heap.size+1) (by omega));have ai:=hid ((C9.out.set a2 5 (.slice a5 sl.length q5)));go_wp2_with fail;have ab:=ai.out.lt;refine (Ztm 4 rb s k7 _ ai.out.rd bd hs (by omega)).mono ?_;rintro e w8 ⟨hg,⟨ow,k8,v,hp,be,rfl,a1,hR⟩|⟨n,hp,rfl⟩⟩
        ·have am:=hid hp
         replace R5:=hid (Qe R5.out hg (by omega));have a3:=hid (ai.out.call a2 hg hR);clear hg hp hR ai;clear c0 c1 c2 c3 c4 c5 c6 c7 c8 f0 f1 f2 f3 f4 f5 f6 f7 f8;have R6:Hid (w8.ownsRow (w.heap.size+2) 3 1 v ow.length (flI ow)):=hid (Zaq a1 ab);clear a1 ab;obtain ⟨a6,q6,rfl,_⟩:=Zvo R6.out;have c0:=a3.out.b3.cell 0 _ rfl;have f0:=a3.out.b3.frozen 0;have c1:=a3.out.b3.cell 1 _ rfl;have f1:=a3.out.b3.frozen 1;have c2:=a3.out.b3.cell 2 _ rfl;have f2:=a3.out.b3.frozen 2;have c3:=a3.out.b3.cell 3 _ rfl;have f3:=a3.out.b3.frozen 3;have c4:=a3.out.b3.cell 4 _ rfl;have f4:=a3.out.b3.frozen 4;have c5:=a3.out.b3.cell 5 _ rfl;have f5:=a3.out.b3.frozen 5;have c6:=a3.out.b3.cell 6 _ rfl;have f6:=a3.out.b3.frozen 6;have c7:=a3.out.b3.cell 7 _ rfl;have f7:=a3.out.b3.frozen 7;have c8:=a3.out.b3.cell 8 _ rfl;have f8:=a3.out.b3.frozen 8;replace R5:=hid (Jj R5.out 6 (.slice a6 ow.length q6) (b:=w.heap.size+1) (by omega));replace R6:=hid (Jj R6.out 6 (.slice a6 ow.length q6) (b:=w.heap.size+1) (by omega));have aj:=hid ((a3.out.set a2 6 (.slice a6 ow.length q6)));go_wp2_with fail;have ab:=aj.out.lt;refine (Zq5 4 rb s k8 _ aj.out.rd be hs (by omega)).mono ?_;rintro e w9 ⟨hg,⟨ch,k9,v,hp,bf,rfl,a1,hR⟩|⟨n,hp,rfl⟩⟩
         ·have ao:=hid hp
          replace R5:=hid (Qe R5.out hg (by omega));replace R6:=hid (Qe R6.out hg (by omega));have a4:=hid (aj.out.call a2 hg hR);clear hg hp hR aj;clear c0 c1 c2 c3 c4 c5 c6 c7 c8 f0 f1 f2 f3 f4 f5 f6 f7 f8;have R7:Hid (w9.ownsRow (w.heap.size+2) 99 3 v ch.length (flC ch)):=hid (Zaq a1 ab);clear a1 ab;obtain ⟨a7,q7,rfl,_⟩:=Zvt R7.out;have c0:=a4.out.b3.cell 0 _ rfl;have f0:=a4.out.b3.frozen 0;have c1:=a4.out.b3.cell 1 _ rfl;have f1:=a4.out.b3.frozen 1;have c2:=a4.out.b3.cell 2 _ rfl;have f2:=a4.out.b3.frozen 2;have c3:=a4.out.b3.cell 3 _ rfl;have f3:=a4.out.b3.frozen 3;have c4:=a4.out.b3.cell 4 _ rfl;have f4:=a4.out.b3.frozen 4;have c5:=a4.out.b3.cell 5 _ rfl;have f5:=a4.out.b3.frozen 5;have c6:=a4.out.b3.cell 6 _ rfl;have f6:=a4.out.b3.frozen 6;have c7:=a4.out.b3.cell 7 _ rfl;have f7:=a4.out.b3.frozen 7;have c8:=a4.out.b3.cell 8 _ rfl;have f8:=a4.out.b3.frozen 8;replace R5:=hid (Jj R5.out 7 (.slice a7 ch.length q7) (b:=w.heap.size+1) (by omega));replace R6:=hid (Jj R6.out 7 (.slice a7 ch.length q7) (b:=w.heap.size+1) (by omega));replace R7:=hid (Jj R7.out 7 (.slice a7 ch.length q7) (b:=w.heap.size+1) (by omega));have ak:=hid ((a4.out.set a2 7 (.slice a7 ch.length q7)));go_wp2_with fail;have ab:=ak.out.lt;refine (Zr5 6 rb s k9 _ ak.out.rd bf hs (by omega)).mono ?_;rintro e bg ⟨hg,⟨ta,bh,v,hp,ap,rfl,a1,hR⟩|⟨n,hp,rfl⟩⟩
          ·have al:=hid hp
           replace R5:=hid (Qe R5.out hg (by omega));replace R6:=hid (Qe R6.out hg (by omega));replace R7:=hid (Qe R7.out hg (by omega));have a9:=hid (ak.out.call a2 hg hR);clear hg hp hR ak;clear c0 c1 c2 c3 c4 c5 c6 c7 c8 f0 f1 f2 f3 f4 f5 f6 f7 f8;have R8:Hid (bg.ownsRow (w.heap.size+2) 108 4 v ta.length (flT ta)):=hid (Zaq a1 ab);clear a1 ab;obtain ⟨a8,q8,rfl,_⟩:=Zvi R8.out;have c0:=a9.out.b3.cell 0 _ rfl;have f0:=a9.out.b3.frozen 0;have c1:=a9.out.b3.cell 1 _ rfl;have f1:=a9.out.b3.frozen 1;have c2:=a9.out.b3.cell 2 _ rfl;have f2:=a9.out.b3.frozen 2;have c3:=a9.out.b3.cell 3 _ rfl;have f3:=a9.out.b3.frozen 3;have c4:=a9.out.b3.cell 4 _ rfl;have f4:=a9.out.b3.frozen 4;have c5:=a9.out.b3.cell 5 _ rfl;have f5:=a9.out.b3.frozen 5;have c6:=a9.out.b3.cell 6 _ rfl;have f6:=a9.out.b3.frozen 6;have c7:=a9.out.b3.cell 7 _ rfl;have f7:=a9.out.b3.frozen 7;have c8:=a9.out.b3.cell 8 _ rfl;have f8:=a9.out.b3.frozen 8;replace R5:=hid (Jj R5.out 8 (.slice a8 ta.length q8) (b:=w.heap.size+1) (by omega));replace R6:=hid (Jj R6.out 8 (.slice a8 ta.length q8) (b:=w.heap.size+1) (by omega));replace R7:=hid (Jj R7.out 8 (.slice a8 ta.length q8) (b:=w.heap.size+1) (by omega));replace R8:=hid (Jj R8.out 8 (.slice a8 ta.length q8) (b:=w.heap.size+1) (by omega));have an:=hid ((a9.out.set a2 8 (.slice a8 ta.length q8)));go_wp2_with fail;refine (Zvv rb s bh _ an.out.rd ap hs).mono ?_;rintro e bi ⟨hg,⟨x9,bj,v,hp,aq,rfl,rfl,hR⟩|⟨n,hp,rfl⟩⟩
           ·have ar:=hid hp
            replace R5:=hid (Qe R5.out hg (by omega));replace R6:=hid (Qe R6.out hg (by omega));replace R7:=hid (Qe R7.out hg (by omega));replace R8:=hid (Qe R8.out hg (by omega));have a0:=hid (an.out.call a2 hg hR);clear hg hp hR an;clear c0 c1 c2 c3 c4 c5 c6 c7 c8 f0 f1 f2 f3 f4 f5 f6 f7 f8;have c0:=a0.out.b3.cell 0 _ rfl;have f0:=a0.out.b3.frozen 0;have c1:=a0.out.b3.cell 1 _ rfl;have f1:=a0.out.b3.frozen 1;have c2:=a0.out.b3.cell 2 _ rfl;have f2:=a0.out.b3.frozen 2;have c3:=a0.out.b3.cell 3 _ rfl;have f3:=a0.out.b3.frozen 3;have c4:=a0.out.b3.cell 4 _ rfl;have f4:=a0.out.b3.frozen 4;have c5:=a0.out.b3.cell 5 _ rfl;have f5:=a0.out.b3.frozen 5;have c6:=a0.out.b3.cell 6 _ rfl;have f6:=a0.out.b3.frozen 6;have c7:=a0.out.b3.cell 7 _ rfl;have f7:=a0.out.b3.frozen 7;have c8:=a0.out.b3.cell 8 _ rfl;have f8:=a0.out.b3.frozen 8;have HC:Hid (Jh bi (w.heap.size+2) (.slice a5 sl.length q5) (.slice a6 ow.length q6) (.slice a7 ch.length q7) (.slice a8 ta.length q8) ⟨xs,xw,xd,xp,xq,sl,ow,ch,ta⟩):=hid ⟨R5.out,R6.out,R7.out,R8.out⟩;have bk:=hid (((((((((HC.out.set 0 (.int .i64 xs) (b:=w.heap.size) (by omega)).set 1 (.int .i64 xw) (b:=w.heap.size) (by omega)).set 2 (.int .i64 xd) (b:=w.heap.size) (by omega)).set 3 (.int .i64 xp) (b:=w.heap.size) (by omega)).set 4 (.int .i64 xq) (b:=w.heap.size) (by omega)).set 5 (.slice a5 sl.length q5) (b:=w.heap.size) (by omega)).set 6 (.slice a6 ow.length q6) (b:=w.heap.size) (by omega)).set 7 (.slice a7 ch.length q7) (b:=w.heap.size) (by omega)).set 8 (.slice a8 ta.length q8) (b:=w.heap.size) (by omega));have HB:=hid (((((((((a0.out.b2.setCell 0 (.int .i64 xs)).setCell 1 (.int .i64 xw)).setCell 2 (.int .i64 xd)).setCell 3 (.int .i64 xp)).setCell 4 (.int .i64 xq)).setCell 5 (.slice a5 sl.length q5)).setCell 6 (.slice a6 ow.length q6)).setCell 7 (.slice a7 ch.length q7)).setCell 8 (.slice a8 ta.length q8));have e0:=a0.out.b2.cell 0 _ rfl;have z0:=a0.out.b2.frozen 0;have e1:=a0.out.b2.cell 1 _ rfl;have z1:=a0.out.b2.frozen 1;have e2:=a0.out.b2.cell 2 _ rfl;have z2:=a0.out.b2.frozen 2;have e3:=a0.out.b2.cell 3 _ rfl;have z3:=a0.out.b2.frozen 3;have e4:=a0.out.b2.cell 4 _ rfl;have z4:=a0.out.b2.frozen 4;have e5:=a0.out.b2.cell 5 _ rfl;have z5:=a0.out.b2.frozen 5;have e6:=a0.out.b2.cell 6 _ rfl;have z6:=a0.out.b2.frozen 6;have e7:=a0.out.b2.cell 7 _ rfl;have z7:=a0.out.b2.frozen 7;have e8:=a0.out.b2.cell 8 _ rfl;have z8:=a0.out.b2.frozen 8;have HG:=hid (Y8 (Y8 (Y8 (Y8 (Y8 (Y8 (Y8 (Y8 (Y8 a0.out.g w.heap.size 0 (.int .i64 xs) lr) w.heap.size 1 (.int .i64 xw) lr) w.heap.size 2 (.int .i64 xd) lr) w.heap.size 3 (.int .i64 xp) lr) w.heap.size 4 (.int .i64 xq) lr) w.heap.size 5 (.slice a5 sl.length q5) lr) w.heap.size 6 (.slice a6 ow.length q6) lr) w.heap.size 7 (.slice a7 ch.length q7) lr) w.heap.size 8 (.slice a8 ta.length q8) lr);have HR:=hid (Rd.set (Rd.set (Rd.set (Rd.set (Rd.set (Rd.set (Rd.set (Rd.set (Rd.set a0.out.rd w.heap.size 0 (.int .i64 xs) (by omega)) w.heap.size 1 (.int .i64 xw) (by omega)) w.heap.size 2 (.int .i64 xd) (by omega)) w.heap.size 3 (.int .i64 xp) (by omega)) w.heap.size 4 (.int .i64 xq) (by omega)) w.heap.size 5 (.slice a5 sl.length q5) (by omega)) w.heap.size 6 (.slice a6 ow.length q6) (by omega)) w.heap.size 7 (.slice a7 ch.length q7) (by omega)) w.heap.size 8 (.slice a8 ta.length q8) (by omega));clear HC R5 R6 R7 R8;go_wp2;obtain ⟨d0,d1,d2,d3,d4,d5,d6,d7,d8⟩:=HB.out.q9 rfl rfl rfl rfl rfl rfl rfl rfl rfl;refine bodyPost_ret (v:=.agg #[(.int .i64 xs),(.int .i64 xw),(.int .i64 xd),(.int .i64 xp),(.int .i64 xq),(.slice a5 sl.length q5),(.slice a6 ow.length q6),(.slice a7 ch.length q7),(.slice a8 ta.length q8)]) (by simp [results,results79,go_sem,d0,d1,d2,d3,d4,d5,d6,d7,d8]) rfl ⟨HG.out,.inl ⟨⟨xs,xw,xd,xp,xq,sl,ow,ch,ta⟩,bj,_,by rw [Zcc,Zk aa.out,Zk ac.out,Zk ad.out,Zk ae.out,Zk af.out,Zk ag.out,Zk ah.out,Zk am.out,Zk ao.out,Zk al.out,Zk ar.out],aq,rfl,⟨_,_,_,_,rfl,bk.out⟩,HR.out⟩⟩
           ·exact ⟨rfl,Zr an.out.g hg,.inr ⟨n,by rw [Zcc,Zk aa.out,Zk ac.out,Zk ad.out,Zk ae.out,Zk af.out,Zk ag.out,Zk ah.out,Zk am.out,Zk ao.out,Zk al.out,Yj hp],rfl⟩⟩
          ·exact ⟨rfl,Zr ak.out.g hg,.inr ⟨n,by rw [Zcc,Zk aa.out,Zk ac.out,Zk ad.out,Zk ae.out,Zk af.out,Zk ag.out,Zk ah.out,Zk am.out,Zk ao.out,Yj hp],rfl⟩⟩
         ·exact ⟨rfl,Zr aj.out.g hg,.inr ⟨n,by rw [Zcc,Zk aa.out,Zk ac.out,Zk ad.out,Zk ae.out,Zk af.out,Zk ag.out,Zk ah.out,Zk am.out,Yj hp],rfl⟩⟩
        ·exact ⟨rfl,Zr ai.out.g hg,.inr ⟨n,by rw [Zcc,Zk aa.out,Zk ac.out,Zk ad.out,Zk ae.out,Zk af.out,Zk ag.out,Zk ah.out,Yj hp],rfl⟩⟩
       ·exact ⟨rfl,Zr C8.out.g hg,.inr ⟨n,by rw [Zcc,Zk aa.out,Zk ac.out,Zk ad.out,Zk ae.out,Zk af.out,Zk ag.out,Yj hp],rfl⟩⟩
      ·exact ⟨rfl,Zr C6.out.g hg,.inr ⟨n,by rw [Zcc,Zk aa.out,Zk ac.out,Zk ad.out,Zk ae.out,Zk af.out,Yj hp],rfl⟩⟩
     ·exact ⟨rfl,Zr C5.out.g hg,.inr ⟨n,by rw [Zcc,Zk aa.out,Zk ac.out,Zk ad.out,Zk ae.out,Yj hp],rfl⟩⟩
    ·exact ⟨rfl,Zr C3.out.g hg,.inr ⟨n,by rw [Zcc,Zk aa.out,Zk ac.out,Zk ad.out,Yj hp],rfl⟩⟩
   ·exact ⟨rfl,Zr C2.out.g hg,.inr ⟨n,by rw [Zcc,Zk aa.out,Zk ac.out,Yj hp],rfl⟩⟩
  ·exact ⟨rfl,Zr C1.out.g hg,.inr ⟨n,by rw [Zcc,Zk aa.out,Yj hp],rfl⟩⟩
 ·exact ⟨rfl,Zr C0.out.g hg,.inr ⟨n,by rw [Zcc,Yj hp],rfl⟩⟩
theorem Zu1 (w:World) (v:Value):(Instr.typeAssert (.iface 162 v) 20 162 true).run prog w=.ok (.tuple #[v,.bool true]) w:=by kernel_rfl
theorem Zr2 (w:World):(Instr.typeAssert .nilIface 20 162 true).run prog w=.ok (.tuple #[.agg #[.int .i64 0],.bool false]) w:=by kernel_rfl
theorem Ya1:Array.replicate 10 undef=#[undef,undef,undef,undef,undef,undef,undef,undef,undef,undef]:=rfl
set_option maxHeartbeats 200000 in
theorem Zsc (b3 b4:Nat) (n:Nat) (x y:Int) (w:World) (h3:w.cell? ⟨b3,0,none⟩=some (.int .i64 x)) (f3:w.frozen? ⟨b3,0,none⟩=false) (h4:w.cell? ⟨b4,0,none⟩=some (.int .i64 y)) (f4:w.frozen? ⟨b4,0,none⟩=false) (hne:b3≠b4) (l3:b3<w.heap.size) (l4:b4<w.heap.size):
  CallsD prog 78 #[.pointer (some ⟨b3,0,none⟩),.pointer (some ⟨b4,0,none⟩)] (.panicking [{v:=.iface 162 (.agg #[.int .i64 n]),recovered:=false}]) w fun e u' w'=>
   e=.returned (.tuple #[])∧u'=.panicking [{v:=.iface 162 (.agg #[.int .i64 n]),recovered:=true}]∧w'=((w.setCell ⟨b3,0,none⟩ (.int .i64 n)).setCell ⟨b4,0,none⟩ (.int .i64 1)).alloc (.cells #[.int .i64 n] 162):=by
 refine callsD_of_wpS func78 rfl fun c₀ cs hu=>?_
 apply wpS_seq;apply wpS_region;simp [wpOpsS,go_sem,recoverD,hu,ntmps78,Exit.thenS,Zu1,Ya1];refine wpS_of_wp ?_;go_wp2;simp [bodyPostS,results,results78]
set_option maxHeartbeats 200000 in
theorem Zqb (b3 b4:Nat) (w:World):
  CallsD prog 78 #[.pointer (some ⟨b3,0,none⟩),.pointer (some ⟨b4,0,none⟩)] .returning w fun e u' w'=>
   e=.returned (.tuple #[])∧u'=.returning∧w'=w.alloc (.cells #[.int .i64 0] 162):=by
 refine callsD_of_wpS func78 rfl fun c₀ cs hu=>?_
 apply wpS_seq;apply wpS_region;simp [wpOpsS,go_sem,recoverD,hu,ntmps78,Exit.thenS,Zr2,Ya1];refine wpS_of_wp ?_;go_wp2;cases c₀;simp_all [bodyPostS,results,results78]
abbrev Zjp:Value:=.agg #[.int .i64 0,.int .i64 0,.int .i64 0,.int .i64 0,.int .i64 0,.slice none 0 0,.slice none 0 0,.slice none 0 0,.slice none 0 0]
def Zyq (w:World) (s:ByteArray) (e:Ending) (w':World):Prop:=
 Below w.heap.size w w'∧((∃ C k v,Zcc (Zbg s)=.ok (C,k)∧e=.returned (.tuple #[v,.int .i64 0,.int .i64 0])∧Zom w.heap.size C v w')∨∃ n,Zcc (Zbg s)=.error n∧e=.returned (.tuple #[Zjp,.int .i64 n,.int .i64 1]))
set_option maxHeartbeats 1000000 in
theorem Zq4 (s:ByteArray) (w:World) (hs:s.size≤200):Calls prog 51 #[.string s] w (Zyq w s):=by
 have ad:∀ (fn:Fn) (first cap:Array Value) (w:World),(Instr.makeFunc fn first cap).run prog w=.ok (.func fn first cap) w:=fun _ _ _ _=>rfl
 go_enter_defers func51,ntmps51;go_wp2_with fail;generalize hW:((((w.alloc (.cells #[.int .i64 0,.int .i64 0,.int .i64 0,.int .i64 0,.int .i64 0,.slice none 0 0,.slice none 0 0,.slice none 0 0,.slice none 0 0] 27)).alloc (.cells #[.int .i64 0] 3)).alloc (.cells #[.int .i64 0] 34)).alloc (.cells #[.string s,.int .i64 0] 165))=W at *
 have ae:W.heap.size=w.heap.size+4:=by rw [← hW];simp
 have B2:Zf W w.heap.size 27 Zhu:=by rw [← hW];exact (((Zc w _ Zhu 27 rfl).alloc _).alloc _).alloc _
 have B3:Zf W (w.heap.size+1) 3 [.int .i64 0]:=by rw [← hW];exact ((Zc _ _ [.int .i64 0] 3 (by simp)).alloc _).alloc _
 have B4:Zf W (w.heap.size+1+1) 34 [.int .i64 0]:=by rw [← hW];exact (Zc _ _ [.int .i64 0] 34 (by simp)).alloc _
 have BR:Rd W (w.heap.size+1+1+1) s 0:=by rw [← hW];exact Zc _ _ [.string s,.int .i64 0] 165 (by simp)
 have a0:Below w.heap.size w W:=by rw [← hW];exact (((br.alloc lr _).alloc (by simp) _).alloc (by simp;omega) _).alloc (by simp;omega) _
 clear hW;refine (Zpv _ s W BR hs).mono ?_;rintro e w1 ⟨hg,⟨C,k,v,hp,hk,rfl,⟨v5,v6,v7,v8,rfl,hO⟩,a3⟩|⟨n,hp,rfl⟩⟩
 ·obtain ⟨A,rfl,rfl,rfl,rfl,_⟩:=hO.conf
  have a4:=hg.size;replace B2:=B2.grown' hg (by simp;omega);replace B3:=B3.grown' hg (by simp);replace B4:=B4.grown' hg (by simp);have a1:=hid (a0.grown hg (by omega) (fun j hj=>by simp at hj;omega));have HO:=hid (((((((((((((hO.set 0 (.int .i64 C.s) (b:=w.heap.size) (by omega)).set 1 (.int .i64 C.w) (b:=w.heap.size) (by omega)).set 2 (.int .i64 C.d) (b:=w.heap.size) (by omega)).set 3 (.int .i64 C.p) (b:=w.heap.size) (by omega)).set 4 (.int .i64 C.q) (b:=w.heap.size) (by omega)).set 5 (.slice A.a5 C.sl.length A.c5) (b:=w.heap.size) (by omega)).set 6 (.slice A.a6 C.ow.length A.c6) (b:=w.heap.size) (by omega)).set 7 (.slice A.a7 C.ch.length A.c7) (b:=w.heap.size) (by omega)).set 8 (.slice A.a8 C.ta.length A.c8) (b:=w.heap.size) (by omega)).set 0 (.int .i64 0) (b:=w.heap.size+1) (by omega)).set 0 (.int .i64 0) (b:=w.heap.size+1+1) (by omega)).below (Za _ (.cells #[.int .i64 0] 162))).mono (base':=w.heap.size) (by omega));have R2:=hid ((((((((((((B2.setCell 0 (.int .i64 C.s)).setCell 1 (.int .i64 C.w)).setCell 2 (.int .i64 C.d)).setCell 3 (.int .i64 C.p)).setCell 4 (.int .i64 C.q)).setCell 5 (.slice A.a5 C.sl.length A.c5)).setCell 6 (.slice A.a6 C.ow.length A.c6)).setCell 7 (.slice A.a7 C.ch.length A.c7)).setCell 8 (.slice A.a8 C.ta.length A.c8)).setOther ⟨w.heap.size+1,0,none⟩ (.int .i64 0) (by show w.heap.size≠w.heap.size+1;omega)).setOther ⟨w.heap.size+1+1,0,none⟩ (.int .i64 0) (by show w.heap.size≠w.heap.size+1+1;omega)).alloc (.cells #[.int .i64 0] 162));have R3:=hid ((((((((((((B3.setOther ⟨w.heap.size,0,none⟩ (.int .i64 C.s) (by show w.heap.size+1≠w.heap.size;omega)).setOther ⟨w.heap.size,1,none⟩ (.int .i64 C.w) (by show w.heap.size+1≠w.heap.size;omega)).setOther ⟨w.heap.size,2,none⟩ (.int .i64 C.d) (by show w.heap.size+1≠w.heap.size;omega)).setOther ⟨w.heap.size,3,none⟩ (.int .i64 C.p) (by show w.heap.size+1≠w.heap.size;omega)).setOther ⟨w.heap.size,4,none⟩ (.int .i64 C.q) (by show w.heap.size+1≠w.heap.size;omega)).setOther ⟨w.heap.size,5,none⟩ (.slice A.a5 C.sl.length A.c5) (by show w.heap.size+1≠w.heap.size;omega)).setOther ⟨w.heap.size,6,none⟩ (.slice A.a6 C.ow.length A.c6) (by show w.heap.size+1≠w.heap.size;omega)).setOther ⟨w.heap.size,7,none⟩ (.slice A.a7 C.ch.length A.c7) (by show w.heap.size+1≠w.heap.size;omega)).setOther ⟨w.heap.size,8,none⟩ (.slice A.a8 C.ta.length A.c8) (by show w.heap.size+1≠w.heap.size;omega)).setCell 0 (.int .i64 0)).setOther ⟨w.heap.size+1+1,0,none⟩ (.int .i64 0) (by show w.heap.size+1≠w.heap.size+1+1;omega)).alloc (.cells #[.int .i64 0] 162));have R4:=hid ((((((((((((B4.setOther ⟨w.heap.size,0,none⟩ (.int .i64 C.s) (by show w.heap.size+1+1≠w.heap.size;omega)).setOther ⟨w.heap.size,1,none⟩ (.int .i64 C.w) (by show w.heap.size+1+1≠w.heap.size;omega)).setOther ⟨w.heap.size,2,none⟩ (.int .i64 C.d) (by show w.heap.size+1+1≠w.heap.size;omega)).setOther ⟨w.heap.size,3,none⟩ (.int .i64 C.p) (by show w.heap.size+1+1≠w.heap.size;omega)).setOther ⟨w.heap.size,4,none⟩ (.int .i64 C.q) (by show w.heap.size+1+1≠w.heap.size;omega)).setOther ⟨w.heap.size,5,none⟩ (.slice A.a5 C.sl.length A.c5) (by show w.heap.size+1+1≠w.heap.size;omega)).setOther ⟨w.heap.size,6,none⟩ (.slice A.a6 C.ow.length A.c6) (by show w.heap.size+1+1≠w.heap.size;omega)).setOther ⟨w.heap.size,7,none⟩ (.slice A.a7 C.ch.length A.c7) (by show w.heap.size+1+1≠w.heap.size;omega)).setOther ⟨w.heap.size,8,none⟩ (.slice A.a8 C.ta.length A.c8) (by show w.heap.size+1+1≠w.heap.size;omega)).setOther ⟨w.heap.size+1,0,none⟩ (.int .i64 0) (by show w.heap.size+1+1≠w.heap.size+1;omega)).setCell 0 (.int .i64 0)).alloc (.cells #[.int .i64 0] 162));have a2:=hid ((((((((((((a1.out.setCell (p:=⟨w.heap.size,0,none⟩) lr (.int .i64 C.s)).setCell (p:=⟨w.heap.size,1,none⟩) lr (.int .i64 C.w)).setCell (p:=⟨w.heap.size,2,none⟩) lr (.int .i64 C.d)).setCell (p:=⟨w.heap.size,3,none⟩) lr (.int .i64 C.p)).setCell (p:=⟨w.heap.size,4,none⟩) lr (.int .i64 C.q)).setCell (p:=⟨w.heap.size,5,none⟩) lr (.slice A.a5 C.sl.length A.c5)).setCell (p:=⟨w.heap.size,6,none⟩) lr (.slice A.a6 C.ow.length A.c6)).setCell (p:=⟨w.heap.size,7,none⟩) lr (.slice A.a7 C.ch.length A.c7)).setCell (p:=⟨w.heap.size,8,none⟩) lr (.slice A.a8 C.ta.length A.c8)).setCell (p:=⟨w.heap.size+1,0,none⟩) (by show w.heap.size≤w.heap.size+1;omega) (.int .i64 0)).setCell (p:=⟨w.heap.size+1+1,0,none⟩) (by show w.heap.size≤w.heap.size+1+1;omega) (.int .i64 0)).alloc (by simp [World.setCell];omega) (.cells #[.int .i64 0] 162));have HP:=hid hp;have a9:w.heap.size<w1.heap.size:=by omega
  have aa:w.heap.size+1<w1.heap.size:=by omega
  have ab:w.heap.size+1+1<w1.heap.size:=by omega
  obtain ⟨x0,x1,x2,x3,x4,x5,x6,x7,x8⟩:=B2.q9 rfl rfl rfl rfl rfl rfl rfl rfl rfl;have y0:=B2.frozen 0;have y1:=B2.frozen 1;have y2:=B2.frozen 2;have y3:=B2.frozen 3;have y4:=B2.frozen 4;have y5:=B2.frozen 5;have y6:=B2.frozen 6;have y7:=B2.frozen 7;have y8:=B2.frozen 8;have t0:=B3.cell 0 _ rfl;have t1:=B3.frozen 0;have r0:=B4.cell 0 _ rfl;have r1:=B4.frozen 0;clear hg hp hO a3 a0 a1 B2 B3 B4 BR;go_wp2;refine leaves_cons (f:=78) (args:=#[.pointer (some ⟨w.heap.size+1,0,none⟩),.pointer (some ⟨w.heap.size+1+1,0,none⟩)]) (by simp) (by simp [go_sem]) ?_;refine (Zqb (w.heap.size+1) (w.heap.size+1+1) _).mono ?_;rintro e u' ac ⟨rfl,rfl,rfl⟩;generalize World.alloc _ _=W2 at *
  obtain ⟨d0,d1,d2,d3,d4,d5,d6,d7,d8⟩:=R2.out.q9 rfl rfl rfl rfl rfl rfl rfl rfl rfl;have d9:=R3.out.cell 0 _ rfl;have da:=R4.out.cell 0 _ rfl;refine ⟨.tuple #[cv C A,.int .i64 0,.int .i64 0],by simp [results,results51,go_sem,d0,d1,d2,d3,d4,d5,d6,d7,d8,d9,da],a2.out,.inl ⟨C,k,_,HP.out,rfl,_,_,_,_,rfl,HO.out⟩⟩
 ·have a4:=hg.size
  replace B2:=B2.grown' hg (by simp;omega);replace B3:=B3.grown' hg (by simp);replace B4:=B4.grown' hg (by simp);have a1:=hid (a0.grown hg (by omega) (fun j hj=>by simp at hj;omega));have HP:=hid hp;clear hg hp a0 BR;refine leaves_cons (f:=78) (args:=#[.pointer (some ⟨w.heap.size+1,0,none⟩),.pointer (some ⟨w.heap.size+1+1,0,none⟩)]) (by simp) (by simp [go_sem]) ?_;refine (Zsc (w.heap.size+1) (w.heap.size+1+1) n 0 0 _ (B3.cell 0 _ rfl) (B3.frozen 0) (B4.cell 0 _ rfl) (B4.frozen 0) (by omega) (by omega) (by omega)).mono ?_;rintro e u' ac ⟨rfl,rfl,rfl⟩;have R2:=(((B2.setOther ⟨w.heap.size+1,0,none⟩ (.int .i64 n) (by show w.heap.size≠w.heap.size+1;omega)).setOther ⟨w.heap.size+1+1,0,none⟩ (.int .i64 1) (by show w.heap.size≠w.heap.size+1+1;omega)).alloc (.cells #[.int .i64 n] 162))
  have R3:=(((B3.setCell 0 (.int .i64 n)).setOther ⟨w.heap.size+1+1,0,none⟩ (.int .i64 1) (by show w.heap.size+1≠w.heap.size+1+1;omega)).alloc (.cells #[.int .i64 n] 162))
  have R4:=(((B4.setOther ⟨w.heap.size+1,0,none⟩ (.int .i64 n) (by show w.heap.size+1+1≠w.heap.size+1;omega)).setCell 0 (.int .i64 1)).alloc (.cells #[.int .i64 n] 162))
  have a2:=(((a1.out.setCell (p:=⟨w.heap.size+1,0,none⟩) (by show w.heap.size≤w.heap.size+1;omega) (.int .i64 n)).setCell (p:=⟨w.heap.size+1+1,0,none⟩) (by show w.heap.size≤w.heap.size+1+1;omega) (.int .i64 1)).alloc (by simp [World.setCell];omega) (.cells #[.int .i64 n] 162))
  generalize World.alloc _ _=W2 at *
  obtain ⟨d0,d1,d2,d3,d4,d5,d6,d7,d8⟩:=R2.q9 rfl rfl rfl rfl rfl rfl rfl rfl rfl;have d9:=R3.cell 0 _ rfl;have da:=R4.cell 0 _ rfl;refine ⟨.tuple #[Zjp,.int .i64 n,.int .i64 1],by simp [results,results51,go_sem,d0,d1,d2,d3,d4,d5,d6,d7,d8,d9,da],a2,.inr ⟨n,HP.out,rfl⟩⟩
end Go.Proofs.YtejhccmclanlmaaGreatDoor
