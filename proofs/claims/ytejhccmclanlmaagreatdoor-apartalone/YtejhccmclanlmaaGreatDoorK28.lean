/- Texts joined: Wl. -/
import Derived.Lib.SliceRun
import Derived.Test.YtejhccmclanlmaaGreatDoorK24
set_option linter.unusedVariables false
set_option maxRecDepth 100000
namespace Go.Proofs.YtejhccmclanlmaaGreatDoor
open Go.RowKit
theorem setCells_list {g:Nat} {t:TypeId}:∀ (vs:List Value) (o:Nat) (w:World) (cur:Array Value),w.heap[g]? = some (.cells cur t (0,0))→o+vs.length≤cur.size→∃ cur',(w.setCells g o vs).heap[g]? = some (.cells cur' t (0,0))∧cur'.size=cur.size∧cur'.toList=cur.toList.take o++vs++cur.toList.drop (o+vs.length)
 | [],o,w,cur,h,hl=>⟨cur,h,rfl,by simp⟩
 | v :: r,o,w,cur,h,hl=>by
  have hl':o+(r.length+1)≤cur.size:=hl
  obtain ⟨cur',h1,h2,h3⟩:=setCells_list r (o+1) (w.setCell ⟨g,o,none⟩ v) (cur.setIfInBounds o v) (set_atx h) (by simp;omega)
  refine ⟨cur',h1,by rw [h2];simp,?_⟩
  rw [h3,Array.toList_setIfInBounds]
  have ho:o<cur.toList.length:=by simp;omega
  generalize cur.toList=L at *
  obtain ⟨p,x,q,rfl,rfl⟩:∃ p x q,L=p++x :: q∧p.length=o:=⟨L.take o,L[o],L.drop (o+1),by simp,by simp;omega⟩
  have e1:(p++x :: q).set p.length v=p++v :: q:=by simp
  have d1:∀ y:Value,List.drop (p.length+1+r.length) (p++y :: q)=q.drop r.length:=fun y=>by
   rw [show p++y :: q=(p++[y])++q by simp,List.drop_append]
   simp [List.drop_eq_nil_of_le]
  rw [e1,d1,show p.length+(v :: r).length=p.length+1+r.length by simp;omega,d1]
  rw [show p++v :: q=(p++[v])++q by simp,List.take_append_of_le_length (by simp),List.take_of_length_le (by simp)]
  simp
theorem setCells_grown (g:Nat):∀ (vs:List Value) (o:Nat) (w:World),w.grownBy (w.setCells g o vs) (some g)
 | [],o,w=>⟨rfl,rfl,rfl,Nat.le_refl _,fun _ _ _=>rfl⟩
 | v :: r,o,w=>by
  have h:=setCells_grown g r (o+1) (w.setCell ⟨g,o,none⟩ v)
  refine ⟨h.os,h.tape,h.output,Nat.le_trans (by simp) h.size,fun k hk hne=>?_⟩
  rw [show (w.setCells g o (v :: r)).heap[k]? = ((w.setCell ⟨g,o,none⟩ v).setCells g (o+1) r).heap[k]? from rfl,h.block k (by simpa using hk) hne,heap_set_ne _ _ _ _ k (fun e=>hne (by rw [e]))]
theorem clearJ (w:World) (ty:TypeId) (b o c:Nat) (hc:∀ j,j<6→(w.cell? ⟨b,o+j,none⟩).isSome=true) (hf:∀ j,j<6→w.frozen? ⟨b,o+j,none⟩=false) :
  (Builtin.clear_ #[41] ty #[.slice (some ⟨b,o,none⟩) 1 c]).run Tryz.prog w=.ok (.tuple #[]) (w.setCells b o [.int .i64 0,.int .i64 0,.int .i64 0,.int .i64 0,.bool false,.bool false]):=by
 have hst:=run_storeCells_cells (P:=Tryz.prog) b o [.int .i64 0,.int .i64 0,.int .i64 0,.int .i64 0,.bool false,.bool false] 0 w (by simpa using hc) (by simpa using hf) (by intro v hv';simp at hv';rcases hv' with rfl|rfl <;> rfl)
 simp only [Nat.add_zero] at hst
 have hz:∀ w,(zeroValue 87).run Tryz.prog w=.ok (.agg #[.int .i64 0,.int .i64 0,.int .i64 0,.int .i64 0,.bool false,.bool false]) w:=fun w=>by kernel_rfl
 have hcells:(Builtin.zeroCells (Value.agg #[.int .i64 0,.int .i64 0,.int .i64 0,.int .i64 0,.bool false,.bool false]).cells 1).toList=[.int .i64 0,.int .i64 0,.int .i64 0,.int .i64 0,.bool false,.bool false]:=by kernel_rfl
 simp [Builtin.clear_,run_underlying Tryz.underlying41,hz,hcells,hst]
theorem take_left {α:Type} (a b:List α) (k:Nat) (h:a.length=k):(a++b).take k=a:=by subst h;simp
theorem erase_take (J:List JobT) (i:Nat) (hi:i<J.length) (c0 c1 c2 z:List Value) (cap:Nat) (hl:c0.length=cap * 6) (hcap:J.length≤cap) (h0:c0.take (J.length * 6)=fJ J) (h1:c1=c0.take (i * 6)++fJ (J.drop (i+1))++c0.drop (i * 6+(fJ (J.drop (i+1))).length)) (h2:c2=c1.take ((J.length - 1) * 6)++z++c1.drop ((J.length - 1) * 6+z.length)):c2.take ((J.length - 1) * 6)=fJ (J.eraseIdx i):=by
 have t2:c0.take (i * 6)=fJ (J.take i):=by
  have e1:c0.take (i * 6)=(fJ J).take (i * 6):=by rw [← h0,List.take_take,Nat.min_eq_left (by omega)]
  have e2:fJ J=fJ (J.take i)++fJ (J.drop i):=by rw [← fJ_app,List.take_append_drop]
  rw [e1,e2]
  exact take_left _ _ _ (by rw [fJ_len,List.length_take,Nat.min_eq_left (by omega)])
 have hd:(fJ (J.drop (i+1))).length=(J.length - (i+1)) * 6:=by rw [fJ_len,List.length_drop]
 have hn1:(fJ (J.take i)++fJ (J.drop (i+1))).length=(J.length - 1) * 6:=by
  rw [List.length_append,hd,fJ_len,List.length_take,Nat.min_eq_left (by omega)]
  omega
 have t3:c1.take ((J.length - 1) * 6)=fJ (J.take i)++fJ (J.drop (i+1)):=by
  rw [h1,t2]
  exact take_left _ _ _ hn1
 rw [h2,t3,List.append_assoc,take_left _ _ _ hn1,← fJ_app,List.eraseIdx_eq_take_drop_succ]
set_option maxHeartbeats 2000000 in
theorem deleteJ_ok (g cap i base:Nat) (J:List JobT) (w:World) (ho:w.ownsRow base 87 6 (.slice (some ⟨g,0,none⟩) J.length cap) J.length (fJ J)) (hi:i<J.length) :
  Calls Tryz.prog 179 #[.slice (some ⟨g,0,none⟩) J.length cap,.int .i64 (i:Int),.int .i64 ((i+1:Nat):Int)] w fun e w'=>e=.returned (.slice (some ⟨g,0,none⟩) (J.length - 1) cap)∧w'.ownsRow base 87 6 (.slice (some ⟨g,0,none⟩) (J.length - 1) cap) (J.length - 1) (fJ (J.eraseIdx i))∧w.grownBy w' (some g):=by
 obtain ⟨cur,hcur,hcap,hmax,hsz,hcur2,hbg⟩:∃ cur,w.heap[g]? = some (.cells cur 87 (0,0))∧J.length≤cap∧cap≤maxLen∧cur.size=cap * 6∧cur.toList.take (J.length * 6)=fJ J∧base≤g:=by
  rcases ho.2 with ⟨q,_⟩|⟨g',cap',cur,e1,e2,e3,e4,e5,e6,e7⟩
  ·cases q
  ·cases e1
   exact ⟨cur,e3,e4,e5,e6,e7,e2⟩
 have hmx:cap≤9223372036854775807:=by simp only [maxLen] at hmax;omega
 obtain ⟨n,hn⟩:∃ n,J.length=n:=⟨_,rfl⟩
 have hcell:∀ k,k<n * 6→w.cell? ⟨g,k,none⟩=(fJ J)[k]? := fun k hk=>by
  rw [← hcur2,hn]
  simp [World.cell?,hcur,hk]
 have hfr:∀ k,w.frozen? ⟨g,k,none⟩=false:=fun k=>by simp [World.frozen?,hcur]
 have hlen:(fJ J).length=n * 6:=by rw [fJ_len,hn]
 obtain ⟨i0,hi0,hz0,hz1,hz2⟩:=infoOf Tryz.info87x
 obtain ⟨news,hnews⟩:∃ news,news=fJ (J.drop (i+1)):=⟨_,rfl⟩
 have hdl:news.length=(n - (i+1)) * 6:=by rw [hnews,fJ_len,List.length_drop,hn]
 have hsplit:fJ J=fJ (J.take (i+1))++news:=by rw [hnews,← fJ_app,List.take_append_drop]
 have htl:(fJ (J.take (i+1))).length=(i+1) * 6:=by rw [fJ_len,List.length_take];congr 1;omega
 have hget:∀ t u,news[t]? = some u→w.cell? ⟨g,(i+1) * 6+t,none⟩=some u:=fun t u hu=>by
  have ht:=(List.getElem?_eq_some_iff.1 hu).1
  rw [hcell _ (by omega),hsplit,List.getElem?_append_right (by omega),htl,Nat.add_sub_cancel_left]
  exact hu
 have hin:n≤cap:=by omega
 have hi':i<n:=by omega
 obtain ⟨A,hA,hsrc⟩:∃ A:Addr,(if cap=i+1 then some (⟨g,0,none⟩:Addr) else some ⟨g,(i+1) * 6,none⟩)=some A∧Hid (∀ t u,news[t]? = some u→w.drew.cell? (A.add t)=some u):=by
  by_cases h:cap=i+1
  ·refine ⟨⟨g,0,none⟩,by simp [h],fun t u hu=>?_⟩
   have h0:news.length=0:=by rw [hdl];omega
   rw [List.length_eq_zero_iff.1 h0] at hu
   simp at hu
  ·refine ⟨⟨g,(i+1) * 6,none⟩,by simp [h],fun t u hu=>?_⟩
   rw [Addr.add_lit]
   exact hget t u hu
 have s1:Hid (news.length=(n - (i+1)) * 6):=hid hdl
 have s2:Hid (∀ u∈news,u.oneCell'=true):=by rw [hnews];exact hid (fJ_one _)
 have s3:Hid (∀ t,t<news.length→(w.drew.cell? ⟨g,0+i * 6+t,none⟩).isSome=true∧w.drew.frozen? ⟨g,0+i * 6+t,none⟩=false):=hid fun t ht=>by
  refine ⟨?_,hfr _⟩
  show (w.cell? _).isSome=true
  rw [hcell _ (by omega),List.getElem?_eq_getElem (by omega)]
  rfl
 obtain ⟨W1,hW1⟩:∃ W1,W1=w.drew.setCells g (0+i * 6) news:=⟨_,rfl⟩
 obtain ⟨c1,hc1,hc1s,hc1l⟩:=setCells_list (t:=87) news (0+i * 6) w.drew cur hcur (by omega)
 rw [← hW1] at hc1
 have hcl:∀ ty,(Builtin.clear_ #[41] ty #[.slice (some ⟨g,(n - 1) * 6,none⟩) 1 (cap - (n - 1))]).run Tryz.prog W1=.ok (.tuple #[]) (W1.setCells g ((n - 1) * 6) [.int .i64 0,.int .i64 0,.int .i64 0,.int .i64 0,.bool false,.bool false]):=fun ty=>clearJ W1 ty g ((n - 1) * 6) (cap - (n - 1)) (fun j hj=>by
   have:(n - 1) * 6+j<c1.size:=by omega
   simp [World.cell?,hc1,this]) (fun j hj=>by simp [World.frozen?,hc1])
 have HW:Hid (W1=w.drew.setCells g (0+i * 6) news):=hid hW1
 have hic:i≤cap:=by omega
 have hjc:i+1≤cap:=by omega
 have hni:i+1≤n:=by omega
 have e1:i+(n - (i+1))=n - 1:=by omega
 have z1:(0:Int)≤(i:Int)+1:=by omega
 have z2:(i:Int)+1≤(n:Int):=by omega
 rw [hn]
 have e2:n - (n - 1)=1:=by omega
 have e3:¬ cap=n - 1:=by omega
 have z3:((n - 1:Nat):Int)≤(n:Int):=by omega
 obtain ⟨c2,hc2,hc2s,hc2l⟩:=setCells_list (t:=87) [.int .i64 0,.int .i64 0,.int .i64 0,.int .i64 0,.bool false,.bool false] ((n - 1) * 6) W1 c1 hc1 (by simp;omega)
 have HG:Hid (w.grownBy (W1.setCells g ((n - 1) * 6) [.int .i64 0,.int .i64 0,.int .i64 0,.int .i64 0,.bool false,.bool false]) (some g)):=by
  have g1:=setCells_grown g news (0+i * 6) w.drew
  rw [← hW1] at g1
  have g2:=setCells_grown g [.int .i64 0,.int .i64 0,.int .i64 0,.int .i64 0,.bool false,.bool false] ((n - 1) * 6) W1
  exact hid ⟨g2.os.trans g1.os,g2.tape.trans g1.tape,g2.output.trans g1.output,Nat.le_trans g1.size g2.size,fun k hk hne=>(g2.block k (Nat.lt_of_lt_of_le hk g1.size) hne).trans (g1.block k hk hne)⟩
 have HO:Hid ((W1.setCells g ((n - 1) * 6) [.int .i64 0,.int .i64 0,.int .i64 0,.int .i64 0,.bool false,.bool false]).ownsRow base 87 6 (.slice (some ⟨g,0,none⟩) (n - 1) cap) (n - 1) (fJ (J.eraseIdx i))):=by
  have hil:(J.eraseIdx i).length=n - 1:=by rw [List.length_eraseIdx_of_lt hi,hn]
  refine hid ⟨by rw [fJ_len,hil],.inr ⟨g,cap,c2,rfl,hbg,hc2,by omega,hmax,by omega,?_⟩⟩
  rw [← hn]
  exact erase_take J i hi cur.toList c1.toList c2.toList [.int .i64 0,.int .i64 0,.int .i64 0,.int .i64 0,.bool false,.bool false] cap (by rw [Array.length_toList,hsz]) hcap hcur2 (by rw [hc1l,hnews,Nat.zero_add]) (by rw [hc2l,hn])
 clear hW1 hcell hget hsplit htl ho hfr hc2 hc2l hc2s hc1l
 go_enter Tryz.func179,Tryz.ntmps179
 go_wp2_with fail
 go_region_law (refine step_append_room rfl (.tmp 22) (.tmp 25) 41 rfl 87 i0 6 Tryz.underlying41 hi0 hz1 g 0 i cap (by simp [Act.eval,Act.put]) A (n - (i+1)) (cap - (i+1)) news (by simp [Act.eval,Act.put]) s1.out hsrc.out s2.out (by omega) s3.out ?_;rw [← HW.out,e1])
 go_wp2
 go_ret
 exact ⟨rfl,HO.out,HG.out⟩
set_option maxHeartbeats 1000000 in
theorem dropW_ok (X:RC) (M:RM) (D:Dom) (K:KT) (now:Int) (k:Nat) (w:World) (h:RO X w M D K now) (hk:k<D.jobs.length) :
  Calls Tryz.prog 166 #[.pointer (some ⟨X.rb,0,none⟩),.int .i64 (k:Int)] w fun e w'=>e=.returned (.tuple #[])∧∃ a' c',RO X w' (jM M a' c') (dropD D k) K now:=by
 have c0:=h.row.cell 0 _ rfl
 have hrb:=h.row.lt
 have o:=h.px.jobs
 dsimp only at o
 obtain ⟨g,hg,⟨cur,hcur⟩,hbg⟩:=owns_zero o (by omega)
 have hne:g≠X.rb:=owns_ne o h.row (by decide) g (by rw [hg];rfl)
 rw [hg] at o c0
 have hl:=(owns_in o).2.2
 have hkb:(k:Int)<(D.jobs.length:Int):=by omega
 have ob:(Value.slice M.A.aJ D.jobs.length M.A.cJ).ownBlock=some g:=by rw [hg];rfl
 have HH:=hid h
 have HD:=hid (deleteJ_ok g M.A.cJ k X.w0.heap.size D.jobs w o hk)
 clear h o
 go_enter Tryz.func166,Tryz.ntmps166
 go_wp2_with fail
 refine Calls.mono HD.out ?_
 rintro e w1 ⟨rfl,ho1,hg1⟩
 have r1:RowAt w1 X.rb 152 _:=(hg1.block X.rb hrb (fun e=>hne (by cases e;rfl))).trans HH.out.row
 have d0:=r1.cell 0 _ rfl
 have f0:=r1.frozen 0
 have hel:(D.jobs.eraseIdx k).length=D.jobs.length - 1:=List.length_eraseIdx_of_lt hk
 have HE:Hid (RO X (w1.setCell ⟨X.rb,0,none⟩ (.slice (some ⟨g,0,none⟩) (D.jobs.length - 1) M.A.cJ)) (jM M (some ⟨g,0,none⟩) M.A.cJ) (dropD D k) K now):=by
  have:=HH.out.newJobs (w1:=w1) (a':=some ⟨g,0,none⟩) (c':=M.A.cJ) (J:=D.jobs.eraseIdx k) (by rw [ob];exact hg1) (by rw [hel];exact ho1) (fun x hx=>.inl (by rw [ob];exact hx))
  rw [hel] at this
  exact hid this
 clear ho1 hg1 HD c0
 go_wp2
 go_end0
 exact ⟨rfl,_,_,HE.out⟩
end Go.Proofs.YtejhccmclanlmaaGreatDoor
