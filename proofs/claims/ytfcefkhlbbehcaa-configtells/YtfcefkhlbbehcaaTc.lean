/- Walks of the document's answer: the image of a config. -/
import Derived.Test.YtfcefkhlbbehcaaTb
import Derived.Laws.AppendOwnNone
set_option linter.unusedVariables false
namespace Go.Proofs.Ytfcefkhlbbehcaa
open Go.RowKit

abbrev i64s (l : List Int) : List Value := l.map fun n => .int .i64 n

/-- Memory while the numbers of an image are laid. -/
structure EnS (w wr : World) (C : Conf) (A : Mem) (v : Value) (xs : List Int) : Prop where
  own : wr.ownsRow (w.heap.size + 1) 3 1 v xs.length (i64s xs)
  below : Below w.heap.size w wr
  box : BoxC wr w.heap.size C A

theorem EnS.grow {w wr wm w1 : World} {C : Conf} {A : Mem} {v v' : Value} {xs ys : List Int} {n : Nat} (h : EnS w wr C A v xs) (hb : Below wr.heap.size wr wm) (hg : wm.grownBy w1 v.ownBlock) (hn : n = xs.length + ys.length) (hown : w1.ownsRow (w.heap.size + 1) 3 1 v' n (i64s xs ++ i64s ys)) : EnS w w1 C A v' (xs ++ ys) := by
  have hlt := h.own.lt
  have hbx := h.box.lt
  have hs := hb.size
  refine ⟨by rw [List.length_append, ← hn]; simpa [i64s] using hown, (btrans h.below hb).grown hg (by omega) (fun k hk => by have := (hlt k hk).1; omega), ?_⟩
  refine (h.box.keep hb).same (hg.block _ (by omega) (fun e => ?_))
  have := (hlt _ e.symm).1
  omega

theorem EnS.bel {w wr wm : World} {C : Conf} {A : Mem} {v : Value} {xs : List Int} (h : EnS w wr C A v xs) (hb : Below wr.heap.size wr wm) : EnS w wm C A v xs := ⟨owns_below' h.own hb, btrans h.below hb, h.box.keep hb⟩

theorem Try.info3 : (Try.prog.info? 3).map (fun i => (i.zero, i.size, i.bytes)) = some (some (.int .i64 0), 1, 8) := by kernel_rfl

theorem append_zero {P : Program} (w : World) (t ty e : TypeId) (i : TypeInfo) (ht : P.underlying t = some (.slice e)) (hi : P.info? e = some i) (b off n cap : Nat) (ax : Option Addr) (c : Nat) (hroom : n ≤ cap) :
    (Builtin.append_ #[t, t] ty #[.slice (some ⟨b, off, none⟩) n cap, .slice ax 0 c]).run P w = .ok (.slice (some ⟨b, off, none⟩) n cap) w := by
  cases ax <;> simp [Builtin.append_, run_underlying ht, sizeOf, typeInfo, hi, Builtin.lenOf, hroom, Builtin.firstCells, loadCells, loadCellsFrom, storeCells]

theorem i64_one (l : List Int) : ∀ u ∈ i64s l, u.oneCell' = true := by
  intro u hu
  simp only [i64s, List.mem_map] at hu
  obtain ⟨n, _, rfl⟩ := hu
  rfl

theorem news_i64 (w : World) (l : List Int) (n : Nat) (h : w.heap.size = n) : ∀ j u, (i64s l)[j]? = some u → (w.alloc (.cells (i64s l).toArray 3)).cell? ((⟨n, 0, none⟩ : Addr).add j) = some u := by
  have := RowAt.news (X := i64s l) (Y := []) (t := 3) (w := w.alloc (.cells (i64s l).toArray 3)) (g := n) (by rw [List.append_nil]; exact rowAt_new2 w _ (i64s l) 3 h)
  exact this

/-- An append of a slice of numbers that came in, empty or not. -/
theorem wpList_append_ints {ops : Array Oper} {rest : List Oper} {o : Oper} {a : Act} {w : World} {Q : Exit → Act → World → Prop} (hgd : o.guard = none) (s x : Operand)
    (ho : o.op = .call { callee := .builtin .append, args := #[s, x], argTypes := #[42, 42] })
    (base : Nat) (v : Value) (n : Nat) (xs : List Value) (hs : a.eval s = v) (hown : w.ownsRow base 3 1 v n xs) (hn : 0 < n)
    (L : List Int) (a6 : Option Addr) (c6 : Nat) (hx : a.eval x = .slice a6 L.length c6) (hL : IntsIn w a6 L) (h63 : n + L.length ≤ maxLen) (hbytes : (n + L.length) * 8 ≤ 140737488355328) (hbase : base ≤ w.heap.size)
    (h : ∀ v' w', w'.ownsRow base 3 1 v' (n + L.length) (xs ++ i64s L) → w.grownBy w' v.ownBlock → wpList Try.prog ops Q rest (a.put o.dst v') w') : wpList Try.prog ops Q (o :: rest) a w := by
  obtain ⟨i3, hi, hz, hsz, hby⟩ := infoOf Try.info3
  by_cases hL0 : L = []
  · subst hL0
    have hroom : ∃ g cap, v = .slice (some ⟨g, 0, none⟩) n cap ∧ n ≤ cap := by
      rcases hown.2 with ⟨_, e⟩ | ⟨g, cap, _, e, _, _, h, _⟩
      · omega
      · exact ⟨g, cap, e, h⟩
    obtain ⟨g, cap, rfl, hr⟩ := hroom
    refine wpList_plain hgd fun K hK => ?_
    have hrun := append_zero (P := Try.prog) w 42 o.type 3 i3 Try.underlying42 hi g 0 n cap a6 c6 hr
    unfold Oper.wp
    simp [execOp, ho, resolve, invoke, builtin, hs, hx, hrun, Result.andThen]
    exact hK _ _ (h _ _ (by simpa using hown) ⟨rfl, rfl, rfl, Nat.le_refl _, fun _ _ _ => rfl⟩)
  · obtain ⟨b, off, rfl, _⟩ := hL 0 (List.length_pos_iff.2 hL0)
    refine wpList_append_own w hgd s x 42 ho base 3 i3 _ 1 8 Try.underlying42 hi hz hsz hby rfl (by decide) v n xs hs hown ⟨b, off, none⟩ L.length c6 (i64s L) hx (by simp) ?_ (i64_one L) h63 hbytes hbase (fun v' w' h1 h2 _ => h v' w' h1 h2)
    intro j u hu
    have hj : j < L.length := by
      have := (List.getElem?_eq_some_iff.1 hu).1
      simpa using this
    obtain ⟨b2, o2, e, hc⟩ := hL j hj
    simp only [Option.some.injEq, Addr.mk.injEq, and_true] at e
    obtain ⟨rfl, rfl⟩ := e
    have hadd : (⟨b, off, none⟩ : Addr).add j = ⟨b, off + j, none⟩ := by unfold Addr.add; split <;> simp_all
    rw [hadd, hc]
    simp only [i64s, List.getElem?_map, List.getElem?_eq_getElem hj, Option.map_some] at hu
    rw [← hu]

theorem intsIn_own {w : World} {base g cap : Nat} {l : List Int} (h : w.ownsRow base 3 1 (.slice (some ⟨g, 0, none⟩) l.length cap) l.length (i64s l)) : IntsIn w (some ⟨g, 0, none⟩) l := by
  intro i hi
  refine ⟨g, 0, rfl, ?_⟩
  have := h.cells (g := g) rfl i (.int .i64 l[i]) (by simp [i64s, hi])
  rw [addZ] at this
  rw [Nat.zero_add]; exact this

set_option maxRecDepth 100000 in
set_option maxHeartbeats 4000000 in
theorem encodeOf_any (C : Conf) (A : Mem) (w : World) (hC : ConfIn w A C) (hF : Fits C) :
    Calls Try.prog 23 #[cv C A] w fun e w' => e = .returned (.string (bstr (en C))) ∧ Below w.heap.size w w' := by
  obtain ⟨i3, hi, hz, hsz, hby⟩ := infoOf Try.info3
  have l5 := hF.l5
  have l6 := hF.l6
  have l7 := hF.l7
  have l8 := hF.l8
  have q1 := below_new w (.cells (cl C A) 46)
  have HC := hid hC
  have HF := hid hF
  have E0 : Hid (EnS w ((w.alloc (.cells (cl C A) 46)).alloc (.cells (i64s [67, C.s, C.w, C.d, C.p, C.q, (C.sl.length : Int)]).toArray 3)) C A (.slice (some ⟨w.heap.size + 1, 0, none⟩) 7 7) [67, C.s, C.w, C.d, C.p, C.q, (C.sl.length : Int)]) := by
    have q2 := below_new (w.alloc (.cells (cl C A) 46)) (.cells (i64s [67, C.s, C.w, C.d, C.p, C.q, (C.sl.length : Int)]).toArray 3)
    refine hid ⟨⟨by simp, .inr ⟨w.heap.size + 1, 7, _, rfl, Nat.le_refl _, rowAt_new2 _ _ (i64s [67, C.s, C.w, C.d, C.p, C.q, (C.sl.length : Int)]) 3 (by simp), Nat.le_refl _, by simp [maxLen], by simp, by simp⟩⟩, btrans q1 q2, (boxC_new w C A).keep q2⟩
  clear q1 hC hF
  obtain ⟨a5, a6, a7, a8, c5, c6, c7, c8⟩ := A
  dsimp only [cv, cl] at *
  go_enter Try.func23, Try.ntmps23
  go_wp2

  go_loopw [3, 4] (fun v i wr => ∃ k : Nat, k ≤ C.sl.length ∧ i = .int .i64 k ∧ EnS w wr C ⟨a5, a6, a7, a8, c5, c6, c7, c8⟩ v ([67, C.s, C.w, C.d, C.p, C.q, (C.sl.length : Int)] ++ (C.sl.take k).flatMap enS)) (fun v i _ => C.sl.length - (intOf i).toNat)
  case atStart => exact ⟨0, Nat.zero_le _, rfl, by simpa [List.append_assoc] using E0.out⟩
  case round =>
    clear E0
    obtain ⟨k, hk, rfl, hE⟩ := hrel
    have HE := hid hE
    clear hE
    obtain ⟨g0, g1, g2, g3, g4, g5, g6, g7, g8⟩ := HE.out.box
    dsimp only at g5 g6 g7 g8
    have hbx := HE.out.box.lt
    by_cases hlt : k < C.sl.length
    · obtain ⟨b', o', rfl, hc1, hc2⟩ := (HC.out.keep HE.out.below).sl k hlt
      have hk1 : (k : Int) < C.sl.length := by omega
      have hk0 : (0 : Int) ≤ k := by omega
      have HR := hid (HF.out.sl _ (List.getElem_mem hlt))
      have HX := hid (List.take_succ_eq_append_getElem hlt)
      generalize C.sl[k] = x at HR HX hc1 hc2
      obtain ⟨x1, x2⟩ := x
      dsimp only at hc1 hc2
      have hr1 : 0 ≤ x2 := by have := HR.out; dsimp only at this; omega
      have hr2 : x2 ≤ 1000 := by have := HR.out; dsimp only at this; omega
      have hlk : ([67, C.s, C.w, C.d, C.p, C.q, (C.sl.length : Int)] ++ (C.sl.take k).flatMap enS).length = 7 + 3 * k := by simp only [List.length_append, enS_len, List.length_take, List.length_cons, List.length_nil]; omega
      generalize hxs : [67, C.s, C.w, C.d, C.p, C.q, (C.sl.length : Int)] ++ (C.sl.take k).flatMap enS = xs at *
      have HXS := hid hxs
      clear hxs
      obtain ⟨g, cap, rfl, hgb, hgl⟩ := HE.out.own.form (by omega)
      have Hbm : Hid (Below wr.heap.size wr (wr.alloc (.cells (i64s [x1, x2 / 256, x2 % 256]).toArray 3)).drew) := hid (below_new _ _).drew
      have HO2 := hid (owns_below' HE.out.own Hbm.out)
      rw [hlk] at HO2
      have htd : IntKind.i64.wrap (x2.tdiv 256) = x2 / 256 := by rw [IntKind.wrap_i64, Int.tdiv_eq_ediv_of_nonneg hr1]; omega
      have htm : x2.tmod 256 = x2 % 256 := Int.tmod_eq_emod_of_nonneg hr1
      have HN2 : Hid (∀ j u, (i64s [x1, x2 / 256, x2 % 256])[j]? = some u → (wr.alloc (.cells (i64s [x1, x2 / 256, x2 % 256]).toArray 3)).drew.cell? ((⟨wr.heap.size, 0, none⟩ : Addr).add j) = some u) := hid (news_i64 wr [x1, x2 / 256, x2 % 256] _ rfl)
      have hbz : Below wr.heap.size wr wr.drew := (Below.refl _ _).drew
      have HK : Hid (∀ w', Below wr.heap.size wr w' → w'.cell? ⟨w.heap.size, 5, none⟩ = some (.slice (some ⟨b', o', none⟩) C.sl.length c5) ∧ w'.cell? ⟨b', o' + k * 2, none⟩ = some (.int .i64 x1) ∧ w'.cell? ⟨b', o' + k * 2 + 1, none⟩ = some (.int .i64 x2)) := hid fun w' hb => ⟨bkeep hb g5 (Nat.le_refl _), bkeep hb hc1 (Nat.le_refl _), bkeep hb hc2 (Nat.le_refl _)⟩
      have hne1 : ¬ w.heap.size = g := by omega
      have hltb : b' < w.heap.size := by
        obtain ⟨b2, o2, e2, hc2', _⟩ := HC.out.sl k hlt
        simp only [Option.some.injEq, Addr.mk.injEq, and_true] at e2
        rw [e2.1]; exact World.block_lt_of_cell? _ _ hc2'
      have hne2 : ¬ b' = g := by omega
      go_wp2_with fail
      go_region_held3 (fun w' => w'.cell? ⟨w.heap.size, 5, none⟩ = some (.slice (some ⟨b', o', none⟩) C.sl.length c5) ∧ w'.cell? ⟨b', o' + k * 2, none⟩ = some (.int .i64 x1) ∧ w'.cell? ⟨b', o' + k * 2 + 1, none⟩ = some (.int .i64 x2))
        (first | exact ⟨hgrow.cell (HK.out _ Hbm.out).1 (by simp [Value.ownBlock]; omega), hgrow.cell (HK.out _ Hbm.out).2.1 (by simp [Value.ownBlock]; omega), hgrow.cell (HK.out _ Hbm.out).2.2 (by simp [Value.ownBlock]; omega)⟩ | exact HK.out _ Hbm.out | exact HK.out _ hbz | assumption | go_keep)
        (first
          | (refine step_append_lies _ (by rfl) _ _ _ (by rfl) (w.heap.size + 1) 3 i3 _ 1 8 Try.underlying42 hi hz hsz hby rfl (by omega) (.slice (some ⟨g, 0, none⟩) (7 + 3 * k) cap) (7 + 3 * k) (i64s xs) (by rfl) HO2.out ⟨wr.heap.size, 0, none⟩ 3 3 (i64s [x1, x2 / 256, x2 % 256]) (by rfl) (by rfl) HN2.out (i64_one _) (by omega) (by simp [maxLen]; omega) (by omega) (by simp; omega) (wr.heap.size + 1) (by simp) ?_; intro g2 cap2 w1 hown1 hgrow hat hlt1))
      have HLK := hid hlk
      have HE2 : Hid (EnS w w1 C ⟨some ⟨b', o', none⟩, a6, a7, a8, c5, c6, c7, c8⟩ (.slice (some ⟨g2, 0, none⟩) (7 + 3 * k + 3) cap2) ([67, C.s, C.w, C.d, C.p, C.q, (C.sl.length : Int)] ++ (C.sl.take (k + 1)).flatMap enS)) := by
        have q := HE.out.grow Hbm.out hgrow (ys := [x1, x2 / 256, x2 % 256]) (n := 7 + 3 * k + 3) (by rw [HLK.out]; rfl) hown1
        refine hid ?_
        rw [HX.out, List.flatMap_append, ← List.append_assoc, HXS.out]
        simpa [enS, hl] using q
      clear HO2 HN2 HE hown1 hgrow hat HK Hbm
      go_wp2
      go_roundw
      case rel => exact ⟨k + 1, by omega, by go_num, HE2.out⟩
      case measure => simp [intOf]; omega
    · obtain rfl : k = C.sl.length := by omega
      rw [List.take_length] at HE
      clear g0 g1 g2 g3 g4 g5 g6 g7 g8 hbx
      generalize hxs : [67, C.s, C.w, C.d, C.p, C.q, (C.sl.length : Int)] ++ C.sl.flatMap enS = xs at *
      have HXxs := hid hxs
      have HLxs : Hid (xs.length = 7 + 3 * C.sl.length) := hid (by rw [← hxs]; simp only [List.length_append, enS_len, List.length_cons, List.length_nil] <;> omega)
      clear hxs
      obtain ⟨g0, g1, g2, g3, g4, g5, g6, g7, g8⟩ := HE.out.box
      dsimp only at g5 g6 g7 g8
      have hbx := HE.out.box.lt
      obtain ⟨gg6, cap6, rfl, hgb6, hgl6⟩ := HE.out.own.form (by have := HLxs.out; omega)
      have Hbm6 : Hid (Below wr.heap.size wr (wr.alloc (.cells (i64s [(C.ow.length : Int)]).toArray 3))) := hid (below_new _ _)
      have HO6 := hid (owns_below' HE.out.own Hbm6.out)
      have HN6 : Hid (∀ j u, (i64s [(C.ow.length : Int)])[j]? = some u → (wr.alloc (.cells (i64s [(C.ow.length : Int)]).toArray 3)).cell? ((⟨wr.heap.size, 0, none⟩ : Addr).add j) = some u) := hid (news_i64 wr [(C.ow.length : Int)] _ rfl)
      go_wp2_with (first
        | (at_builtin; refine wpList_append_own _ rfl _ _ 42 rfl (w.heap.size + 1) 3 i3 _ 1 8 Try.underlying42 hi hz hsz hby rfl (by decide) _ _ _ rfl HO6.out ⟨wr.heap.size, 0, none⟩ 1 1 (i64s [(C.ow.length : Int)]) rfl rfl HN6.out (i64_one _) ?c3 ?c4 ?c5 ?_))
      case c3 => have := HLxs.out; simp [maxLen]; omega
      case c4 => have := HLxs.out; omega
      case c5 => simp; omega
      intro v6 w6 hown6 hgrow6 _
      have HE6 := hid (HE.out.grow Hbm6.out hgrow6 (ys := [(C.ow.length : Int)]) rfl hown6)
      clear hown6 hgrow6 HO6 HN6 Hbm6 HE
      clear g0 g1 g2 g3 g4 g5 g6 g7 g8 hbx
      obtain ⟨g0, g1, g2, g3, g4, g5, g6, g7, g8⟩ := HE6.out.box
      dsimp only at g5 g6 g7 g8
      have hbx := HE6.out.box.lt
      have HLxt : Hid ((xs ++ [(C.ow.length : Int)]).length = 8 + 3 * C.sl.length) := hid (by have := HLxs.out; simp; omega)
      generalize hxt : xs ++ [(C.ow.length : Int)] = xt at *
      have HXxt := hid hxt
      clear hxt
      obtain ⟨gg7, cap7, rfl, hgb7, hgl7⟩ := HE6.out.own.form (by have := HLxt.out; omega)
      have hIn := hid (HC.out.keep HE6.out.below).ow
      dsimp only at hIn
      go_wp2_with (first
        | (at_builtin; refine wpList_append_ints rfl _ _ rfl (w.heap.size + 1) _ _ _ rfl HE6.out.own ?c0 C.ow a6 c6 rfl hIn.out ?c3 ?c4 ?c5 ?_))
      case c0 => have := HLxt.out; omega
      case c3 => have := HLxt.out; simp [maxLen]; omega
      case c4 => have := HLxt.out; omega
      case c5 => omega
      intro v7 w7 hown7 hgrow7
      have HE7 := hid (HE6.out.grow (Below.refl _ _) hgrow7 (ys := C.ow) rfl hown7)
      clear hown7 hgrow7 HE6 hIn g0 g1 g2 g3 g4 g5 g6 g7 g8 hbx
      have HLxu : Hid ((xt ++ C.ow).length = 8 + 3 * C.sl.length + C.ow.length) := hid (by have := HLxt.out; simp; omega)
      generalize hxu : xt ++ C.ow = xu at *
      have HXxu := hid hxu
      clear hxu
      obtain ⟨g0, g1, g2, g3, g4, g5, g6, g7, g8⟩ := HE7.out.box
      dsimp only at g5 g6 g7 g8
      have hbx := HE7.out.box.lt
      obtain ⟨gg8, cap8, rfl, hgb8, hgl8⟩ := HE7.out.own.form (by have := HLxu.out; omega)
      have Hbm8 : Hid (Below w7.heap.size w7 (w7.alloc (.cells (i64s [(C.ch.length : Int)]).toArray 3))) := hid (below_new _ _)
      have HO8 := hid (owns_below' HE7.out.own Hbm8.out)
      have HN8 : Hid (∀ j u, (i64s [(C.ch.length : Int)])[j]? = some u → (w7.alloc (.cells (i64s [(C.ch.length : Int)]).toArray 3)).cell? ((⟨w7.heap.size, 0, none⟩ : Addr).add j) = some u) := hid (news_i64 w7 [(C.ch.length : Int)] _ rfl)
      go_wp2_with (first
        | (at_builtin; refine wpList_append_own _ rfl _ _ 42 rfl (w.heap.size + 1) 3 i3 _ 1 8 Try.underlying42 hi hz hsz hby rfl (by decide) _ _ _ rfl HO8.out ⟨w7.heap.size, 0, none⟩ 1 1 (i64s [(C.ch.length : Int)]) rfl rfl HN8.out (i64_one _) ?c3 ?c4 ?c5 ?_))
      case c3 => have := HLxu.out; simp [maxLen]; omega
      case c4 => have := HLxu.out; omega
      case c5 => simp; omega
      intro v8 w8 hown8 hgrow8 _
      have HE8 := hid (HE7.out.grow Hbm8.out hgrow8 (ys := [(C.ch.length : Int)]) rfl hown8)
      clear hown8 hgrow8 HO8 HN8 Hbm8 HE7
      clear g0 g1 g2 g3 g4 g5 g6 g7 g8 hbx
      have HLxv : Hid ((xu ++ [(C.ch.length : Int)]).length = 9 + 3 * C.sl.length + C.ow.length) := hid (by have := HLxu.out; simp; omega)
      generalize hxv : xu ++ [(C.ch.length : Int)] = xv at *
      have HXxv := hid hxv
      clear hxv
      go_wp2
      go_loopw [3, 5] (fun v i wr => ∃ k : Nat, k ≤ C.ch.length ∧ i = .int .i64 k ∧ EnS w wr C ⟨a5, a6, a7, a8, c5, c6, c7, c8⟩ v (xv ++ (C.ch.take k).flatMap enC)) (fun v i _ => C.ch.length - (intOf i).toNat)
      case atStart => exact ⟨0, Nat.zero_le _, rfl, by simpa [List.append_assoc] using HE8.out⟩
      case round =>
        clear HE8
        obtain ⟨k, hk, rfl, hE⟩ := hrel
        have HE := hid hE
        clear hE
        obtain ⟨g0, g1, g2, g3, g4, g5, g6, g7, g8⟩ := HE.out.box
        dsimp only at g5 g6 g7 g8
        have hbx := HE.out.box.lt
        by_cases hlt : k < C.ch.length
        · obtain ⟨b', o', rfl, hc1, hc2, hc3⟩ := (HC.out.keep HE.out.below).ch k hlt
          have hk1 : (k : Int) < C.ch.length := by omega
          have hk0 : (0 : Int) ≤ k := by omega
          have HX := hid (List.take_succ_eq_append_getElem hlt)
          generalize C.ch[k] = x at HX hc1 hc2 hc3
          obtain ⟨x1, x2, x3⟩ := x
          dsimp only at hc1 hc2 hc3
          have HLK : Hid ((xv ++ (C.ch.take k).flatMap enC).length = 9 + 3 * C.sl.length + C.ow.length + 3 * k) := hid (by rw [List.length_append, HLxv.out, enC_len, List.length_take]; omega)
          generalize hxs : xv ++ (C.ch.take k).flatMap enC = ys at *
          have HXS := hid hxs
          clear hxs
          obtain ⟨g, cap, rfl, hgb, hgl⟩ := HE.out.own.form (by have := HLK.out; omega)
          have Hbm : Hid (Below wr.heap.size wr (wr.alloc (.cells (i64s [x1, x2, x3]).toArray 3)).drew) := hid (below_new _ _).drew
          have HO2 := hid (owns_below' HE.out.own Hbm.out)
          have HN2 : Hid (∀ j u, (i64s [x1, x2, x3])[j]? = some u → (wr.alloc (.cells (i64s [x1, x2, x3]).toArray 3)).drew.cell? ((⟨wr.heap.size, 0, none⟩ : Addr).add j) = some u) := hid (news_i64 wr [x1, x2, x3] _ rfl)
          have hbz : Below wr.heap.size wr wr.drew := (Below.refl _ _).drew
          have HK : Hid (∀ w', Below wr.heap.size wr w' → w'.cell? ⟨w.heap.size, 7, none⟩ = some (.slice (some ⟨b', o', none⟩) C.ch.length c7) ∧ w'.cell? ⟨b', o' + k * 3, none⟩ = some (.int .i64 x1) ∧ w'.cell? ⟨b', o' + k * 3 + 1, none⟩ = some (.int .i64 x2) ∧ w'.cell? ⟨b', o' + k * 3 + 2, none⟩ = some (.int .i64 x3)) := hid fun w' hb => ⟨bkeep hb g7 (Nat.le_refl _), bkeep hb hc1 (Nat.le_refl _), bkeep hb hc2 (Nat.le_refl _), bkeep hb hc3 (Nat.le_refl _)⟩
          have hltb : b' < w.heap.size := by
            obtain ⟨b2, o2, e2, hc2', _⟩ := HC.out.ch k hlt
            simp only [Option.some.injEq, Addr.mk.injEq, and_true] at e2
            rw [e2.1]; exact World.block_lt_of_cell? _ _ hc2'
          go_wp2_with fail
          go_region_held3 (fun w' => w'.cell? ⟨w.heap.size, 7, none⟩ = some (.slice (some ⟨b', o', none⟩) C.ch.length c7) ∧ w'.cell? ⟨b', o' + k * 3, none⟩ = some (.int .i64 x1) ∧ w'.cell? ⟨b', o' + k * 3 + 1, none⟩ = some (.int .i64 x2) ∧ w'.cell? ⟨b', o' + k * 3 + 2, none⟩ = some (.int .i64 x3))
            (first | exact ⟨hgrow.cell (HK.out _ Hbm.out).1 (by simp [Value.ownBlock]; omega), hgrow.cell (HK.out _ Hbm.out).2.1 (by simp [Value.ownBlock]; omega), hgrow.cell (HK.out _ Hbm.out).2.2.1 (by simp [Value.ownBlock]; omega), hgrow.cell (HK.out _ Hbm.out).2.2.2 (by simp [Value.ownBlock]; omega)⟩ | exact HK.out _ Hbm.out | exact HK.out _ hbz | assumption | go_keep)
            (first
              | (refine step_append_lies _ (by rfl) _ _ _ (by rfl) (w.heap.size + 1) 3 i3 _ 1 8 Try.underlying42 hi hz hsz hby rfl (by omega) (.slice (some ⟨g, 0, none⟩) ys.length cap) ys.length (i64s ys) (by rfl) HO2.out ⟨wr.heap.size, 0, none⟩ 3 3 (i64s [x1, x2, x3]) (by rfl) (by rfl) HN2.out (i64_one _) (by omega) (by have := HLK.out; simp [maxLen]; omega) (by have := HLK.out; omega) (by simp; omega) (wr.heap.size + 1) (by simp) ?_; intro g2' cap2 w1 hown1 hgrow hat hlt1))
          have HE2 : Hid (EnS w w1 C ⟨a5, a6, some ⟨b', o', none⟩, a8, c5, c6, c7, c8⟩ (.slice (some ⟨g2', 0, none⟩) (ys.length + 3) cap2) (xv ++ (C.ch.take (k + 1)).flatMap enC)) := by
            have q := HE.out.grow Hbm.out hgrow (ys := [x1, x2, x3]) (n := ys.length + 3) rfl hown1
            refine hid ?_
            rw [HX.out, List.flatMap_append, ← List.append_assoc, HXS.out]
            simpa [enC] using q
          clear HO2 HN2 HE hown1 hgrow hat HK Hbm
          go_wp2
          go_roundw
          case rel => exact ⟨k + 1, by omega, by go_num, HE2.out⟩
          case measure => simp [intOf]; omega
        · obtain rfl : k = C.ch.length := by omega
          rw [List.take_length] at HE
          clear g0 g1 g2 g3 g4 g5 g6 g7 g8 hbx
          have HLxw : Hid ((xv ++ C.ch.flatMap enC).length = 9 + 3 * C.sl.length + C.ow.length + 3 * C.ch.length) := hid (by rw [List.length_append, HLxv.out, enC_len])
          generalize hxw : xv ++ C.ch.flatMap enC = xw at *
          have HXxw := hid hxw
          clear hxw
          obtain ⟨g0, g1, g2, g3, g4, g5, g6, g7, g8⟩ := HE.out.box
          dsimp only at g5 g6 g7 g8
          have hbx := HE.out.box.lt
          obtain ⟨gg9, cap9, rfl, hgb9, hgl9⟩ := HE.out.own.form (by have := HLxw.out; omega)
          have Hbm9 : Hid (Below wr.heap.size wr (wr.alloc (.cells (i64s [(C.ta.length : Int)]).toArray 3))) := hid (below_new _ _)
          have HO9 := hid (owns_below' HE.out.own Hbm9.out)
          have HN9 : Hid (∀ j u, (i64s [(C.ta.length : Int)])[j]? = some u → (wr.alloc (.cells (i64s [(C.ta.length : Int)]).toArray 3)).cell? ((⟨wr.heap.size, 0, none⟩ : Addr).add j) = some u) := hid (news_i64 wr [(C.ta.length : Int)] _ rfl)
          go_wp2_with (first
            | (at_builtin; refine wpList_append_own _ rfl _ _ 42 rfl (w.heap.size + 1) 3 i3 _ 1 8 Try.underlying42 hi hz hsz hby rfl (by decide) _ _ _ rfl HO9.out ⟨wr.heap.size, 0, none⟩ 1 1 (i64s [(C.ta.length : Int)]) rfl rfl HN9.out (i64_one _) ?c3 ?c4 ?c5 ?_))
          case c3 => have := HLxw.out; simp [maxLen]; omega
          case c4 => have := HLxw.out; omega
          case c5 => simp; omega
          intro v9 w9 hown9 hgrow9 _
          have HE9 := hid (HE.out.grow Hbm9.out hgrow9 (ys := [(C.ta.length : Int)]) rfl hown9)
          clear hown9 hgrow9 HO9 HN9 Hbm9 HE
          clear g0 g1 g2 g3 g4 g5 g6 g7 g8 hbx
          have HLxy : Hid ((xw ++ [(C.ta.length : Int)]).length = 10 + 3 * C.sl.length + C.ow.length + 3 * C.ch.length) := hid (by have := HLxw.out; simp; omega)
          generalize hxy : xw ++ [(C.ta.length : Int)] = xy at *
          have HXxy := hid hxy
          clear hxy
          go_wp2
          go_loopw [3, 6] (fun v i wr => ∃ k : Nat, k ≤ C.ta.length ∧ i = .int .i64 k ∧ EnS w wr C ⟨a5, a6, a7, a8, c5, c6, c7, c8⟩ v (xy ++ (C.ta.take k).flatMap enT)) (fun v i _ => C.ta.length - (intOf i).toNat)
          case atStart => exact ⟨0, Nat.zero_le _, rfl, by simpa [List.append_assoc] using HE9.out⟩
          case round =>
            clear HE9
            obtain ⟨k, hk, rfl, hE⟩ := hrel
            have HE := hid hE
            clear hE
            obtain ⟨g0, g1, g2, g3, g4, g5, g6, g7, g8⟩ := HE.out.box
            dsimp only at g5 g6 g7 g8
            have hbx := HE.out.box.lt
            by_cases hlt : k < C.ta.length
            · obtain ⟨b', o', rfl, hc1, hc2, hc3, hc4⟩ := (HC.out.keep HE.out.below).ta k hlt
              have hk1 : (k : Int) < C.ta.length := by omega
              have hk0 : (0 : Int) ≤ k := by omega
              have HR := hid (HF.out.ta _ (List.getElem_mem hlt))
              have HX := hid (List.take_succ_eq_append_getElem hlt)
              generalize C.ta[k] = x at HR HX hc1 hc2 hc3 hc4
              obtain ⟨x1, x2, x3, x4⟩ := x
              dsimp only at hc1 hc2 hc3 hc4
              have h20 : 0 ≤ x2 ∧ x2 ≤ 5000 := by have := HR.out; dsimp only at this; omega
              have h30 : 0 ≤ x3 ∧ x3 ≤ 5000 := by have := HR.out; dsimp only at this; omega
              have h40 : 0 ≤ x4 ∧ x4 ≤ 5000 := by have := HR.out; dsimp only at this; omega
              have td2 : IntKind.i64.wrap (x2.tdiv 256) = x2 / 256 := by rw [IntKind.wrap_i64, Int.tdiv_eq_ediv_of_nonneg h20.1]; omega
              have tm2 : x2.tmod 256 = x2 % 256 := Int.tmod_eq_emod_of_nonneg h20.1
              have td3 : IntKind.i64.wrap (x3.tdiv 256) = x3 / 256 := by rw [IntKind.wrap_i64, Int.tdiv_eq_ediv_of_nonneg h30.1]; omega
              have tm3 : x3.tmod 256 = x3 % 256 := Int.tmod_eq_emod_of_nonneg h30.1
              have td4 : IntKind.i64.wrap (x4.tdiv 256) = x4 / 256 := by rw [IntKind.wrap_i64, Int.tdiv_eq_ediv_of_nonneg h40.1]; omega
              have tm4 : x4.tmod 256 = x4 % 256 := Int.tmod_eq_emod_of_nonneg h40.1
              clear h20 h30 h40
              have HLK : Hid ((xy ++ (C.ta.take k).flatMap enT).length = 10 + 3 * C.sl.length + C.ow.length + 3 * C.ch.length + 7 * k) := hid (by rw [List.length_append, HLxy.out, enT_len, List.length_take]; omega)
              generalize hxs : xy ++ (C.ta.take k).flatMap enT = ys at *
              have HXS := hid hxs
              clear hxs
              obtain ⟨g, cap, rfl, hgb, hgl⟩ := HE.out.own.form (by have := HLK.out; omega)
              have Hbm : Hid (Below wr.heap.size wr ((wr.alloc (.cells #[.int .i64 x1, .int .i64 x2, .int .i64 x3, .int .i64 x4] 78)).alloc (.cells (i64s [x1, x2 / 256, x2 % 256, x3 / 256, x3 % 256, x4 / 256, x4 % 256]).toArray 3))) := hid ((below_new _ _).alloc (by simp) _)
              have HO2 := hid (owns_below' HE.out.own Hbm.out)
              have HN2 : Hid (∀ j u, (i64s [x1, x2 / 256, x2 % 256, x3 / 256, x3 % 256, x4 / 256, x4 % 256])[j]? = some u → ((wr.alloc (.cells #[.int .i64 x1, .int .i64 x2, .int .i64 x3, .int .i64 x4] 78)).alloc (.cells (i64s [x1, x2 / 256, x2 % 256, x3 / 256, x3 % 256, x4 / 256, x4 % 256]).toArray 3)).cell? ((⟨wr.heap.size + 1, 0, none⟩ : Addr).add j) = some u) := hid (news_i64 _ [x1, x2 / 256, x2 % 256, x3 / 256, x3 % 256, x4 / 256, x4 % 256] _ (by simp))
              go_wp2_with (first
                | (at_builtin; refine wpList_append_own _ rfl _ _ 42 rfl (w.heap.size + 1) 3 i3 _ 1 8 Try.underlying42 hi hz hsz hby rfl (by decide) _ _ _ rfl HO2.out ⟨wr.heap.size + 1, 0, none⟩ 7 7 (i64s [x1, x2 / 256, x2 % 256, x3 / 256, x3 % 256, x4 / 256, x4 % 256]) rfl rfl HN2.out (i64_one _) ?c3 ?c4 ?c5 ?_))
              case c3 => have := HLK.out; simp [maxLen]; omega
              case c4 => have := HLK.out; omega
              case c5 => first | omega | (simp; omega)
              intro v2 w1 hown1 hgrow _
              have HE2 : Hid (EnS w w1 C ⟨a5, a6, a7, some ⟨b', o', none⟩, c5, c6, c7, c8⟩ v2 (xy ++ (C.ta.take (k + 1)).flatMap enT)) := by
                have q := HE.out.grow Hbm.out hgrow (ys := [x1, x2 / 256, x2 % 256, x3 / 256, x3 % 256, x4 / 256, x4 % 256]) (n := ys.length + 7) rfl hown1
                refine hid ?_
                rw [HX.out, List.flatMap_append, ← List.append_assoc, HXS.out]
                simpa [enT, hl] using q
              clear HO2 HN2 HE hown1 hgrow Hbm g0 g1 g2 g3 g4 g5 g6 g7 g8 hc1 hc2 hc3 hc4
              go_wp2
              go_roundw
              case rel => exact ⟨k + 1, by omega, by go_num, HE2.out⟩
              case measure => simp [intOf]; omega
            · obtain rfl : k = C.ta.length := by omega
              rw [List.take_length] at HE
              have HEN : Hid (xy ++ C.ta.flatMap enT = en C) := hid (by rw [← HXxy.out, ← HXxw.out, ← HXxv.out, ← HXxu.out, ← HXxt.out, ← HXxs.out]; simp only [en, List.append_assoc, List.cons_append, List.nil_append])
              rw [HEN.out] at HE
              have hlen := en_len C
              obtain ⟨g, cap, rfl, hgb, hgl⟩ := HE.out.own.form (by omega)
              have HIN := hid (intsIn_own HE.out.own)
              have HB := hid HE.out.below
              clear HE hlen
              go_wp2_with fail
              refine (bytes_any _ (en C) cap _ HIN.out (by rw [en_len]; omega) (en_bytes HF.out)).mono ?_
              rintro e w9 ⟨rfl, hb9⟩
              go_wp2
              go_ret
              exact ⟨rfl, btrans HB.out hb9⟩

end Go.Proofs.Ytfcefkhlbbehcaa
