/- Walks: which job is picked. Walks: the tasks of a keeper, gone through by a loop that may write the keeper's own lists. -/
import Derived.Test.YtildebflnmbefaaGreatYiJ
import Derived.Test.YtildebflnmbefaaGreatKj
import Derived.Test.YtildebflnmbefaaGreatKi
set_option linter.unusedVariables false
namespace Go.Proofs.YtildebflnmbefaaGreat
open Go.RowKit

set_option maxRecDepth 100000 in
set_option maxHeartbeats 1000000 in
theorem pick_ok (D : Dom) (A : DMem) (C : Conf) (B : Mem) (dn : Int) (w : World) (hC : ConfIn w B C) (hD : DomIn w A D) (hz : ckD C dn D = 0) (hJ : TasksOk C D.jobs) :
    Calls Tryz.prog 70 #[cv C B, .int .i64 dn, dv D A] w fun e w' => e = .returned (.tuple #[.int .i64 (pickI C D.jobs), .int .i64 0]) ∧ Below w.heap.size w w' := by
  have q1 := below_new w (.cells (cl C B) 27)
  have q2 := below_new (w.alloc (.cells (cl C B) 27)) (.cells (dl D A) 33)
  have HC := hid (hC.keep (btrans q1 q2))
  have HD := hid (hD.keep (btrans q1 q2))
  have HX := hid ((boxC_new w C B).keep q2)
  have HR := hid (rowAt_new2 (w.alloc (.cells (cl C B) 27)) (w.heap.size + 1) (dl D A).toList 33 (by simp))
  have HB := hid (btrans q1 q2)
  have HZ := hid hz
  have HJ := hid hJ
  clear q1 q2 hC hD hz hJ
  obtain ⟨aJ, aR, aI, aT, aO, aE, cJ, cR, cI, cT, cO, cE⟩ := A
  obtain ⟨a5, a6, a7, a8, c5, c6, c7, c8⟩ := B
  dsimp only [cv, cl, dv, dl] at *
  go_enter Tryz.func70, Tryz.ntmps70
  obtain ⟨g0, g1, g2, g3, g4, g5, g6, g7, g8⟩ := HX.out
  have d0 := HR.out.cell 0 _ rfl
  have d1 := HR.out.cell 1 _ rfl
  have d2 := HR.out.cell 2 _ rfl
  have d3 := HR.out.cell 3 _ rfl
  have d4 := HR.out.cell 4 _ rfl
  have d5 := HR.out.cell 5 _ rfl
  have d6 := HR.out.cell 6 _ rfl
  go_wp2_with fail
  refine (checkD_any D ⟨aJ, aR, aI, aT, aO, aE, cJ, cR, cI, cT, cO, cE⟩ C ⟨a5, a6, a7, a8, c5, c6, c7, c8⟩ dn _ HC.out HD.out).mono ?_
  rintro e w1 ⟨rfl, hb1⟩
  rw [HZ.out]
  generalize World.alloc (World.alloc w _) _ = W at *
  clear g0 g1 g2 g3 g4 g5 g6 g7 g8 d0 d1 d2 d3 d4 d5 d6
  obtain ⟨g0, g1, g2, g3, g4, g5, g6, g7, g8⟩ := HX.out.keep hb1
  have r := HR.out.below hb1 (Nat.le_refl _)
  have d0 := r.cell 0 _ rfl
  have d1 := r.cell 1 _ rfl
  have d2 := r.cell 2 _ rfl
  have d3 := r.cell 3 _ rfl
  have d4 := r.cell 4 _ rfl
  have d5 := r.cell 5 _ rfl
  have d6 := r.cell 6 _ rfl
  have v1 := below_new w1 (.cells (kl D ⟨aJ, aR, aI, aT, aO, aE, cJ, cR, cI, cT, cO, cE⟩ C ⟨a5, a6, a7, a8, c5, c6, c7, c8⟩ dn).toArray 96)
  have HK : Hid (KeepIn (w1.alloc (.cells (kl D ⟨aJ, aR, aI, aT, aO, aE, cJ, cR, cI, cT, cO, cE⟩ C ⟨a5, a6, a7, a8, c5, c6, c7, c8⟩ dn).toArray 96)) w1.heap.size D ⟨aJ, aR, aI, aT, aO, aE, cJ, cR, cI, cT, cO, cE⟩ C ⟨a5, a6, a7, a8, c5, c6, c7, c8⟩ dn) := hid ⟨rowAt_new2 w1 w1.heap.size (kl D ⟨aJ, aR, aI, aT, aO, aE, cJ, cR, cI, cT, cO, cE⟩ C ⟨a5, a6, a7, a8, c5, c6, c7, c8⟩ dn) 96 rfl, (HD.out.keep hb1).keep v1, (HC.out.keep hb1).keep v1⟩
  have HB2 := hid (btrans HB.out (btrans hb1 v1))
  clear r v1 hb1 HC HD HX HR HB
  go_wp2_with fail
  refine (first_any w1.heap.size D ⟨aJ, aR, aI, aT, aO, aE, cJ, cR, cI, cT, cO, cE⟩ C ⟨a5, a6, a7, a8, c5, c6, c7, c8⟩ dn _ HK.out HJ.out).mono ?_
  rintro e w2 ⟨rfl, hb2⟩
  generalize hq : pickI C D.jobs = q at *
  have HQ := hid hq
  clear hq g0 g1 g2 g3 g4 g5 g6 g7 g8 d0 d1 d2 d3 d4 d5 d6
  go_wp2
  go_ret2
  exact ⟨by rw [HQ.out]; rfl, btrans HB2.out hb2⟩

end Go.Proofs.YtildebflnmbefaaGreat

namespace Go.Proofs.YtildebflnmbefaaGreat
open Go.RowKit Go.Shelf

attribute [local go_sem] Oper.semAt_some

theorem cell_heap {w w' : World} {b : Nat} (h : w'.heap[b]? = w.heap[b]?) (o : Nat) : w'.cell? ⟨b, o, none⟩ = w.cell? ⟨b, o, none⟩ := by
  unfold World.cell?
  rw [h]

/-- What a loop over tasks asks of its body: the tasks, and where they are told, stay. -/
structure TK (Bk kb : Nat) (a8 : Option Addr) (N : Nat) (W W' : World) : Prop where
  size : W.heap.size ≤ W'.heap.size
  c0 : W'.cell? ⟨Bk, 0, none⟩ = W.cell? ⟨Bk, 0, none⟩
  c15 : W'.cell? ⟨kb, 15, none⟩ = W.cell? ⟨kb, 15, none⟩
  c16 : W'.cell? ⟨kb, 16, none⟩ = W.cell? ⟨kb, 16, none⟩
  ta : ∀ b o, a8 = some ⟨b, o, none⟩ → 0 < N → W'.heap[b]? = W.heap[b]?
theorem TK.refl (Bk kb : Nat) (a8 : Option Addr) (N : Nat) (W : World) : TK Bk kb a8 N W W := ⟨Nat.le_refl _, rfl, rfl, rfl, fun _ _ _ _ => rfl⟩
theorem TK.trans {Bk kb : Nat} {a8 : Option Addr} {N : Nat} {X Y Z : World} (h : TK Bk kb a8 N X Y) (k : TK Bk kb a8 N Y Z) : TK Bk kb a8 N X Z :=
  ⟨Nat.le_trans h.size k.size, k.c0.trans h.c0, k.c15.trans h.c15, k.c16.trans h.c16, fun b o e hn => (k.ta b o e hn).trans (h.ta b o e hn)⟩
theorem TK.tcell {Bk kb : Nat} {a8 : Option Addr} {N : Nat} {W W' : World} (h : TK Bk kb a8 N W W') {b o : Nat} (e : a8 = some ⟨b, o, none⟩) (hn : 0 < N) (i : Nat) : W'.cell? ⟨b, i, none⟩ = W.cell? ⟨b, i, none⟩ := cell_heap (h.ta b o e hn) i
theorem TK.of_heap {Bk kb : Nat} {a8 : Option Addr} {N : Nat} {W W' : World} (hs : W.heap.size ≤ W'.heap.size) (h0 : W'.heap[Bk]? = W.heap[Bk]?) (h1 : W'.heap[kb]? = W.heap[kb]?) (h2 : ∀ b o, a8 = some ⟨b, o, none⟩ → 0 < N → W'.heap[b]? = W.heap[b]?) : TK Bk kb a8 N W W' :=
  ⟨hs, cell_heap h0 0, cell_heap h1 15, cell_heap h1 16, h2⟩
theorem TK.alloc {Bk kb : Nat} {a8 : Option Addr} {N : Nat} {X W : World} (h : TK Bk kb a8 N X W) (h0 : Bk < W.heap.size) (h1 : kb < W.heap.size) (h2 : ∀ b o, a8 = some ⟨b, o, none⟩ → 0 < N → b < W.heap.size) (o : Obj) : TK Bk kb a8 N X (W.alloc o) :=
  h.trans (TK.of_heap (by simp) (Below.heap_alloc W o _ h0) (Below.heap_alloc W o _ h1) (fun b o' e hn => Below.heap_alloc W o _ (h2 b o' e hn)))
theorem TK.drew {Bk kb : Nat} {a8 : Option Addr} {N : Nat} {X W : World} (h : TK Bk kb a8 N X W) : TK Bk kb a8 N X W.drew :=
  h.trans (TK.of_heap (Nat.le_refl _) rfl rfl (fun _ _ _ _ => rfl))
/-- The law's own book-keeping. -/
theorem TK.book {Bk kb : Nat} {a8 : Option Addr} {N : Nat} {w : World} (h0 : Bk < w.heap.size) (h1 : kb < w.heap.size) (h2 : ∀ b o, a8 = some ⟨b, o, none⟩ → 0 < N → b < w.heap.size) (W : World) (l : Nat) (o o' : Obj) (hl : w.heap.size ≤ l) (h : W.heap[l]? = some o) (_ : o.isCells = false) (_ : o.isWalk = false) : TK Bk kb a8 N W (W.putObj l o') :=
  TK.of_heap (by simp) (World.putObj_heap_other (by omega)) (World.putObj_heap_other (by omega)) (fun b o1 e hn => World.putObj_heap_other (by have := h2 b o1 e hn; omega))

set_option maxRecDepth 100000 in
set_option maxHeartbeats 8000000 in
theorem tasks2_in (n : Nat) (hn : 1 ≤ n) (l Bk kb n₀ : Nat) (C : Conf) (a8 : Option Addr) (c8 : Nat) (dn : Int) (J Jx : List NT → World → Prop) (hkb : kb < n₀) (hBk : Bk < n₀) (hln : C.ta.length ≤ 9223372036854775807)
    (hY : ∀ pre x W, x ∈ ownT C dn C.ta.length → J pre W → pre.length < C.ta.length → YieldAt Fence.wide (n - 1) Tryz.prog l (encT x) W fun e W' =>
      (e = .returned (.bool true) ∧ J (pre ++ [x]) W' ∧ TK Bk kb a8 C.ta.length W W') ∨ (e = .returned (.bool false) ∧ Jx (pre ++ [x]) W'))
    (hJa : ∀ pre W o, J pre W → J pre (W.alloc o)) (hJd : ∀ pre W, J pre W → J pre W.drew)
    (W : World) (hB : W.cell? ⟨Bk, 0, none⟩ = some (.pointer (some ⟨kb, 0, none⟩))) (h8 : W.cell? ⟨kb, 15, none⟩ = some (.slice a8 C.ta.length c8)) (h16 : W.cell? ⟨kb, 16, none⟩ = some (.int .i64 dn)) (hT : TasksIn W a8 C.ta) (ha8 : ∀ b o, a8 = some ⟨b, o, none⟩ → 0 < C.ta.length → b < n₀) (hsz : n₀ ≤ W.heap.size) (h0 : J [] W) :
    CallsIn Fence.wide n Tryz.prog 90 #[.func (.yield l) #[] #[], .pointer (some ⟨Bk, 0, none⟩)] W fun e W' => (∃ v, e = .returned v) ∧
      ((∃ ys, ys = ownT C dn C.ta.length ∧ J ys W') ∨ (∃ pre, (∃ k, k ≤ C.ta.length ∧ pre = ownT C dn k) ∧ Jx pre W')) := by
  have mixed : Tryz.prog.follows Departure.mixedOrders = true := by kernel_rfl
  refine callsIn_of_wp Tryz.func90 rfl trivial ?_ rfl
  simp only [Tryz.ntmps90, List.size_toArray, List.length_cons, List.length_nil, Nat.reduceAdd, Nat.reduceSub, Array.replicate_succ, Array.replicate_zero, List.push_toArray, List.append_toArray, List.nil_append, List.cons_append]
  gi_wp2
  gi_loopw [11] (fun i wr => ∃ k : Nat, k ≤ C.ta.length ∧ i = .int .i64 k ∧ J (ownT C dn k) wr ∧ TK Bk kb a8 C.ta.length W wr)
    (fun i _ => C.ta.length - (intOf i).toNat)
  case atStart => exact ⟨0, Nat.zero_le _, rfl, h0, TK.refl _ _ _ _ _⟩
  case round =>
    obtain ⟨k, hk, rfl, hJr, hnx⟩ := hrel
    have HJ := hid hJr
    have HX := hid hnx
    by_cases hlt : k < C.ta.length
    · obtain ⟨b, o, rfl, p0, p1, p2, p3⟩ := hT k hlt
      have hb := ha8 b o rfl (by omega)
      have p0' := (hnx.tcell rfl (by omega) (o + k * 4)).trans p0
      have p1' := (hnx.tcell rfl (by omega) (o + k * 4 + 1)).trans p1
      have p2' := (hnx.tcell rfl (by omega) (o + k * 4 + 2)).trans p2
      have p3' := (hnx.tcell rfl (by omega) (o + k * 4 + 3)).trans p3
      have hB' := hnx.c0.trans hB
      have h16' := hnx.c16.trans h16
      have hk1 : (k : Int) < (C.ta.length : Int) := by omega
      have hk0 : (0 : Int) ≤ (k : Int) := by omega
      clear hJr hnx
      have HT : Hid (C.ta.getD k (0, 0, 0, 0) = C.ta[k]) := hid (by simp [hlt])
      have HP := hid (ownT_le C dn k)
      generalize C.ta[k] = tk at *
      obtain ⟨t0, t1, t2, t3⟩ := tk
      dsimp only at *
      have q1 : TK Bk kb (some ⟨b, o, none⟩) C.ta.length wr (wr.alloc (.cells #[.int .i64 t0, .int .i64 t1, .int .i64 t2, .int .i64 t3] 69)).drew := ((TK.refl _ _ _ _ _).alloc (by have := HX.out.size; omega) (by have := HX.out.size; omega) (fun b' o' e _ => by cases e; have := HX.out.size; omega) _).drew
      have hBa := cell_old (.cells #[.int .i64 t0, .int .i64 t1, .int .i64 t2, .int .i64 t3] 69) hB'
      have h16a := cell_old (.cells #[.int .i64 t0, .int .i64 t1, .int .i64 t2, .int .i64 t3] 69) h16'
      by_cases hd : t0 = dn
      · subst hd
        have HO : Hid (ownT C t0 (k + 1) = ownT C t0 k ++ [(k, (t0, t1, t2, t3))]) := hid (by rw [ownT_succ, HT.out, if_pos rfl])
        obtain ⟨fn, tmps, assign, body, hy, hR⟩ := hY (ownT C t0 k) (k, (t0, t1, t2, t3)) (wr.alloc (.cells #[.int .i64 t0, .int .i64 t1, .int .i64 t2, .int .i64 t3] 69)).drew (mem_ownT.2 ⟨hlt, HT.out.symm, rfl⟩) (hJd _ _ (hJa _ _ _ HJ.out)) (by have := HP.out; omega)
        dsimp only [encT] at hy
        gi_wp2
        gi_cut [29] from 16 (fun t wx => ∃ r : Bool, t = .bool (!r) ∧ (r = true → J (ownT C t0 (k + 1)) wx ∧ TK Bk kb (some ⟨b, o, none⟩) C.ta.length wr wx) ∧ (r = false → Jx (ownT C t0 (k + 1)) wx))
        case first =>
          gi_region_with_o (refine hR.mono ?_; intro e W3 hor; obtain ⟨r, rfl, hr⟩ := yield_one hor; have HR3 := hid hr; clear hor hr)
          all_goals
            gi_wp2
            go_meet
            case rel => exact ⟨r, by cases r <;> rfl, fun e => by rw [HO.out]; exact ⟨(HR3.out.1 e).1, q1.trans (HR3.out.1 e).2⟩, fun e => by rw [HO.out]; exact HR3.out.2 e⟩
        case rest =>
          obtain ⟨r, rfl, h1, h2⟩ := hcut
          have H1 := hid h1
          have H2 := hid h2
          clear h1 h2
          cases r with
          | true =>
            gi_wp2
            go_roundw
            case rel => exact ⟨k + 1, by omega, by go_num, (H1.out rfl).1, HX.out.trans (H1.out rfl).2⟩
            case measure => simp [intOf]; omega
          | false =>
            gi_wp2
            refine bodyPost_ret (results_none rfl _ _ _) rfl ?_
            exact ⟨⟨_, rfl⟩, .inr ⟨_, ⟨k + 1, by omega, rfl⟩, H2.out trivial⟩⟩
      · have hd' : (t0 == dn) = false := by simp [hd]
        have HO : Hid (ownT C dn (k + 1) = ownT C dn k) := hid (by rw [ownT_succ, HT.out, if_neg hd, List.append_nil])
        gi_wp2
        gi_cut [29] from 16 (fun t wx => t = .bool false ∧ wx = (wr.alloc (.cells #[.int .i64 t0, .int .i64 t1, .int .i64 t2, .int .i64 t3] 69)).drew)
        case first =>
          first
            | gi_region_with_o (refine ⟨fun _ h => (by cases h), ?_⟩)
            | fail
          all_goals
            gi_wp2
            go_meet
            case rel => exact ⟨rfl, rfl⟩
        case rest =>
          obtain ⟨rfl, rfl⟩ := hcut
          have HE : Hid (J (ownT C dn (k + 1)) (wr.alloc (.cells #[.int .i64 t0, .int .i64 t1, .int .i64 t2, .int .i64 t3] 69)).drew ∧ TK Bk kb (some ⟨b, o, none⟩) C.ta.length W (wr.alloc (.cells #[.int .i64 t0, .int .i64 t1, .int .i64 t2, .int .i64 t3] 69)).drew) := hid ⟨by rw [HO.out]; exact hJd _ _ (hJa _ _ _ HJ.out), HX.out.trans q1⟩
          generalize (wr.alloc (.cells #[.int .i64 t0, .int .i64 t1, .int .i64 t2, .int .i64 t3] 69)).drew = w5 at *
          gi_wp2
          go_roundw
          case rel => exact ⟨k + 1, by omega, by go_num, HE.out⟩
          case measure => simp [intOf]; omega
    · obtain rfl : k = C.ta.length := by omega
      gi_wp2
      go_end0
      exact ⟨⟨_, rfl⟩, .inl ⟨_, rfl, HJ.out⟩⟩

/-- A task of a domain, with its number. -/
abbrev OT (C : Conf) (dn : Int) := { x : NT // x ∈ ownT C dn C.ta.length }

theorem tasks_stops2 (n : Nat) (hn : 1 ≤ n) (Bk kb n₀ : Nat) (C : Conf) (a8 : Option Addr) (c8 : Nat) (dn : Int) (hkb : kb < n₀) (hBk : Bk < n₀) (hln : C.ta.length ≤ 9223372036854775807)
    (w : World) (hB : w.cell? ⟨Bk, 0, none⟩ = some (.pointer (some ⟨kb, 0, none⟩))) (h8 : w.cell? ⟨kb, 15, none⟩ = some (.slice a8 C.ta.length c8)) (h16 : w.cell? ⟨kb, 16, none⟩ = some (.int .i64 dn)) (hT : TasksIn w a8 C.ta) (ha8 : ∀ b o, a8 = some ⟨b, o, none⟩ → 0 < C.ta.length → b < n₀) (hsz : n₀ ≤ w.heap.size) :
    SeqStopsK Fence.wide n Tryz.prog 90 #[.pointer (some ⟨Bk, 0, none⟩)] (fun x : OT C dn => encT x.1) (TK Bk kb a8 C.ta.length) (fun ys => ys.map (·.1) = ownT C dn C.ta.length) (fun pre => ∃ k, k ≤ C.ta.length ∧ pre.map (·.1) = ownT C dn k) C.ta.length w := by
  intro l J Jx W hb hJ hJx hY h0
  have hsz' := hb.size
  have hTW : TasksIn W a8 C.ta := by
    intro k hk
    obtain ⟨b, o, e, p0, p1, p2, p3⟩ := hT k hk
    have hlt : b < w.heap.size := Nat.lt_of_lt_of_le (ha8 b o e (by omega)) hsz
    exact ⟨b, o, e, (hb.cell (p := ⟨b, o + k * 4, none⟩) hlt).trans p0, (hb.cell (p := ⟨b, o + k * 4 + 1, none⟩) hlt).trans p1, (hb.cell (p := ⟨b, o + k * 4 + 2, none⟩) hlt).trans p2, (hb.cell (p := ⟨b, o + k * 4 + 3, none⟩) hlt).trans p3⟩
  refine (tasks2_in n hn l Bk kb n₀ C a8 c8 dn (fun pre W => ∃ ps : List (OT C dn), ps.map (·.1) = pre ∧ J ps W) (fun pre W => ∃ ps : List (OT C dn), ps.map (·.1) = pre ∧ Jx ps W) hkb hBk hln
    (fun pre x W1 hx hJ1 hl1 => by
      obtain ⟨ps, rfl, hp⟩ := hJ1
      refine (hY ps ⟨x, hx⟩ W1 hp (by simpa using hl1)).mono ?_
      rintro e w' (⟨h1, h2, h3⟩ | ⟨h1, h2⟩)
      · exact .inl ⟨h1, ⟨_, by simp, h2⟩, h3⟩
      · exact .inr ⟨h1, ⟨_, by simp, h2⟩⟩)
    (fun pre W1 o h => by
      obtain ⟨ps, e, hp⟩ := h
      exact ⟨ps, e, hJ ps W1 _ none hp (World.grownBy_alloc W1 o none) (fun _ e => by cases e)⟩)
    (fun pre W1 h => by
      obtain ⟨ps, e, hp⟩ := h
      exact ⟨ps, e, hJ ps W1 _ none hp ⟨rfl, rfl, rfl, Nat.le_refl _, fun _ _ _ => rfl⟩ (fun _ e => by cases e)⟩)
    W ((hb.cell (p := ⟨Bk, 0, none⟩) (by show Bk < _; omega)).trans hB) ((hb.cell (p := ⟨kb, 15, none⟩) (by show kb < _; omega)).trans h8) ((hb.cell (p := ⟨kb, 16, none⟩) (by show kb < _; omega)).trans h16) hTW ha8 (by omega) ⟨[], rfl, h0⟩).mono ?_
  rintro e w' ⟨hv, ⟨ys, rfl, ps, h1, h2⟩ | ⟨pre, ⟨k, hk, rfl⟩, ps, h1, h2⟩⟩
  · exact ⟨hv, .inl ⟨ps, h1, h2⟩⟩
  · exact ⟨hv, .inr ⟨ps, ⟨k, hk, h1⟩, h2⟩⟩

end Go.Proofs.YtildebflnmbefaaGreat
