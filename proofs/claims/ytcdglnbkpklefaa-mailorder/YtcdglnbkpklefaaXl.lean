/- What memory holds while values are committed and received, one list behind the other; the plain reckoning beside it. -/
import Derived.Test.YtcdglnbkpklefaaXi
set_option linter.unusedVariables false
namespace Go.Proofs.Ytcdglnbkpklefaa
open Go.RowKit

theorem allR_append {V L : List Int} {l m : Int} (h1 : allR V l m = true) (h2 : allR L l m = true) : allR (V ++ L) l m = true := by
  simp only [allR, List.all_append, Bool.and_eq_true] at *
  exact ⟨h1, h2⟩

theorem allR_take {L : List Int} {l m : Int} (k : Nat) (h : allR L l m = true) : allR (L.take k) l m = true := by
  simp only [allR, List.all_eq_true] at *
  exact fun x hx => h x (List.mem_of_mem_take hx)

theorem allR_drop {L : List Int} {l m : Int} (k : Nat) (h : allR L l m = true) : allR (L.drop k) l m = true := by
  simp only [allR, List.all_eq_true] at *
  exact fun x hx => h x (List.mem_of_mem_drop hx)

theorem ckR_of {V : List Int} {lost size : Int} (h1 : 1 ≤ size) (h2 : size ≤ 4) (h3 : (V.length : Int) ≤ size) (h4 : allR V 0 255 = true) (h5 : 0 ≤ lost) (h6 : lost ≤ 100000) : ckR V lost size = 0 := by
  have e1 : inR size 1 4 = true := by simp [inR, h1, h2]
  have e2 : inR lost 0 100000 = true := by simp [inR, h5, h6]
  have e3 : ¬ size < (V.length : Int) := by omega
  simp [ckR, e1, e2, h4, e3]

theorem ckR_com {V L : List Int} {lost size : Int} (h : ckR V lost size = 0) (hL : allR L 0 255 = true) : ckR (comV V L (roomR V size) L.length) (comL lost (roomR V size) L.length) size = 0 := by
  obtain ⟨⟨h1, h2⟩, h3, h4, h5, h6⟩ := ckR_ok h
  refine ckR_of h1 h2 ?_ (allR_append h4 (allR_take _ hL)) ?_ ?_
  · rw [comV_len _ _ _ _ (Nat.le_refl _)]; unfold roomR; omega
  · unfold comL; omega
  · unfold comL; omega

theorem ckR_recv {V : List Int} {lost size : Int} (h : ckR V lost size = 0) : ckR (recvV V lost size) (recvL V lost size) size = 0 := by
  obtain ⟨⟨h1, h2⟩, h3, h4, h5, h6⟩ := ckR_ok h
  simp only [recvV, recvL, h, if_true]
  exact ckR_of h1 h2 (by simp; omega) (allR_drop _ h4) h5 h6

theorem recv_split {V : List Int} {lost size : Int} (h : ckR V lost size = 0) : (V = [] ∧ recvX V lost size = -1 ∧ recvV V lost size = [] ∧ recvL V lost size = lost) ∨ (∃ x r, V = x :: r ∧ recvX V lost size = x ∧ 0 ≤ x ∧ x ≤ 255 ∧ recvV V lost size = r ∧ recvL V lost size = lost) := by
  obtain ⟨_, _, h4, _, _⟩ := ckR_ok h
  cases V with
  | nil => left; simp [recvX, recvV, recvL, h]
  | cons x r =>
    right
    have : inR x 0 255 = true := by
      simp only [allR, List.all_eq_true] at h4
      exact h4 x (by simp)
    simp [inR] at this
    exact ⟨x, r, rfl, by simp [recvX, h], this.1, this.2, by simp [recvV, h], by simp [recvL, h]⟩

/-- An append of numbers, empty or not, that says where the row lies then. -/
theorem wpList_appW {ops : Array Oper} {rest : List Oper} {o : Oper} {a : Act} {w : World} {Q : Exit → Act → World → Prop} (hgd : o.guard = none) (s x : Operand)
    (ho : o.op = .call { callee := .builtin .append, args := #[s, x], argTypes := #[42, 42] })
    (base : Nat) (v : Value) (n : Nat) (xs : List Value) (hs : a.eval s = v) (hown : w.ownsRow base 3 1 v n xs)
    (L : List Int) (m : Nat) (hLm : L.length = m) (a6 : Option Addr) (c6 : Nat) (hx : a.eval x = .slice a6 m c6) (hL : IntsIn w a6 L) (h63 : n + m ≤ maxLen) (hbytes : (n + m) * 8 ≤ 140737488355328) (hbase : base ≤ w.heap.size)
    (h : ∀ v' w', w'.ownsRow base 3 1 v' (n + m) (xs ++ ivs L) → w.grownBy w' v.ownBlock → (v'.ownBlock = v.ownBlock ∨ v'.ownBlock = some w.heap.size) → wpList Try.prog ops Q rest (a.put o.dst v') w') : wpList Try.prog ops Q (o :: rest) a w := by
  obtain ⟨i3, hi, hz, hsz, hby⟩ := infoOf Try.info3x
  subst hLm
  by_cases hL0 : L = []
  · subst hL0
    have hroom : ∃ p cap, v = .slice p n cap ∧ n ≤ cap := by
      rcases hown.2 with ⟨e, e2⟩ | ⟨g, cap, _, e, _, _, h, _⟩
      · exact ⟨none, 0, by rw [e, e2], by omega⟩
      · exact ⟨_, cap, e, h⟩
    obtain ⟨p, cap, rfl, hr⟩ := hroom
    refine wpList_plain hgd fun K hK => ?_
    have hrun := append_none (P := Try.prog) w 42 o.type 3 i3 Try.underlying42 hi p n cap a6 c6 hr
    unfold Oper.wp
    simp [execOp, ho, resolve, invoke, builtin, hs, hx, hrun, Result.andThen]
    exact hK _ _ (h _ _ (by simpa [ivs] using hown) ⟨rfl, rfl, rfl, Nat.le_refl _, fun _ _ _ => rfl⟩ (.inl rfl))
  · obtain ⟨b, off, rfl, _⟩ := hL 0 (List.length_pos_iff.2 hL0)
    refine wpList_append_lies w hgd s x 42 ho base 3 i3 _ 1 8 Try.underlying42 hi hz hsz hby rfl (by decide) v n xs hs hown ⟨b, off, none⟩ L.length c6 (ivs L) hx (by simp [ivs]) ?_ (i64x_one L) (List.length_pos_iff.2 hL0) h63 hbytes hbase w.heap.size rfl (fun g cap w' h1 h2 h3 _ => h _ w' h1 h2 ?_)
    · intro j u hu
      have hj : j < L.length := by
        have := (List.getElem?_eq_some_iff.1 hu).1
        rwa [ivs_len] at this
      obtain ⟨b2, o2, e, hc⟩ := hL j hj
      simp only [Option.some.injEq, Addr.mk.injEq, and_true] at e
      obtain ⟨rfl, rfl⟩ := e
      have hadd : (⟨b, off, none⟩ : Addr).add j = ⟨b, off + j, none⟩ := by unfold Addr.add; split <;> simp_all
      rw [hadd, hc]
      simp only [ivs, List.getElem?_map, List.getElem?_eq_getElem hj, Option.map_some] at hu
      rw [← hu]
    · rcases h3 with h3 | h3
      · left; rw [h3]; rfl
      · right; rw [h3]; rfl

theorem own_ne' {w : World} {base n B : Nat} {v : Value} {xs L : List Value} (h : w.ownsRow base 3 1 v n xs) (r : RowAt w B 63 L) : some B ≠ v.ownBlock := by
  obtain ⟨_, hv⟩ := h
  rcases hv with ⟨rfl, _⟩ | ⟨g, cap, cur, rfl, _, hg, _⟩
  · simp [Value.ownBlock]
  · intro e
    simp [Value.ownBlock] at e
    subst e
    have hr : w.heap[B]? = _ := r
    rw [hr] at hg
    simp at hg

/-- Memory while lists are committed and values received: a ring in its box, what was kept, what was got. -/
structure Mo (w wr : World) (b : Nat) (a : Option Addr) (cap : Nat) (V : List Int) (lost : Int) (v8 : Value) (K : List Int) (v9 : Value) (G : List Int) : Prop where
  below : Below w.heap.size w wr
  r7 : RowAt wr b 63 [.slice a V.length cap, .int .i64 lost]
  vals : IntsIn wr a V
  hc : V.length ≤ cap
  o8 : wr.ownsRow w.heap.size 3 1 v8 K.length (ivs K)
  o9 : wr.ownsRow w.heap.size 3 1 v9 G.length (ivs G)
  n89 : ∀ g, v8.ownBlock = some g → v9.ownBlock ≠ some g
  n8 : ∀ x o, a = some ⟨x, o, none⟩ → v8.ownBlock ≠ some x
  n9 : ∀ x o, a = some ⟨x, o, none⟩ → v9.ownBlock ≠ some x
  la : ∀ x o, a = some ⟨x, o, none⟩ → x < wr.heap.size
  lb : w.heap.size ≤ b

section
variable {w wr : World} {b : Nat} {a : Option Addr} {cap : Nat} {V : List Int} {lost : Int} {v8 : Value} {K : List Int} {v9 : Value} {G : List Int}

theorem Mo.keep {w' : World} (h : Mo w wr b a cap V lost v8 K v9 G) (hb : Below wr.heap.size wr w') : Mo w w' b a cap V lost v8 K v9 G :=
  ⟨btrans h.below hb, h.r7.below hb (Nat.le_refl _), h.vals.keep hb, h.hc, owns_below' h.o8 hb, owns_below' h.o9 hb, h.n89, h.n8, h.n9, fun x o e => by have := h.la x o e; have := hb.size; omega, h.lb⟩

theorem Mo.app8 {w1 : World} {v8' : Value} {K' : List Int} (h : Mo w wr b a cap V lost v8 K v9 G) (hg : wr.grownBy w1 v8.ownBlock) (ho : w1.ownsRow w.heap.size 3 1 v8' K'.length (ivs K')) (hl : v8'.ownBlock = v8.ownBlock ∨ v8'.ownBlock = some wr.heap.size) : Mo w w1 b a cap V lost v8' K' v9 G := by
  have hsz := hg.size
  refine ⟨h.below.grown hg h.below.size (fun k hk => (h.o8.lt k hk).1), h.r7.grown' hg (own_ne' h.o8 h.r7), h.vals.grown hg (fun x o e q => h.n8 x o e q.symm), h.hc, ho, h.o9.kept hg ?_, ?_, ?_, h.n9, fun x o e => by have := h.la x o e; omega, h.lb⟩
  · cases hv : v9.ownBlock with
    | none => exact .inl rfl
    | some g => right; intro e; exact h.n89 g e.symm hv
  · intro g hg8 hg9
    rcases hl with e | e
    · exact h.n89 g (by rw [← e]; exact hg8) hg9
    · rw [e] at hg8
      have := (h.o9.lt g hg9).2
      simp at hg8
      omega
  · intro x o e hx
    rcases hl with e2 | e2
    · exact h.n8 x o e (by rw [← e2]; exact hx)
    · rw [e2] at hx
      have := h.la x o e
      simp at hx
      omega

theorem Mo.app9 {w1 : World} {v9' : Value} {G' : List Int} (h : Mo w wr b a cap V lost v8 K v9 G) (hg : wr.grownBy w1 v9.ownBlock) (ho : w1.ownsRow w.heap.size 3 1 v9' G'.length (ivs G')) (hl : v9'.ownBlock = v9.ownBlock ∨ v9'.ownBlock = some wr.heap.size) : Mo w w1 b a cap V lost v8 K v9' G' := by
  have hsz := hg.size
  refine ⟨h.below.grown hg h.below.size (fun k hk => (h.o9.lt k hk).1), h.r7.grown' hg (own_ne' h.o9 h.r7), h.vals.grown hg (fun x o e q => h.n9 x o e q.symm), h.hc, h.o8.kept hg ?_, ho, ?_, h.n8, ?_, fun x o e => by have := h.la x o e; omega, h.lb⟩
  · cases hv : v8.ownBlock with
    | none => exact .inl rfl
    | some g => right; intro e; exact h.n89 g hv e.symm
  · intro g hg8 hg9
    rcases hl with e | e
    · exact h.n89 g hg8 (by rw [← e]; exact hg9)
    · rw [e] at hg9
      have := (h.o8.lt g hg8).2
      simp at hg9
      omega
  · intro x o e hx
    rcases hl with e2 | e2
    · exact h.n9 x o e (by rw [← e2]; exact hx)
    · rw [e2] at hx
      have := h.la x o e
      simp at hx
      omega

/-- Another ring is put into the box. -/
theorem Mo.ring {a' : Option Addr} {cap' : Nat} {V' : List Int} {lost' : Int} (h : Mo w wr b a cap V lost v8 K v9 G) (hi : IntsIn wr a' V') (hc : V'.length ≤ cap') (hq : ∀ x o, a' = some ⟨x, o, none⟩ → v8.ownBlock ≠ some x ∧ v9.ownBlock ≠ some x ∧ x < wr.heap.size ∧ x ≠ b) :
    Mo w ((wr.setCell ⟨b, 0, none⟩ (.slice a' V'.length cap')).setCell ⟨b, 1, none⟩ (.int .i64 lost')) b a' cap' V' lost' v8 K v9 G := by
  have hl := h.lb
  have g1 : wr.grownBy ((wr.setCell ⟨b, 0, none⟩ (.slice a' V'.length cap')).setCell ⟨b, 1, none⟩ (.int .i64 lost')) (some b) := (grow_setCell wr _ _ _).trans (grow_setCell _ _ _ _)
  have k8 : v8.ownBlock = none ∨ v8.ownBlock ≠ some b := by
    cases hv : v8.ownBlock with
    | none => exact .inl rfl
    | some g => right; intro e; exact own_ne' h.o8 h.r7 (by rw [hv]; exact e.symm)
  have k9 : v9.ownBlock = none ∨ v9.ownBlock ≠ some b := by
    cases hv : v9.ownBlock with
    | none => exact .inl rfl
    | some g => right; intro e; exact own_ne' h.o9 h.r7 (by rw [hv]; exact e.symm)
  exact ⟨(h.below.setCell (p := ⟨b, 0, none⟩) hl _).setCell (p := ⟨b, 1, none⟩) hl _, (h.r7.setCell 0 _).setCell 1 _, hi.grown g1 (fun x o e => by have := (hq x o e).2.2.2; simp; omega), hc, h.o8.kept g1 k8, h.o9.kept g1 k9, h.n89, fun x o e => (hq x o e).1, fun x o e => (hq x o e).2.1, fun x o e => by have := (hq x o e).2.2.1; simpa [World.setCell] using this, hl⟩
end

end Go.Proofs.Ytcdglnbkpklefaa
