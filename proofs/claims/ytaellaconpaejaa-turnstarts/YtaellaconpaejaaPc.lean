/- The plain reckoning of images: what was written is read as it was. -/
import Derived.Test.YtaellaconpaejaaPb
set_option linter.unusedVariables false
namespace Go.Proofs.Ytaellaconpaejaa

theorem nums_bstr (l : List Int) (h : ∀ x ∈ l, 0 ≤ x ∧ x ≤ 255) : nums (bstr l) = l := by
  simp only [nums, bstr, u8s, List.map_map]
  rw [List.map_congr_left (g := id)]
  · simp
  · intro x hx
    have := h x hx
    simp
    omega

theorem p1_app (P : List Int) (x : Int) (S : List Int) (k : Nat) (h : P.length = k) : p1 (P ++ x :: S) k = .ok (x, k + 1) := by
  subst h
  simp [p1]

/-- The item that stands at a place is read, whatever stands around it. -/
def Reads {α : Type} (item : List Int → Nat → Out α) (x : α) (l : List Int) : Prop :=
  ∀ (P S : List Int) (k : Nat), P.length = k → item (P ++ (l ++ S)) k = .ok (x, k + l.length)

theorem reads1 (x : Int) : Reads p1 x [x] := by
  intro P S k h
  exact p1_app P x S k h

theorem reads2 (n : Int) (h0 : 0 ≤ n) : Reads p2 n (hl n) := by
  intro P S k h
  rw [p2]
  have e1 := p1_app P (n / 256) (n % 256 :: S) k h
  have e2 := p1_app (P ++ [n / 256]) (n % 256) S (k + 1) (by simp [h])
  simp only [List.append_assoc, List.cons_append, List.nil_append] at e2
  simp only [hl, List.cons_append, List.nil_append]
  rw [bnd_ok e1, bnd_ok e2]
  simp only [List.length_cons, List.length_nil]
  congr 2
  omega

theorem reads_snoc {α : Type} {item : List Int → Nat → Out α} {x : α} {l : List Int} (h : Reads item x l) (P S : List Int) (k : Nat) (hk : P.length = k) (B : List Int) (hB : B = P ++ (l ++ S)) : item B k = .ok (x, k + l.length) := by
  subst hB; exact h P S k hk

theorem readsS (x : Int × Int) (h0 : 0 ≤ x.2) : Reads pSlot x (enS x) := by
  intro P S k h
  rw [pSlot]
  rw [bnd_ok (reads_snoc (reads1 x.1) P (hl x.2 ++ S) k h _ (by simp [enS]))]
  rw [bnd_ok (reads_snoc (reads2 x.2 h0) (P ++ [x.1]) S _ (by simp [h]) _ (by simp [enS]))]
  simp [enS, hl]

theorem readsC (x : Int × Int × Int) : Reads pChan x (enC x) := by
  intro P S k h
  rw [pChan]
  rw [bnd_ok (reads_snoc (reads1 x.1) P ([x.2.1, x.2.2] ++ S) k h _ (by simp [enC]))]
  rw [bnd_ok (reads_snoc (reads1 x.2.1) (P ++ [x.1]) ([x.2.2] ++ S) _ (by simp [h]) _ (by simp [enC]))]
  rw [bnd_ok (reads_snoc (reads1 x.2.2) (P ++ [x.1, x.2.1]) S _ (by simp [h]) _ (by simp [enC]))]
  simp [enC]

theorem readsT (x : Int × Int × Int × Int) (h1 : 0 ≤ x.2.1) (h2 : 0 ≤ x.2.2.1) (h3 : 0 ≤ x.2.2.2) : Reads pTask x (enT x) := by
  intro P S k h
  rw [pTask]
  rw [bnd_ok (reads_snoc (reads1 x.1) P (hl x.2.1 ++ hl x.2.2.1 ++ hl x.2.2.2 ++ S) k h _ (by simp [enT]))]
  rw [bnd_ok (reads_snoc (reads2 x.2.1 h1) (P ++ [x.1]) (hl x.2.2.1 ++ hl x.2.2.2 ++ S) _ (by simp [h]) _ (by simp [enT]))]
  rw [bnd_ok (reads_snoc (reads2 x.2.2.1 h2) (P ++ x.1 :: hl x.2.1) (hl x.2.2.2 ++ S) _ (by simp [h, hl]) _ (by simp [enT]))]
  rw [bnd_ok (reads_snoc (reads2 x.2.2.2 h3) (P ++ x.1 :: (hl x.2.1 ++ hl x.2.2.1)) S _ (by simp [h, hl]) _ (by simp [enT]))]
  simp [enT, hl]

theorem readsM {α : Type} {item : List Int → Nat → Out α} (en : α → List Int) (L : List α) (h : ∀ x ∈ L, Reads item x (en x)) (P S : List Int) (k : Nat) (hk : P.length = k) :
    ∀ n, n ≤ L.length → pMany (item (P ++ (L.flatMap en ++ S))) n k = .ok (L.take n, k + ((L.take n).flatMap en).length) := by
  intro n
  induction n with
  | zero => intro _; simp [pMany]
  | succ n ih =>
    intro hn
    have hlt : n < L.length := by omega
    rw [pMany, bnd_ok (ih (by omega))]
    have e : P ++ (L.flatMap en ++ S) = (P ++ (L.take n).flatMap en) ++ (en L[n] ++ ((L.drop (n + 1)).flatMap en ++ S)) := by
      have e2 : L.flatMap en = (L.take n).flatMap en ++ (en L[n] ++ (L.drop (n + 1)).flatMap en) := by
        have e3 : L = L.take n ++ (L[n] :: L.drop (n + 1)) := by rw [← List.drop_eq_getElem_cons hlt, List.take_append_drop]
        conv => lhs; rw [e3]
        rw [List.flatMap_append, List.flatMap_cons]
      rw [e2]; simp only [List.append_assoc]
    rw [bnd_ok (reads_snoc (h L[n] (List.getElem_mem hlt)) (P ++ (L.take n).flatMap en) ((L.drop (n + 1)).flatMap en ++ S) _ (by simp [hk]) _ e)]
    rw [List.take_succ_eq_append_getElem hlt]
    simp only [List.flatMap_append, List.length_append, List.flatMap_cons, List.flatMap_nil, List.append_nil, Nat.add_assoc]

theorem readsL {α : Type} {item : List Int → Nat → Out α} (en : α → List Int) (L : List α) (h : ∀ x ∈ L, Reads item x (en x)) (m : Int) (hm : (L.length : Int) ≤ m) (P S : List Int) (k : Nat) (hk : P.length = k) (B : List Int) (hB : B = P ++ ((L.length : Int) :: (L.flatMap en ++ S))) :
    pList B m (item B) k = .ok (L, k + 1 + (L.flatMap en).length) := by
  subst hB
  rw [pList, pCount, bnd_ok (p1_app P _ _ k hk)]
  rw [if_pos hm, bnd_ok rfl]
  have q := readsM en L h (P ++ [(L.length : Int)]) S (k + 1) (by simp [hk]) L.length (Nat.le_refl _)
  simp only [List.append_assoc, List.cons_append, List.nil_append, List.take_length] at q
  simpa using q

/-- An image is read as the config that it was made of. -/
theorem pConf_en {C : Conf} (h : Fits C) : pConf (en C) = .ok (C, (en C).length) := by
  obtain ⟨s, w, d, p, q, l5, l6, l7, l8, sl, ow, ch, ta⟩ := h
  have eb : pBegin (en C) 0 = .ok ((), 1) := by rw [pBegin, bnd_ok (x := 67) (n := 1) (by simp [p1, en])]; rfl
  have e1 : p1 (en C) 1 = .ok (C.s, 2) := by simp [p1, en]
  have e2 : p1 (en C) 2 = .ok (C.w, 3) := by simp [p1, en]
  have e3 : p1 (en C) 3 = .ok (C.d, 4) := by simp [p1, en]
  have e4 : p1 (en C) 4 = .ok (C.p, 5) := by simp [p1, en]
  have e5 : p1 (en C) 5 = .ok (C.q, 6) := by simp [p1, en]
  have e6 := readsL enS C.sl (fun x hx => readsS x (by have := sl x hx; omega)) 6 (by omega) [67, C.s, C.w, C.d, C.p, C.q] ((C.ow.length : Int) :: (C.ow ++ (C.ch.length : Int) :: (C.ch.flatMap enC ++ (C.ta.length : Int) :: C.ta.flatMap enT))) 6 rfl (en C) (by rw [en]; simp)
  rw [enS_len] at e6
  have eo : C.ow.flatMap (fun x => [x]) = C.ow := by simp
  have e7 := readsL (fun x => [x]) C.ow (fun x hx => reads1 x) 4 (by omega) ([67, C.s, C.w, C.d, C.p, C.q, (C.sl.length : Int)] ++ C.sl.flatMap enS) ((C.ch.length : Int) :: (C.ch.flatMap enC ++ (C.ta.length : Int) :: C.ta.flatMap enT)) (6 + 1 + 3 * C.sl.length) (by simp only [List.length_append, List.length_cons, List.length_nil, enS_len]) (en C) (by rw [en, eo]; simp)
  rw [eo] at e7
  have e8 := readsL enC C.ch (fun x hx => readsC x) 4 (by omega) ([67, C.s, C.w, C.d, C.p, C.q, (C.sl.length : Int)] ++ C.sl.flatMap enS ++ [(C.ow.length : Int)] ++ C.ow) ((C.ta.length : Int) :: C.ta.flatMap enT) (6 + 1 + 3 * C.sl.length + 1 + C.ow.length) (by simp only [List.length_append, List.length_cons, List.length_nil, enS_len]) (en C) (by rw [en]; simp)
  rw [enC_len] at e8
  have e9 := readsL enT C.ta (fun x hx => readsT x (by have := ta x hx; omega) (by have := ta x hx; omega) (by have := ta x hx; omega)) 6 (by omega) ([67, C.s, C.w, C.d, C.p, C.q, (C.sl.length : Int)] ++ C.sl.flatMap enS ++ [(C.ow.length : Int)] ++ C.ow ++ [(C.ch.length : Int)] ++ C.ch.flatMap enC) [] (6 + 1 + 3 * C.sl.length + 1 + C.ow.length + 1 + 3 * C.ch.length) (by simp only [List.length_append, List.length_cons, List.length_nil, enS_len, enC_len]) (en C) (by rw [en]; simp)
  rw [enT_len] at e9
  have hL := en_len C
  rw [pConf, bnd_ok eb, bnd_ok e1, bnd_ok e2, bnd_ok e3, bnd_ok e4, bnd_ok e5, bnd_ok e6, bnd_ok e7, bnd_ok e8, bnd_ok e9]
  rw [pEnd, if_neg (by rw [hL]; omega), bnd_ok rfl]
  congr 2
  rw [hL]
  omega

theorem dec_en {C : Conf} (h : ckC C = 0) : dec (en C) = (C, 0, 0) := by
  have hF := fits_of h
  have hl := en_len C
  have l5 := hF.l5
  have l6 := hF.l6
  have l7 := hF.l7
  have l8 := hF.l8
  rw [dec, if_neg (by rw [hl]; omega), pConf_en hF, decR, if_pos h]

/-- From k on the bytes l stand, and behind them it goes on at j. -/
def Took (B : List Int) (k : Nat) (l : List Int) (j : Nat) : Prop := B.drop k = l ++ B.drop j

theorem Took.trans {B : List Int} {k j i : Nat} {l m : List Int} (h : Took B k l j) (g : Took B j m i) : Took B k (l ++ m) i := by
  unfold Took at *
  rw [h, g, List.append_assoc]

theorem took1 {B : List Int} {k j : Nat} {x : Int} (h : p1 B k = .ok (x, j)) : Took B k [x] j ∧ x ∈ B := by
  unfold p1 at h
  split at h
  · rename_i y hy
    simp only [Except.ok.injEq, Prod.mk.injEq] at h
    obtain ⟨rfl, rfl⟩ := h
    obtain ⟨hk, rfl⟩ := List.getElem?_eq_some_iff.1 hy
    exact ⟨by rw [Took, List.drop_eq_getElem_cons hk]; rfl, List.getElem_mem hk⟩
  · simp at h

theorem bnd_inv {α β : Type} {p : Out α} {f : α → Nat → Out β} {y : β} {j : Nat} (h : bnd p f = .ok (y, j)) : ∃ x k, p = .ok (x, k) ∧ f x k = .ok (y, j) := by
  unfold bnd at h
  split at h
  · rename_i x n; exact ⟨x, n, rfl, h⟩
  · simp at h

theorem took2 {B : List Int} (hB : ∀ x ∈ B, 0 ≤ x ∧ x ≤ 255) {k j : Nat} {x : Int} (h : p2 B k = .ok (x, j)) : Took B k (hl x) j := by
  obtain ⟨a, k1, h1, h⟩ := bnd_inv h
  obtain ⟨b, k2, h2, h⟩ := bnd_inv h
  simp only [Except.ok.injEq, Prod.mk.injEq] at h
  obtain ⟨rfl, rfl⟩ := h
  have q1 := took1 h1
  have q2 := took1 h2
  have r1 := hB a q1.2
  have r2 := hB b q2.2
  have e : hl (256 * a + b) = [a] ++ [b] := by
    have e1 : (256 * a + b) / 256 = a := by omega
    have e2 : (256 * a + b) % 256 = b := by omega
    rw [hl, e1, e2]; rfl
  rw [e]
  exact q1.1.trans q2.1

theorem tookS {B : List Int} (hB : ∀ x ∈ B, 0 ≤ x ∧ x ≤ 255) {k j : Nat} {x : Int × Int} (h : pSlot B k = .ok (x, j)) : Took B k (enS x) j := by
  obtain ⟨a, k1, h1, h⟩ := bnd_inv h
  obtain ⟨b, k2, h2, h⟩ := bnd_inv h
  simp only [Except.ok.injEq, Prod.mk.injEq] at h
  obtain ⟨rfl, rfl⟩ := h
  exact (took1 h1).1.trans (took2 hB h2)

theorem tookC {B : List Int} {k j : Nat} {x : Int × Int × Int} (h : pChan B k = .ok (x, j)) : Took B k (enC x) j := by
  obtain ⟨a, k1, h1, h⟩ := bnd_inv h
  obtain ⟨b, k2, h2, h⟩ := bnd_inv h
  obtain ⟨c, k3, h3, h⟩ := bnd_inv h
  simp only [Except.ok.injEq, Prod.mk.injEq] at h
  obtain ⟨rfl, rfl⟩ := h
  exact ((took1 h1).1.trans (took1 h2).1).trans (took1 h3).1

theorem tookT {B : List Int} (hB : ∀ x ∈ B, 0 ≤ x ∧ x ≤ 255) {k j : Nat} {x : Int × Int × Int × Int} (h : pTask B k = .ok (x, j)) : Took B k (enT x) j := by
  obtain ⟨a, k1, h1, h⟩ := bnd_inv h
  obtain ⟨b, k2, h2, h⟩ := bnd_inv h
  obtain ⟨c, k3, h3, h⟩ := bnd_inv h
  obtain ⟨d, k4, h4, h⟩ := bnd_inv h
  simp only [Except.ok.injEq, Prod.mk.injEq] at h
  obtain ⟨rfl, rfl⟩ := h
  exact (took1 h1).1.trans (((took2 hB h2).trans (took2 hB h3)).trans (took2 hB h4))

theorem tookM {α : Type} {B : List Int} {item : Nat → Out α} (en : α → List Int) (hi : ∀ k x j, item k = .ok (x, j) → Took B k (en x) j) : ∀ (n k : Nat) {L : List α} {j : Nat}, pMany item n k = .ok (L, j) → Took B k (L.flatMap en) j := by
  intro n
  induction n with
  | zero =>
    intro k L j h
    simp only [pMany, Except.ok.injEq, Prod.mk.injEq] at h
    obtain ⟨rfl, rfl⟩ := h
    simp [Took]
  | succ n ih =>
    intro k L j h
    rw [pMany] at h
    obtain ⟨L1, k1, h1, h⟩ := bnd_inv h
    obtain ⟨x, k2, h2, h⟩ := bnd_inv h
    simp only [Except.ok.injEq, Prod.mk.injEq] at h
    obtain ⟨rfl, rfl⟩ := h
    rw [List.flatMap_append]
    simpa using (ih k h1).trans (hi _ _ _ h2)

theorem tookL {α : Type} {B : List Int} (hB : ∀ x ∈ B, 0 ≤ x ∧ x ≤ 255) {item : Nat → Out α} (en : α → List Int) (hi : ∀ k x j, item k = .ok (x, j) → Took B k (en x) j) {m : Int} {k : Nat} {L : List α} {j : Nat} (h : pList B m item k = .ok (L, j)) : Took B k ((L.length : Int) :: L.flatMap en) j ∧ (L.length : Int) ≤ m := by
  obtain ⟨n, k1, h1, h⟩ := bnd_inv h
  obtain ⟨n', k2, h2, h3⟩ := bnd_inv h1
  split at h3
  · rename_i hle
    simp only [Except.ok.injEq, Prod.mk.injEq] at h3
    obtain ⟨rfl, rfl⟩ := h3
    have q := took1 h2
    have r := hB _ q.2
    have hl := pMany_len _ h
    have e : (L.length : Int) = n' := by omega
    rw [e]
    exact ⟨q.1.trans (tookM en hi _ _ h), hle⟩
  · simp at h3

/-- What is read as a config is that config's image. -/
theorem en_pConf {B : List Int} (hB : ∀ x ∈ B, 0 ≤ x ∧ x ≤ 255) {C : Conf} {j : Nat} (h : pConf B = .ok (C, j)) : en C = B := by
  obtain ⟨u, k0, h0, h⟩ := bnd_inv h
  obtain ⟨x0, k0', hb, h0⟩ := bnd_inv h0
  split at h0
  · rename_i h67
    subst h67
    simp only [Except.ok.injEq, Prod.mk.injEq] at h0
    obtain ⟨_, rfl⟩ := h0
    obtain ⟨s, k1, h1, h⟩ := bnd_inv h
    obtain ⟨w, k2, h2, h⟩ := bnd_inv h
    obtain ⟨d, k3, h3, h⟩ := bnd_inv h
    obtain ⟨p, k4, h4, h⟩ := bnd_inv h
    obtain ⟨q, k5, h5, h⟩ := bnd_inv h
    obtain ⟨sl, k6, h6, h⟩ := bnd_inv h
    obtain ⟨ow, k7, h7, h⟩ := bnd_inv h
    obtain ⟨ch, k8, h8, h⟩ := bnd_inv h
    obtain ⟨ta, k9, h9, h⟩ := bnd_inv h
    obtain ⟨_, k10, h10, h⟩ := bnd_inv h
    simp only [Except.ok.injEq, Prod.mk.injEq] at h
    obtain ⟨rfl, rfl⟩ := h
    have t6 := (tookL hB enS (fun k x j h => tookS hB h) h6).1
    have t7 := (tookL hB (fun x => [x]) (fun k x j h => (took1 h).1) h7).1
    have t8 := (tookL hB enC (fun k x j h => tookC h) h8).1
    have t9 := (tookL hB enT (fun k x j h => tookT hB h) h9).1
    have eo : ow.flatMap (fun x => [x]) = ow := by simp
    rw [eo] at t7
    have hend : B.drop k9 = [] := by
      unfold pEnd at h10
      split at h10
      · simp at h10
      · rw [List.drop_eq_nil_iff]; omega
    have t := ((((((((((took1 hb).1.trans (took1 h1).1).trans (took1 h2).1).trans (took1 h3).1).trans (took1 h4).1).trans (took1 h5).1).trans t6).trans t7).trans t8).trans t9)
    unfold Took at t
    rw [hend, List.drop_zero, List.append_nil] at t
    rw [t]
    simp [en]
  · simp at h0

theorem nums_bytes (s : ByteArray) : ∀ x ∈ nums s, 0 ≤ x ∧ x ≤ 255 := by
  intro x hx
  simp only [nums, List.mem_map] at hx
  obtain ⟨u, _, rfl⟩ := hx
  have := u.toNat_lt
  omega

theorem bstr_nums (s : ByteArray) : bstr (nums s) = s := by
  have e : u8s (nums s) = s.data.toList := by
    simp only [u8s, nums, List.map_map]
    rw [List.map_congr_left (g := id)]
    · simp
    · intro x _
      simp
  rw [bstr, e]

/-- What Decode takes is an image, and the one that Encode makes. -/
theorem dec_back {s : ByteArray} (h : (dec (nums s)).2.2 = 0) : ckC (dec (nums s)).1 = 0 ∧ bstr (en (dec (nums s)).1) = s := by
  unfold dec at h ⊢
  split at h
  · simp at h
  · rename_i h2
    rw [if_neg h2]
    cases hp : pConf (nums s) with
    | error n => rw [hp] at h; simp [decR] at h
    | ok r =>
      obtain ⟨C, j⟩ := r
      rw [hp] at h
      simp only [decR] at h ⊢
      by_cases h0 : ckC C = 0
      · rw [if_pos h0]
        exact ⟨h0, by rw [en_pConf (nums_bytes s) hp, bstr_nums]⟩
      · rw [if_neg h0] at h
        exact absurd h h0

theorem dec_err {s : ByteArray} (h : (dec (nums s)).2.2 ≠ 0) : (dec (nums s)).1 = zeroC := by
  unfold dec at h ⊢
  split
  · rfl
  · rename_i h2
    rw [if_neg h2] at h
    cases hp : pConf (nums s) with
    | error n => rfl
    | ok r =>
      obtain ⟨C, j⟩ := r
      rw [hp] at h
      simp only [decR] at h ⊢
      by_cases h0 : ckC C = 0
      · rw [if_pos h0] at h; simp at h
      · rw [if_neg h0]

end Go.Proofs.Ytaellaconpaejaa
