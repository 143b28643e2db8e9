/- The plain reckoning of images: reading by positions comes to the same as reading byte by byte. -/
import Derived.Test.YtcdglnbkpklefaaPb
namespace Go.Proofs.Ytcdglnbkpklefaa

def gb (B : List Int) (k : Nat) : Int := B.getD k 0
def gw (B : List Int) (k : Nat) : Int := 256 * gb B k + gb B (k + 1)

/-- What reads a number of bytes, or runs out of them. -/
def Tk {α : Type} (B : List Int) (sz : Nat) (item : Nat → Out α) (f : Nat → α) : Prop := ∀ k, k ≤ B.length → item k = if k + sz ≤ B.length then .ok (f k, k + sz) else .error B.length

theorem tk1 (B : List Int) : Tk B 1 (p1 B) (gb B) := by
  intro k hk
  unfold p1
  by_cases h : k < B.length
  · rw [List.getElem?_eq_getElem h, if_pos (by omega)]
    simp [gb, h]
  · rw [List.getElem?_eq_none (by omega), if_neg (by omega)]
    simp only
    congr 1; omega

theorem tk_bnd {α β γ : Type} {B : List Int} {s1 s2 : Nat} {p : Nat → Out α} {q : Nat → Out β} {f : Nat → α} {g : Nat → β} (h1 : Tk B s1 p f) (h2 : Tk B s2 q g) (c : α → β → γ) : Tk B (s1 + s2) (fun k => bnd (p k) fun x k => bnd (q k) fun y k => .ok (c x y, k)) (fun k => c (f k) (g (k + s1))) := by
  intro k hk
  dsimp only
  rw [h1 k hk]
  by_cases e1 : k + s1 ≤ B.length
  · rw [if_pos e1, bnd_ok rfl, h2 (k + s1) e1]
    by_cases e2 : k + s1 + s2 ≤ B.length
    · rw [if_pos e2, if_pos (by omega), bnd_ok rfl, Nat.add_assoc]
    · rw [if_neg e2, if_neg (by omega)]; rfl
  · rw [if_neg e1, if_neg (by omega)]; rfl

theorem tk2 (B : List Int) : Tk B 2 (p2 B) (gw B) := tk_bnd (tk1 B) (tk1 B) (fun x y => 256 * x + y)
theorem tkS (B : List Int) : Tk B 3 (pSlot B) (fun k => (gb B k, gw B (k + 1))) := tk_bnd (tk1 B) (tk2 B) Prod.mk

theorem tk_bnd3 {α β δ γ : Type} {B : List Int} {s1 s2 s3 : Nat} {p : Nat → Out α} {q : Nat → Out β} {r : Nat → Out δ} {f : Nat → α} {g : Nat → β} {h : Nat → δ} (h1 : Tk B s1 p f) (h2 : Tk B s2 q g) (h3 : Tk B s3 r h) (c : α → β → δ → γ) : Tk B (s1 + s2 + s3) (fun k => bnd (p k) fun x k => bnd (q k) fun y k => bnd (r k) fun z k => .ok (c x y z, k)) (fun k => c (f k) (g (k + s1)) (h (k + s1 + s2))) := by
  intro k hk
  dsimp only
  rw [h1 k hk]
  by_cases e1 : k + s1 ≤ B.length
  · rw [if_pos e1, bnd_ok rfl, h2 (k + s1) e1]
    by_cases e2 : k + s1 + s2 ≤ B.length
    · rw [if_pos e2, bnd_ok rfl, h3 _ e2]
      by_cases e3 : k + s1 + s2 + s3 ≤ B.length
      · rw [if_pos e3, if_pos (by omega), bnd_ok rfl]
        congr 2; omega
      · rw [if_neg e3, if_neg (by omega)]; rfl
    · rw [if_neg e2, if_neg (by omega)]; rfl
  · rw [if_neg e1, if_neg (by omega)]; rfl

theorem tkC (B : List Int) : Tk B 3 (pChan B) (fun k => (gb B k, gb B (k + 1), gb B (k + 2))) := tk_bnd3 (tk1 B) (tk1 B) (tk1 B) (fun x y z => (x, y, z))

theorem tkT (B : List Int) : Tk B 7 (pTask B) (fun k => (gb B k, gw B (k + 1), gw B (k + 3), gw B (k + 5))) := by
  intro k hk
  rw [pTask, tk1 B k hk]
  by_cases e1 : k + 1 ≤ B.length
  · rw [if_pos e1, bnd_ok rfl, tk2 B _ e1]
    by_cases e2 : k + 1 + 2 ≤ B.length
    · rw [if_pos e2, bnd_ok rfl, tk2 B _ e2]
      by_cases e3 : k + 1 + 2 + 2 ≤ B.length
      · rw [if_pos e3, bnd_ok rfl, tk2 B _ e3]
        by_cases e4 : k + 1 + 2 + 2 + 2 ≤ B.length
        · rw [if_pos e4, bnd_ok rfl, if_pos (by omega)]
        · rw [if_neg e4, if_neg (by omega)]; rfl
      · rw [if_neg e3, if_neg (by omega)]; rfl
    · rw [if_neg e2, if_neg (by omega)]; rfl
  · rw [if_neg e1, if_neg (by omega)]; rfl

theorem tkM {α : Type} {B : List Int} {sz : Nat} {item : Nat → Out α} {f : Nat → α} (h : Tk B sz item f) (c : Nat) : Tk B (sz * c) (pMany item c) (fun k => (List.range c).map fun i => f (k + sz * i)) := by
  induction c with
  | zero => intro k hk; simp [pMany, hk]
  | succ c ih =>
    intro k hk
    rw [pMany, ih k hk]
    have e0 : sz * (c + 1) = sz * c + sz := Nat.mul_succ sz c
    by_cases e1 : k + sz * c ≤ B.length
    · rw [if_pos e1, bnd_ok rfl, h _ e1]
      by_cases e2 : k + sz * c + sz ≤ B.length
      · rw [if_pos e2, bnd_ok rfl, if_pos (by omega)]
        dsimp only
        rw [List.range_succ, List.map_append]
        congr 2
        omega
      · rw [if_neg e2, if_neg (by omega)]; rfl
    · rw [if_neg e1, if_neg (by omega)]; rfl

def cnt (B : List Int) (k : Nat) : Nat := (gb B k).toNat

theorem pl_out {α : Type} {B : List Int} {item : Nat → Out α} (m : Int) (k : Nat) (hk : k ≤ B.length) (h : B.length ≤ k) : pList B m item k = .error B.length := by
  rw [pList, pCount, tk1 B k hk, if_neg (by omega)]
  rfl
theorem pl_most {α : Type} {B : List Int} {item : Nat → Out α} (m : Int) (k : Nat) (h : k < B.length) (hm : gb B k > m) : pList B m item k = .error k := by
  rw [pList, pCount, tk1 B k (by omega), if_pos (by omega), bnd_ok rfl, if_neg (by omega)]
  rfl
theorem pl_ok {α : Type} {B : List Int} {sz : Nat} {item : Nat → Out α} {f : Nat → α} (ht : Tk B sz item f) (m : Int) (k : Nat) (h : k < B.length) (hm : gb B k ≤ m) : pList B m item k = if k + 1 + sz * cnt B k ≤ B.length then .ok ((List.range (cnt B k)).map fun i => f (k + 1 + sz * i), k + 1 + sz * cnt B k) else .error B.length := by
  rw [pList, pCount, tk1 B k (by omega), if_pos (by omega), bnd_ok rfl, if_pos hm, bnd_ok rfl]
  exact tkM ht _ (k + 1) (by omega)

def sz4 : Nat → Nat
  | 0 => 3
  | 1 => 1
  | 2 => 3
  | _ => 7
/-- Where the counts stand. -/
def ps (B : List Int) : Nat → Nat
  | 0 => 6
  | k + 1 => ps B k + 1 + sz4 k * cnt B (ps B k)
def ms4 : Nat → Int
  | 0 => 6
  | 1 => 4
  | 2 => 4
  | _ => 6
def okc (B : List Int) (k : Nat) : Prop := ps B k < B.length ∧ gb B (ps B k) ≤ ms4 k

def cnf (B : List Int) : Conf :=
  ⟨gb B 1, gb B 2, gb B 3, gb B 4, gb B 5,
    (List.range (cnt B (ps B 0))).map fun i => (gb B (ps B 0 + 1 + 3 * i), gw B (ps B 0 + 1 + 3 * i + 1)),
    (List.range (cnt B (ps B 1))).map fun i => gb B (ps B 1 + 1 + 1 * i),
    (List.range (cnt B (ps B 2))).map fun i => (gb B (ps B 2 + 1 + 3 * i), gb B (ps B 2 + 1 + 3 * i + 1), gb B (ps B 2 + 1 + 3 * i + 2)),
    (List.range (cnt B (ps B 3))).map fun i => (gb B (ps B 3 + 1 + 7 * i), gw B (ps B 3 + 1 + 7 * i + 1), gw B (ps B 3 + 1 + 7 * i + 3), gw B (ps B 3 + 1 + 7 * i + 5))⟩

/-- Behind the numbers at the head. -/
def tail4 (B : List Int) : Out Conf :=
  bnd (pList B 6 (pSlot B) 6) fun sl k => bnd (pList B 4 (p1 B) k) fun ow k => bnd (pList B 4 (pChan B) k) fun ch k => bnd (pList B 6 (pTask B) k) fun ta k =>
  bnd (pEnd B k) fun _ k => .ok (⟨gb B 1, gb B 2, gb B 3, gb B 4, gb B 5, sl, ow, ch, ta⟩, k)

theorem p1_of (B : List Int) (k : Nat) (h : k < B.length) : p1 B k = .ok (gb B k, k + 1) := by rw [tk1 B k (by omega), if_pos (by omega)]
theorem p1_no (B : List Int) : p1 B B.length = .error B.length := by rw [tk1 B _ (Nat.le_refl _), if_neg (by omega)]

theorem pc_wrong {B : List Int} (h : 0 < B.length) (h67 : gb B 0 ≠ 67) : pConf B = .error 0 := by
  rw [pConf, pBegin, p1_of B 0 h, bnd_ok rfl, if_neg h67]
  rfl

theorem pc_head {B : List Int} (h67 : 0 < B.length → gb B 0 = 67) : pConf B = if 6 ≤ B.length then tail4 B else .error B.length := by
  by_cases h0 : 0 < B.length
  · have hb : pBegin B 0 = .ok ((), 1) := by rw [pBegin, p1_of B 0 h0, bnd_ok rfl, if_pos (h67 h0)]
    rw [pConf, bnd_ok hb]
    by_cases h1 : 1 < B.length
    · rw [bnd_ok (p1_of B 1 h1)]
      by_cases h2 : 2 < B.length
      · rw [bnd_ok (p1_of B 2 h2)]
        by_cases h3 : 3 < B.length
        · rw [bnd_ok (p1_of B 3 h3)]
          by_cases h4 : 4 < B.length
          · rw [bnd_ok (p1_of B 4 h4)]
            by_cases h5 : 5 < B.length
            · rw [bnd_ok (p1_of B 5 h5), if_pos (by omega)]
              rfl
            · have e : B.length = 5 := by omega
              rw [if_neg (by omega), show p1 B (4 + 1) = .error B.length by rw [← p1_no B, e]]
              rfl
          · have e : B.length = 4 := by omega
            rw [if_neg (by omega), show p1 B (3 + 1) = .error B.length by rw [← p1_no B, e]]
            rfl
        · have e : B.length = 3 := by omega
          rw [if_neg (by omega), show p1 B (2 + 1) = .error B.length by rw [← p1_no B, e]]
          rfl
      · have e : B.length = 2 := by omega
        rw [if_neg (by omega), show p1 B (1 + 1) = .error B.length by rw [← p1_no B, e]]
        rfl
    · have e : B.length = 1 := by omega
      rw [if_neg (by omega), show p1 B 1 = .error B.length by rw [← p1_no B, e]]
      rfl
  · have e : B.length = 0 := by omega
    rw [if_neg (by omega), pConf, pBegin, show p1 B 0 = .error B.length by rw [← p1_no B, e]]
    rfl

theorem l0 {B : List Int} (h : okc B 0) : pList B 6 (pSlot B) 6 = if ps B 1 ≤ B.length then .ok ((cnf B).sl, ps B 1) else .error B.length := pl_ok (tkS B) 6 6 h.1 h.2
theorem l1 {B : List Int} (h : okc B 1) : pList B 4 (p1 B) (ps B 1) = if ps B 2 ≤ B.length then .ok ((cnf B).ow, ps B 2) else .error B.length := pl_ok (tk1 B) 4 (ps B 1) h.1 h.2
theorem l2 {B : List Int} (h : okc B 2) : pList B 4 (pChan B) (ps B 2) = if ps B 3 ≤ B.length then .ok ((cnf B).ch, ps B 3) else .error B.length := pl_ok (tkC B) 4 (ps B 2) h.1 h.2
theorem l3 {B : List Int} (h : okc B 3) : pList B 6 (pTask B) (ps B 3) = if ps B 4 ≤ B.length then .ok ((cnf B).ta, ps B 4) else .error B.length := pl_ok (tkT B) 6 (ps B 3) h.1 h.2

theorem tail_out {B : List Int} (h6 : 6 ≤ B.length) (k : Nat) (hk : k < 4) (hok : ∀ j, j < k → okc B j) (h : B.length ≤ ps B k) : tail4 B = .error B.length := by
  match k, hk with
  | 0, _ =>
    have e : pList B 6 (pSlot B) 6 = .error B.length := pl_out 6 6 h6 h
    rw [tail4, bnd_err e]
  | 1, _ =>
    have e0 := l0 (hok 0 (by omega))
    by_cases q : ps B 1 ≤ B.length
    · rw [if_pos q] at e0
      have e1 : pList B 4 (p1 B) (ps B 1) = .error B.length := pl_out 4 _ q h
      rw [tail4, bnd_ok e0, bnd_err e1]
    · rw [if_neg q] at e0
      rw [tail4, bnd_err e0]
  | 2, _ =>
    have e0 := l0 (hok 0 (by omega))
    have e1 := l1 (hok 1 (by omega))
    rw [if_pos (Nat.le_of_lt (hok 1 (by omega)).1)] at e0
    by_cases q : ps B 2 ≤ B.length
    · rw [if_pos q] at e1
      have e2 : pList B 4 (pChan B) (ps B 2) = .error B.length := pl_out 4 _ q h
      rw [tail4, bnd_ok e0, bnd_ok e1, bnd_err e2]
    · rw [if_neg q] at e1
      rw [tail4, bnd_ok e0, bnd_err e1]
  | 3, _ =>
    have e0 := l0 (hok 0 (by omega))
    have e1 := l1 (hok 1 (by omega))
    have e2 := l2 (hok 2 (by omega))
    rw [if_pos (Nat.le_of_lt (hok 1 (by omega)).1)] at e0
    rw [if_pos (Nat.le_of_lt (hok 2 (by omega)).1)] at e1
    by_cases q : ps B 3 ≤ B.length
    · rw [if_pos q] at e2
      have e3 : pList B 6 (pTask B) (ps B 3) = .error B.length := pl_out 6 _ q h
      rw [tail4, bnd_ok e0, bnd_ok e1, bnd_ok e2, bnd_err e3]
    · rw [if_neg q] at e2
      rw [tail4, bnd_ok e0, bnd_ok e1, bnd_err e2]

theorem tail_most {B : List Int} (k : Nat) (hk : k < 4) (hok : ∀ j, j < k → okc B j) (h : ps B k < B.length) (hm : gb B (ps B k) > ms4 k) : tail4 B = .error (ps B k) := by
  match k, hk with
  | 0, _ =>
    have e : pList B 6 (pSlot B) 6 = .error 6 := pl_most 6 6 h hm
    rw [tail4, bnd_err e]; rfl
  | 1, _ =>
    have e0 := l0 (hok 0 (by omega))
    rw [if_pos (Nat.le_of_lt h)] at e0
    have e1 : pList B 4 (p1 B) (ps B 1) = .error (ps B 1) := pl_most 4 _ h hm
    rw [tail4, bnd_ok e0, bnd_err e1]
  | 2, _ =>
    have e0 := l0 (hok 0 (by omega))
    have e1 := l1 (hok 1 (by omega))
    rw [if_pos (Nat.le_of_lt (hok 1 (by omega)).1)] at e0
    rw [if_pos (Nat.le_of_lt h)] at e1
    have e2 : pList B 4 (pChan B) (ps B 2) = .error (ps B 2) := pl_most 4 _ h hm
    rw [tail4, bnd_ok e0, bnd_ok e1, bnd_err e2]
  | 3, _ =>
    have e0 := l0 (hok 0 (by omega))
    have e1 := l1 (hok 1 (by omega))
    have e2 := l2 (hok 2 (by omega))
    rw [if_pos (Nat.le_of_lt (hok 1 (by omega)).1)] at e0
    rw [if_pos (Nat.le_of_lt (hok 2 (by omega)).1)] at e1
    rw [if_pos (Nat.le_of_lt h)] at e2
    have e3 : pList B 6 (pTask B) (ps B 3) = .error (ps B 3) := pl_most 6 _ h hm
    rw [tail4, bnd_ok e0, bnd_ok e1, bnd_ok e2, bnd_err e3]

theorem tail_end {B : List Int} (hok : ∀ j, j < 4 → okc B j) : tail4 B = if ps B 4 ≤ B.length then (if ps B 4 < B.length then .error (ps B 4) else .ok (cnf B, ps B 4)) else .error B.length := by
  have e0 := l0 (hok 0 (by omega))
  have e1 := l1 (hok 1 (by omega))
  have e2 := l2 (hok 2 (by omega))
  have e3 := l3 (hok 3 (by omega))
  rw [if_pos (Nat.le_of_lt (hok 1 (by omega)).1)] at e0
  rw [if_pos (Nat.le_of_lt (hok 2 (by omega)).1)] at e1
  rw [if_pos (Nat.le_of_lt (hok 3 (by omega)).1)] at e2
  by_cases q : ps B 4 ≤ B.length
  · rw [if_pos q] at e3
    rw [tail4, bnd_ok e0, bnd_ok e1, bnd_ok e2, bnd_ok e3, if_pos q, pEnd]
    by_cases q2 : ps B 4 < B.length
    · rw [if_pos q2, if_pos q2]; rfl
    · rw [if_neg q2, if_neg q2]; rfl
  · rw [if_neg q] at e3
    rw [tail4, bnd_ok e0, bnd_ok e1, bnd_ok e2, bnd_err e3, if_neg q]

/-- What Decode answers, by where it stops. -/
theorem dec_wrong {B : List Int} (hl : ¬ 200 < B.length) (h : 0 < B.length) (h67 : gb B 0 ≠ 67) : dec B = (zeroC, 0, 1) := by
  rw [dec, if_neg hl, pc_wrong h h67]; rfl
theorem dec_out {B : List Int} (hl : ¬ 200 < B.length) (h67 : 0 < B.length → gb B 0 = 67) (k : Nat) (hk : k < 4) (hok : ∀ j, j < k → okc B j) (h : B.length ≤ ps B k) : dec B = (zeroC, B.length, 1) := by
  rw [dec, if_neg hl, pc_head h67]
  by_cases h6 : 6 ≤ B.length
  · rw [if_pos h6, tail_out h6 k hk hok h]; rfl
  · rw [if_neg h6]; rfl
theorem dec_most {B : List Int} (hl : ¬ 200 < B.length) (h67 : 0 < B.length → gb B 0 = 67) (k : Nat) (hk : k < 4) (hok : ∀ j, j < k → okc B j) (h : ps B k < B.length) (hm : gb B (ps B k) > ms4 k) : dec B = (zeroC, ps B k, 1) := by
  have h6 : 6 ≤ B.length := by
    cases k with
    | zero => exact Nat.le_of_lt h
    | succ k => exact Nat.le_of_lt (hok 0 (by omega)).1
  rw [dec, if_neg hl, pc_head h67, if_pos h6, tail_most k hk hok h hm]; rfl
theorem dec_over {B : List Int} (hl : ¬ 200 < B.length) (h67 : 0 < B.length → gb B 0 = 67) (hok : ∀ j, j < 4 → okc B j) (h : B.length < ps B 4) : dec B = (zeroC, B.length, 1) := by
  rw [dec, if_neg hl, pc_head h67, if_pos (show 6 ≤ B.length from Nat.le_of_lt (hok 0 (by omega)).1), tail_end hok, if_neg (by omega)]; rfl
theorem dec_more {B : List Int} (hl : ¬ 200 < B.length) (h67 : 0 < B.length → gb B 0 = 67) (hok : ∀ j, j < 4 → okc B j) (h : ps B 4 < B.length) : dec B = (zeroC, ps B 4, 1) := by
  rw [dec, if_neg hl, pc_head h67, if_pos (show 6 ≤ B.length from Nat.le_of_lt (hok 0 (by omega)).1), tail_end hok, if_pos (by omega), if_pos h]; rfl
theorem dec_all {B : List Int} (hl : ¬ 200 < B.length) (h67 : 0 < B.length → gb B 0 = 67) (hok : ∀ j, j < 4 → okc B j) (h : ps B 4 = B.length) : dec B = if ckC (cnf B) = 0 then (cnf B, 0, 0) else (zeroC, 0, ckC (cnf B)) := by
  rw [dec, if_neg hl, pc_head h67, if_pos (show 6 ≤ B.length from Nat.le_of_lt (hok 0 (by omega)).1), tail_end hok, if_pos (by omega), if_neg (by omega)]; rfl

end Go.Proofs.Ytcdglnbkpklefaa
