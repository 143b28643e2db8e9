/- The plain reckoning of images: reading one, byte by byte. -/
import Derived.Test.YtaellaconpaejaaPa
namespace Go.Proofs.Ytaellaconpaejaa

/-- The bytes of a string, as numbers. -/
def nums (s : ByteArray) : List Int := s.data.toList.map fun u => (u.toNat : Int)
/-- What reading comes to: where it gave up, or what was read and where it stands. -/
abbrev Out (α : Type) := Except Nat (α × Nat)
def bnd {α β : Type} (p : Out α) (f : α → Nat → Out β) : Out β :=
  match p with
  | .ok (x, n) => f x n
  | .error e => .error e

def p1 (B : List Int) (k : Nat) : Out Int :=
  match B[k]? with
  | some x => .ok (x, k + 1)
  | none => .error k
def p2 (B : List Int) (k : Nat) : Out Int := bnd (p1 B k) fun x k => bnd (p1 B k) fun y k => .ok (256 * x + y, k)
def pBegin (B : List Int) (k : Nat) : Out Unit := bnd (p1 B k) fun x n => if x = 67 then .ok ((), n) else .error k
def pCount (m : Int) (B : List Int) (k : Nat) : Out Int := bnd (p1 B k) fun x n => if x ≤ m then .ok (x, n) else .error k
def pEnd (B : List Int) (k : Nat) : Out Unit := if k < B.length then .error k else .ok ((), k)
def pSlot (B : List Int) (k : Nat) : Out (Int × Int) := bnd (p1 B k) fun x k => bnd (p2 B k) fun y k => .ok ((x, y), k)
def pChan (B : List Int) (k : Nat) : Out (Int × Int × Int) := bnd (p1 B k) fun x k => bnd (p1 B k) fun y k => bnd (p1 B k) fun z k => .ok ((x, y, z), k)
def pTask (B : List Int) (k : Nat) : Out (Int × Int × Int × Int) := bnd (p1 B k) fun x k => bnd (p2 B k) fun y k => bnd (p2 B k) fun z k => bnd (p2 B k) fun u k => .ok ((x, y, z, u), k)
def pMany {α : Type} (item : Nat → Out α) : Nat → Nat → Out (List α)
  | 0, k => .ok ([], k)
  | n + 1, k => bnd (pMany item n k) fun L k => bnd (item k) fun x k => .ok (L ++ [x], k)
def pList {α : Type} (B : List Int) (m : Int) (item : Nat → Out α) (k : Nat) : Out (List α) := bnd (pCount m B k) fun n k => pMany item n.toNat k
def pConf (B : List Int) : Out Conf :=
  bnd (pBegin B 0) fun _ k =>
  bnd (p1 B k) fun s k => bnd (p1 B k) fun w k => bnd (p1 B k) fun d k => bnd (p1 B k) fun p k => bnd (p1 B k) fun q k =>
  bnd (pList B 6 (pSlot B) k) fun sl k => bnd (pList B 4 (p1 B) k) fun ow k => bnd (pList B 4 (pChan B) k) fun ch k => bnd (pList B 6 (pTask B) k) fun ta k =>
  bnd (pEnd B k) fun _ k => .ok (⟨s, w, d, p, q, sl, ow, ch, ta⟩, k)

def zeroC : Conf := ⟨0, 0, 0, 0, 0, [], [], [], []⟩
/-- What Decode answers. -/
def decR : Out Conf → Conf × Nat × Int
  | .error n => (zeroC, n, 1)
  | .ok (C, _) => if ckC C = 0 then (C, 0, 0) else (zeroC, 0, ckC C)
def dec (B : List Int) : Conf × Nat × Int := if 200 < B.length then (zeroC, 0, 2) else decR (pConf B)

theorem bnd_ok {α β : Type} {p : Out α} {x : α} {n : Nat} (h : p = .ok (x, n)) (f : α → Nat → Out β) : bnd p f = f x n := by subst h; rfl
theorem bnd_err {α β : Type} {p : Out α} {e : Nat} (h : p = .error e) (f : α → Nat → Out β) : bnd p f = .error e := by subst h; rfl

theorem pMany_err {α : Type} {item : Nat → Out α} {k e : Nat} : ∀ {n m : Nat}, n ≤ m → pMany item n k = .error e → pMany item m k = .error e := by
  intro n m h
  induction h with
  | refl => exact id
  | step h ih => intro hn; rw [pMany, bnd_err (ih hn)]

theorem pMany_len {α : Type} {item : Nat → Out α} {k : Nat} : ∀ (n : Nat) {L : List α} {j : Nat}, pMany item n k = .ok (L, j) → L.length = n := by
  intro n
  induction n with
  | zero => intro L j h; simp [pMany] at h; simp [← h.1]
  | succ n ih =>
    intro L j h
    cases h1 : pMany item n k with
    | error e => rw [pMany, bnd_err h1] at h; simp at h
    | ok r =>
      obtain ⟨L1, j1⟩ := r
      cases h2 : item j1 with
      | error e => rw [pMany, bnd_ok h1, bnd_err h2] at h; simp at h
      | ok r2 =>
        obtain ⟨x, j2⟩ := r2
        rw [pMany, bnd_ok h1, bnd_ok h2] at h
        simp at h
        rw [← h.1]
        simp [ih h1]

end Go.Proofs.Ytaellaconpaejaa
