/-
  Plain definitions of what the lexer answers, on lists of bytes; nothing is proved of the program here.
-/
namespace Go.Proofs.YtlhfkdeegabbhaaDoor.Lx

/-- the class of a byte, by its number -/
def clsN (i : Nat) : Nat :=
  if i = 32 ∨ i = 9 ∨ i = 13 ∨ i = 10 then 1
  else if (97 ≤ i ∧ i ≤ 122) ∨ (65 ≤ i ∧ i ≤ 90) then 4
  else if 48 ≤ i ∧ i ≤ 57 then 8
  else if i = 35 then 2
  else if i = 95 then 16
  else 0

def blankB (c : UInt8) : Bool := clsN c.toNat == 1
def letterB (c : UInt8) : Bool := clsN c.toNat == 4
def digitB (c : UInt8) : Bool := clsN c.toNat == 8
def wordB (c : UInt8) : Bool := clsN c.toNat == 4 || clsN c.toNat == 8 || clsN c.toNat == 16

def runLen (p : UInt8 → Bool) : List UInt8 → Nat
  | [] => 0
  | c :: r => if p c then runLen p r + 1 else 0

/-- bytes of the gap at the beginning of a text; the flag: within a comment -/
def gapLen : Bool → List UInt8 → Nat
  | _, [] => 0
  | false, c :: r => if blankB c then gapLen false r + 1 else if c == 35 then gapLen true r + 1 else 0
  | true, c :: r => if c == 10 then gapLen false r + 1 else gapLen true r + 1

def numVal (acc : Nat) (l : List UInt8) : Nat := l.foldl (fun a c => 10 * a + (c.toNat - 48)) acc

theorem numVal_nil (acc : Nat) : numVal acc [] = acc := by simp only [numVal, List.foldl_nil]
theorem numVal_cons (acc : Nat) (c : UInt8) (r : List UInt8) : numVal acc (c :: r) = numVal (10 * acc + (c.toNat - 48)) r := by simp only [numVal, List.foldl_cons]
theorem numVal_ge (l : List UInt8) : ∀ (acc : Nat), acc ≤ numVal acc l := by
  induction l with
  | nil => intro acc; rw [numVal_nil]; exact Nat.le_refl _
  | cons c r ih =>
    intro acc
    rw [numVal_cons]
    exact Nat.le_trans (by omega) (ih _)

/-- the symbols, in the order of the text from which the map is filled -/
def syms : List (List UInt8) := [[60], [62], [40], [41], [123], [125], [91], [93], [44], [59], [58], [58, 58], [46], [61], [61, 61], [43], [45], [42], [38], [38, 33], [45, 62]]
def isSym (t : List UInt8) : Bool := syms.contains t
/-- bytes of the longest symbol of at most so many bytes at the beginning of a text -/
def symFrom : Nat → List UInt8 → Nat
  | 0, _ => 0
  | n + 1, l => if isSym (l.take (n + 1)) then n + 1 else symFrom n l
def symLen (l : List UInt8) : Nat := symFrom (min 2 l.length) l

/-- what stands at the beginning of a text that begins no gap: (kind, bytes, number), or (0, 0, error) -/
def tokAt (l : List UInt8) : Nat × Nat × Nat :=
  match l with
  | [] => (0, 0, 3)
  | c :: _ =>
    if letterB c then
      if 24 < runLen wordB l then (0, 0, 2) else (1, runLen wordB l, 0)
    else if digitB c then
      if 10 < runLen digitB l ∨ 1000000000 < numVal 0 (l.take (runLen digitB l)) then (0, 0, 2)
      else (2, runLen digitB l, numVal 0 (l.take (runLen digitB l)))
    else if symLen l = 0 then (0, 0, 3) else (3, symLen l, 0)

structure Tk where
  kind : Nat
  text : List UInt8
  num : Nat
  off : Nat
deriving DecidableEq, Repr

/-- a yielded pair: a token and an error -/
structure Yd where
  tk : Tk
  err : Nat
deriving DecidableEq, Repr

def posEnd (l : List UInt8) (k : Nat) : Nat := k + gapLen false (l.drop k)
/-- the pairs that the iterator yields from an offset on that stands behind a gap; the first number bounds the rounds -/
def yields (l : List UInt8) : Nat → Nat → List Yd
  | 0, _ => []
  | f + 1, k =>
    if k < l.length then
      if (tokAt (l.drop k)).1 = 0 then [⟨⟨0, [], 0, k⟩, (tokAt (l.drop k)).2.2⟩]
      else ⟨⟨(tokAt (l.drop k)).1, (l.drop k).take (tokAt (l.drop k)).2.1, (tokAt (l.drop k)).2.2, k⟩, 0⟩ :: yields l f (posEnd l (k + (tokAt (l.drop k)).2.1))
    else []
def allYields (l : List UInt8) : List Yd := yields l (l.length + 1) (posEnd l 0)

/-- what the caller makes of the pairs: tokens, error, offset -/
def collect : Nat → List Yd → List Tk → List Tk × Nat × Nat
  | _, [], acc => (acc, 0, 0)
  | n, y :: r, acc =>
    if y.err ≠ 0 then ([], y.err, y.tk.off)
    else if n = 6000 then ([], 2, y.tk.off)
    else collect (n + 1) r (acc ++ [y.tk])

def lexL (l : List UInt8) : List Tk × Nat × Nat :=
  if 20000 < l.length then ([], 2, 20000) else collect 0 (allYields l) []

end Go.Proofs.YtlhfkdeegabbhaaDoor.Lx
