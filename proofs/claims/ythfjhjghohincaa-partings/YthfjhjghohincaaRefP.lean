import Derived.Test.YthfjhjghohincaaRdg
namespace Go.Proofs.Ythfjhjghohincaa.Rdg

/-- The document's reader: how far it has read, how deep it is, its error, its terms and its claims. -/
structure St where
  a : Nat
  d : Nat
  E : Int
  T : List (List UInt8)
  C : List (List UInt8)

def seesB (pk : Nat → Int) (σ : St) (c : Int) : Bool := decide (σ.E = 0) && decide (pk σ.a = c)

def rOne (pk : Nat → Int) (l : List Int) (σ : St) : St × Int :=
  if σ.E = 0 then
    if l.contains (pk σ.a) then ({ σ with a := σ.a + 1 }, pk σ.a) else ({ σ with E := 2 }, 0)
  else (σ, 0)

def rDeep (pk : Nat → Int) (σ : St) : St := if seesB pk σ 40 = true ∧ σ.d = 8 then { σ with E := 3 } else σ
def rUp (σ : St) : St := { σ with d := σ.d + 1 }
def rDown (σ : St) : St := { σ with d := σ.d - 1 }
def rOpen (pk : Nat → Int) (σ : St) : St := rUp (rOne pk [40] (rDeep pk σ)).1
def rShut (pk : Nat → Int) (σ : St) : St := rDown (rOne pk [41] σ).1

/-- The piece of the text from one place to another. -/
def cut (l : List UInt8) (x y : Nat) : List UInt8 := (l.drop x).take (y - x)

def letters : List Int := [97, 98, 99, 100, 101, 102, 103]

/-- The end of a reading of a term: it is put among the terms. -/
def rKeepT (l : List UInt8) (x : Nat) (σ : St) : St × Nat :=
  if σ.E = 0 then ({ σ with T := put σ.T (cut l x σ.a) }, σ.T.idxOf (cut l x σ.a)) else (σ, 0)

def rIn (pk : Nat → Int) (rec : St → St) (c : Int) (σ : St) : St :=
  if c = 102 then rShut pk (rec (rOpen pk σ))
  else if c = 103 then rShut pk (rec (rOne pk [44] (rec (rOpen pk σ))).1)
  else σ

def rTerm (l : List UInt8) (pk : Nat → Int) : Nat → St → St × Nat
  | 0, σ => (σ, 0)
  | n + 1, σ => rKeepT l σ.a (rIn pk (fun τ => (rTerm l pk n τ).1) (rOne pk letters σ).2 (rOne pk letters σ).1)

/-- The end of a reading of a claim. -/
def rKeepC (l : List UInt8) (x : Nat) (σ : St) : St :=
  if σ.E = 0 then { σ with C := put σ.C (cut l x σ.a) } else σ

def rFormula (l : List UInt8) (pk : Nat → Int) : Nat → St → St
  | 0, σ => σ
  | n + 1, σ =>
    if seesB pk σ 33 = true then rFormula l pk n { σ with a := σ.a + 1 }
    else if (seesB pk σ 80 || seesB pk σ 81) = true then
      rKeepC l σ.a (rShut pk (rTerm l pk (n + 1) (rOpen pk { σ with a := σ.a + 1 })).1)
    else if seesB pk σ 40 = true then
      rShut pk (rFormula l pk n (rOne pk [38, 124, 62, 45] (rFormula l pk n (rOpen pk σ))).1)
    else (rTerm l pk (n + 1) (rOne pk [61] (rTerm l pk (n + 1) σ).1).1).1

/-- The fuel that a reading wants. -/
def need (N : Nat) (σ : St) : Nat := if σ.E = 0 then N + 1 - σ.a else 1

end Go.Proofs.Ythfjhjghohincaa.Rdg
