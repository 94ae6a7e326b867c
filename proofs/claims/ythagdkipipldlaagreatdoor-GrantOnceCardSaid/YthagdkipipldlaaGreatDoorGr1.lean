/- grant in plain lists: commands, families, answers, books; what a command does. No condition. -/
import Derived.Test.YthagdkipipldlaaGreatDoorKrd
import Derived.Test.YthagdkipipldlaaGreatDoorPkc1
namespace Go.Proofs.YthagdkipipldlaaGreatDoor.gra
open Go.Proofs.YthagdkipipldlaaGreatDoor.krd
open Go.Proofs.YthagdkipipldlaaGreatDoor.scp (lt lt_irrefl lt_trans lt_total lt_asymm setP printP withinP wordB)

/-- a token of a family -/
structure IT where
  k : Int
  sc : List T
  used : Bool
instance : Inhabited IT := ⟨⟨0, [], false⟩⟩
/-- a family -/
structure FT where
  id : T
  cl : T
  us : T
  sc : List T
  re : T
  ch : T
  me : T
  code : Int
  tk : List IT
  rev : Bool
  le : List Int
instance : Inhabited FT := ⟨⟨[], [], [], [], [], [], [], 0, [], false, []⟩⟩
/-- a command -/
structure CT where
  kind : Int
  fam : T
  ser : Int
  tok : Int
  cl : T
  us : T
  sc : List T
  re : T
  ch : T
  me : T
  ve : T
  rf : Bool
  edge : Int
/-- an answer -/
structure AT where
  why : Int
  acc : Int
  ref : Int
  sc : List T
  cl : T
  us : T
  act : Bool
  wait : Bool
def webC (c : UInt8) : Bool := decide (47 < c.toNat) && decide (c.toNat < 58) || decide (64 < c.toNat) && decide (c.toNat < 91) || decide (96 < c.toNat) && decide (c.toNat < 123) || decide (c.toNat = 45) || decide (c.toNat = 95)
def idB (s : T) : Bool := decide (0 < s.length) && decide (s.length ≤ 32) && s.all webC
def shortB (s : T) : Bool := decide (s.length ≤ 128)
def fitB (l : List T) : Bool := decide (l.length ≤ 32) && decide (setP l = l) && decide ((printP l).length ≤ 128)
def shownB (c m : T) : Bool := if c = [] then decide (m = []) else pkc.mayP c m
def inB (n a b : Int) : Bool := decide (a ≤ n) && decide (n ≤ b)
/-- the fields that a command fills; those that its kind names -/
def filled (c : CT) : List Bool := [decide (c.ser ≠ 0), decide (c.tok ≠ 0), decide (c.cl ≠ []), decide (c.us ≠ []), decide (c.sc ≠ []), decide (c.re ≠ []), decide (c.ch ≠ []), decide (c.me ≠ []), decide (c.ve ≠ []), c.rf, decide (c.edge ≠ 0)]
/-- which fields a kind doesn't name stand empty, and those that may not be empty don't -/
def zerosB (c : CT) : Bool :=
  (decide (c.kind ≤ 5 ↔ c.cl ≠ [])) &&
  (decide (c.kind = 1) || (decide (c.us = []) && decide (c.ch = []) && decide (c.me = []))) &&
  (decide (c.kind ≤ 2) || decide (c.re = [])) &&
  (decide (c.kind = 2) || (decide (c.ve = []) && !c.rf)) &&
  (decide (c.kind = 1) || decide (c.kind = 3) || decide (c.kind = 4) || decide (c.sc = [])) &&
  (decide (c.kind = 3) || decide (c.kind = 5) || decide (c.kind = 6) || decide (c.ser = 0)) &&
  (decide (c.kind = 6) || decide (c.edge = 0)) &&
  (if c.kind = 5 ∨ c.kind = 6 then inB c.tok 1 3 else decide (c.tok = 0))
def mayG (c : CT) : Bool :=
  inB c.kind 1 7 && idB c.fam && (shortB c.cl && shortB c.us && shortB c.re && shortB c.ve) && fitB c.sc && zerosB c &&
  inB c.ser 0 1099511627776 && inB c.edge 0 31 && shownB c.ch c.me
def no (w : Int) : AT := ⟨w, 0, 0, [], [], [], false, false⟩
/-- the token of a kind by a number -/
def tokG (f : FT) (k n : Int) : Option IT := if 1 ≤ n ∧ n ≤ f.tk.length then (f.tk[(n - 1).toNat]?).filter (fun t => decide (t.k = k)) else none
def isG (f : FT) (k n : Int) : Bool := if k = 1 then decide (n = 0) && decide (f.code ≠ 0) else (tokG f k n).isSome
def addG (f : FT) (k : Int) (too : List T) : FT := { f with tk := f.tk ++ [⟨k, too, false⟩] }
def issG (f : FT) (too : List T) (r : Bool) : FT × AT :=
  if r then (addG (addG f 2 too) 3 f.sc, ⟨0, f.tk.length + 1, f.tk.length + 2, too, [], [], false, false⟩) else (addG f 2 too, ⟨0, f.tk.length + 1, 0, too, [], [], false, false⟩)
def leaseG (l : List Int) (e : Int) : List Int := if e ∈ l then l else l.filter (fun x => decide (x < e)) ++ e :: l.filter (fun x => decide (e < x))
def useG (f : FT) (i : Nat) : FT := { f with tk := f.tk.modify i (fun t => { t with used := true }) }
def fallG (f : FT) : FT := { f with rev := true }
def checkG (f : FT) (v : T) : Bool := if f.ch = [] then decide (v = []) else pkc.checkP f.ch f.me v
def newG (c : CT) (code : Int) : FT := ⟨c.fam, c.cl, c.us, c.sc, c.re, c.ch, c.me, code, [], false, []⟩
/-- what a command that may be makes of its family -/
def stepG (full : Bool) (o : Option FT) (c : CT) : Option FT × AT :=
  if c.kind = 1 then
    match o with
    | some f => (some f, no 1)
    | none => if full then (none, no 7) else (some (newG c 1), { no 0 with sc := c.sc })
  else if c.kind = 4 then
    match o with
    | some f => (some f, no 1)
    | none => if full then (none, no 7) else let r := issG (newG c 0) c.sc false; (some r.1, r.2)
  else if c.kind = 2 then
    match o with
    | none => (none, no 3)
    | some f =>
      if f.rev = true ∨ f.cl ≠ c.cl ∨ f.code = 0 then (some f, no 3)
      else if f.code = 2 then (some (fallG f), no 3)
      else if f.re ≠ c.re ∨ checkG f c.ve = false then (some f, no 3)
      else let r := issG { f with code := 2 } f.sc c.rf; (some r.1, r.2)
  else if c.kind = 3 then
    match o with
    | none => (none, no 3)
    | some f =>
      if f.rev = true ∨ f.cl ≠ c.cl then (some f, no 3)
      else match tokG f 3 c.ser with
      | none => (some f, no 3)
      | some t =>
        if t.used = true then (some (fallG f), no 3)
        else if withinP c.sc f.sc = false then (some f, no 6)
        else if 6 < f.tk.length then (some f, no 7)
        else let r := issG (useG f (c.ser - 1).toNat) (if c.sc = [] then f.sc else c.sc) true; (some r.1, r.2)
  else if c.kind = 5 then
    match o with
    | none => (none, no 0)
    | some f =>
      if f.cl ≠ c.cl then (some f, no 0)
      else if isG f c.tok c.ser then (some (fallG f), { no 0 with wait := true }) else (some f, { no 0 with wait := f.rev })
  else if c.kind = 6 then
    match o with
    | none => (none, no 0)
    | some f =>
      if f.rev = true then (some f, no 0)
      else match tokG f c.tok c.ser with
      | none => (some f, no 0)
      | some t => if t.used = true then (some f, no 0) else (some { f with le := leaseG f.le c.edge }, ⟨0, 0, 0, t.sc, f.cl, f.us, true, false⟩)
  else
    match o with
    | none => (none, no 0)
    | some f => if f.rev = true then (none, no 0) else (some f, no 0)
abbrev getG := getK FT.id
abbrev delG := delK FT.id
abbrev insG := insK FT.id
abbrev SrtG := SrtK FT.id
def putG (l : List FT) (id : T) : Option FT → List FT
  | none => delG l id
  | some f => insG l f
def doG (room : Nat) (l : List FT) (c : CT) : List FT × AT :=
  if mayG c = true then let r := stepG (decide (room ≤ l.length)) (getG l c.fam) c; (putG l c.fam r.1, r.2) else (l, no 1)
end Go.Proofs.YthagdkipipldlaaGreatDoor.gra
