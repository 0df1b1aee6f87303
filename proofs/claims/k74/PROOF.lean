import PyProof.Rows.All
import Wide.All
import OpenK.AllK
import Wide.FinOn
import HandS.ForMost
import HandS.ForExc
import HandS.Text
import HandS.StrMore
import HandS.TupAny
import HandS.IsInst
import HandS.ExcInit
import HandS.ExcCtx
import HandS.HotCalls
import HandS.Deep
import HandS.Flow
import HandS.Iter
import HandS.Small
import HandS.Comp
import HandS.Exc
import KE.KExcIs
import HandS.ExcIs
import HandS.ExcField
import KE.IntTextText
import KE.KIntText
import PySem.Challenge.RW_bridgeward_k74_told_and_untold_values
set_option Elab.async false
set_option linter.all false
set_option maxRecDepth 100000
set_option maxHeartbeats 2000000
/-! A small language of values, and what its programs come to. -/
namespace EN
open PySem

abbrev Key := L2.Key

/-- a value that is never written again -/
inductive D where
  | non | bl (b : Bool) | int (i : Int) | str (x : Str)
  | tup (ds : List D) | lst (ds : List D)
  /-- the script -/
  | scr (ns : List Int)
  | dK (ks : List Key) (vs : List D) | dT (ks : List (List Key)) (vs : List D)
  /-- an instance of the c-th own class, its fields in order -/
  | obj (c : Nat) (fs : List D)
  deriving Inhabited

/-- what an owned object holds -/
inductive Cn where
  | lst (ds : List D) | dK (kvs : List (Key × D)) | dT (kvs : List (List Key × D))
  | ob (c : Nat) (fs : List (Str × D))
  deriving Inhabited
def Cn.toD : Cn → D
  | .lst ds => .lst ds
  | .dK kvs => .dK (kvs.map (·.1)) (kvs.map (·.2))
  | .dT kvs => .dT (kvs.map (·.1)) (kvs.map (·.2))
  | .ob c fs => .obj c (fs.map (·.2))

inductive Slot where
  | un | d (x : D) | own (c : Cn) | bor (c : Cn)
  /-- the error that a suite holds: its class's number, its fields -/
  | exc (c : Nat) (fs : List D)
  deriving Inhabited
abbrev Env := List Slot
def Env.at (ρ : Env) (i : Nat) : Slot := ρ.getD i .un

/-- a value on its way: data, a fresh object, what stands in a slot -/
inductive IV where
  | d (x : D) | fr (c : Cn) | sl (i : Nat)
  deriving Inhabited
inductive R (α : Type) where
  | ok (a : α) (ρ : Env) | er (c : Nat) (fs : List D) (ρ : Env) | no
  deriving Inhabited
@[reducible] def R.bind {α β : Type} (x : R α) (f : α → Env → R β) : R β := match x with
  | .ok a ρ => f a ρ
  | .er c fs ρ => .er c fs ρ
  | .no => .no
/-- what a def comes to: its value, its parameters behind it -/
inductive FR where
  | ok (v : IV) (ps : Env) | er (c : Nat) (fs : List D) (ps : Env) | no
  deriving Inhabited

/-- a value, seen -/
def vw (ρ : Env) : IV → Option D
  | .d x => some x
  | .fr c => some c.toD
  | .sl i => match ρ.at i with
    | .own c => some c.toD
    | .bor c => some c.toD
    | .d x => some x
    | _ => none
/-- a value, kept: what stands in a slot is never written from then on -/
def kp (np : Nat) (ρ : Env) : IV → R D
  | .d x => .ok x ρ
  | .fr c => .ok c.toD ρ
  | .sl i => match ρ.at i with
    | .own c => if i < np then .no else .ok c.toD (ρ.set i (.d c.toD))
    | .d x => .ok x ρ
    | _ => .no

/-! ### equality -/
mutual
def D.py : D → Option PyData
  | .non => some .none
  | .bl b => some (.bool b)
  | .int i => some (.int i)
  | .str x => some (.str x)
  | .tup ds => (D.pys ds).map .tuple
  | .lst ds => (D.pys ds).map .list
  | .scr _ => none
  | .dK _ _ => none
  | .dT _ _ => none
  | .obj _ _ => none
def D.pys : List D → Option (List PyData)
  | [] => some []
  | d :: ds => match D.py d, D.pys ds with
    | some x, some xs => some (x :: xs)
    | _, _ => none
end
def D.shp (d : D) : Option PyData := match d.py with
  | some x => if SeqAt.shaped x then some x else none
  | none => none
/-- == of scalars that Python compares at once -/
def eqS : D → D → Option Bool
  | .non, .non => some true
  | .non, .int _ => some false
  | .int _, .non => some false
  | .non, .bl _ => some false
  | .bl _, .non => some false
  | .non, .str _ => some false
  | .str _, .non => some false
  | .int i, .int j => some (decide (i = j))
  | .bl a, .bl b => some (decide (a = b))
  | .str x, .str y => some (decide (x = y))
  | .int _, .str _ => some false
  | .str _, .int _ => some false
  | .bl _, .str _ => some false
  | .str _, .bl _ => some false
  | _, _ => none
/-- == -/
def eqD (a b : D) : Option Bool := match eqS a b with
  | some r => some r
  | none => match a.shp, b.shp with
    | some x, some y => some (PyData.eqv x y)
    | _, _ => none
def flatD : D → Bool
  | .non => true
  | .bl _ => true
  | .int _ => true
  | .str _ => true
  | _ => false
/-- == of flat values -/
def eqF : D → D → Bool
  | .non, .non => true
  | .bl a, .bl b => a == b
  | .bl a, .int b => (if a then 1 else 0) == b
  | .int a, .bl b => a == (if b then 1 else 0)
  | .int a, .int b => a == b
  | .str a, .str b => a == b
  | _, _ => false
def D.key? : D → Option Key
  | .int i => some (.inl i)
  | .str x => some (.inr x)
  | _ => none
def D.keys? : List D → Option (List Key)
  | [] => some []
  | d :: ds => match d.key?, D.keys? ds with
    | some k, some ks => some (k :: ks)
    | _, _ => none
def look {κ : Type} [DecidableEq κ] (kvs : List (κ × D)) (k : κ) : Option D := (kvs.find? fun p => decide (p.1 = k)).map (·.2)
def put {κ : Type} [DecidableEq κ] (kvs : List (κ × D)) (k : κ) (v : D) : List (κ × D) :=
  if (kvs.any fun p => decide (p.1 = k)) = true then kvs.map (fun p => if p.1 = k then (p.1, v) else p) else kvs ++ [(k, v)]
def putAll {κ : Type} [DecidableEq κ] (kvs more : List (κ × D)) : List (κ × D) := more.foldl (fun acc kv => put acc kv.1 kv.2) kvs
/-- the value at a key: none where the key is none; some none where it isn't there -/
def getD? (d k : D) : Option (Option D) := match d with
  | .dK ks vs => match k.key? with
    | some k => some (look (ks.zip vs) k)
    | none => none
  | .dT _ _ => none
  | _ => none
/-- `in` a list or a tuple -/
def inD (x : D) (xs : List D) : Option Bool := if flatD x && xs.all flatD then some (xs.any fun y => eqF y x) else match x.shp, (D.lst xs).shp with
  | some a, some (.list bs) => some (bs.any fun z => PyData.eqv z a)
  | _, _ => none

/-! ### operators -/
inductive BO where | add | sub | mul | fdiv | mod | pow
inductive CO where | eq | ne | lt | le | gt | ge | isin | notin | is | isnot
def line : Nat := 1000000
/-- a text n times -/
def mulS (x : Str) (n : Int) : Str := if n < 1 then Str.empty else if (n == 1 || x.length == 0) = true then x else ⟨(List.replicate n.toNat x.cps).foldl (· ++ ·) #[]⟩
def opB : BO → D → D → Option IV
  | .add, .int i, .int j => some (.d (.int (i + j)))
  | .add, .str x, .str y => if x.length + y.length ≤ line then some (.d (.str (x ++ y))) else none
  | .add, .tup xs, .tup ys => if xs.length + ys.length ≤ line then some (.d (.tup (xs ++ ys))) else none
  | .add, .lst xs, .lst ys => if xs.length + ys.length ≤ line then some (.fr (.lst (xs ++ ys))) else none
  | .sub, .int i, .int j => some (.d (.int (i - j)))
  | .mul, .int i, .int j => if (-(2 ^ 64) < i ∧ i < 2 ^ 64) ∨ (-(2 ^ 64) < j ∧ j < 2 ^ 64) then some (.d (.int (i * j))) else none
  | .fdiv, .int i, .int j => if 0 < j ∧ j < 1073741824 then some (.d (.int (i / j))) else none
  | .mod, .int i, .int j => if 0 < j then some (.d (.int (i % j))) else none
  | .pow, .int i, .int j => if 0 ≤ j ∧ j ≤ 1000000 ∧ i.natAbs < 2 ^ 64 then some (.d (.int (i ^ j.toNat))) else none
  | .mul, .str x, .int n => if n ≤ 100000 ∧ -100000 ≤ n ∧ x.length ≤ 10 then some (.d (.str (mulS x n))) else none
  | _, _, _ => none
def opC : CO → D → D → Option Bool
  | .eq, a, b => eqD a b
  | .ne, a, b => (eqD a b).map (!·)
  | .lt, .int i, .int j => some (decide (i < j))
  | .le, .int i, .int j => some (decide (i ≤ j))
  | .gt, .int i, .int j => some (decide (j < i))
  | .ge, .int i, .int j => some (decide (j ≤ i))
  | .le, .str x, .str y => some (!decide (y.cps.toList < x.cps.toList))
  | .isin, .str x, .str z => match x.cps.toList with
    | [c] => some (decide (c ∈ z.cps.toList))
    | _ => none
  | .notin, .str x, .str z => match x.cps.toList with
    | [c] => some (!decide (c ∈ z.cps.toList))
    | _ => none
  | .isin, x, .lst xs => inD x xs
  | .isin, x, .tup xs => inD x xs
  | .notin, x, .lst xs => (inD x xs).map (!·)
  | .notin, x, .tup xs => (inD x xs).map (!·)
  | .isin, x, .dK ks vs => (getD? (.dK ks vs) x).map (·.isSome)
  | .isin, x, .dT ks vs => (getD? (.dT ks vs) x).map (·.isSome)
  | .notin, x, .dK ks vs => (getD? (.dK ks vs) x).map (!·.isSome)
  | .notin, x, .dT ks vs => (getD? (.dT ks vs) x).map (!·.isSome)
  | _, _, _ => none
def truD : D → Option Bool
  | .non => some false
  | .bl b => some b
  | .int i => some (i != 0)
  | .str x => if x.length ≤ line then some ((x.length : Int) != 0) else none
  | .tup xs => some (!xs.isEmpty)
  | .lst xs => some (!xs.isEmpty)
  | _ => none
def cut {α : Type} (xs : List α) (lo hi : Option Int) : List α := (xs.drop (HT.sIx xs.length 0 lo)).take (HT.sIx xs.length xs.length hi - HT.sIx xs.length 0 lo)
def opI : D → D → Option D
  | .lst xs, .int i => L2.atI xs i
  | .tup xs, .int i => L2.atI xs i
  | .scr ns, .int i => (L2.atI ns i).map .int
  | .str z, .int i => if z.length ≤ line then (L2.atI z.cps.toList i).map fun c => .str ⟨#[c]⟩ else none
  | .dK ks vs, k => (getD? (.dK ks vs) k).getD none
  | .dT ks vs, k => (getD? (.dT ks vs) k).getD none
  | _, _ => none
def opS : D → Option Int → Option Int → Option IV
  | .lst xs, lo, hi => some (.fr (.lst (cut xs lo hi)))
  | .tup xs, lo, hi => some (.d (.tup (cut xs lo hi)))
  | .str z, lo, hi => if z.length ≤ line then some (.d (.str (L2.cutS z lo hi))) else none
  | _, _, _ => none

/-- built-in functions -/
inductive BI where | len | int | sum | list | tuple | str | all | max
def ints? : List D → Option (List Int)
  | [] => some []
  | .int i :: ds => (ints? ds).map (i :: ·)
  | _ => none
def bls? : List D → Option (List Bool)
  | [] => some []
  | .bl i :: ds => (bls? ds).map (i :: ·)
  | _ => none
def strs? : List D → Option (List Str)
  | [] => some []
  | .str i :: ds => (strs? ds).map (i :: ·)
  | _ => none
def opF : BI → List D → Option IV
  | .len, [.lst xs] => some (.d (.int xs.length))
  | .len, [.tup xs] => some (.d (.int xs.length))
  | .len, [.scr xs] => some (.d (.int xs.length))
  | .len, [.str z] => if z.length ≤ line then some (.d (.int z.length)) else none
  | .int, [.int i] => some (.d (.int i))
  | .int, [.bl b] => some (.d (.int (if b then 1 else 0)))
  | .sum, [.lst xs] => (ints? xs).map fun ns => .d (.int ns.sum)
  | .list, [.lst xs] => some (.fr (.lst xs))
  | .list, [.tup xs] => some (.fr (.lst xs))
  | .list, [.scr ns] => some (.fr (.lst (ns.map .int)))
  | .tuple, [.lst xs] => some (.d (.tup xs))
  | .tuple, [.tup xs] => some (.d (.tup xs))
  | .int, [.str a] => if a.length ≤ 640 then (PySem.intText? a).map fun n => .d (.int n) else none
  | .str, [.int i] => if i.natAbs.log2 < 1920 then some (.d (.str (toString i))) else none
  | .all, [.lst xs] => (bls? xs).map fun bs => .d (.bl (bs.all id))
  | .max, [.int i, .int j] => some (.d (.int (if j > i then j else i)))
  | _, _ => none
/-- methods of texts -/
inductive MT where | rmp | find | join
def opM : MT → Str → List D → Option D
  | .rmp, a, [.str b] => if a.length ≤ line then some (.str (Txt.removeprefix a b)) else none
  | .find, a, [.str b, .int i] => some (.int (Txt.find3 a b i))
  | .join, a, [.lst xs] => match strs? xs with
    | some ys => if (ys.map (·.length)).sum + ys.length * a.length ≤ line then some (.str (Txt.join a ys)) else none
    | none => none
  | _, _, _ => none
/-- x op= y -/
def augD : BO → D → D → Option D
  | .add, .int i, .int j => some (.int (i + j))
  | .sub, .int i, .int j => some (.int (i - j))
  | _, _, _ => none

/-- what isinstance asks -/
inductive TY where | int | str | bool | list | tuple | dict | cls (c : Nat) | exc (c : Nat) | ve
  deriving DecidableEq
def isTy : D → TY → Bool
  | .bl _, .int => true
  | .bl _, .bool => true
  | .int _, .int => true
  | .str _, .str => true
  | .lst _, .list => true
  | .scr _, .list => true
  | .tup _, .tuple => true
  | .dK _ _, .dict => true
  | .dT _ _, .dict => true
  | .obj c _, .cls k => c == k
  | _, _ => false

/-! ### the language -/
mutual
inductive IE where
  | var (i : Nat)
  | lit (d : D)
  | tup (es : IEs) | lst (es : IEs) | dct (ps : IEs)
  | bin (op : BO) (a b : IE) | neg (a : IE)
  | gc (n : Nat)
  | ch (op op' : CO) (a b c : IE)
  | bm (m : MT) (a : IE) (es : IEs)
  | cmp (op : CO) (a b : IE) | isN (a : IE) | notN (a : IE)
  | and (a b : IE) | or (a b : IE) | not (a : IE) | ife (c a b : IE)
  | ix (a b : IE) | slc (a lo hi : IE)
  | call (f : Nat) (es : IEs)
  | bi (f : BI) (es : IEs)
  | isi (a : IE) (t : TY)
  | fld (a : IE) (n : Str)
  /-- [elt for i in it if c], c = lit true where there is none -/
  | lc (elt : IE) (i : Nat) (it : IT) (hasIf : Bool) (c : IE)
inductive IEs where
  | nil | cons (e : IE) (es : IEs)
inductive IT where
  | e (a : IE) | rng (a : IE) | rng2 (a b : IE) | txt (a : IE)
end
def IEs.len : IEs → Nat
  | .nil => 0
  | .cons _ es => es.len + 1

mutual
inductive IS where
  | asg (i : Nat) (e : IE)
  | asgT (is : List Nat) (e : IE)
  /-- slot[k] = v -/
  | put (i : Nat) (k v : IE)
  | expr (e : IE)
  | app (i : Nat) (e : IE)
  | ret (e : IE) | retN
  | ifS (c : IE) (a b : ISs)
  | forS (i : Nat) (it : IT) (b : ISs)
  /-- slot op= e -/
  | aug (i : Nat) (op : BO) (e : IE)
  | whl (c : IE) (b : ISs)
  | brk | cont | pass
  | raise (c : Nat) (es : IEs)
  /-- try: b except X as i: suite, one after another (the class's number, the slot, the suite) -/
  | tryS (b : ISs) (hs : IHs)
inductive ISs where
  | nil | cons (s : IS) (ss : ISs)
inductive IHs where
  | nil | cons (c : Nat) (i : Nat) (s : ISs) (hs : IHs)
end

/-- what the text says of its classes -/
structure Tb where
  /-- how many classes of errors -/
  ne : Nat
  /-- how many own classes -/
  nc : Nat
  /-- the fields of the errors of the c-th class -/
  ef : Nat → List Str
  /-- whether an error of the class c is one of the class k -/
  es : Nat → Nat → Bool
  /-- the fields of the instances of the c-th own class -/
  of : Nat → List Str
  /-- how the j-th parameter of a def is handed in: 0 kept, 1 lent, 2 to be written -/
  md : Nat → Nat → Nat
  /-- the module's constants: how many, each -/
  nk : Nat := 0
  gc : Nat → D := fun _ => .non

/-! ### expressions -/
def fieldD (T : Tb) (d : D) (n : Str) : Option D := match d with
  | .obj c fs => if (T.of c).length = fs.length then ((T.of c).zip fs).lookup n else none
  | _ => none
def fieldE (T : Tb) (c : Nat) (fs : List D) (n : Str) : Option D := if (T.ef c).length = fs.length then ((T.ef c).zip fs).lookup n else none
def isE (T : Tb) (c : Nat) : TY → Bool
  | .exc k => T.es c k
  | .ve => true
  | _ => false
def R.val (ρ : Env) : Option IV → R IV
  | some v => .ok v ρ
  | none => .no
def R.dat (ρ : Env) : Option D → R IV
  | some v => .ok (.d v) ρ
  | none => .no
def R.bool (ρ : Env) : Option Bool → R IV
  | some v => .ok (.d (.bl v)) ρ
  | none => .no
/-- what a loop goes over -/
def walkD : D → Option (List D)
  | .lst xs => some xs
  | .tup xs => some xs
  | .scr ns => some (ns.map .int)
  | _ => none
def rngD (i j : Int) : List D := (List.range (j - i).toNat).map fun (k : Nat) => D.int (i + k)
def rngOk (i j : Int) : Bool := decide (-(2 ^ 62) ≤ i ∧ i < 2 ^ 62 ∧ -(2 ^ 62) ≤ j ∧ j < 2 ^ 62 ∧ j - i ≤ line)
/-- slots lent while a loop goes over them -/
def lend (ρ : Env) : IV → Env
  | .sl i => match ρ.at i with
    | .own c => ρ.set i (.bor c)
    | _ => ρ
  | _ => ρ
/-- .. and given back (ρ0: as it stood) -/
def unlend (ρ0 ρ : Env) : IV → Env
  | .sl i => match ρ0.at i, ρ.at i with
    | .own _, .bor c => ρ.set i (.own c)
    | _, _ => ρ
  | _ => ρ
/-- no error leaves -/
def R.calm {α : Type} : R α → R α
  | .er _ _ _ => .no
  | x => x
def nobB : Slot → Bool
  | .own _ => false
  | .bor _ => false
  | _ => true
/-- the slot of a comprehension holds what is never written -/
def nobR {α : Type} (i : Nat) (ρ : Env) (r : R α) : R α := match nobB (ρ.at i) with
  | true => r
  | false => .no
/-- the items of a comprehension -/
def lcRun (i : Nat) (c : Env → R Bool) (f : Env → R D) : List D → Env → R (List D)
  | [], ρ => .ok [] ρ
  | x :: xs, ρ => (c (ρ.set i (.d x))).calm.bind fun b ρ => match b with
    | true => (f ρ).calm.bind fun y ρ => nobR i ρ ((lcRun i c f xs ρ).bind fun ys ρ => .ok (y :: ys) ρ)
    | false => nobR i ρ (lcRun i c f xs ρ)
/-- behind a comprehension: its slot is as it was -/
def R.lcEnd (r : R (List D)) (i : Nat) (v : IV) (ρ : Env) : R IV := match ρ.at i with
  | .un => r.bind fun ys ρ' => .ok (.fr (.lst ys)) ((unlend ρ ρ' v).set i .un)
  | .d x => r.bind fun ys ρ' => .ok (.fr (.lst ys)) ((unlend ρ ρ' v).set i (.d x))
  | _ => .no
abbrev Fn := Nat → Env → FR
/-- an argument's slot in the callee, by the parameter's way -/
def handed (ρ : Env) (m : Nat) : IV → Option Slot
  | .d x => some (.d x)
  | .fr _ => none
  | .sl i => match ρ.at i, m with
    | .own c, 1 => some (.bor c)
    | .own c, 2 => some (.own c)
    | .bor c, 1 => some (.bor c)
    | .exc c fs, _ => some (.exc c fs)
    | _, _ => none
def handAll (T : Tb) (f : Nat) (ρ : Env) : Nat → List IV → Option Env
  | _, [] => some []
  | j, v :: vs => match handed ρ (T.md f j) v, handAll T f ρ (j + 1) vs with
    | some s, some ss => some (s :: ss)
    | _, _ => none
/-- the slots that are handed in to be written, none twice, none lent besides -/
def slotsOf : List IV → List Nat
  | [] => []
  | .sl i :: vs => i :: slotsOf vs
  | _ :: vs => slotsOf vs
/-- behind the call -/
def back (T : Tb) (f : Nat) (ps : Env) : Nat → List IV → Env → Option Env
  | _, [], ρ => some ρ
  | j, .sl i :: vs, ρ => match ρ.at i, T.md f j with
    | .own _, 2 => match ps.at j with
      | .own c => back T f ps (j + 1) vs (ρ.set i (.own c))
      | _ => none
    | _, _ => back T f ps (j + 1) vs ρ
  | j, _ :: vs, ρ => back T f ps (j + 1) vs ρ
def backR (T : Tb) (f : Nat) (ps : Env) (vs : List IV) (ρ : Env) (r : Env → R IV) : R IV := match back T f ps 0 vs ρ with
  | some ρ => r ρ
  | none => .no
/-- arguments that the callee may keep are kept ahead of the call -/
def prepV (np m : Nat) (v : IV) (ρ : Env) : Option (IV × Env) := match v with
  | .sl i => if m = 0 then (match ρ.at i with
    | .own c => if i < np then none else some (.d c.toD, ρ.set i (.d c.toD))
    | _ => some (.sl i, ρ)) else some (.sl i, ρ)
  | v => some (v, ρ)
def prep (T : Tb) (np f : Nat) : Nat → List IV → Env → R (List IV)
  | _, [], ρ => .ok [] ρ
  | j, v :: vs, ρ => match prepV np (T.md f j) v ρ with
    | some p => (prep T np f (j + 1) vs p.2).bind fun vs ρ => .ok (p.1 :: vs) ρ
    | none => .no
def callR (T : Tb) (fn : Fn) (np f : Nat) (vs : List IV) (ρ : Env) : R IV := (prep T np f 0 vs ρ).bind fun vs ρ => match handAll T f ρ 0 vs with
  | some as => if (slotsOf vs).Nodup then match fn f as with
      | .ok v ps => backR T f ps vs ρ fun ρ => .ok v ρ
      | .er c fs ps => backR T f ps vs ρ fun ρ => .er c fs ρ
      | .no => .no
    else .no
  | none => .no


/-- fresh objects kept, slots left -/
def kpF : IV → Env → R IV
  | .fr c, ρ => .ok (.d c.toD) ρ
  | v, ρ => .ok v ρ
abbrev R.kept (np : Nat) (r : R IV) : R D := r.bind fun x ρ => kp np ρ x
abbrev R.held (r : R IV) : R IV := r.bind fun x ρ => kpF x ρ
def seen (ρ : Env) (x : IV) (f : D → R α) : R α := match vw ρ x with
  | some d => f d
  | none => .no
/-- as a test -/
abbrev R.tru (r : R IV) : R Bool := r.bind fun x ρ => seen ρ x fun d => match truD d with
  | some b => .ok b ρ
  | none => .no
/-- a part of a slice -/
def prtR (np : Nat) (nl : Bool) (r : Env → R IV) (ρ : Env) : R (Option Int) := match nl with
  | true => .ok none ρ
  | false => ((r ρ).kept np).bind fun d ρ => match d with
    | .int i => .ok (some i) ρ
    | _ => .no
/-- no part -/
def IE.nl : IE → Bool
  | .lit .non => true
  | _ => false
def Tb.tok (T : Tb) : TY → Bool
  | .cls c => decide (c < T.nc)
  | .exc c => decide (c < T.ne)
  | _ => true
/-- the error in a slot -/
def excAt (ρ : Env) : IV → Option (Nat × List D)
  | .sl i => match ρ.at i with
    | .exc c fs => some (c, fs)
    | _ => none
  | _ => none
def isiR (T : Tb) (t : TY) (x : IV) (ρ : Env) : R IV := if T.tok t = true then match excAt ρ x with
  | some p => .ok (.d (.bl (isE T p.1 t))) ρ
  | none => seen ρ x fun x => .ok (.d (.bl (isTy x t))) ρ
  else .no
def fldR (T : Tb) (n : Str) (x : IV) (ρ : Env) : R IV := match excAt ρ x with
  | some p => .dat ρ (fieldE T p.1 p.2 n)
  | none => seen ρ x fun x => .dat ρ (fieldD T x n)
section
variable (T : Tb) (fn : Fn) (np : Nat)
mutual
def ev : IE → Env → R IV
  | .var i, ρ => match ρ.at i with
    | .d x => .ok (.d x) ρ
    | .un => .no
    | _ => .ok (.sl i) ρ
  | .lit d, ρ => if flatD d then .ok (.d d) ρ else .no
  | .tup es, ρ => (evs es ρ).bind fun ds ρ => if ds.length ≤ line then .ok (.d (.tup ds)) ρ else .no
  | .lst es, ρ => (evs es ρ).bind fun ds ρ => if ds.length ≤ line then .ok (.fr (.lst ds)) ρ else .no
  | .dct ps, ρ => (evp ps ρ).bind fun kvs ρ => if kvs.length ≤ 15 then .ok (.fr (.dK (putAll [] kvs))) ρ else .no
  | .bin op a b, ρ => (ev a ρ).held.bind fun x ρ => (ev b ρ).bind fun y ρ => seen ρ x fun x => seen ρ y fun y => .val ρ (opB op x y)
  | .neg a, ρ => ((ev a ρ).kept np).bind fun x ρ => match x with
    | .int i => .ok (.d (.int (-i))) ρ
    | _ => .no
  | .cmp op a b, ρ => (ev a ρ).held.bind fun x ρ => (ev b ρ).bind fun y ρ => seen ρ x fun x => seen ρ y fun y => .bool ρ (opC op x y)
  | .gc n, ρ => if n < T.nk ∧ flatD (T.gc n) = true then .ok (.d (T.gc n)) ρ else .no
  | .ch op op' a b c, ρ => (ev a ρ).held.bind fun x ρ => (ev b ρ).held.bind fun y ρ => seen ρ x fun dx => seen ρ y fun dy => match opC op dx dy with
    | some true => (ev c ρ).bind fun z ρ => seen ρ y fun dy => seen ρ z fun dz => .bool ρ (opC op' dy dz)
    | some false => .ok (.d (.bl false)) ρ
    | none => .no
  | .bm m a es, ρ => (ev a ρ).held.bind fun x ρ => seen ρ x fun d => match d with
    | .str z => (evA es ρ).bind fun vs ρ => match vs.mapM (vw ρ) with
      | some ds => .dat ρ (opM m z ds)
      | none => .no
    | _ => .no
  | .isN a, ρ => (ev a ρ).bind fun x ρ => seen ρ x fun x => match x with
    | .non => .ok (.d (.bl true)) ρ
    | _ => .ok (.d (.bl false)) ρ
  | .notN a, ρ => (ev a ρ).bind fun x ρ => seen ρ x fun x => match x with
    | .non => .ok (.d (.bl false)) ρ
    | _ => .ok (.d (.bl true)) ρ
  | .and a b, ρ => (ev a ρ).held.bind fun x ρ => seen ρ x fun d => match truD d with
    | some true => ev b ρ
    | some false => .ok x ρ
    | none => .no
  | .or a b, ρ => (ev a ρ).held.bind fun x ρ => seen ρ x fun d => match truD d with
    | some true => .ok x ρ
    | some false => ev b ρ
    | none => .no
  | .not a, ρ => (ev a ρ).tru.bind fun b ρ => .ok (.d (.bl (!b))) ρ
  | .ife c a b, ρ => (ev c ρ).tru.bind fun t ρ => match t with
    | true => ev a ρ
    | false => ev b ρ
  | .ix a b, ρ => (ev a ρ).held.bind fun x ρ => ((ev b ρ).kept np).bind fun y ρ => seen ρ x fun x => .dat ρ (opI x y)
  | .slc a lo hi, ρ => (ev a ρ).held.bind fun x ρ => (prtR np lo.nl (fun ρ => ev lo ρ) ρ).bind fun l ρ => (prtR np hi.nl (fun ρ => ev hi ρ) ρ).bind fun h ρ => seen ρ x fun x => .val ρ (opS x l h)
  | .call f es, ρ => (evA es ρ).bind fun vs ρ => callR T fn np f vs ρ
  | .bi f es, ρ => (evA es ρ).bind fun vs ρ => match vs.mapM (vw ρ) with
    | some ds => .val ρ (opF f ds)
    | none => .no
  | .isi a t, ρ => (ev a ρ).held.bind fun x ρ => isiR T t x ρ
  | .fld a n, ρ => (ev a ρ).held.bind fun x ρ => fldR T n x ρ
  | .lc elt i it hasIf c, ρ => (evI it ρ).bind fun p ρ =>
    (lcRun i (fun ρ => match hasIf with
      | true => (ev c ρ).tru
      | false => .ok true ρ) (fun ρ => (ev elt ρ).kept np) p.2 ((lend ρ p.1).set i .un)).lcEnd i p.1 ρ
def evs : IEs → Env → R (List D)
  | .nil, ρ => .ok [] ρ
  | .cons e es, ρ => ((ev e ρ).kept np).bind fun x ρ => (evs es ρ).bind fun xs ρ => .ok (x :: xs) ρ
/-- arguments: fresh objects kept, slots left -/
def evA : IEs → Env → R (List IV)
  | .nil, ρ => .ok [] ρ
  | .cons e es, ρ => (ev e ρ).held.bind fun x ρ => (evA es ρ).bind fun xs ρ => .ok (x :: xs) ρ
def evp : IEs → Env → R (List (Key × D))
  | .nil, ρ => .ok [] ρ
  | .cons _ .nil, _ => .no
  | .cons k (.cons v ps), ρ => ((ev k ρ).kept np).bind fun k ρ => ((ev v ρ).kept np).bind fun v ρ => (evp ps ρ).bind fun kvs ρ => match k.key? with
    | some k => .ok ((k, v) :: kvs) ρ
    | none => .no
def evI : IT → Env → R (IV × List D)
  | .e a, ρ => (ev a ρ).held.bind fun x ρ => seen ρ x fun d => match walkD d with
    | some xs => if xs.length ≤ line then .ok (x, xs) ρ else .no
    | none => .no
  | .rng a, ρ => ((ev a ρ).kept np).bind fun x ρ => match x with
    | .int j => if rngOk 0 j then .ok (.d .non, rngD 0 j) ρ else .no
    | _ => .no
  | .rng2 a b, ρ => ((ev a ρ).kept np).bind fun x ρ => ((ev b ρ).kept np).bind fun y ρ => match x, y with
    | .int i, .int j => if rngOk i j then .ok (.d .non, rngD i j) ρ else .no
    | _, _ => .no
  | .txt a, ρ => ((ev a ρ).kept np).bind fun x ρ => match x with
    | .str z => if z.length ≤ line then .ok (.d .non, z.cps.toList.map fun c => .str ⟨#[c]⟩) ρ else .no
    | _ => .no
end

/-! ### statements -/
/-- how a statement ends -/
inductive O where
  | nx (ρ : Env) | rt (v : IV) (ρ : Env) | bk (ρ : Env) | ct (ρ : Env) | er (c : Nat) (fs : List D) (ρ : Env) | no
  deriving Inhabited
@[reducible] def R.to {α : Type} (x : R α) (f : α → Env → O) : O := match x with
  | .ok a ρ => f a ρ
  | .er c fs ρ => .er c fs ρ
  | .no => .no
@[reducible] def O.then (x : O) (f : Env → O) : O := match x with
  | .nx ρ => f ρ
  | x => x
/-- slot i = a value: a parameter's slot takes data alone, and not where it is to be written -/
def store (np i : Nat) (ρ : Env) : IV → R Unit
  | .fr c => if i < np then (match ρ.at i with
      | .own _ => .no
      | _ => .ok () (ρ.set i (.d c.toD))) else .ok () (ρ.set i (.own c))
  | v => (kp np ρ v).bind fun x ρ => if i < np then (match ρ.at i with
      | .own _ => .no
      | _ => .ok () (ρ.set i (.d x))) else .ok () (ρ.set i (.d x))
def storeAll (np : Nat) : List Nat → List D → Env → R Unit
  | [], [], ρ => .ok () ρ
  | i :: is, x :: xs, ρ => (store np i ρ (.d x)).bind fun _ ρ => storeAll np is xs ρ
  | _, _, _ => .no
/-- a loop over items -/
def forRun (np i : Nat) (b : Env → O) : List D → Env → O
  | [], ρ => .nx ρ
  | x :: xs, ρ => (store np i ρ (.d x)).to fun _ ρ => match b ρ with
    | .nx ρ => forRun np i b xs ρ
    | .ct ρ => forRun np i b xs ρ
    | .bk ρ => .nx ρ
    | .rt v ρ => .rt v ρ
    | .er c fs ρ => .er c fs ρ
    | .no => .no
/-- while -/
def whRun (c : Env → R Bool) (b : Env → O) : Nat → Env → O
  | 0, _ => .no
  | n + 1, ρ => (c ρ).to fun t ρ => match t with
    | false => .nx ρ
    | true => match b ρ with
      | .nx ρ => whRun c b n ρ
      | .ct ρ => whRun c b n ρ
      | .bk ρ => .nx ρ
      | .rt v ρ => .rt v ρ
      | .er c fs ρ => .er c fs ρ
      | .no => .no
/-- behind a loop: what was lent is given back -/
def O.back (ρ0 : Env) (v : IV) : O → O
  | .nx ρ => .nx (unlend ρ0 ρ v)
  | .er c fs ρ => .er c fs (unlend ρ0 ρ v)
  | .rt x ρ => .rt x (unlend ρ0 ρ v)
  | .bk ρ => .bk ρ
  | .ct ρ => .ct ρ
  | .no => .no
def cnPut (k v : D) : Cn → Option Cn
  | .dK kvs => match k.key? with
    | some k => if kvs.length < line then some (.dK (put kvs k v)) else none
    | none => none
  | .lst xs => match k with
    | .int j => match L2.ixN xs.length j with
      | some j => some (.lst (xs.set j v))
      | none => none
    | _ => none
  | _ => none
def Slot.unE : Slot → Slot
  | .exc _ _ => .un
  | s => s
/-- behind a suite that holds an error: the error is gone, and no other leaves -/
def goneE (i : Nat) (ρ : Env) : Env := (ρ.map Slot.unE).set i .un
def gone (i : Nat) : O → O
  | .nx ρ => .nx (goneE i ρ)
  | .rt v ρ => .rt v (goneE i ρ)
  | .bk ρ => .bk (goneE i ρ)
  | .ct ρ => .ct (goneE i ρ)
  | .er _ _ _ => .no
  | .no => .no
def isOwn : Slot → Bool
  | .own _ => true
  | _ => false
def isLst : Slot → Bool
  | .own (.lst _) => true
  | _ => false
/-- a value given back: a slot that is owned, and no parameter's, is left -/
def retO (np : Nat) (v : IV) (ρ : Env) : O := match v with
  | .sl i => match ρ.at i with
    | .own c => if i < np then .no else .rt (.fr c) (ρ.set i .un)
    | _ => .no
  | v => .rt v ρ
mutual
/-- no clauses within -/
def IS.noTry : IS → Bool
  | .ifS _ a b => a.noTry && b.noTry
  | .forS _ _ b => b.noTry
  | .tryS _ _ => false
  | .whl _ _ => false
  | _ => true
def ISs.noTry : ISs → Bool
  | .nil => true
  | .cons s ss => s.noTry && ss.noTry
end
mutual
def ex : IS → Env → O
  | .asg i e, ρ => (ev T fn np e ρ).to fun v ρ => (store np i ρ v).to fun _ ρ => .nx ρ
  | .asgT is e, ρ => ((ev T fn np e ρ).kept np).to fun x ρ => match x with
    | .tup xs => (storeAll np is xs ρ).to fun _ ρ => .nx ρ
    | _ => .no
  | .put i k v, ρ => match isOwn (ρ.at i) with
    | true => ((ev T fn np v ρ).kept np).to fun v ρ => ((ev T fn np k ρ).kept np).to fun k ρ => match ρ.at i with
      | .own c => match cnPut k v c with
        | some c => .nx (ρ.set i (.own c))
        | none => .no
      | _ => .no
    | false => .no
  | .expr e, ρ => (ev T fn np e ρ).to fun _ ρ => .nx ρ
  | .app i e, ρ => match isLst (ρ.at i) with
    | true => ((ev T fn np e ρ).kept np).to fun x ρ => match ρ.at i with
      | .own (.lst xs) => if xs.length < line then .nx (ρ.set i (.own (.lst (xs ++ [x])))) else .no
      | _ => .no
    | false => .no
  | .ret e, ρ => (ev T fn np e ρ).to fun v ρ => retO np v ρ
  | .retN, ρ => .rt (.d .non) ρ
  | .ifS c a b, ρ => (ev T fn np c ρ).tru.to fun t ρ => match t with
    | true => exs a ρ
    | false => exs b ρ
  | .forS i it b, ρ => (evI T fn np it ρ).to fun p ρ => (forRun np i (fun ρ => exs b ρ) p.2 (lend ρ p.1)).back ρ p.1
  | .aug i op e, ρ => match ρ.at i with
    | .d x => ((ev T fn np e ρ).kept np).to fun y ρ => match ρ.at i with
      | .d _ => match augD op x y with
        | some z => .nx (ρ.set i (.d z))
        | none => .no
      | _ => .no
    | _ => .no
  | .whl c b, ρ => whRun (fun ρ => (ev T fn np c ρ).tru) (fun ρ => exs b ρ) line ρ
  | .brk, ρ => .bk ρ
  | .cont, ρ => .ct ρ
  | .pass, ρ => .nx ρ
  | .raise c es, ρ => (evs T fn np es ρ).to fun ds ρ => if c < T.ne ∧ ds.length = (T.ef c).length ∧ ds.length ≤ 20 then .er c ds ρ else .no
  | .tryS b hs, ρ => match exs b ρ with
    | .er c fs ρ => exh hs c fs ρ
    | o => o
def exs : ISs → Env → O
  | .nil, ρ => .nx ρ
  | .cons s ss, ρ => (ex s ρ).then fun ρ => exs ss ρ
def exh : IHs → Nat → List D → Env → O
  | .nil, c, fs, ρ => .er c fs ρ
  | .cons k i s hs, c, fs, ρ => if k < T.ne ∧ s.noTry = true then match T.es c k with
    | true => gone i (exs s (ρ.set i (.exc c fs)))
    | false => exh hs c fs ρ
    else .no
end
end

/-- a def: its parameters' number, its slots' number, its body -/
structure Fd where
  np : Nat
  ns : Nat
  body : ISs
/-- what the caller sees of the parameters: those that were to be written -/
def mask : Env → Env → Env
  | .own _ :: as, s :: ρ => s :: mask as ρ
  | _ :: as, _ :: ρ => .un :: mask as ρ
  | _, _ => []
def O.end (as : Env) : O → FR
  | .nx ρ => .ok (.d .non) (mask as ρ)
  | .rt v ρ => .ok v (mask as ρ)
  | .er c fs ρ => .er c fs (mask as ρ)
  | _ => .no
def runF (T : Tb) (fds : Nat → Option Fd) : Nat → Fn
  | 0, _, _ => .no
  | k + 1, f, as => match fds f with
    | some d => if as.length = d.np then (exs T (runF T fds k) d.np d.body (as ++ List.replicate (d.ns - d.np) .un)).end as else .no
    | none => .no
end EN
/-! How values stand in the heap. -/
namespace EN
open PySem L2
abbrev Frag := PySem.W.Frag

/-- what a body stands on: the written part, its classes, the parameters' number and values, the heap at its entry, the error that is held -/
structure G0 where
  K : Frag
  T : Tb
  ec : Nat → Addr
  oc : Nat → Addr
  /-- the error that a suite holds: its object, class, dict -/
  pn : Option (Addr × Value × Option Addr)
structure Gam extends G0 where
  np : Nat
  s0 : L2.St
  h0 : Hp
instance : Coe Gam G0 := ⟨Gam.toG0⟩

/-- the value x is d, by what stands in F for good -/
inductive Rep (g : G0) (F : Hp) : V → D → Prop
  | non : Rep g F .non .non
  | bl (b : Bool) : Rep g F (.bl b) (.bl b)
  | int (i : Int) : Rep g F (.int i) (.int i)
  | str (x : Str) : Rep g F (.str x) (.str x)
  | tup {a : Addr} {vs : List V} {ds : List D} (h : SqT g.K F a vs) (e : vs.length = ds.length) (r : ∀ (i : Nat) (v : V) (d : D), vs[i]? = some v → ds[i]? = some d → Rep g F v d) : Rep g F (.ref a) (.tup ds)
  | lst {a : Addr} {vs : List V} {ds : List D} (h : F a = some (.lst vs)) (e : vs.length = ds.length) (r : ∀ (i : Nat) (v : V) (d : D), vs[i]? = some v → ds[i]? = some d → Rep g F v d) : Rep g F (.ref a) (.lst ds)
  | scr {a : Addr} {ns : List Int} (h : SqL g.K F a (ns.map V.int)) : Rep g F (.ref a) (.scr ns)
  | dK {a : Addr} {kvs : List (Key × V)} {ks : List Key} {ds : List D} (h : F a = some (.dK kvs)) (hk : kvs.map (·.1) = ks) (e : (kvs.map (·.2)).length = ds.length)
      (r : ∀ (i : Nat) (v : V) (d : D), (kvs.map (·.2))[i]? = some v → ds[i]? = some d → Rep g F v d) : Rep g F (.ref a) (.dK ks ds)
  | dT {a : Addr} {kvs : List (List Key × V)} {ks : List (List Key)} {ds : List D} (h : F a = some (.dT kvs)) (hk : kvs.map (·.1) = ks) (e : (kvs.map (·.2)).length = ds.length)
      (r : ∀ (i : Nat) (v : V) (d : D), (kvs.map (·.2))[i]? = some v → ds[i]? = some d → Rep g F v d) : Rep g F (.ref a) (.dT ks ds)
  | obj {a dx : Addr} {c : Nat} {fs : List (Str × V)} {ds : List D} (hc : c < g.T.nc) (h : F a = some (.ins (g.oc c) dx fs)) (hk : fs.map (·.1) = g.T.of c) (e : (fs.map (·.2)).length = ds.length)
      (r : ∀ (i : Nat) (v : V) (d : D), (fs.map (·.2))[i]? = some v → ds[i]? = some d → Rep g F v d) : Rep g F (.ref a) (.obj c ds)
/-- item by item -/
def Rps (g : G0) (F : Hp) (vs : List V) (ds : List D) : Prop := vs.length = ds.length ∧ ∀ (i : Nat) (v : V) (d : D), vs[i]? = some v → ds[i]? = some d → Rep g F v d

section
variable {g : G0} {F F' H H' : Hp} {x v : V} {d : D} {vs ws : List V} {ds es : List D}
theorem sm_t {K : Frag} {a : Addr} {xs : List V} (e : Same F F') (h : SqT K F a xs) : SqT K F' a xs := by
  rcases h with (h | ⟨o, h⟩) | h
  · exact Or.inl (Or.inl (e a _ h))
  · exact Or.inl (Or.inr ⟨o, e a _ h⟩)
  · exact Or.inr h
theorem Rep.mono (e : Same F F') (h : Rep g F x d) : Rep g F' x d := by
  induction h with
  | non => exact .non
  | bl b => exact .bl b
  | int i => exact .int i
  | str x => exact .str x
  | tup h e' _ ih => exact .tup (sm_t e h) e' ih
  | lst h e' _ ih => exact .lst (e _ _ h) e' ih
  | scr h => exact .scr (Same.seq e h)
  | dK h hk e' _ ih => exact .dK (e _ _ h) hk e' ih
  | dT h hk e' _ ih => exact .dT (e _ _ h) hk e' ih
  | obj hc h hk e' _ ih => exact .obj hc (e _ _ h) hk e' ih
theorem Rps.mono (e : Same F F') (h : Rps g F vs ds) : Rps g F' vs ds := ⟨h.1, fun i v d a b => (h.2 i v d a b).mono e⟩
theorem Rps.nil : Rps g F [] [] := ⟨rfl, fun i v d a => by simp at a⟩
theorem Rps.cons (h : Rep g F v d) (r : Rps g F vs ds) : Rps g F (v :: vs) (d :: ds) := ⟨by simp [r.1], fun i w u a b => by
  cases i with
  | zero => simp at a b; subst a; subst b; exact h
  | succ i => simp at a b; exact r.2 i w u a b⟩
theorem Rps.head (r : Rps g F (v :: vs) (d :: ds)) : Rep g F v d := r.2 0 v d rfl rfl
theorem Rps.tail (r : Rps g F (v :: vs) (d :: ds)) : Rps g F vs ds := ⟨by have := r.1; simpa using this, fun i w u a b => r.2 (i + 1) w u (by simpa using a) (by simpa using b)⟩
theorem Rps.append (r : Rps g F vs ds) (q : Rps g F ws es) : Rps g F (vs ++ ws) (ds ++ es) := by
  refine ⟨by simp [r.1, q.1], fun i w u a b => ?_⟩
  rcases Nat.lt_or_ge i vs.length with h | h
  · rw [List.getElem?_append_left h] at a
    rw [List.getElem?_append_left (by rw [← r.1]; exact h)] at b
    exact r.2 i w u a b
  · rw [List.getElem?_append_right h] at a
    rw [List.getElem?_append_right (by rw [← r.1]; exact h)] at b
    exact q.2 _ w u a (by rw [r.1]; exact b)
theorem Rps.at (r : Rps g F vs ds) {i : Nat} (h : ds[i]? = some d) : ∃ v, vs[i]? = some v ∧ Rep g F v d := by
  have hi : i < ds.length := (List.getElem?_eq_some_iff.mp h).1
  have hv : i < vs.length := by rw [r.1]; exact hi
  exact ⟨vs[i], List.getElem?_eq_getElem hv, r.2 i _ d (List.getElem?_eq_getElem hv) h⟩
theorem Rps.atV (r : Rps g F vs ds) {i : Nat} (h : vs[i]? = some v) : ∃ d, ds[i]? = some d ∧ Rep g F v d := by
  have hi : i < vs.length := (List.getElem?_eq_some_iff.mp h).1
  have hv : i < ds.length := by rw [← r.1]; exact hi
  exact ⟨ds[i], List.getElem?_eq_getElem hv, r.2 i v _ h (List.getElem?_eq_getElem hv)⟩
theorem Rps.of (e : vs.length = ds.length) (r : ∀ (i : Nat) (v : V) (d : D), vs[i]? = some v → ds[i]? = some d → Rep g F v d) : Rps g F vs ds := ⟨e, r⟩
theorem Rps.drop (r : Rps g F vs ds) (n : Nat) : Rps g F (vs.drop n) (ds.drop n) := ⟨by simp [r.1], fun i w u a b => r.2 (n + i) w u (by simpa [List.getElem?_drop] using a) (by simpa [List.getElem?_drop] using b)⟩
theorem Rps.take (r : Rps g F vs ds) (n : Nat) : Rps g F (vs.take n) (ds.take n) := ⟨by simp [r.1], fun i w u a b => by
  rw [List.getElem?_take] at a b
  split at a
  · rename_i h
    rw [if_pos h] at b
    exact r.2 i w u a b
  · cases a⟩
theorem Rps.set (r : Rps g F vs ds) (h : Rep g F v d) (j : Nat) : Rps g F (vs.set j v) (ds.set j d) := ⟨by simp [r.1], fun i w u a b => by
  rw [List.getElem?_set] at a b
  by_cases hj : j = i
  · rw [if_pos hj] at a b
    split at a
    · split at b
      · cases a; cases b; exact h
      · cases b
    · cases a
  · rw [if_neg hj] at a b
    exact r.2 i w u a b⟩
end

/-- what an owned object at p holds -/
inductive CRep (g : G0) (F H : Hp) (p : Addr) : Cn → Prop
  | lst {vs : List V} {ds : List D} (h : H p = some (.lst vs)) (r : Rps g F vs ds) : CRep g F H p (.lst ds)
  | dK {kvs : List (Key × V)} {es : List (Key × D)} (h : H p = some (.dK kvs)) (hk : kvs.map (·.1) = es.map (·.1)) (r : Rps g F (kvs.map (·.2)) (es.map (·.2))) : CRep g F H p (.dK es)
  | dT {kvs : List (List Key × V)} {es : List (List Key × D)} (h : H p = some (.dT kvs)) (hk : kvs.map (·.1) = es.map (·.1)) (r : Rps g F (kvs.map (·.2)) (es.map (·.2))) : CRep g F H p (.dT es)
  | ob {dx : Addr} {c : Nat} {fs : List (Str × V)} {es : List (Str × D)} (hc : c < g.T.nc) (h : H p = some (.ins (g.oc c) dx fs)) (hk : fs.map (·.1) = es.map (·.1)) (r : Rps g F (fs.map (·.2)) (es.map (·.2))) : CRep g F H p (.ob c es)
theorem CRep.there {g : G0} {F H : Hp} {p : Addr} {c : Cn} (h : CRep g F H p c) : ∃ o, H p = some o := by
  cases h with
  | lst h _ => exact ⟨_, h⟩
  | dK h _ _ => exact ⟨_, h⟩
  | dT h _ _ => exact ⟨_, h⟩
  | ob _ h _ _ => exact ⟨_, h⟩
theorem CRep.mono {g : G0} {F F' H H' : Hp} {p : Addr} {c : Cn} (e : Same F F') (k : ∀ o, H p = some o → H' p = some o) (h : CRep g F H p c) : CRep g F' H' p c := by
  cases h with
  | lst h r => exact .lst (k _ h) (r.mono e)
  | dK h hk r => exact .dK (k _ h) hk (r.mono e)
  | dT h hk r => exact .dT (k _ h) hk (r.mono e)
  | ob hc h hk r => exact .ob hc (k _ h) hk (r.mono e)
/-- an owned object, kept from now on -/
def Cn.fit (T : Tb) : Cn → Bool
  | .ob c es => decide (es.map (·.1) = T.of c)
  | _ => true
theorem same_new {F : Hp} {p : Addr} {o : HO} (h : F p = none) : Same F (upd F p o) := fun b u e => by
  rw [upd_ne (ne_of_none e h)]
  exact e
theorem CRep.keep {g : G0} {F H : Hp} {p : Addr} {c : Cn} (h : CRep g F H p c) (hf : F p = none) (ft : c.fit g.T = true) : ∃ o, H p = some o ∧ Rep g (upd F p o) (.ref p) c.toD := by
  cases h with
  | lst h r => exact ⟨_, h, .lst upd_same r.1 fun i v d a b => (r.2 i v d a b).mono (same_new hf)⟩
  | dK h hk r => exact ⟨_, h, .dK upd_same hk r.1 fun i v d a b => (r.2 i v d a b).mono (same_new hf)⟩
  | dT h hk r => exact ⟨_, h, .dT upd_same hk r.1 fun i v d a b => (r.2 i v d a b).mono (same_new hf)⟩
  | ob hc h hk r => exact ⟨_, h, .obj hc upd_same (hk.trans (of_decide_eq_true ft)) r.1 fun i v d a b => (r.2 i v d a b).mono (same_new hf)⟩

/-! ### the slots -/
def Own (ρ : Env) (σ : L2.St) (i : Nat) (p : Addr) : Prop := (∃ c, ρ.at i = .own c) ∧ σ[i]? = some (some (.ref p))
def Held (ρ : Env) (σ : L2.St) (i : Nat) (p : Addr) : Prop := ((∃ c, ρ.at i = .own c) ∨ ∃ c, ρ.at i = .bor c) ∧ σ[i]? = some (some (.ref p))
def Ow (ρ : Env) (σ : L2.St) (p : Addr) : Prop := ∃ i, Own ρ σ i p
theorem Own.held {ρ : Env} {σ : L2.St} {i : Nat} {p : Addr} (h : Own ρ σ i p) : Held ρ σ i p := ⟨.inl h.1, h.2⟩
/-- the fields of an error -/
def ExF (g : G0) (F : Hp) (d : Option Addr) (c : Nat) (fs : List D) : Prop :=
  c < g.T.ne ∧ ∃ (dd : Addr) (ws : List (Str × V)), d = some dd ∧ F dd = some (.xd ws) ∧ ∀ n x, fieldE g.T c fs n = some x → ∃ v, ws.lookup n = some v ∧ Rep g F v x
theorem ExF.mono {g : G0} {F F' : Hp} {d : Option Addr} {c : Nat} {fs : List D} (e : Same F F') (h : ExF g F d c fs) : ExF g F' d c fs := by
  obtain ⟨h0, dd, ws, h1, h2, h3⟩ := h
  exact ⟨h0, dd, ws, h1, e _ _ h2, fun n x q => let ⟨v, a, b⟩ := h3 n x q; ⟨v, a, b.mono e⟩⟩
inductive SlOk (g : G0) (F : Hp) (σ : L2.St) (H : Hp) (i : Nat) : Slot → Prop
  | un : SlOk g F σ H i .un
  | d {x : D} {v : V} (h : σ[i]? = some (some v)) (r : Rep g F v x) : SlOk g F σ H i (.d x)
  | own {c : Cn} {p : Addr} (h : σ[i]? = some (some (.ref p))) (hf : F p = none) (r : CRep g F H p c) (ft : c.fit g.T = true) : SlOk g F σ H i (.own c)
  | bor {c : Cn} {p : Addr} (h : σ[i]? = some (some (.ref p))) (hf : F p = none) (r : CRep g F H p c) (ft : c.fit g.T = true) : SlOk g F σ H i (.bor c)
  | exc {c : Nat} {fs : List D} {a : Addr} {d : Option Addr} (hp : g.pn = some (a, .ref (g.ec c), d)) (h : σ[i]? = some (some (.ref a))) (f : ExF g F d c fs) : SlOk g F σ H i (.exc c fs)
structure Rl (g : Gam) (ρ : Env) (F : Hp) (σ : L2.St) (H : Hp) : Prop where
  same : Same F H
  len : ρ.length = σ.length
  sl : ∀ i, SlOk g F σ H i (ρ.at i)
  apart : ∀ i j p, i ≠ j → Own ρ σ i p → Held ρ σ j p → False
  old : ∀ i p, Own ρ σ i p → i < g.np → g.s0[i]? = some (some (.ref p))
  new : ∀ i p, Own ρ σ i p → g.np ≤ i → g.h0 p = none
/-- from one point to another -/
structure Stp (g : Gam) (ρ : Env) (F : Hp) (σ : L2.St) (H : Hp) (ρ' : Env) (F' : Hp) (σ' : L2.St) (H' : Hp) : Prop where
  rel : Rl g ρ' F' σ' H'
  ext : Same F F'
  new : ∀ a, F a = none → F' a ≠ none → H a = none ∨ Ow ρ σ a
  keep : ∀ a o, H a = some o → ¬ Ow ρ σ a → H' a = some o
  dom : ∀ a, H' a = none → H a = none
  ow : ∀ a, Ow ρ' σ' a → Ow ρ σ a ∨ H a = none
  brw : ∀ j c, ρ'.at j = .bor c → ρ.at j = .bor c ∧ σ'[j]? = σ[j]?
section
variable {g : Gam} {ρ ρ1 ρ2 : Env} {F F1 F2 H H1 H2 : Hp} {σ σ1 σ2 : L2.St}
theorem Stp.refl (r : Rl g ρ F σ H) : Stp g ρ F σ H ρ F σ H := ⟨r, Same.refl _, fun a h h' => absurd h h', fun _ _ h _ => h, fun _ h => h, fun _ h => .inl h, fun _ _ h => ⟨h, rfl⟩⟩
theorem Stp.trans (a : Stp g ρ F σ H ρ1 F1 σ1 H1) (b : Stp g ρ1 F1 σ1 H1 ρ2 F2 σ2 H2) : Stp g ρ F σ H ρ2 F2 σ2 H2 where
  rel := b.rel
  ext := a.ext.trans b.ext
  new := fun p h h' => by
    by_cases q : F1 p = none
    · rcases b.new p q h' with z | z
      · exact .inl (a.dom p z)
      · rcases a.ow p z with y | y
        · exact .inr y
        · exact .inl y
    · exact a.new p h q
  keep := fun p o h n => b.keep p o (a.keep p o h n) fun z => (a.ow p z).elim n fun y => by rw [y] at h; cases h
  dom := fun p h => a.dom p (b.dom p h)
  ow := fun p h => (b.ow p h).elim (fun z => a.ow p z) fun z => .inr (a.dom p z)
  brw := fun j c h => let ⟨x, y⟩ := b.brw j c h; let ⟨z, w⟩ := a.brw j c x; ⟨z, y.trans w⟩
end
end EN
/-! Steps between points; values on their way. -/
namespace EN
open PySem L2

theorem at_set (ρ : Env) (i j : Nat) (s : Slot) : Env.at (ρ.set i s) j = if i = j ∧ i < ρ.length then s else ρ.at j := by
  unfold Env.at
  rw [List.getD_eq_getElem?_getD, List.getD_eq_getElem?_getD, List.getElem?_set]
  by_cases h : i = j
  · subst h
    by_cases h2 : i < ρ.length
    · simp [h2]
    · simp [h2]
  · simp [h]
theorem at_set_ne {ρ : Env} {i j : Nat} {s : Slot} (h : i ≠ j) : Env.at (ρ.set i s) j = ρ.at j := by rw [at_set, if_neg fun z => h z.1]
theorem at_lt {ρ : Env} {i : Nat} (h : ρ.at i ≠ .un) : i < ρ.length := by
  rcases Nat.lt_or_ge i ρ.length with q | q
  · exact q
  · refine absurd ?_ h
    unfold Env.at
    rw [List.getD_eq_getElem?_getD, List.getElem?_eq_none q]
    rfl
theorem at_set_same {ρ : Env} {i : Nat} {s : Slot} (h : i < ρ.length) : Env.at (ρ.set i s) i = s := by rw [at_set, if_pos ⟨rfl, h⟩]
theorem notOB_un (c : Cn) : Slot.un ≠ .own c ∧ Slot.un ≠ .bor c := ⟨(fun z => nomatch z), (fun z => nomatch z)⟩
theorem notOB_d {x : D} (c : Cn) : Slot.d x ≠ .own c ∧ Slot.d x ≠ .bor c := ⟨(fun z => nomatch z), (fun z => nomatch z)⟩
section
variable {g : Gam} {ρ ρ1 ρ2 : Env} {F F1 F2 H H1 H2 : Hp} {σ σ1 σ2 : L2.St} {p : Addr} {o : HO} {i j : Nat}
theorem SlOk.mono {s : Slot} (e : Same F F1) (fr : ∀ c q, s = .own c ∨ s = .bor c → σ[i]? = some (some (.ref q)) → F1 q = none)
    (k : ∀ c q u, s = .own c ∨ s = .bor c → σ[i]? = some (some (.ref q)) → H q = some u → H1 q = some u) (h : SlOk g F σ H i s) : SlOk g F1 σ H1 i s := by
  cases h with
  | un => exact .un
  | d h r => exact .d h (r.mono e)
  | own h hf r ft => exact .own h (fr _ _ (.inl rfl) h) (r.mono e fun o z => k _ _ _ (.inl rfl) h z) ft
  | bor h hf r ft => exact .bor h (fr _ _ (.inr rfl) h) (r.mono e fun o z => k _ _ _ (.inr rfl) h z) ft
  | exc hp h f => exact .exc hp h (f.mono e)
theorem held_of {c : Cn} {q : Addr} (hi : ρ.at i = .own c ∨ ρ.at i = .bor c) (h : σ[i]? = some (some (.ref q))) : Held ρ σ i q := ⟨hi.elim (fun z => .inl ⟨c, z⟩) fun z => .inr ⟨c, z⟩, h⟩
/-- the whole relation, later -/
theorem Rl.later (r : Rl g ρ F σ H) (same : Same F1 H1) (e : Same F F1) (fr : ∀ i q, Held ρ σ i q → F1 q = none) (k : ∀ i q u, Held ρ σ i q → H q = some u → H1 q = some u) : Rl g ρ F1 σ H1 :=
  ⟨same, r.len, fun i => (r.sl i).mono e (fun c q h h2 => fr i q (held_of h h2)) fun c q u h h2 => k i q u (held_of h h2), r.apart, r.old, r.new⟩
/-- a slot forgotten, or told anew without being owned -/
theorem own_set {s : Slot} {q : Addr} (hs : ∀ c, s ≠ .own c) (h : Own (ρ.set i s) σ j q) : Own ρ σ j q := by
  obtain ⟨⟨c, e⟩, k⟩ := h
  rw [at_set] at e
  split at e
  · exact absurd e (hs c)
  · exact ⟨⟨c, e⟩, k⟩
theorem held_set {s : Slot} {q : Addr} (hs : ∀ c, s ≠ .own c ∧ s ≠ .bor c) (h : Held (ρ.set i s) σ j q) : Held ρ σ j q := by
  obtain ⟨e, k⟩ := h
  rcases e with ⟨c, e⟩ | ⟨c, e⟩
  · rw [at_set] at e
    split at e
    · exact absurd e (hs c).1
    · exact ⟨.inl ⟨c, e⟩, k⟩
  · rw [at_set] at e
    split at e
    · exact absurd e (hs c).2
    · exact ⟨.inr ⟨c, e⟩, k⟩
theorem Rl.set (r : Rl g ρ F σ H) {s : Slot} (hs : ∀ c, s ≠ .own c ∧ s ≠ .bor c) (h : SlOk g F σ H i s) : Rl g (ρ.set i s) F σ H :=
  ⟨r.same, by rw [List.length_set]; exact r.len, fun j => by
    rw [at_set]
    split
    · rename_i q; rw [← q.1]; exact h
    · exact r.sl j, fun a b q n x y => r.apart a b q n (own_set (fun c => (hs c).1) x) (held_set hs y), fun a q x => r.old a q (own_set (fun c => (hs c).1) x), fun a q x => r.new a q (own_set (fun c => (hs c).1) x)⟩
theorem Rl.freeze (r : Rl g ρ F σ H) (hp : H p = some o) (hf : F p = none) (nh : ∀ i, ¬ Held ρ σ i p) : Rl g ρ (upd F p o) σ H := by
  refine r.later (fun a u e => ?_) (same_new hf) (fun i q h => ?_) fun _ _ _ _ e => e
  · by_cases z : a = p
    · subst z; rw [upd_same] at e; cases e; exact hp
    · rw [upd_ne z] at e; exact r.same a u e
  · have z : q ≠ p := fun z => nh i (z ▸ h)
    rw [upd_ne z]
    have y := r.sl i
    obtain ⟨a, b⟩ := h
    rcases a with ⟨c, a⟩ | ⟨c, a⟩
    · rw [a] at y
      cases y with
      | own h1 h2 _ _ => rw [b] at h1; cases h1; exact h2
    · rw [a] at y
      cases y with
      | bor h1 h2 _ _ => rw [b] at h1; cases h1; exact h2
theorem Rl.ownAt (r : Rl g ρ F σ H) {c : Cn} (h : ρ.at i = .own c) : ∃ p, σ[i]? = some (some (.ref p)) ∧ F p = none ∧ CRep g F H p c ∧ c.fit g.T = true := by
  have y := r.sl i
  rw [h] at y
  cases y with
  | own a b c d => exact ⟨_, a, b, c, d⟩
theorem Rl.borAt (r : Rl g ρ F σ H) {c : Cn} (h : ρ.at i = .bor c) : ∃ p, σ[i]? = some (some (.ref p)) ∧ F p = none ∧ CRep g F H p c ∧ c.fit g.T = true := by
  have y := r.sl i
  rw [h] at y
  cases y with
  | bor a b c d => exact ⟨_, a, b, c, d⟩
theorem Rl.dAt (r : Rl g ρ F σ H) {x : D} (h : ρ.at i = .d x) : ∃ v, σ[i]? = some (some v) ∧ Rep g F v x := by
  have y := r.sl i
  rw [h] at y
  cases y with
  | d a b => exact ⟨_, a, b⟩
/-- an owned slot kept: it is data from now on -/
theorem Rl.keepOwn (r : Rl g ρ F σ H) {c : Cn} (h : ρ.at i = .own c) : ∃ F1 p, σ[i]? = some (some (.ref p)) ∧ Rep g F1 (.ref p) c.toD ∧ Stp g ρ F σ H (ρ.set i (.d c.toD)) F1 σ H := by
  obtain ⟨p, h1, h2, h3, h4⟩ := r.ownAt h
  obtain ⟨o, ho, hr⟩ := h3.keep h2 h4
  have ow : Own ρ σ i p := ⟨⟨c, h⟩, h1⟩
  have r1 : Rl g (ρ.set i .un) F σ H := r.set notOB_un .un
  have hi : i < ρ.length := at_lt (by rw [h]; exact fun z => nomatch z)
  have nh : ∀ j, ¬ Held (ρ.set i .un) σ j p := fun j z => by
    by_cases e : i = j
    · subst e
      obtain ⟨a, _⟩ := z
      rw [at_set_same hi] at a
      rcases a with ⟨_, a⟩ | ⟨_, a⟩ <;> cases a
    · exact r.apart i j p e ow (held_set notOB_un z)
  have r2 := r1.freeze ho h2 nh
  have r3 : Rl g ((ρ.set i .un).set i (.d c.toD)) (upd F p o) σ H := r2.set notOB_d (.d h1 hr)
  rw [List.set_set] at r3
  refine ⟨_, p, h1, hr, r3, same_new h2, fun a x y => ?_, fun _ _ e _ => e, fun _ e => e, fun a ⟨j, z⟩ => .inl ⟨j, own_set (fun c => (notOB_d c).1) z⟩, fun j c z => ⟨by
    rw [at_set] at z
    split at z
    · cases z
    · exact z, rfl⟩⟩
  by_cases e : a = p
  · subst e; exact .inr ⟨i, ow⟩
  · rw [upd_ne e] at y; exact absurd x y
/-- a fresh object kept -/
theorem Rl.keepNew (r : Rl g ρ F σ H) {c : Cn} (h2 : F p = none) (h3 : CRep g F H p c) (h4 : c.fit g.T = true) (nh : ∀ i, ¬ Held ρ σ i p) : ∃ F1, Rep g F1 (.ref p) c.toD ∧ Rl g ρ F1 σ H ∧ Same F F1 ∧ ∀ a, a ≠ p → F1 a = F a := by
  obtain ⟨o, ho, hr⟩ := h3.keep h2 h4
  exact ⟨_, hr, r.freeze ho h2 nh, same_new h2, fun a e => upd_ne e⟩
end

/-- how a value on its way stands (H0: the heap where its making began) -/
def IvOk (g : G0) (ρ : Env) (F : Hp) (σ : L2.St) (H0 H : Hp) (x : V) : IV → Prop
  | .d y => Rep g F x y
  | .fr c => ∃ p, x = .ref p ∧ H0 p = none ∧ F p = none ∧ CRep g F H p c ∧ c.fit g.T = true ∧ ∀ i, ¬ Held ρ σ i p
  | .sl i => σ[i]? = some (some x)
/-- .. that is not fresh -/
def IvP (g : G0) (F : Hp) (σ : L2.St) (x : V) : IV → Prop
  | .d y => Rep g F x y
  | .fr _ => False
  | .sl i => σ[i]? = some (some x)
theorem IvP.mono {g : G0} {F F1 : Hp} {σ : L2.St} {x : V} {v : IV} (e : Same F F1) (h : IvP g F σ x v) : IvP g F1 σ x v := by
  cases v with
  | d y => exact Rep.mono e h
  | fr c => exact h
  | sl i => exact h
/-- as it is seen in the heap now -/
inductive Sn (g : G0) (F H : Hp) : V → D → Prop
  | non : Sn g F H .non .non
  | bl (b : Bool) : Sn g F H (.bl b) (.bl b)
  | int (i : Int) : Sn g F H (.int i) (.int i)
  | str (x : Str) : Sn g F H (.str x) (.str x)
  | tup {a : Addr} {vs : List V} {ds : List D} (h : SqT g.K H a vs) (r : Rps g F vs ds) : Sn g F H (.ref a) (.tup ds)
  | lst {a : Addr} {vs : List V} {ds : List D} (h : H a = some (.lst vs)) (r : Rps g F vs ds) : Sn g F H (.ref a) (.lst ds)
  | scr {a : Addr} {ns : List Int} (h : SqL g.K H a (ns.map V.int)) : Sn g F H (.ref a) (.scr ns)
  | dK {a : Addr} {kvs : List (Key × V)} {ks : List Key} {ds : List D} (h : H a = some (.dK kvs)) (hk : kvs.map (·.1) = ks) (r : Rps g F (kvs.map (·.2)) ds) : Sn g F H (.ref a) (.dK ks ds)
  | dT {a : Addr} {kvs : List (List Key × V)} {ks : List (List Key)} {ds : List D} (h : H a = some (.dT kvs)) (hk : kvs.map (·.1) = ks) (r : Rps g F (kvs.map (·.2)) ds) : Sn g F H (.ref a) (.dT ks ds)
  | obj {a dx : Addr} {c : Nat} {fs : List (Str × V)} {ds : List D} (hc : c < g.T.nc) (h : H a = some (.ins (g.oc c) dx fs)) (hk : fs.map (·.1) = g.T.of c) (r : Rps g F (fs.map (·.2)) ds) : Sn g F H (.ref a) (.obj c ds)
theorem Rep.sn {g : G0} {F H : Hp} {x : V} {d : D} (e : Same F H) (h : Rep g F x d) : Sn g F H x d := by
  cases h with
  | non => exact .non
  | bl b => exact .bl b
  | int i => exact .int i
  | str x => exact .str x
  | tup h e' r => exact .tup (sm_t e h) ⟨e', r⟩
  | lst h e' r => exact .lst (e _ _ h) ⟨e', r⟩
  | scr h => exact .scr (Same.seq e h)
  | dK h hk e' r => exact .dK (e _ _ h) hk ⟨e', r⟩
  | dT h hk e' r => exact .dT (e _ _ h) hk ⟨e', r⟩
  | obj hc h hk e' r => exact .obj hc (e _ _ h) hk ⟨e', r⟩
theorem CRep.sn {g : G0} {F H : Hp} {p : Addr} {c : Cn} (h : CRep g F H p c) (ft : c.fit g.T = true) : Sn g F H (.ref p) c.toD := by
  cases h with
  | lst h r => exact .lst h r
  | dK h hk r => exact .dK h hk r
  | dT h hk r => exact .dT h hk r
  | ob hc h hk r => exact .obj hc h (hk.trans (of_decide_eq_true ft)) r
theorem Rl.seen {g : Gam} {ρ : Env} {F H H0 : Hp} {σ : L2.St} (r : Rl g ρ F σ H) {x : V} {v : IV} {d : D} (h : IvOk g ρ F σ H0 H x v) (e : vw ρ v = some d) : Sn g F H x d := by
  cases v with
  | d y =>
    have e : some y = some d := e
    cases e
    exact Rep.sn r.same h
  | fr c =>
    have e : some c.toD = some d := e
    cases e
    obtain ⟨p, rfl, _, _, h3, h4, _⟩ := h
    exact h3.sn h4
  | sl i =>
    have h : σ[i]? = some (some x) := h
    simp only [vw] at e
    have y := r.sl i
    cases q : ρ.at i with
    | un => rw [q] at e; cases e
    | d y' =>
      rw [q] at e y
      cases e
      cases y with
      | d h1 h2 => rw [h] at h1; cases h1; exact h2.sn r.same
    | own c =>
      rw [q] at e y
      cases e
      cases y with
      | own h1 _ h2 h3 => rw [h] at h1; cases h1; exact h2.sn h3
    | bor c =>
      rw [q] at e y
      cases e
      cases y with
      | bor h1 _ h2 h3 => rw [h] at h1; cases h1; exact h2.sn h3
    | exc c fs => rw [q] at e; cases e
theorem IvP.ok {g : G0} {ρ : Env} {F H H0 : Hp} {σ : L2.St} {x : V} {v : IV} (h : IvP g F σ x v) : IvOk g ρ F σ H0 H x v := by
  cases v with
  | d y => exact h
  | fr c => exact absurd h id
  | sl i => exact h

/-! ### what a run must bring -/
def Good {α : Type} (r : R α) (A : α → Env → Prop) (B : Nat → List D → Env → Prop) : Prop := match r with
  | .ok a ρ => A a ρ
  | .er c fs ρ => B c fs ρ
  | .no => False
theorem Good.mono {α : Type} {r : R α} {A A' : α → Env → Prop} {B B' : Nat → List D → Env → Prop} (h : Good r A B) (a : ∀ x ρ, A x ρ → A' x ρ) (b : ∀ c fs ρ, B c fs ρ → B' c fs ρ) : Good r A' B' := by
  cases r with
  | ok x ρ => exact a _ _ h
  | er c fs ρ => exact b _ _ _ h
  | no => exact h
theorem Good.bind {α β : Type} {r : R α} {f : α → Env → R β} {A : β → Env → Prop} {B : Nat → List D → Env → Prop} : Good (r.bind f) A B ↔ Good r (fun x ρ => Good (f x ρ) A B) B := by
  cases r <;> exact Iff.rfl
section
variable (g : Gam) (W : WX)
def OkQ (ρ : Env) (F : Hp) (σ : L2.St) (H : Hp) (Q : VK) : IV → Env → Prop := fun v ρ' => ∀ x F' H', Stp g ρ F σ H ρ' F' σ H' → IvOk g ρ' F' σ H H' x v → Q x H'
def OkP (ρ : Env) (F : Hp) (σ : L2.St) (H : Hp) (Q : VK) : IV → Env → Prop := fun v ρ' => ∀ x F' H', Stp g ρ F σ H ρ' F' σ H' → IvP g F' σ x v → Q x H'
def OkD (ρ : Env) (F : Hp) (σ : L2.St) (H : Hp) (Q : VK) : D → Env → Prop := fun v ρ' => ∀ x F' H', Stp g ρ F σ H ρ' F' σ H' → Rep g F' x v → Q x H'
def OkB (ρ : Env) (F : Hp) (σ : L2.St) (H : Hp) (Q : Bool → Hp → Prop) : Bool → Env → Prop := fun v ρ' => ∀ F' H', Stp g ρ F σ H ρ' F' σ H' → Q v H'
def ErQ (ρ : Env) (F : Hp) (σ : L2.St) (H : Hp) : Nat → List D → Env → Prop := fun c fs ρ' => ∀ d F' H', Stp g ρ F σ H ρ' F' σ H' → ExF g F' d c fs → W (.ref (g.ec c)) d σ H'
/-- an expression's reading follows from its run -/
def Snd (t : TE) (r : Env → R IV) : Prop := ∀ ρ F σ H Q, Rl g ρ F σ H → Good (r ρ) (OkQ g ρ F σ H Q) (ErQ g W ρ F σ H) → t σ H Q
def SndP (t : TE) (r : Env → R IV) : Prop := ∀ ρ F σ H Q, Rl g ρ F σ H → Good (r ρ) (OkP g ρ F σ H Q) (ErQ g W ρ F σ H) → t σ H Q
def SndD (t : TE) (r : Env → R D) : Prop := ∀ ρ F σ H Q, Rl g ρ F σ H → Good (r ρ) (OkD g ρ F σ H Q) (ErQ g W ρ F σ H) → t σ H Q
def SndT (t : TT) (r : Env → R Bool) : Prop := ∀ ρ F σ H Q, Rl g ρ F σ H → Good (r ρ) (OkB g ρ F σ H Q) (ErQ g W ρ F σ H) → t σ H Q
variable {g W} {ρ ρ1 : Env} {F F1 H H1 : Hp} {σ : L2.St}
theorem ErQ.later (s : Stp g ρ F σ H ρ1 F1 σ H1) {c : Nat} {fs : List D} {ρ' : Env} (h : ErQ g W ρ F σ H c fs ρ') : ErQ g W ρ1 F1 σ H1 c fs ρ' := fun d F' H' q => h d F' H' (s.trans q)
theorem IvOk.later {ρ' : Env} {F' H' : Hp} {x : V} {v : IV} (s : Stp g ρ F σ H ρ1 F1 σ H1) (h : IvOk g ρ' F' σ H1 H' x v) : IvOk g ρ' F' σ H H' x v := by
  cases v with
  | d y => exact h
  | fr c =>
    obtain ⟨p, a, b, r⟩ := h
    exact ⟨p, a, s.dom p b, r⟩
  | sl i => exact h
theorem OkQ.later (s : Stp g ρ F σ H ρ1 F1 σ H1) {Q : VK} {v : IV} {ρ' : Env} (h : OkQ g ρ F σ H Q v ρ') : OkQ g ρ1 F1 σ H1 Q v ρ' := fun x F' H' q k => h x F' H' (s.trans q) (k.later s)
theorem Good.later (s : Stp g ρ F σ H ρ1 F1 σ H1) {Q : VK} {r : R IV} (h : Good r (OkQ g ρ F σ H Q) (ErQ g W ρ F σ H)) : Good r (OkQ g ρ1 F1 σ H1 Q) (ErQ g W ρ1 F1 σ H1) :=
  h.mono (fun _ _ q => q.later s) fun _ _ _ q => q.later s
/-- what is fresh is kept -/
theorem Snd.held {t : TE} {r : Env → R IV} (h : Snd g W t r) : SndP g W t fun ρ => (r ρ).held := fun ρ F σ H Q rl k => by
  refine h ρ F σ H Q rl ((Good.bind.mp k).mono (fun v ρ' q x F' H' s iv => ?_) fun _ _ _ q => q)
  cases v with
  | d y => exact q x F' H' s iv
  | sl i => exact q x F' H' s iv
  | fr c =>
    obtain ⟨p, rfl, h1, h2, h3, h4, h5⟩ := iv
    obtain ⟨F2, a, b, e, u⟩ := s.rel.keepNew h2 h3 h4 h5
    refine q (.ref p) F2 H' ⟨b, s.ext.trans e, fun y z z' => ?_, s.keep, s.dom, s.ow, s.brw⟩ a
    by_cases hy : y = p
    · subst hy; exact .inl h1
    · rw [u y hy] at z'
      exact s.new y z z'
theorem Snd.kept {t : TE} {r : Env → R IV} (h : Snd g W t r) : SndD g W t fun ρ => (r ρ).kept g.np := fun ρ F σ H Q rl k => by
  refine h ρ F σ H Q rl ((Good.bind.mp k).mono (fun v ρ' q x F' H' s iv => ?_) fun _ _ _ q => q)
  cases v with
  | d y => exact q x F' H' s iv
  | fr c =>
    obtain ⟨p, rfl, h1, h2, h3, h4, h5⟩ := iv
    obtain ⟨F2, a, b, e, u⟩ := s.rel.keepNew h2 h3 h4 h5
    refine q (.ref p) F2 H' ⟨b, s.ext.trans e, fun y z z' => ?_, s.keep, s.dom, s.ow, s.brw⟩ a
    by_cases hy : y = p
    · subst hy; exact .inl h1
    · rw [u y hy] at z'
      exact s.new y z z'
  | sl i =>
    have iv : σ[i]? = some (some x) := iv
    cases e : ρ'.at i with
    | d y =>
      have q : OkD g ρ F σ H Q y ρ' := by
        have q := q
        simp only [kp] at q
        rw [e] at q
        exact q
      obtain ⟨v, a, b⟩ := s.rel.dAt e
      rw [iv] at a; cases a
      exact q x F' H' s b
    | own c =>
      simp only [kp] at q
      rw [e] at q
      dsimp only at q
      split at q
      · exact absurd q id
      · obtain ⟨F2, p, a, b, s2⟩ := s.rel.keepOwn e
        rw [iv] at a; cases a
        exact q _ F2 H' (s.trans s2) b
    | un => simp only [kp] at q; rw [e] at q; exact absurd q id
    | bor c => simp only [kp] at q; rw [e] at q; exact absurd q id
    | exc c fs => simp only [kp] at q; rw [e] at q; exact absurd q id
end
end EN
/-! Operators: what they ask follows from what they come to. -/
namespace EN
open PySem L2
section
variable {g : Gam} {W : WX} {ρ ρ1 ρ2 : Env} {F F1 F2 H H1 H2 : Hp} {σ σ1 σ2 : L2.St} {p : Addr} {o : HO} {i j : Nat} {Q : VK}
theorem Held.there (r : Rl g ρ F σ H) (h : Held ρ σ i p) : F p = none ∧ ∃ o, H p = some o := by
  obtain ⟨a, b⟩ := h
  rcases a with ⟨c, a⟩ | ⟨c, a⟩
  · obtain ⟨q, h1, h2, h3, _⟩ := r.ownAt a
    rw [b] at h1; cases h1
    exact ⟨h2, h3.there⟩
  · obtain ⟨q, h1, h2, h3, _⟩ := r.borAt a
    rw [b] at h1; cases h1
    exact ⟨h2, h3.there⟩
theorem Rl.free (r : Rl g ρ F σ H) (hp : H p = none) : F p = none ∧ ∀ i, ¬ Held ρ σ i p := by
  refine ⟨?_, fun i h => ?_⟩
  · cases e : F p with
    | none => rfl
    | some u => rw [r.same p u e] at hp; cases hp
  · obtain ⟨_, u, e⟩ := h.there r
    rw [hp] at e; cases e
theorem Rl.updH (r : Rl g ρ F σ H) (hf : F p = none) (nh : ∀ i, ¬ Held ρ σ i p) : Rl g ρ F σ (upd H p o) := by
  refine r.later (fun a u e => ?_) (Same.refl _) (fun i q h => (h.there r).1) fun i q u h e => ?_
  · rw [upd_ne (ne_of_none e hf)]; exact r.same a u e
  · have z : q ≠ p := fun z => nh i (z ▸ h)
    rw [upd_ne z]; exact e
theorem Stp.alloc (r : Rl g ρ F σ H) (hp : H p = none) : Stp g ρ F σ H ρ F σ (upd H p o) :=
  ⟨r.updH (r.free hp).1 (r.free hp).2, Same.refl _, fun a x y => absurd x y, fun a u e _ => by rw [upd_ne (ne_of_none e hp)]; exact e, fun a e => by
    by_cases z : a = p
    · subst z; exact hp
    · rw [upd_ne z] at e; exact e, fun a h => .inl h, fun _ _ h => ⟨h, rfl⟩⟩
theorem Stp.allocD (r : Rl g ρ F σ H) (hp : H p = none) : Stp g ρ F σ H ρ (upd F p o) σ (upd H p o) := by
  have s := Stp.alloc (o := o) r hp
  refine ⟨s.rel.freeze upd_same (r.free hp).1 (r.free hp).2, same_new (r.free hp).1, fun a x y => ?_, s.keep, s.dom, s.ow, s.brw⟩
  by_cases z : a = p
  · subst z; exact .inl hp
  · rw [upd_ne z] at y; exact absurd x y
/-- scalars, and whatever stands already -/
theorem OkQ.here (r : Rl g ρ F σ H) {x : V} {v : IV} (k : OkQ g ρ F σ H Q v ρ) (h : IvP g F σ x v) : Q x H := k x F H (Stp.refl r) h.ok
theorem OkQ.fresh (r : Rl g ρ F σ H) {c : Cn} (k : OkQ g ρ F σ H Q (.fr c) ρ) (hp : H p = none) (hc : CRep g F (upd H p o) p c) (ft : c.fit g.T = true) : Q (.ref p) (upd H p o) :=
  k _ F _ (Stp.alloc r hp) ⟨p, rfl, hp, (r.free hp).1, hc, ft, (r.free hp).2⟩
theorem OkQ.tup (r : Rl g ρ F σ H) {vs : List V} {ds : List D} (k : OkQ g ρ F σ H Q (.d (.tup ds)) ρ) (hp : H p = none) (h : Rps g F vs ds) : Q (.ref p) (upd H p (.tup vs)) :=
  k _ (upd F p (.tup vs)) _ (Stp.allocD r hp) (Rep.tup (SqT.of upd_same) h.1 (h.mono (same_new (r.free hp).1)).2)

theorem line_le : line ≤ sizeLine := by rw [sizeLine_eq]; decide
theorem line_lt : line < sizeLine := by rw [sizeLine_eq]; decide

/-! ### binary operators -/
def rMulS : R2 := fun x y H Q => ∃ (z : Str) (n : Int), x = .str z ∧ y = .int n ∧ n ≤ 100000 ∧ -100000 ≤ n ∧ z.length ≤ 10 ∧ Q (.str (mulS z n)) H
theorem foldl_len : ∀ (n : Nat) (a b : Array Nat), ((List.replicate n a).foldl (· ++ ·) b).size = n * a.size + b.size
  | 0, a, b => by simp
  | n + 1, a, b => by
    rw [List.replicate_succ, List.foldl_cons, foldl_len n a (b ++ a), Array.size_append, Nat.succ_mul]
    omega
theorem op_mulS {X : Cx} : OpR X (binaryOp .Mult) rMulS := by
  intro pins s σ H x y v u Q I rx ry h
  obtain ⟨z, n, rfl, rfl, h1, h2, h3, q⟩ := h
  obtain ⟨t, rfl⟩ := rx
  obtain ⟨t', rfl⟩ := ry
  have hm : ¬ n < 1 → z.length * n.toNat ≤ 1000000 := fun z1 => by
    have a : n.toNat ≤ 100000 := by omega
    calc z.length * n.toNat ≤ 10 * 100000 := Nat.mul_le_mul h3 a
      _ = 1000000 := rfl
  refine PySem.P.mul_str ?_ (fun z1 _ => ?_) (fun z1 _ => ?_) ?_
  · rw [decide_eq_false (by omega), decide_eq_false (by omega)]; rfl
  · have a : (10 : Int) ≤ (2 ^ 63 - 1) / n := (Int.le_ediv_iff_mul_le (by omega)).mpr (by omega)
    omega
  · have := hm z1
    unfold Builtin.Str.tooLong
    rw [sizeLine_eq]
    exact decide_eq_false (by omega)
  · unfold mulS at q
    by_cases c1 : n < 1
    · rw [if_pos c1] at q ⊢
      exact ⟨Nat.zero_le _, .str _, H, I.tok _, ⟨_, rfl⟩, q⟩
    · rw [if_neg c1] at q ⊢
      by_cases c2 : (n == 1 || z.length == 0) = true
      · rw [if_pos c2] at q ⊢
        exact ⟨.str _, H, I, ⟨_, rfl⟩, q⟩
      · rw [if_neg c2] at q ⊢
        refine ⟨?_, .str _, H, I.tok _, ⟨_, rfl⟩, q⟩
        show ((List.replicate n.toNat z.cps).foldl (· ++ ·) #[]).size ≤ sizeLine
        rw [foldl_len, sizeLine_eq]
        have := hm c1
        have e : n.toNat * z.cps.size = z.length * n.toNat := Nat.mul_comm _ _
        rw [e]
        show z.length * n.toNat + 0 ≤ _
        omega
def rBO (K : Frag) : BO → R2
  | .add => fun x y H Q => (rI0 (fun i j => .int (i + j)) x y H Q ∨ (∃ i j, x = .str i ∧ y = .str j ∧ i.length + j.length ≤ sizeLine ∧ Q (.str (i ++ j)) H)) ∨ (rCatA K x y H Q ∨ rCat x y H Q)
  | .sub => rI0 fun i j => .int (i - j)
  | .mul => fun x y H Q => rI CMul (fun i j => .int (i * j)) x y H Q ∨ rMulS x y H Q
  | .fdiv => rI CDiv fun i j => .int (i / j)
  | .mod => rI (fun _ j => 0 < j) fun i j => .int (i % j)
  | .pow => rI CPow fun i j => .int (i ^ j.toNat)
def BO.op : BO → Operator
  | .add => .Add | .sub => .Sub | .mul => .Mult | .fdiv => .FloorDiv | .mod => .Mod | .pow => .Pow
theorem rBO_ok {X : Cx} (op : BO) : OpR X (binaryOp op.op) (rBO X.K op) := by
  cases op with
  | add => exact OpR.or (OpR.or op_add op_add_str) (OpR.or op_catA op_cat)
  | sub => exact op_sub
  | mul => exact OpR.or op_mul op_mulS
  | fdiv => exact op_fdiv
  | mod => exact op_mod
  | pow => exact op_pow
theorem Sn.isInt {x : V} {i : Int} (h : Sn g F H x (.int i)) : x = .int i := by cases h; rfl
theorem Sn.isStr {x : V} {i : Str} (h : Sn g F H x (.str i)) : x = .str i := by cases h; rfl
theorem Sn.isTup {x : V} {ds : List D} (h : Sn g F H x (.tup ds)) : ∃ a vs, x = .ref a ∧ SqT g.K H a vs ∧ Rps g F vs ds := by cases h with | tup a b => exact ⟨_, _, rfl, a, b⟩
theorem Sn.isLst {x : V} {ds : List D} (h : Sn g F H x (.lst ds)) : ∃ a vs, x = .ref a ∧ H a = some (.lst vs) ∧ Rps g F vs ds := by cases h with | lst a b => exact ⟨_, _, rfl, a, b⟩
/-- a tuple that stands in the heap for good -/
theorem Sn.tupRep {x : V} {v : IV} {ds : List D} (r : Rl g ρ F σ H) (h : IvP g F σ x v) (e : vw ρ v = some (.tup ds)) : Rep g F x (.tup ds) := by
  cases v with
  | d y => cases e; exact h
  | fr c => exact absurd h id
  | sl i =>
    have h : σ[i]? = some (some x) := h
    simp only [vw] at e
    cases q : ρ.at i with
    | un => rw [q] at e; cases e
    | d y =>
      rw [q] at e
      cases e
      obtain ⟨u, a, b⟩ := r.dAt q
      rw [h] at a; cases a; exact b
    | own c => rw [q] at e; cases c <;> cases e
    | bor c => rw [q] at e; cases c <;> cases e
    | exc c fs => rw [q] at e; cases e
theorem opB_ok (r : Rl g ρ F σ H) {op : BO} {x y : V} {vx vy : IV} {a b : D} {v : IV} (hx : IvP g F σ x vx) (hy : IvOk g ρ F σ H1 H y vy) (ex : vw ρ vx = some a) (ey : vw ρ vy = some b) (e : opB op a b = some v) (k : OkQ g ρ F σ H Q v ρ) :
    rBO g.K op x y H Q := by
  have sx : Sn g F H x a := r.seen (hx.ok (H0 := H)) ex
  have sy : Sn g F H y b := r.seen hy ey
  have int2 : ∀ {op : BO} {f : Int → Int → Int} {C : Int → Int → Prop} {i j : Int}, x = .int i → y = .int j → C i j → v = .d (.int (f i j)) → rI C (fun i j => .int (f i j)) x y H Q := fun hx hy hc hv => by
    subst hx; subst hy; subst hv
    exact ⟨_, _, rfl, rfl, hc, k.here r (Rep.int _)⟩
  have int0 : ∀ {f : Int → Int → Int} {i j : Int}, x = .int i → y = .int j → v = .d (.int (f i j)) → rI0 (fun i j => .int (f i j)) x y H Q := fun hx hy hv => by
    subst hx; subst hy; subst hv
    exact ⟨_, _, rfl, rfl, k.here r (Rep.int _)⟩
  unfold opB at e
  split at e
  · cases e; exact .inl (.inl (int0 sx.isInt sy.isInt rfl))
  · split at e
    · rename_i h
      cases e
      cases sx.isStr; cases sy.isStr
      exact .inl (.inr ⟨_, _, rfl, rfl, Nat.le_trans h line_le, k.here r (Rep.str _)⟩)
    · cases e
  · split at e
    · rename_i xs ys h
      cases e
      obtain ⟨p, vs, rfl, t1, r1⟩ := sx.isTup
      obtain ⟨q, ws, rfl, t2, r2⟩ := sy.isTup
      refine .inr (.inl ⟨p, q, vs, ws, rfl, rfl, t1, t2, by rw [r1.1, r2.1]; exact Nat.le_trans h line_le, fun z => ?_, fun z1 z2 => ?_, fun z1 z2 u hu => k.tup r hu (r1.append r2)⟩)
      · subst z
        have e1 : xs = [] := List.eq_nil_of_length_eq_zero (by rw [← r1.1]; rfl)
        subst e1
        cases vy with
        | d y' =>
          cases ey
          exact k.here r (show Rep g F (.ref q) _ from hy)
        | fr c => cases c <;> cases ey
        | sl i => exact k _ F H (Stp.refl r) (show Rep g F (.ref q) _ from Sn.tupRep (v := .sl i) r hy ey)
      · subst z2
        have e1 : ys = [] := List.eq_nil_of_length_eq_zero (by rw [← r2.1]; rfl)
        subst e1
        have h1 := Sn.tupRep r hx ex
        exact k _ F H (Stp.refl r) (show Rep g F (.ref p) (.tup (xs ++ [])) from by rw [List.append_nil]; exact h1)
    · cases e
  · split at e
    · rename_i xs ys h
      cases e
      obtain ⟨p, vs, rfl, t1, r1⟩ := sx.isLst
      obtain ⟨q, ws, rfl, t2, r2⟩ := sy.isLst
      exact .inr (.inr ⟨p, q, vs, ws, rfl, rfl, t1, t2, by rw [r1.1, r2.1]; exact Nat.le_trans h line_le, fun u hu => k.fresh r hu (.lst upd_same (r1.append r2)) rfl⟩)
    · cases e
  · cases e; exact int0 sx.isInt sy.isInt rfl
  · split at e
    · rename_i h
      cases e; exact .inl (int2 (op := .mul) sx.isInt sy.isInt h rfl)
    · cases e
  · split at e
    · rename_i h
      cases e; exact int2 (op := .fdiv) sx.isInt sy.isInt h rfl
    · cases e
  · split at e
    · rename_i h
      cases e; exact int2 (op := .mod) sx.isInt sy.isInt h rfl
    · cases e
  · split at e
    · rename_i h
      cases e; exact int2 (op := .pow) sx.isInt sy.isInt h rfl
    · cases e
  · split at e
    · rename_i h
      cases e
      cases sx.isStr
      cases sy.isInt
      exact .inr ⟨_, _, rfl, rfl, h.1, h.2.1, h.2.2, k.here r (Rep.str _)⟩
    · cases e
  · cases e
end
end EN
/-! Comparisons, items, slices. -/
namespace L2
open PySem PySem.Spec PyProof.Rows
/-- in a tuple, its items at any depth -/
def rInDT (K : PySem.W.Frag) : R2 := fun x y H Q => ∃ d ds, Dp K H x d ∧ Dp K H y (.tuple ds) ∧ SeqAt.shaped d = true ∧ SeqAt.shaped (.tuple ds) = true ∧ Q (.bl (ds.any fun z => PyData.eqv z d)) H
def rNotInDT (K : PySem.W.Frag) : R2 := fun x y H Q => ∃ d ds, Dp K H x d ∧ Dp K H y (.tuple ds) ∧ SeqAt.shaped d = true ∧ SeqAt.shaped (.tuple ds) = true ∧ Q (.bl (!ds.any fun z => PyData.eqv z d)) H
theorem shp_tup {ds : List PyData} (h : SeqAt.shaped (.tuple ds) = true) : PyData.canLayAll0 ds = true := by
  have := SeqAt.canLay_of_shaped h
  simpa [PyData.canLay0] using this
theorem op_inDT {X : Cx} (hu : X.A.units + 65 < cLine) : OpR X (compareOp .In) (rInDT X.K) := fun pins s σ H x y v u Q I rx ry h =>
  let ⟨d, ds, hd, he, sd, se, q⟩ := h
  let ⟨_, r1⟩ := Dp.reads I d x v hd rx
  let ⟨_, r2⟩ := Dp.reads I (.tuple ds) y u he ry
  SeqAt.in_tuple_reads r2 r1 (shp_tup se) (SeqAt.canLay_of_shaped sd) (room_in_shaped sd hu) ⟨.bl _, H, I, rfl, q⟩
theorem op_notInDT {X : Cx} (hu : X.A.units + 65 < cLine) : OpR X (compareOp .NotIn) (rNotInDT X.K) := fun pins s σ H x y v u Q I rx ry h =>
  let ⟨d, ds, hd, he, sd, se, q⟩ := h
  let ⟨_, r1⟩ := Dp.reads I d x v hd rx
  let ⟨_, r2⟩ := Dp.reads I (.tuple ds) y u he ry
  SeqAt.notIn_tuple_reads r2 r1 (shp_tup se) (SeqAt.canLay_of_shaped sd) (room_in_shaped sd hu) ⟨.bl _, H, I, rfl, q⟩
/-- in a dict -/
def rDIn (neg : Bool) : R2 := fun x y H Q => ∃ a o, y = .ref a ∧ DGet H a x o ∧ Q (.bl (if neg then !o.isSome else o.isSome)) H
theorem op_dIn {X : Cx} (hu : X.A.units + 1 < cLine) : OpR X (compareOp .In) (rDIn false) := fun pins s σ H x y v u Q I rx ry h => by
  obtain ⟨a, o, rfl, g, q⟩ := h
  obtain rfl : u = Value.ref a := ry
  exact d_in hu I g rx fun s' I' => ⟨.bl o.isSome, H, I', rfl, q⟩
theorem op_dNotIn {X : Cx} (hu : X.A.units + 1 < cLine) : OpR X (compareOp .NotIn) (rDIn true) := fun pins s σ H x y v u Q I rx ry h => by
  obtain ⟨a, o, rfl, g, q⟩ := h
  obtain rfl : u = Value.ref a := ry
  exact d_notIn hu I g rx fun s' I' => ⟨.bl (!o.isSome), H, I', rfl, q⟩
/-- d[k] of a dict, as other items -/
def rDIx : R2 := fun x y H Q => ∃ a v, x = .ref a ∧ DGet H a y (some v) ∧ Q v H
theorem ix_dict {X : Cx} (hu : X.A.units + 1 < cLine) : IxR X rDIx := by
  intro value slice pins s σ H x y v u Q I rx ry h hs
  obtain ⟨a, z, rfl, g, q⟩ := h
  obtain rfl : v = Value.ref a := rx
  exact tail_any (dict_typeIs I g) PySem.F.slot_dict_getitem.lookup (d_getItem hu I g ry fun w' s' I' rw' => ⟨z, H, I', rw', q⟩) hs
end L2
namespace EN
open PySem L2
section
variable {g : Gam} {W : WX} {ρ ρ1 ρ2 : Env} {F F1 F2 H H1 H2 : Hp} {σ σ1 σ2 : L2.St} {p : Addr} {o : HO} {i j : Nat} {Q : VK}
mutual
theorem Rep.dp (e : Same F H) : ∀ {d : D} {x : V} {y : PyData}, Rep g F x d → d.py = some y → Dp g.K H x y
  | .non, _, _, h, q => by cases h; simp [D.py] at q; subst q; exact .non
  | .bl b, _, _, h, q => by cases h; simp [D.py] at q; subst q; exact .bl b
  | .int i, _, _, h, q => by cases h; simp [D.py] at q; subst q; exact .int i
  | .str z, _, _, h, q => by cases h; simp [D.py] at q; subst q; exact .str z
  | .tup ds, _, _, h, q => by
    cases h with
    | tup a b r =>
      simp only [D.py, Option.map_eq_some_iff] at q
      obtain ⟨ys, h1, h2⟩ := q
      subst h2
      exact .tup (sm_t e a) (Reps.dp e ⟨b, r⟩ h1)
  | .lst ds, _, _, h, q => by
    cases h with
    | lst a b r =>
      simp only [D.py, Option.map_eq_some_iff] at q
      obtain ⟨ys, h1, h2⟩ := q
      subst h2
      exact .lst (SqL.of (e _ _ a)) (Reps.dp e ⟨b, r⟩ h1)
  | .scr _, _, _, _, q => by simp [D.py] at q
  | .dK _ _, _, _, _, q => by simp [D.py] at q
  | .dT _ _, _, _, _, q => by simp [D.py] at q
  | .obj _ _, _, _, _, q => by simp [D.py] at q
theorem Reps.dp (e : Same F H) : ∀ {ds : List D} {xs : List V} {ys : List PyData}, Rps g F xs ds → D.pys ds = some ys → DpAll g.K H xs ys
  | [], xs, ys, h, q => by
    simp [D.pys] at q
    subst q
    have : xs = [] := List.eq_nil_of_length_eq_zero h.1
    subst this
    exact .nil
  | d :: ds, [], ys, h, q => by have := h.1; simp at this
  | d :: ds, x :: xs, ys, h, q => by
    simp only [D.pys] at q
    split at q
    · rename_i a as h1 h2
      cases q
      exact .cons (Rep.dp e h.head h1) (Reps.dp e h.tail h2)
    · cases q
end
theorem Sn.dp (e : Same F H) {d : D} {x : V} {y : PyData} (h : Sn g F H x d) (q : d.py = some y) : Dp g.K H x y := by
  cases h with
  | non => simp [D.py] at q; subst q; exact .non
  | bl b => simp [D.py] at q; subst q; exact .bl b
  | int i => simp [D.py] at q; subst q; exact .int i
  | str z => simp [D.py] at q; subst q; exact .str z
  | tup a r =>
    simp only [D.py, Option.map_eq_some_iff] at q
    obtain ⟨ys, h1, h2⟩ := q
    subst h2
    exact .tup a (Reps.dp e r h1)
  | lst a r =>
    simp only [D.py, Option.map_eq_some_iff] at q
    obtain ⟨ys, h1, h2⟩ := q
    subst h2
    exact .lst (SqL.of a) (Reps.dp e r h1)
  | scr => simp [D.py] at q
  | dK => simp [D.py] at q
  | dT => simp [D.py] at q
  | obj => simp [D.py] at q
theorem D.shp_some {d : D} {x : PyData} (h : d.shp = some x) : d.py = some x ∧ SeqAt.shaped x = true := by
  unfold D.shp at h
  split at h
  · split at h
    · cases h; exact ⟨by assumption, by assumption⟩
    · cases h
  · cases h
/-- a scalar as a value -/
def vD : D → V
  | .non => .non
  | .bl b => .bl b
  | .int i => .int i
  | .str x => .str x
  | _ => .non
theorem Sn.flat {d : D} {x : V} (h : Sn g F H x d) (f : flatD d = true) : x = vD d := by cases h <;> first | rfl | cases f
theorem Rep.flat {d : D} {x : V} (h : Rep g F x d) (f : flatD d = true) : x = vD d := by cases h <;> first | rfl | cases f
theorem flat_vD {d : D} (f : flatD d = true) : flatV (vD d) = true := by cases d <;> first | rfl | cases f
theorem eqF_vD {a b : D} (fa : flatD a = true) (fb : flatD b = true) : eqV (vD a) (vD b) = eqF a b := by
  cases a <;> cases b <;> first | rfl | exact absurd (show false = true from fa) Bool.false_ne_true | exact absurd (show false = true from fb) Bool.false_ne_true
theorem eqS_scal {a b : D} {r : Bool} (h : eqS a b = some r) : flatD a = true ∧ flatD b = true ∧ scal (vD a) (vD b) = true ∧ decide (vD a = vD b) = r := by
  cases a <;> cases b <;> simp [eqS] at h <;> subst h <;> refine ⟨rfl, rfl, rfl, ?_⟩ <;> simp [vD]
def rLeS : R2 := fun x y H Q => ∃ i j, x = .str i ∧ y = .str j ∧ Q (.bl (!decide (j.cps.toList < i.cps.toList))) H
/-- one sign in a text -/
def rSgn (neg : Bool) : R2 := fun x y H Q => ∃ (c : Nat) (z : Str), x = .str ⟨#[c]⟩ ∧ y = .str z ∧ Q (.bl (if neg then !decide (c ∈ z.cps.toList) else decide (c ∈ z.cps.toList))) H
def rCO (K : Frag) : CO → R2
  | .eq => fun x y H Q => rEq x y H Q ∨ rEqD K x y H Q
  | .ne => fun x y H Q => rNe x y H Q ∨ rNeD K x y H Q
  | .lt => rI0 fun i j => .bl (decide (i < j))
  | .le => fun x y H Q => rI0 (fun i j => .bl (decide (i ≤ j))) x y H Q ∨ rLeS x y H Q
  | .gt => rI0 fun i j => .bl (decide (j < i))
  | .ge => rI0 fun i j => .bl (decide (j ≤ i))
  | .isin => fun x y H Q => rSgn false x y H Q ∨ ((rIn K false x y H Q ∨ (rInD K x y H Q ∨ rInDT K x y H Q)) ∨ rDIn false x y H Q)
  | .notin => fun x y H Q => rSgn true x y H Q ∨ ((rIn K true x y H Q ∨ (rNotInD K x y H Q ∨ rNotInDT K x y H Q)) ∨ rDIn true x y H Q)
  | .is => fun _ _ _ _ => False
  | .isnot => fun _ _ _ _ => False
def CO.op : CO → CmpOp
  | .eq => .Eq | .ne => .NotEq | .lt => .Lt | .le => .LtE | .gt => .Gt | .ge => .GtE | .isin => .In | .notin => .NotIn | .is => .Is | .isnot => .IsNot
theorem opR_false {X : Cx} {f : Value → Value → Sem Value} : OpR X f fun _ _ _ _ => False := fun _ _ _ _ _ _ _ _ _ _ _ _ h => h.elim
theorem rCO_ok {X : Cx} (hu : X.A.units + 65 < cLine) (op : CO) : OpR X (compareOp op.op) (rCO X.K op) := by
  have hu64 : X.A.units + 64 < cLine := Nat.lt_of_succ_lt hu
  cases op with
  | eq => exact OpR.or op_eq (op_eqD hu64)
  | ne => exact OpR.or op_ne (op_neD hu64)
  | lt => exact op_lt
  | le => exact OpR.or op_le L2.op_le_str
  | gt => exact op_gt
  | ge => exact op_ge
  | isin => exact OpR.or L2.op_in_sign (OpR.or (OpR.or op_in_seq (OpR.or (op_inD hu) (op_inDT hu))) (op_dIn (by omega)))
  | notin => exact OpR.or L2.op_notIn_sign (OpR.or (OpR.or op_notIn_seq (OpR.or (op_notInD hu) (op_notInDT hu))) (op_dNotIn (by omega)))
  | is => exact opR_false
  | isnot => exact opR_false
theorem Rps.flats {ds : List D} {vs : List V} (r : Rps g F vs ds) (f : ds.all flatD = true) : vs.all flatV = true ∧ vs = ds.map vD := by
  have e : vs = ds.map vD := by
    apply List.ext_getElem (by rw [r.1, List.length_map])
    intro k h1 h2
    have h3 : k < ds.length := by rw [← r.1]; exact h1
    rw [List.getElem_map]
    exact (r.2 k _ _ (List.getElem?_eq_getElem h1) (List.getElem?_eq_getElem h3)).flat (List.all_eq_true.mp f _ (List.getElem_mem h3))
  refine ⟨?_, e⟩
  rw [e, List.all_map]
  exact List.all_eq_true.mpr fun d hd => flat_vD (List.all_eq_true.mp f d hd)
theorem inV_vD {d : D} {ds : List D} (fd : flatD d = true) (f : ds.all flatD = true) : inV (vD d) (ds.map vD) = ds.any fun y => eqF y d := by
  unfold inV
  rw [List.any_map]
  induction ds with
  | nil => rfl
  | cons a r ih =>
    simp only [List.all_cons, Bool.and_eq_true] at f
    simp only [List.any_cons, Function.comp]
    rw [eqF_vD f.1 fd]
    exact congrArg _ (ih f.2)
theorem pys_lst {ds : List D} {x : PyData} (h : (D.lst ds).py = some x) : ∃ ys, x = .list ys ∧ D.pys ds = some ys := by
  simp only [D.py, Option.map_eq_some_iff] at h
  obtain ⟨ys, a, b⟩ := h
  exact ⟨ys, b.symm, a⟩
theorem shaped_tup {ys : List PyData} (h : SeqAt.shaped (.list ys) = true) : SeqAt.shaped (.tuple ys) = true := by
  unfold SeqAt.shaped at h ⊢
  simpa [PyData.canLay0, PyData.depth] using h
/-- in, over both kinds of rows -/
theorem in_ok (r : Rl g ρ F σ H) {neg : Bool} {x : V} {a : D} {vs : List V} {ds : List D} {b : Bool} {y : Addr} (sx : Sn g F H x a) (hy : SqL g.K H y vs ∨ SqT g.K H y vs) (rs : Rps g F vs ds) (e : inD a ds = some b)
    (k : Q (.bl (if neg then !b else b)) H) : rIn g.K neg x (.ref y) H Q ∨ ((∃ d es, Dp g.K H x d ∧ Dp g.K H (.ref y) (.list es) ∧ SeqAt.shaped d = true ∧ SeqAt.shaped (.list es) = true ∧ b = (es.any fun z => PyData.eqv z d)) ∨
      ∃ d es, Dp g.K H x d ∧ Dp g.K H (.ref y) (.tuple es) ∧ SeqAt.shaped d = true ∧ SeqAt.shaped (.tuple es) = true ∧ b = (es.any fun z => PyData.eqv z d)) := by
  unfold inD at e
  split at e
  · rename_i h
    cases e
    obtain ⟨h1, h2⟩ := Bool.and_eq_true_iff.mp h
    obtain ⟨q1, q2⟩ := rs.flats h2
    subst q2
    rw [sx.flat h1]
    refine .inl ⟨y, _, rfl, hy, flat_vD h1, q1, ?_⟩
    rw [inV_vD h1 h2]
    exact k
  · split at e
    · rename_i a' bs h1 h2
      cases e
      obtain ⟨p1, s1⟩ := D.shp_some h1
      obtain ⟨p2, s2⟩ := D.shp_some h2
      obtain ⟨ys, e1, p3⟩ := pys_lst p2
      cases e1
      rcases hy with hy | hy
      · exact .inr (.inl ⟨_, _, sx.dp r.same p1, .lst hy (Reps.dp r.same rs p3), s1, s2, rfl⟩)
      · exact .inr (.inr ⟨_, _, sx.dp r.same p1, .tup hy (Reps.dp r.same rs p3), s1, shaped_tup s2, rfl⟩)
    · cases e
/-- keys -/
theorem Sn.key {x : V} {d : D} {k : Key} (h : Sn g F H x d) (e : d.key? = some k) : x = kV k := by
  cases h <;> simp [D.key?] at e <;> subst e <;> rfl
theorem Rep.key {x : V} {d : D} {k : Key} (h : Rep g F x d) (e : d.key? = some k) : x = kV k := by
  cases h <;> simp [D.key?] at e <;> subst e <;> rfl
/-- a table of values beside a table of data -/
theorem look_rel {κ : Type} [DecidableEq κ] {kvs : List (κ × V)} {ks : List κ} {ds : List D} (hk : kvs.map (·.1) = ks) (r : Rps g F (kvs.map (·.2)) ds) (k : κ) :
    (valV kvs k = none ∧ look (ks.zip ds) k = none) ∨ ∃ v d, valV kvs k = some v ∧ look (ks.zip ds) k = some d ∧ Rep g F v d := by
  induction kvs generalizing ks ds with
  | nil => subst hk; exact .inl ⟨rfl, rfl⟩
  | cons p kvs ih =>
    subst hk
    cases ds with
    | nil => have := r.1; simp at this
    | cons d ds =>
      by_cases e : p.1 = k
      · refine .inr ⟨p.2, d, valV_pos e, ?_, r.head⟩
        simp [look, e]
      · rcases ih rfl r.tail with ⟨a, b⟩ | ⟨v, d', a, b, c⟩
        · exact .inl ⟨by rw [valV_neg e]; exact a, by simpa [look, e] using b⟩
        · exact .inr ⟨v, d', by rw [valV_neg e]; exact a, by simpa [look, e] using b, c⟩
/-- what a dict has at a key -/
theorem Sn.get {x y : V} {d a : D} {o : Option D} (sx : Sn g F H x d) (sy : Sn g F H y a) (e : getD? d a = some o) : ∃ p ov, x = .ref p ∧ DGet H p y ov ∧ ((ov = none ∧ o = none) ∨ ∃ v z, ov = some v ∧ o = some z ∧ Rep g F v z) := by
  cases sx with
  | dK h hk r =>
    simp only [getD?] at e
    split at e
    · rename_i k hkey
      cases e
      rw [sy.key hkey]
      rcases look_rel hk r k with ⟨h1, h2⟩ | ⟨v, z, h1, h2, h3⟩
      · exact ⟨_, _, rfl, DGet.k h, .inl ⟨h1, h2⟩⟩
      · exact ⟨_, _, rfl, DGet.k h, .inr ⟨v, z, h1, h2, h3⟩⟩
    · cases e
  | dT h hk r => simp [getD?] at e
  | non => simp [getD?] at e
  | bl => simp [getD?] at e
  | int => simp [getD?] at e
  | str => simp [getD?] at e
  | tup => simp [getD?] at e
  | lst => simp [getD?] at e
  | scr => simp [getD?] at e
  | obj => simp [getD?] at e
theorem str_one {z : Str} {c : Nat} (h : z.cps.toList = [c]) : z = ⟨#[c]⟩ := by
  cases z with
  | mk a => cases a with | mk l => cases h; rfl
theorem opC_ok (r : Rl g ρ F σ H) {op : CO} {x y : V} {a b : D} {v : Bool} (sx : Sn g F H x a) (sy : Sn g F H y b) (e : opC op a b = some v) (k : Q (.bl v) H) : rCO g.K op x y H Q := by
  have eqs : ∀ {v : Bool}, eqD a b = some v → (scal x y = true ∧ decide (x = y) = v) ∨ ∃ d e, Dp g.K H x d ∧ Dp g.K H y e ∧ SeqAt.shaped d = true ∧ SeqAt.shaped e = true ∧ PyData.eqv d e = v := fun {v} q => by
    unfold eqD at q
    split at q
    · rename_i r' h
      cases q
      obtain ⟨f1, f2, f3, f4⟩ := eqS_scal h
      rw [sx.flat f1, sy.flat f2]
      exact .inl ⟨f3, f4⟩
    · split at q
      · rename_i d e' h1 h2
        cases q
        obtain ⟨p1, s1⟩ := D.shp_some h1
        obtain ⟨p2, s2⟩ := D.shp_some h2
        exact .inr ⟨_, _, sx.dp r.same p1, sy.dp r.same p2, s1, s2, rfl⟩
      · cases q
  have int2 : ∀ {f : Int → Int → Bool} {i j : Int}, x = .int i → y = .int j → v = f i j → rI0 (fun i j => .bl (f i j)) x y H Q := fun h1 h2 h3 => by
    subst h1; subst h2; subst h3
    exact ⟨_, _, rfl, rfl, k⟩
  unfold opC at e
  split at e
  · rcases eqs e with ⟨h1, h2⟩ | ⟨d, e', h1, h2, h3, h4, h5⟩
    · exact .inl ⟨h1, by rw [h2]; exact k⟩
    · exact .inr ⟨d, e', h1, h2, h3, h4, by rw [h5]; exact k⟩
  · simp only [Option.map_eq_some_iff] at e
    obtain ⟨w, e, rfl⟩ := e
    rcases eqs e with ⟨h1, h2⟩ | ⟨d, e', h1, h2, h3, h4, h5⟩
    · exact .inl ⟨h1, by rw [h2]; exact k⟩
    · exact .inr ⟨d, e', h1, h2, h3, h4, by rw [h5]; exact k⟩
  · cases e; exact int2 (f := fun i j => decide (i < j)) sx.isInt sy.isInt rfl
  · cases e; exact .inl (int2 (f := fun i j => decide (i ≤ j)) sx.isInt sy.isInt rfl)
  · cases e; exact int2 (f := fun i j => decide (j < i)) sx.isInt sy.isInt rfl
  · cases e; exact int2 (f := fun i j => decide (j ≤ i)) sx.isInt sy.isInt rfl
  · cases e
    exact .inr ⟨_, _, sx.isStr, sy.isStr, k⟩
  · split at e
    · rename_i xx z _ c hc
      cases e
      refine .inl ⟨c, z, ?_, sy.isStr, k⟩
      rw [sx.isStr]
      exact congrArg V.str (str_one hc)
    · cases e
  · split at e
    · rename_i xx z _ c hc
      cases e
      refine .inl ⟨c, z, ?_, sy.isStr, k⟩
      rw [sx.isStr]
      exact congrArg V.str (str_one hc)
    · cases e
  · obtain ⟨p, vs, rfl, h1, h2⟩ := sy.isLst
    rcases in_ok (neg := false) (Q := Q) r sx (.inl (SqL.of h1)) h2 e k with q | ⟨d, es, a1, a2, a3, a4, a5⟩ | ⟨d, es, a1, a2, a3, a4, a5⟩
    · exact .inr (.inl (.inl q))
    · exact .inr (.inl (.inr (.inl ⟨d, es, a1, a2, a3, a4, by rw [← a5]; exact k⟩)))
    · exact .inr (.inl (.inr (.inr ⟨d, es, a1, a2, a3, a4, by rw [← a5]; exact k⟩)))
  · obtain ⟨p, vs, rfl, h1, h2⟩ := sy.isTup
    rcases in_ok (neg := false) (Q := Q) r sx (.inr h1) h2 e k with q | ⟨d, es, a1, a2, a3, a4, a5⟩ | ⟨d, es, a1, a2, a3, a4, a5⟩
    · exact .inr (.inl (.inl q))
    · exact .inr (.inl (.inr (.inl ⟨d, es, a1, a2, a3, a4, by rw [← a5]; exact k⟩)))
    · exact .inr (.inl (.inr (.inr ⟨d, es, a1, a2, a3, a4, by rw [← a5]; exact k⟩)))
  · simp only [Option.map_eq_some_iff] at e
    obtain ⟨w, e, rfl⟩ := e
    obtain ⟨p, vs, rfl, h1, h2⟩ := sy.isLst
    rcases in_ok (neg := true) (Q := Q) r sx (.inl (SqL.of h1)) h2 e k with q | ⟨d, es, a1, a2, a3, a4, a5⟩ | ⟨d, es, a1, a2, a3, a4, a5⟩
    · exact .inr (.inl (.inl q))
    · exact .inr (.inl (.inr (.inl ⟨d, es, a1, a2, a3, a4, by rw [← a5]; exact k⟩)))
    · exact .inr (.inl (.inr (.inr ⟨d, es, a1, a2, a3, a4, by rw [← a5]; exact k⟩)))
  · simp only [Option.map_eq_some_iff] at e
    obtain ⟨w, e, rfl⟩ := e
    obtain ⟨p, vs, rfl, h1, h2⟩ := sy.isTup
    rcases in_ok (neg := true) (Q := Q) r sx (.inr h1) h2 e k with q | ⟨d, es, a1, a2, a3, a4, a5⟩ | ⟨d, es, a1, a2, a3, a4, a5⟩
    · exact .inr (.inl (.inl q))
    · exact .inr (.inl (.inr (.inl ⟨d, es, a1, a2, a3, a4, by rw [← a5]; exact k⟩)))
    · exact .inr (.inl (.inr (.inr ⟨d, es, a1, a2, a3, a4, by rw [← a5]; exact k⟩)))
  · simp only [Option.map_eq_some_iff] at e
    obtain ⟨w, e, rfl⟩ := e
    obtain ⟨p, ov, rfl, h1, h2⟩ := sy.get sx e
    rcases h2 with ⟨rfl, rfl⟩ | ⟨v, z, rfl, rfl, _⟩
    · exact .inr (.inr ⟨p, _, rfl, h1, k⟩)
    · exact .inr (.inr ⟨p, _, rfl, h1, k⟩)
  · simp only [Option.map_eq_some_iff] at e
    obtain ⟨w, e, rfl⟩ := e
    obtain ⟨p, ov, rfl, h1, h2⟩ := sy.get sx e
    rcases h2 with ⟨rfl, rfl⟩ | ⟨v, z, rfl, rfl, _⟩
    · exact .inr (.inr ⟨p, _, rfl, h1, k⟩)
    · exact .inr (.inr ⟨p, _, rfl, h1, k⟩)
  · simp only [Option.map_eq_some_iff] at e
    obtain ⟨w, e, rfl⟩ := e
    obtain ⟨p, ov, rfl, h1, h2⟩ := sy.get sx e
    rcases h2 with ⟨rfl, rfl⟩ | ⟨v, z, rfl, rfl, _⟩
    · exact .inr (.inr ⟨p, _, rfl, h1, k⟩)
    · exact .inr (.inr ⟨p, _, rfl, h1, k⟩)
  · simp only [Option.map_eq_some_iff] at e
    obtain ⟨w, e, rfl⟩ := e
    obtain ⟨p, ov, rfl, h1, h2⟩ := sy.get sx e
    rcases h2 with ⟨rfl, rfl⟩ | ⟨v, z, rfl, rfl, _⟩
    · exact .inr (.inr ⟨p, _, rfl, h1, k⟩)
    · exact .inr (.inr ⟨p, _, rfl, h1, k⟩)
  · cases e
end
end EN
/-! Items, slices, built-in functions, truth, classes, fields. -/
namespace EN
open PySem L2
section
variable {g : Gam} {W : WX} {ρ ρ1 ρ2 : Env} {F F1 F2 H H1 H2 H0 : Hp} {σ σ1 σ2 : L2.St} {p : Addr} {o : HO} {i j : Nat} {Q : VK}
theorem sqT_rep {x : V} {a : Addr} {vs : List V} {ds : List D} (h : SqT g.K F a vs) (r : Rps g F vs ds) : Rep g F (.ref a) (.tup ds) := .tup h r.1 r.2
/-! ### items -/
def rIXX (K : Frag) : R2 := fun x y H Q => rIx K x y H Q ∨ rDIx x y H Q
theorem rIXX_ok {X : Cx} (hu : X.A.units + 1 < cLine) : IxR X (rIXX X.K) := ix_seq.or (ix_dict hu)
theorem atI_rel {vs : List V} {ds : List D} (r : Rps g F vs ds) {i : Int} {d : D} (h : atI ds i = some d) : ∃ v, atI vs i = some v ∧ Rep g F v d := by
  unfold atI at h ⊢
  rw [r.1]
  cases e : ixN ds.length i with
  | none => rw [e] at h; cases h
  | some j => rw [e] at h; exact r.at h
theorem atI_map {α β : Type} (f : α → β) (xs : List α) (i : Int) : atI (xs.map f) i = (atI xs i).map f := by
  unfold atI
  rw [List.length_map]
  cases ixN xs.length i with
  | none => rfl
  | some j => simp
theorem opI_ok (r : Rl g ρ F σ H) {x y : V} {a b d : D} (sx : Sn g F H x a) (sy : Sn g F H y b) (e : opI a b = some d) (k : ∀ z, Rep g F z d → Q z H) : rIXX g.K x y H Q := by
  unfold opI at e
  split at e
  · obtain ⟨p, vs, rfl, h1, h2⟩ := sx.isLst
    obtain ⟨v, h3, h4⟩ := atI_rel h2 e
    exact .inl (.inl ⟨p, vs, _, v, rfl, sy.isInt, SqL.of h1, h3, k v h4⟩)
  · obtain ⟨p, vs, rfl, h1, h2⟩ := sx.isTup
    obtain ⟨v, h3, h4⟩ := atI_rel h2 e
    exact .inl (.inr (.inl ⟨p, vs, _, v, rfl, sy.isInt, h1, h3, k v h4⟩))
  · rename_i ns i
    cases sx with
    | scr h =>
      rw [Option.map_eq_some_iff] at e
      obtain ⟨n, h1, h2⟩ := e
      subst h2
      exact .inl (.inl ⟨_, _, _, .int n, rfl, sy.isInt, h, by rw [atI_map, h1]; rfl, k _ (.int n)⟩)
  · split at e
    · rename_i hz
      rw [Option.map_eq_some_iff] at e
      obtain ⟨c, h1, h2⟩ := e
      subst h2
      exact .inl (.inr (.inr ⟨_, _, c, sx.isStr, sy.isInt, Nat.le_trans hz line_le, h1, k _ (.str _)⟩))
    · cases e
  · cases e1 : getD? (.dK _ _) b with
    | none => rw [e1] at e; cases e
    | some ov =>
      rw [e1] at e
      obtain ⟨p, ov', rfl, h1, h2⟩ := sx.get sy e1
      rcases h2 with ⟨_, rfl⟩ | ⟨v, z, rfl, rfl, h3⟩
      · cases e
      · cases e
        exact .inr ⟨p, v, rfl, h1, k v h3⟩
  · cases e1 : getD? (.dT _ _) b with
    | none => rw [e1] at e; cases e
    | some ov => simp [getD?] at e1
  · cases e
/-! ### slices -/
def rSLL (K : Frag) : V → Option Int → Option Int → Hp → VK → Prop := fun x lo hi H Q => rSlL K x lo hi H Q ∨ (rSlA K x lo hi H Q ∨ rSlS x lo hi H Q)
theorem rSLL_ok {X : Cx} : SlR X (rSLL X.K) := sl_list.or (sl_tupA.or sl_str)
theorem cut_rel {vs : List V} {ds : List D} (r : Rps g F vs ds) (lo hi : Option Int) : Rps g F (cutV vs lo hi) (cut ds lo hi) := by
  unfold cutV cut
  rw [r.1]
  exact (r.drop _).take _
theorem cut_all {α : Type} {xs : List α} {lo hi : Option Int} (h : HT.sIx xs.length 0 lo = 0 ∧ HT.sIx xs.length xs.length hi = xs.length) : cut xs lo hi = xs := by
  unfold cut
  rw [h.1, h.2]
  simp
theorem opS_ok (r : Rl g ρ F σ H) {x : V} {vx : IV} {a : D} {v : IV} {lo hi : Option Int} (hx : IvP g F σ x vx) (ex : vw ρ vx = some a) (e : opS a lo hi = some v) (k : OkQ g ρ F σ H Q v ρ) : rSLL g.K x lo hi H Q := by
  have sx : Sn g F H x a := r.seen (hx.ok (H0 := H)) ex
  unfold opS at e
  split at e
  · cases e
    obtain ⟨p, vs, rfl, h1, h2⟩ := sx.isLst
    exact .inl ⟨p, vs, rfl, SqL.of h1, fun q hq => k.fresh r hq (.lst upd_same (cut_rel h2 lo hi)) rfl⟩
  · cases e
    obtain ⟨p, vs, rfl, h1, h2⟩ := sx.isTup
    refine .inr (.inl ⟨p, vs, rfl, h1, fun z => ?_, fun z q hq => k.tup r hq (cut_rel h2 lo hi)⟩)
    have h3 := Sn.tupRep r hx ex
    rw [h2.1] at z
    exact k _ F H (Stp.refl r) (show Rep g F _ _ from by rw [cut_all z]; exact h3)
  · split at e
    · rename_i hz
      cases e
      exact .inr (.inr ⟨_, sx.isStr, Nat.le_trans hz line_le, k.here r (Rep.str _)⟩)
    · cases e
  · cases e
/-! ### built-in functions -/
def rLenX (K : Frag) : List V → Hp → VK → Prop := fun xs H Q => (∃ p ys, xs = [.ref p] ∧ (SqL K H p ys ∨ SqT K H p ys) ∧ Q (.int ys.length) H) ∨ ∃ z, xs = [.str z] ∧ z.length ≤ sizeLine ∧ Q (.int z.length) H
def rIntX : List V → Hp → VK → Prop := fun xs H Q => ((∃ i, xs = [.int i] ∧ Q (.int i) H) ∨ ∃ k, xs = [.bl k] ∧ Q (.int (if k then 1 else 0)) H) ∨ ∃ a n, xs = [.str a] ∧ PySem.intText? a = some n ∧ a.length ≤ 640 ∧ Q (.int n) H
def rStrX : List V → Hp → VK → Prop := fun xs H Q => ∃ i, xs = [.int i] ∧ i.natAbs.log2 < 1920 ∧ Q (.str (toString i)) H
def rMax2 : List V → Hp → VK → Prop := fun xs H Q => ∃ i j, xs = [.int i, .int j] ∧ Q (.int (if j > i then j else i)) H
def rListX (K : Frag) : List V → Hp → VK → Prop := fun xs H Q => ∃ p ys, xs = [.ref p] ∧ (SqL K H p ys ∨ SqT K H p ys) ∧ ∀ l, H l = none → Q (.ref l) (upd H l (.lst ys))
def rTupX (K : Frag) : List V → Hp → VK → Prop := fun xs H Q => ∃ p ys, xs = [.ref p] ∧ ((SqL K H p ys ∧ ∀ l, H l = none → Q (.ref l) (upd H l (.tup ys))) ∨ (SqT K H p ys ∧ Q (.ref p) H))
def rBI (K : Frag) : BI → List V → Hp → VK → Prop
  | .len => rLenX K
  | .int => rIntX
  | .sum => rSum K
  | .list => rListX K
  | .tuple => rTupX K
  | .str => rStrX
  | .all => rAll K
  | .max => rMax2
def BI.val : BI → Value
  | .len => .builtin "len" | .int => .type "int" | .sum => .builtin "sum" | .list => .type "list" | .tuple => .type "tuple" | .str => .type "str" | .all => .builtin "all" | .max => .builtin "max"
def BI.calm : BI → Bool
  | .sum => true
  | .all => true
  | .max => true
  | _ => false
theorem rBI_ok {X : Cx} (b : BI) (hc : b.calm = true → X.calm = true) : CallR X b.val (rBI X.K b) := by
  cases b with
  | len => exact call_len_seq.or call_len_str
  | int => exact call_int1.or call_int_str
  | sum => exact cr_sum (hc rfl)
  | list => exact call_list_of
  | tuple => exact call_tuple_of
  | str => exact call_str_int
  | all => exact cr_all (hc rfl)
  | max => exact call_max2 (hc rfl)
/-- several values, seen -/
inductive Sns (g : Gam) (F H : Hp) : List V → List D → Prop
  | nil : Sns g F H [] []
  | cons {x : V} {xs : List V} {d : D} {ds : List D} (h : Sn g F H x d) (r : Sns g F H xs ds) : Sns g F H (x :: xs) (d :: ds)
theorem ints_rel {vs : List V} {ds : List D} {ns : List Int} (r : Rps g F vs ds) (e : ints? ds = some ns) : vs = ns.map V.int := by
  induction ds generalizing vs ns with
  | nil =>
    cases e
    exact List.eq_nil_of_length_eq_zero r.1
  | cons d ds ih =>
    cases vs with
    | nil => have := r.1; simp at this
    | cons v vs =>
      cases d with
      | int i =>
        simp only [ints?, Option.map_eq_some_iff] at e
        obtain ⟨ms, h1, h2⟩ := e
        subst h2
        have h3 : v = V.int i := r.head.flat rfl
        rw [h3, ih r.tail h1]
        rfl
      | _ => cases e
theorem bls_rel {vs : List V} {ds : List D} {ns : List Bool} (r : Rps g F vs ds) (e : bls? ds = some ns) : vs = ns.map V.bl := by
  induction ds generalizing vs ns with
  | nil =>
    cases e
    exact List.eq_nil_of_length_eq_zero r.1
  | cons d ds ih =>
    cases vs with
    | nil => have := r.1; simp at this
    | cons v vs =>
      cases d with
      | bl i =>
        simp only [bls?, Option.map_eq_some_iff] at e
        obtain ⟨ms, h1, h2⟩ := e
        subst h2
        have h3 : v = V.bl i := r.head.flat rfl
        rw [h3, ih r.tail h1]
        rfl
      | _ => cases e
theorem strs_rel {vs : List V} {ds : List D} {ns : List Str} (r : Rps g F vs ds) (e : strs? ds = some ns) : vs = ns.map V.str := by
  induction ds generalizing vs ns with
  | nil =>
    cases e
    exact List.eq_nil_of_length_eq_zero r.1
  | cons d ds ih =>
    cases vs with
    | nil => have := r.1; simp at this
    | cons v vs =>
      cases d with
      | str i =>
        simp only [strs?, Option.map_eq_some_iff] at e
        obtain ⟨ms, h1, h2⟩ := e
        subst h2
        have h3 : v = V.str i := r.head.flat rfl
        rw [h3, ih r.tail h1]
        rfl
      | _ => cases e
theorem scr_rel {ns : List Int} : Rps g F (ns.map V.int) (ns.map D.int) := by
  refine ⟨by simp, fun i v d a b => ?_⟩
  rw [List.getElem?_map] at a b
  cases e : ns[i]? with
  | none => rw [e] at a; cases a
  | some n => rw [e] at a b; cases a; cases b; exact .int n
theorem opF_ok (r : Rl g ρ F σ H) {f : BI} {xs : List V} {vs : List IV} {ds : List D} {v : IV} (hxs : xs.length = vs.length) (hx : ∀ (i : Nat) (x : V) (w : IV), xs[i]? = some x → vs[i]? = some w → IvP g F σ x w) (ex : vs.mapM (vw ρ) = some ds) (e : opF f ds = some v) (k : OkQ g ρ F σ H Q v ρ) :
    rBI g.K f xs H Q := by
  have one : ∀ d, ds = [d] → ∃ x w, xs = [x] ∧ vs = [w] ∧ IvP g F σ x w ∧ vw ρ w = some d := fun d hd => by
    subst hd
    cases vs with
    | nil => simp at ex
    | cons w ws =>
      rw [List.mapM_cons] at ex
      simp only [Option.pure_def, Option.bind_eq_bind, Option.bind_eq_some_iff] at ex
      obtain ⟨a, h1, as, h2, h3⟩ := ex
      cases h3
      cases ws with
      | nil =>
        match xs, hxs with
        | [x], _ => exact ⟨x, w, rfl, rfl, hx 0 x w rfl rfl, h1⟩
      | cons w' ws =>
        rw [List.mapM_cons] at h2
        simp only [Option.pure_def, Option.bind_eq_bind, Option.bind_eq_some_iff] at h2
        obtain ⟨_, _, _, _, h4⟩ := h2
        cases h4
  have two : ∀ d d', ds = [d, d'] → ∃ x y w u, xs = [x, y] ∧ vs = [w, u] ∧ IvP g F σ x w ∧ vw ρ w = some d ∧ IvP g F σ y u ∧ vw ρ u = some d' := fun d d' hd => by
    subst hd
    match vs, ex, hxs, hx with
    | [], ex, hxs, hx => simp at ex
    | [w], ex, hxs, hx =>
      rw [List.mapM_cons] at ex
      simp only [Option.pure_def, Option.bind_eq_bind, Option.bind_eq_some_iff] at ex
      obtain ⟨a, h1, as, h2, h3⟩ := ex
      cases h2
      cases h3
    | [w, u], ex, hxs, hx =>
      rw [List.mapM_cons, List.mapM_cons] at ex
      simp only [Option.pure_def, Option.bind_eq_bind, Option.bind_eq_some_iff] at ex
      obtain ⟨a, h1, as, ⟨b, h2, bs, h5, h6⟩, h3⟩ := ex
      cases h3
      cases h6
      match xs, hxs with
      | [x, y], _ => exact ⟨x, y, w, u, rfl, rfl, hx 0 x w rfl rfl, h1, hx 1 y u rfl rfl, h2⟩
    | w :: u :: z :: ws, ex, hxs, hx =>
      rw [List.mapM_cons, List.mapM_cons, List.mapM_cons] at ex
      simp only [Option.pure_def, Option.bind_eq_bind, Option.bind_eq_some_iff] at ex
      obtain ⟨a, h1, as, ⟨b, h2, bs, ⟨c, h5, cs, h6, h7⟩, h8⟩, h3⟩ := ex
      cases h3
      cases h8
      cases h7
  have sn : ∀ {d x w}, IvP g F σ x w → vw ρ w = some d → Sn g F H x d := fun h1 h2 => r.seen (h1.ok (H0 := H)) h2
  unfold opF at e
  split at e
  · obtain ⟨x, w, rfl, rfl, h1, h2⟩ := one _ rfl
    cases e
    obtain ⟨p, ys, rfl, a, b⟩ := (sn h1 h2).isLst
    exact .inl ⟨p, ys, rfl, .inl (SqL.of a), by rw [b.1]; exact k.here r (Rep.int _)⟩
  · obtain ⟨x, w, rfl, rfl, h1, h2⟩ := one _ rfl
    cases e
    obtain ⟨p, ys, rfl, a, b⟩ := (sn h1 h2).isTup
    exact .inl ⟨p, ys, rfl, .inr a, by rw [b.1]; exact k.here r (Rep.int _)⟩
  · obtain ⟨x, w, rfl, rfl, h1, h2⟩ := one _ rfl
    cases e
    cases sn h1 h2 with
    | scr h => exact .inl ⟨_, _, rfl, .inl h, by rw [List.length_map]; exact k.here r (Rep.int _)⟩
  · obtain ⟨x, w, rfl, rfl, h1, h2⟩ := one _ rfl
    split at e
    · rename_i hz
      cases e
      cases (sn h1 h2).isStr
      exact .inr ⟨_, rfl, Nat.le_trans hz line_le, k.here r (Rep.int _)⟩
    · cases e
  · obtain ⟨x, w, rfl, rfl, h1, h2⟩ := one _ rfl
    cases e
    cases (sn h1 h2).isInt
    exact .inl (.inl ⟨_, rfl, k.here r (Rep.int _)⟩)
  · obtain ⟨x, w, rfl, rfl, h1, h2⟩ := one _ rfl
    cases e
    cases (sn h1 h2).flat rfl
    exact .inl (.inr ⟨_, rfl, k.here r (Rep.int _)⟩)
  · obtain ⟨x, w, rfl, rfl, h1, h2⟩ := one _ rfl
    rw [Option.map_eq_some_iff] at e
    obtain ⟨ns, h3, h4⟩ := e
    subst h4
    obtain ⟨p, ys, rfl, a, b⟩ := (sn h1 h2).isLst
    have e5 := ints_rel b h3
    subst e5
    exact ⟨p, ns, rfl, SqL.of a, k.here r (Rep.int _)⟩
  · obtain ⟨x, w, rfl, rfl, h1, h2⟩ := one _ rfl
    cases e
    obtain ⟨p, ys, rfl, a, b⟩ := (sn h1 h2).isLst
    exact ⟨p, ys, rfl, .inl (SqL.of a), fun l hl => k.fresh r hl (.lst upd_same b) rfl⟩
  · obtain ⟨x, w, rfl, rfl, h1, h2⟩ := one _ rfl
    cases e
    obtain ⟨p, ys, rfl, a, b⟩ := (sn h1 h2).isTup
    exact ⟨p, ys, rfl, .inr a, fun l hl => k.fresh r hl (.lst upd_same b) rfl⟩
  · obtain ⟨x, w, rfl, rfl, h1, h2⟩ := one _ rfl
    cases e
    cases sn h1 h2 with
    | scr h => exact ⟨_, _, rfl, .inl h, fun l hl => k.fresh r hl (.lst upd_same scr_rel) rfl⟩
  · obtain ⟨x, w, rfl, rfl, h1, h2⟩ := one _ rfl
    cases e
    obtain ⟨p, ys, rfl, a, b⟩ := (sn h1 h2).isLst
    exact ⟨p, ys, rfl, .inl ⟨SqL.of a, fun l hl => k.tup r hl b⟩⟩
  · obtain ⟨x, w, rfl, rfl, h1, h2⟩ := one _ rfl
    cases e
    obtain ⟨p, ys, rfl, a, b⟩ := (sn h1 h2).isTup
    exact ⟨p, ys, rfl, .inr ⟨a, k _ F H (Stp.refl r) (Sn.tupRep r h1 h2)⟩⟩
  · obtain ⟨x, w, rfl, rfl, h1, h2⟩ := one _ rfl
    split at e
    · rename_i hz
      rw [Option.map_eq_some_iff] at e
      obtain ⟨n, h3, h4⟩ := e
      subst h4
      cases (sn h1 h2).isStr
      exact .inr ⟨_, n, rfl, h3, hz, k.here r (Rep.int _)⟩
    · cases e
  · obtain ⟨x, w, rfl, rfl, h1, h2⟩ := one _ rfl
    split at e
    · rename_i hz
      cases e
      cases (sn h1 h2).isInt
      exact ⟨_, rfl, hz, k.here r (Rep.str _)⟩
    · cases e
  · obtain ⟨x, w, rfl, rfl, h1, h2⟩ := one _ rfl
    rw [Option.map_eq_some_iff] at e
    obtain ⟨ns, h3, h4⟩ := e
    subst h4
    obtain ⟨p, ys, rfl, a, b⟩ := (sn h1 h2).isLst
    have e5 := bls_rel b h3
    subst e5
    exact ⟨p, ns, rfl, SqL.of a, k.here r (Rep.bl _)⟩
  · obtain ⟨x, y, w, u, rfl, rfl, h1, h2, h3, h4⟩ := two _ _ rfl
    cases e
    cases (sn h1 h2).isInt
    cases (sn h3 h4).isInt
    exact ⟨_, _, rfl, k.here r (Rep.int _)⟩
  · cases e
/-! ### methods of texts -/
def rMT (K : Frag) : MT → V → List V → Hp → VK → Prop
  | .rmp => fun x xs H Q => ∃ a b, x = .str a ∧ xs = [.str b] ∧ a.length ≤ sizeLine ∧ Q (.str (Txt.removeprefix a b)) H
  | .find => fun x xs H Q => ∃ (a b : Str) (i : Int), x = .str a ∧ xs = [.str b, .int i] ∧ Q (.int (Txt.find3 a b i)) H
  | .join => fun x xs H Q => ∃ a p, ∃ ys : List Str, x = .str a ∧ xs = [.ref p] ∧ (SqL K H p (ys.map V.str) ∨ SqT K H p (ys.map V.str)) ∧ (ys.map (·.length)).sum + ys.length * a.length ≤ 16777216 ∧ Q (.str (Txt.join a ys)) H
def MT.id : MT → String
  | .rmp => "str.removeprefix" | .find => "str.find" | .join => "str.join"
theorem rMT_ok {X : Cx} (m : MT) : MtR X m.id (rMT X.K m) := by
  cases m with
  | rmp => exact mt_removeprefix
  | find => exact mt_find3
  | join => exact mt_join
theorem opM_ok (r : Rl g ρ F σ H) {m : MT} {a : Str} {xs : List V} {vs : List IV} {ds : List D} {d : D} (hxs : xs.length = vs.length) (hx : ∀ (i : Nat) (x : V) (w : IV), xs[i]? = some x → vs[i]? = some w → IvP g F σ x w) (ex : vs.mapM (vw ρ) = some ds) (e : opM m a ds = some d) (k : OkQ g ρ F σ H Q (.d d) ρ) :
    rMT g.K m (.str a) xs H Q := by
  have one : ∀ d, ds = [d] → ∃ x w, xs = [x] ∧ vs = [w] ∧ IvP g F σ x w ∧ vw ρ w = some d := fun d hd => by
    subst hd
    cases vs with
    | nil => simp at ex
    | cons w ws =>
      rw [List.mapM_cons] at ex
      simp only [Option.pure_def, Option.bind_eq_bind, Option.bind_eq_some_iff] at ex
      obtain ⟨a, h1, as, h2, h3⟩ := ex
      cases h3
      cases ws with
      | nil =>
        match xs, hxs with
        | [x], _ => exact ⟨x, w, rfl, rfl, hx 0 x w rfl rfl, h1⟩
      | cons w' ws =>
        rw [List.mapM_cons] at h2
        simp only [Option.pure_def, Option.bind_eq_bind, Option.bind_eq_some_iff] at h2
        obtain ⟨_, _, _, _, h4⟩ := h2
        cases h4
  have two : ∀ d d', ds = [d, d'] → ∃ x y w u, xs = [x, y] ∧ vs = [w, u] ∧ IvP g F σ x w ∧ vw ρ w = some d ∧ IvP g F σ y u ∧ vw ρ u = some d' := fun d d' hd => by
    subst hd
    match vs, ex, hxs, hx with
    | [], ex, hxs, hx => simp at ex
    | [w], ex, hxs, hx =>
      rw [List.mapM_cons] at ex
      simp only [Option.pure_def, Option.bind_eq_bind, Option.bind_eq_some_iff] at ex
      obtain ⟨a, h1, as, h2, h3⟩ := ex
      cases h2
      cases h3
    | [w, u], ex, hxs, hx =>
      rw [List.mapM_cons, List.mapM_cons] at ex
      simp only [Option.pure_def, Option.bind_eq_bind, Option.bind_eq_some_iff] at ex
      obtain ⟨a, h1, as, ⟨b, h2, bs, h5, h6⟩, h3⟩ := ex
      cases h3
      cases h6
      match xs, hxs with
      | [x, y], _ => exact ⟨x, y, w, u, rfl, rfl, hx 0 x w rfl rfl, h1, hx 1 y u rfl rfl, h2⟩
    | w :: u :: z :: ws, ex, hxs, hx =>
      rw [List.mapM_cons, List.mapM_cons, List.mapM_cons] at ex
      simp only [Option.pure_def, Option.bind_eq_bind, Option.bind_eq_some_iff] at ex
      obtain ⟨a, h1, as, ⟨b, h2, bs, ⟨c, h5, cs, h6, h7⟩, h8⟩, h3⟩ := ex
      cases h3
      cases h8
      cases h7
  have sn : ∀ {d x w}, IvP g F σ x w → vw ρ w = some d → Sn g F H x d := fun h1 h2 => r.seen (h1.ok (H0 := H)) h2
  unfold opM at e
  split at e
  · obtain ⟨x, w, rfl, rfl, h1, h2⟩ := one _ rfl
    split at e
    · rename_i hz
      cases e
      cases (sn h1 h2).isStr
      exact ⟨_, _, rfl, rfl, Nat.le_trans hz line_le, k.here r (Rep.str _)⟩
    · cases e
  · obtain ⟨x, y, w, u, rfl, rfl, h1, h2, h3, h4⟩ := two _ _ rfl
    cases e
    cases (sn h1 h2).isStr
    cases (sn h3 h4).isInt
    exact ⟨_, _, _, rfl, rfl, k.here r (Rep.int _)⟩
  · obtain ⟨x, w, rfl, rfl, h1, h2⟩ := one _ rfl
    split at e
    · rename_i ys h3
      split at e
      · rename_i hz
        cases e
        obtain ⟨p, zs, rfl, a1, b⟩ := (sn h1 h2).isLst
        have e5 := strs_rel b h3
        subst e5
        exact ⟨_, p, ys, rfl, rfl, .inl (SqL.of a1), Nat.le_trans hz (by decide), k.here r (Rep.str _)⟩
      · cases e
    · cases e
  · cases e
/-! ### truth -/
theorem truD_ok (r : Rl g ρ F σ H) {x : V} {d : D} {b : Bool} (sx : Sn g F H x d) (e : truD d = some b) : TruV g.K x H b := by
  have emp : ∀ {vs : List V} {ds : List D}, Rps g F vs ds → (!ds.isEmpty) = !vs.isEmpty := fun {vs ds} q => by
    cases vs <;> cases ds <;> first | rfl | (have := q.1; simp at this)
  unfold truD at e
  split at e
  · cases e; cases sx; rfl
  · cases e; cases sx; rfl
  · cases e; cases sx; rfl
  · split at e
    · rename_i hz
      cases e; cases sx; exact ⟨Nat.le_trans hz line_le, rfl⟩
    · cases e
  · cases e
    cases sx with
    | tup h q => exact .inr (.inl ⟨_, h, emp q⟩)
  · cases e
    cases sx with
    | lst h q => exact .inl ⟨_, SqL.of h, emp q⟩
  · cases e
end
end EN
/-! Readings of expressions, and that they follow from the runs. -/
namespace EN
open PySem L2

/-- what the readings name besides: the promises of the defs -/
structure Sg where
  g : G0
  fsp : Nat → Sp
/-- nothing is let out -/
abbrev W0 : WX := fun _ _ _ _ => False
def tyV (g : G0) : TY → V
  | .int => .ty "int" | .str => .ty "str" | .bool => .ty "bool" | .list => .ty "list" | .tuple => .ty "tuple" | .dict => .ty "dict"
  | .cls c => .ref (g.oc c) | .exc c => .ref (g.ec c) | .ve => .ty "ValueError"
def tyU (g : G0) : TY → Value
  | .int => .type "int" | .str => .type "str" | .bool => .type "bool" | .list => .type "list" | .tuple => .type "tuple" | .dict => .type "dict"
  | .cls c => .ref (g.oc c) | .exc c => .ref (g.ec c) | .ve => .type "ValueError"
def tyD (g : G0) : D → Value
  | .non => .type "NoneType" | .bl _ => .type "bool" | .int _ => .type "int" | .str _ => .type "str" | .tup _ => .type "tuple" | .lst _ => .type "list" | .scr _ => .type "list"
  | .dK _ _ => .type "dict" | .dT _ _ => .type "dict" | .obj c _ => .ref (g.oc c)
/-- what the written part says -/
structure KF (g : G0) : Prop where
  isi : ∀ (d : D) (t : TY), g.T.tok t = true → (∀ c fs, d = .obj c fs → c < g.T.nc) → PySem.W.kitOne g.K (tyD g d) (tyU g t) = some (isTy d t)
  ise : ∀ (c : Nat) (t : TY), g.T.tok t = true → c < g.T.ne → PySem.W.kitOne g.K (.ref (g.ec c)) (tyU g t) = some (isE g.T c t)
  cls : ∀ c, c < g.T.nc → Cls g.K (g.oc c) ∧ PySem.W.findIn g.K (.ref (g.oc c)) "__class__" = some (some (.builtin "object.__class__")) ∧ PySem.W.mroIn g.K (g.oc c) (.type "object") = some true ∧ ∀ n ∈ g.T.of c, NoAttr g.K (g.oc c) n
  exm : ∀ (c k : Nat), c < g.T.ne → k < g.T.ne → PySem.W.exmOne g.K (.ref (g.ec c)) (.ref (g.ec k)) = some (g.T.es c k)
  cget : PySem.W.specialIn g.K (.builtin "object.__class__") "__get__" = some (some (.builtin "getset_descriptor.__get__"))
  ctak : PySem.W.takesIn g.K (.builtin "object.__class__") = some true

/-- isinstance of any value, of the error that is held -/
def rIsX (g : G0) : List V → Hp → VK → Prop := fun xs H Q => rIsi g.K xs H Q ∨
  ∃ (a : Addr) (c : Nat) (d : Option Addr) (dd : Addr) (ws : List (Str × V)) (u : V) (cv : Value) (b : Bool), g.pn = some (a, .ref (g.ec c), d) ∧ c < g.T.ne ∧ xs = [.ref a, u] ∧ ClsV u cv ∧ d = some dd ∧ H dd = some (.xd ws) ∧
    PySem.W.kitOne g.K (.ref (g.ec c)) cv = some b ∧ Q (.bl b) H
/-- e.n of an instance, of the error that is held -/
def tFldX (g : G0) (ta : TE) (n : Str) : TE := fun σ H Q => ta σ H fun x H1 =>
  (∃ a C dx fs v, x = .ref a ∧ H1 a = some (.ins C dx fs) ∧ Cls g.K C ∧ NoAttr g.K C n ∧ fs.lookup n = some v ∧ Q v H1) ∨
    ∃ (a : Addr) (c : Nat) (d : Option Addr) (dd : Addr) (ws : List (Str × V)) (v : V), g.pn = some (a, .ref (g.ec c), d) ∧ c < g.T.ne ∧ (∃ k, k < g.T.ne ∧ n ∈ g.T.ef k) ∧ x = .ref a ∧ d = some dd ∧ H1 dd = some (.xd ws) ∧ ws.lookup n = some v ∧ Q v H1
/-- what is walked: a list, a tuple -/
def iSeq (K : Frag) (te : TE) : TI := fun σ H R => te σ H fun x H1 => ∃ a, x = .ref a ∧ ((∃ xs, SqL K H1 a xs ∧ R (Itl K a) H1) ∨ ∃ xs, SqT K H1 a xs ∧ R (Itt K a) H1)
def tTru (K : Frag) (te : TE) : TT := fun σ H Q => te σ H fun x H1 => ∃ b, TruV K x H1 b ∧ Q b H1
/-- a part of a slice -/
def prt (nl : Bool) (t : TE) : TO := match nl with
  | true => tNoPart
  | false => tPart t
mutual
/-- the reading of an expression -/
def rd (S : Sg) (W : WX) : IE → TE
  | .var i => tVar i
  | .lit d => tC (vD d)
  | .tup es => tTup (rdA S W es)
  | .lst es => tLst (rdA S W es)
  | .dct ps => match ps with
    | .nil => tDNewK
    | .cons e es => tDisp (rdP S W (.cons e es))
  | .bin op a b => tOp (rBO S.g.K op) (rd S W a) (rd S W b)
  | .neg a => tUn (rU fun i => .int (-i)) (rd S W a)
  | .gc n => tC (vD (S.g.T.gc n))
  | .ch op op' a b c => tChain (rCO S.g.K op) (rCO S.g.K op') (rd S W a) (rd S W b) (rd S W c)
  | .bm m a es => tBM S.g.K "str" (rMT S.g.K m) (rd S W a) (rdA S W es)
  | .cmp op a b => tOp (rCO S.g.K op) (rd S W a) (rd S W b)
  | .isN a => tIsN (rd S W a)
  | .notN a => tNotN (rd S W a)
  | .and a b => tAndT S.g.K (rd S W a) (rd S W b)
  | .or a b => tOrT S.g.K (rd S W a) (rd S W b)
  | .not a => tNotT S.g.K (rd S W a)
  | .ife c a b => tIf (rdT S W c) (rd S W a) (rd S W b)
  | .ix a b => tOp (rIXX S.g.K) (rd S W a) (rd S W b)
  | .slc a lo hi => tSl (rSLL S.g.K) (rd S W a) (prt lo.nl (rd S W lo)) (prt hi.nl (rd S W hi))
  | .call f es => tCallS (S.fsp f) (WE W) (rdA S W es)
  | .bi f es => tCB (rBI S.g.K f) (rdA S W es)
  | .isi a ty => tCB (rIsX S.g) (tCons (rd S W a) (tCons (tC (tyV S.g ty)) tNil))
  | .fld a n => tFldX S.g (rd S W a) n
  | .lc elt i it hasIf c => tLc (rdI S W it) (gName i) (match hasIf with
      | true => rdT S W0 c
      | false => tYes) (rd S W0 elt) [i]
/-- .. as a test -/
def rdT (S : Sg) (W : WX) : IE → TT
  | .gc n => tTru S.g.K (tC (vD (S.g.T.gc n)))
  | .ch op op' a b c => tTest (tChain (rCO S.g.K op) (rCO S.g.K op') (rd S W a) (rd S W b) (rd S W c))
  | .bm m a es => tTru S.g.K (tBM S.g.K "str" (rMT S.g.K m) (rd S W a) (rdA S W es))
  | .cmp op a b => tTest (tOp (rCO S.g.K op) (rd S W a) (rd S W b))
  | .isN a => tB (tIsN (rd S W a))
  | .notN a => tB (tNotN (rd S W a))
  | .and a b => tAnd (rdT S W a) (rdT S W b)
  | .or a b => tOr (rdT S W a) (rdT S W b)
  | .not a => tNot (rdT S W a)
  | .var i => tTru S.g.K (tVar i)
  | .lit d => tTru S.g.K (tC (vD d))
  | .call f es => tTru S.g.K (tCallS (S.fsp f) (WE W) (rdA S W es))
  | .bi f es => tTru S.g.K (tCB (rBI S.g.K f) (rdA S W es))
  | .isi a ty => tTru S.g.K (tCB (rIsX S.g) (tCons (rd S W a) (tCons (tC (tyV S.g ty)) tNil)))
  | .bin op a b => tTru S.g.K (tOp (rBO S.g.K op) (rd S W a) (rd S W b))
  | .ix a b => tTru S.g.K (tOp (rIXX S.g.K) (rd S W a) (rd S W b))
  | .fld a n => tTru S.g.K (tFldX S.g (rd S W a) n)
  | .tup es => tTru S.g.K (tTup (rdA S W es))
  | .lst es => tTru S.g.K (tLst (rdA S W es))
  | .dct ps => match ps with
    | .nil => tTru S.g.K tDNewK
    | .cons e es => tTru S.g.K (tDisp (rdP S W (.cons e es)))
  | .neg a => tTru S.g.K (tUn (rU fun i => .int (-i)) (rd S W a))
  | .ife c a b => tTru S.g.K (tIf (rdT S W c) (rd S W a) (rd S W b))
  | .slc a lo hi => tTru S.g.K (tSl (rSLL S.g.K) (rd S W a) (prt lo.nl (rd S W lo)) (prt hi.nl (rd S W hi)))
  | .lc elt i it hasIf c => tTru S.g.K (tLc (rdI S W it) (gName i) (match hasIf with
      | true => rdT S W0 c
      | false => tYes) (rd S W0 elt) [i])
def rdA (S : Sg) (W : WX) : IEs → TA
  | .nil => tNil
  | .cons e es => tCons (rd S W e) (rdA S W es)
def rdP (S : Sg) (W : WX) : IEs → List (TE × TE)
  | .nil => []
  | .cons _ .nil => []
  | .cons k (.cons v ps) => (rd S W k, rd S W v) :: rdP S W ps
def rdI (S : Sg) (W : WX) : IT → TI
  | .e a => iSeq S.g.K (rd S W a)
  | .rng a => iRng1 (tCons (rd S W a) tNil)
  | .rng2 a b => iRng2 (tCons (rd S W a) (tCons (rd S W b) tNil))
  | .txt a => iStr (rd S W a)
end
end EN
/-! The readings follow from the runs: expressions. -/
namespace EN
open PySem L2
section
variable {g : Gam} {W : WX} {ρ ρ1 ρ2 : Env} {F F1 F2 H H1 H2 H0 : Hp} {σ σ1 σ2 : L2.St} {p : Addr} {o : HO} {i j : Nat} {Q : VK}
theorem seen_inv {α : Type} {x : IV} {f : D → R α} {A : α → Env → Prop} {B : Nat → List D → Env → Prop} (h : Good (seen ρ x f) A B) : ∃ d, vw ρ x = some d ∧ Good (f d) A B := by
  unfold seen at h
  cases e : vw ρ x with
  | none => rw [e] at h; exact h.elim
  | some d => rw [e] at h; exact ⟨d, rfl, h⟩
theorem val_inv {v : Option IV} {A : IV → Env → Prop} {B : Nat → List D → Env → Prop} (h : Good (R.val ρ v) A B) : ∃ w, v = some w ∧ A w ρ := by
  cases v with
  | none => exact h.elim
  | some w => exact ⟨w, rfl, h⟩
theorem dat_inv {v : Option D} {A : IV → Env → Prop} {B : Nat → List D → Env → Prop} (h : Good (R.dat ρ v) A B) : ∃ w, v = some w ∧ A (.d w) ρ := by
  cases v with
  | none => exact h.elim
  | some w => exact ⟨w, rfl, h⟩
theorem bool_inv {v : Option Bool} {A : IV → Env → Prop} {B : Nat → List D → Env → Prop} (h : Good (R.bool ρ v) A B) : ∃ w, v = some w ∧ A (.d (.bl w)) ρ := by
  cases v with
  | none => exact h.elim
  | some w => exact ⟨w, rfl, h⟩
/-- what follows an expression, its value held -/
theorem SndP.go {t : TE} {r : Env → R IV} {β : Type} {f : IV → Env → R β} {A : β → Env → Prop} {Q : VK} (h : SndP g W t r) (rl : Rl g ρ F σ H) (k : Good ((r ρ).bind f) A (ErQ g W ρ F σ H))
    (n : ∀ v ρ1 x F1 H1, Stp g ρ F σ H ρ1 F1 σ H1 → IvP g F1 σ x v → Good (f v ρ1) A (ErQ g W ρ1 F1 σ H1) → Q x H1) : t σ H Q :=
  h ρ F σ H Q rl ((Good.bind.mp k).mono (fun v ρ1 k x F1 H1 s iv => n v ρ1 x F1 H1 s iv (k.mono (fun _ _ a => a) fun _ _ _ e => e.later s)) fun _ _ _ q => q)
theorem Snd.go {t : TE} {r : Env → R IV} {β : Type} {f : IV → Env → R β} {A : β → Env → Prop} {Q : VK} (h : Snd g W t r) (rl : Rl g ρ F σ H) (k : Good ((r ρ).bind f) A (ErQ g W ρ F σ H))
    (n : ∀ v ρ1 x F1 H1, Stp g ρ F σ H ρ1 F1 σ H1 → IvOk g ρ1 F1 σ H H1 x v → Good (f v ρ1) A (ErQ g W ρ1 F1 σ H1) → Q x H1) : t σ H Q :=
  h ρ F σ H Q rl ((Good.bind.mp k).mono (fun v ρ1 k x F1 H1 s iv => n v ρ1 x F1 H1 s iv (k.mono (fun _ _ a => a) fun _ _ _ e => e.later s)) fun _ _ _ q => q)
theorem SndD.go {t : TE} {r : Env → R D} {β : Type} {f : D → Env → R β} {A : β → Env → Prop} {Q : VK} (h : SndD g W t r) (rl : Rl g ρ F σ H) (k : Good ((r ρ).bind f) A (ErQ g W ρ F σ H))
    (n : ∀ v ρ1 x F1 H1, Stp g ρ F σ H ρ1 F1 σ H1 → Rep g F1 x v → Good (f v ρ1) A (ErQ g W ρ1 F1 σ H1) → Q x H1) : t σ H Q :=
  h ρ F σ H Q rl ((Good.bind.mp k).mono (fun v ρ1 k x F1 H1 s iv => n v ρ1 x F1 H1 s iv (k.mono (fun _ _ a => a) fun _ _ _ e => e.later s)) fun _ _ _ q => q)
theorem SndT.go {t : TT} {r : Env → R Bool} {β : Type} {f : Bool → Env → R β} {A : β → Env → Prop} {Q : Bool → Hp → Prop} (h : SndT g W t r) (rl : Rl g ρ F σ H) (k : Good ((r ρ).bind f) A (ErQ g W ρ F σ H))
    (n : ∀ v ρ1 F1 H1, Stp g ρ F σ H ρ1 F1 σ H1 → Good (f v ρ1) A (ErQ g W ρ1 F1 σ H1) → Q v H1) : t σ H Q :=
  h ρ F σ H Q rl ((Good.bind.mp k).mono (fun v ρ1 k F1 H1 s => n v ρ1 F1 H1 s (k.mono (fun _ _ a => a) fun _ _ _ e => e.later s)) fun _ _ _ q => q)
/-- ends, from a later point -/
theorem OkQ.at (s : Stp g ρ F σ H ρ1 F1 σ H1) {v : IV} (k : OkQ g ρ F σ H Q v ρ1) : OkQ g ρ1 F1 σ H1 Q v ρ1 := k.later s
theorem okD {x : V} {d : D} (s : Stp g ρ F σ H ρ1 F1 σ H1) (k : OkQ g ρ F σ H Q (.d d) ρ1) (h : Rep g F1 x d) : Q x H1 := k x F1 H1 s h
theorem okQ_of (s : Stp g ρ F σ H ρ1 F1 σ H1) {r : R IV} (k : Good r (OkQ g ρ F σ H Q) (ErQ g W ρ1 F1 σ H1)) : Good r (OkQ g ρ1 F1 σ H1 Q) (ErQ g W ρ1 F1 σ H1) := k.mono (fun _ _ a => a.later s) fun _ _ _ e => e
theorem okB_of (s : Stp g ρ F σ H ρ1 F1 σ H1) {Q : Bool → Hp → Prop} {r : R Bool} (k : Good r (OkB g ρ F σ H Q) (ErQ g W ρ1 F1 σ H1)) : Good r (OkB g ρ1 F1 σ H1 Q) (ErQ g W ρ1 F1 σ H1) := k.mono (fun _ _ a F' H' q => a F' H' (s.trans q)) fun _ _ _ e => e

variable {fn : Fn} {t u : TE} {ra rb : Env → R IV}
theorem s_var : Snd g W (tVar i) fun ρ => ev g.T fn g.np (.var i) ρ := fun ρ F σ H Q rl k => by
  simp only [ev] at k
  cases e : ρ.at i with
  | un => rw [e] at k; exact k.elim
  | d x =>
    rw [e] at k
    obtain ⟨v, a, b⟩ := rl.dAt e
    exact ⟨v, a, k v F H (Stp.refl rl) b⟩
  | own c =>
    rw [e] at k
    obtain ⟨p, a, _⟩ := rl.ownAt e
    exact ⟨_, a, k _ F H (Stp.refl rl) a⟩
  | bor c =>
    rw [e] at k
    obtain ⟨p, a, _⟩ := rl.borAt e
    exact ⟨_, a, k _ F H (Stp.refl rl) a⟩
  | exc c fs =>
    rw [e] at k
    have y := rl.sl i
    rw [e] at y
    cases y with
    | exc hp h f => exact ⟨_, h, k _ F H (Stp.refl rl) h⟩
theorem rep_vD {d : D} (f : flatD d = true) : Rep g F (vD d) d := by
  cases d with
  | non => exact .non
  | bl b => exact .bl b
  | int i => exact .int i
  | str x => exact .str x
  | _ => cases f
theorem s_lit {d : D} : Snd g W (tC (vD d)) fun ρ => ev g.T fn g.np (.lit d) ρ := fun ρ F σ H Q rl k => by
  simp only [ev] at k
  split at k
  · rename_i f
    exact k _ F H (Stp.refl rl) (rep_vD f)
  · exact k.elim
theorem s_bin {op : BO} (ha : Snd g W t ra) (hb : Snd g W u rb) : Snd g W (tOp (rBO g.K op) t u) fun ρ => (ra ρ).held.bind fun x ρ => (rb ρ).bind fun y ρ => seen ρ x fun x => seen ρ y fun y => .val ρ (opB op x y) := fun ρ F σ H Q rl k => by
  refine ha.held.go rl k fun v ρ1 x F1 H1 s iv k => hb.go s.rel k fun w ρ2 y F2 H2 s2 iw k => ?_
  obtain ⟨a, ea, k⟩ := seen_inv k
  obtain ⟨b, eb, k⟩ := seen_inv k
  obtain ⟨z, ez, k⟩ := val_inv k
  exact opB_ok s2.rel (iv.mono s2.ext) iw ea eb ez (k.later (s.trans s2))
theorem s_neg (ha : Snd g W t ra) : Snd g W (tUn (rU fun i => .int (-i)) t) fun ρ => ((ra ρ).kept g.np).bind fun x ρ => match x with
    | .int i => .ok (.d (.int (-i))) ρ
    | _ => .no := fun ρ F σ H Q rl k => by
  refine ha.kept.go rl k fun v ρ1 x F1 H1 s iv k => ?_
  cases v with
  | int i =>
    cases iv
    exact ⟨i, rfl, okD s k (.int _)⟩
  | _ => exact k.elim
theorem s_cmp {op : CO} (ha : Snd g W t ra) (hb : Snd g W u rb) : Snd g W (tOp (rCO g.K op) t u) fun ρ => (ra ρ).held.bind fun x ρ => (rb ρ).bind fun y ρ => seen ρ x fun x => seen ρ y fun y => .bool ρ (opC op x y) := fun ρ F σ H Q rl k => by
  refine ha.held.go rl k fun v ρ1 x F1 H1 s iv k => hb.go s.rel k fun w ρ2 y F2 H2 s2 iw k => ?_
  obtain ⟨a, ea, k⟩ := seen_inv k
  obtain ⟨b, eb, k⟩ := seen_inv k
  obtain ⟨z, ez, k⟩ := bool_inv k
  exact opC_ok s2.rel (s2.rel.seen (IvP.ok (H0 := H) (iv.mono s2.ext)) ea) (s2.rel.seen iw eb) ez (okD (s.trans s2) k (.bl _))
theorem s_gc {n : Nat} : Snd g W (tC (vD (g.T.gc n))) fun ρ => ev g.T fn g.np (.gc n) ρ := fun ρ F σ H Q rl k => by
  simp only [ev] at k
  split at k
  · rename_i f
    exact k _ F H (Stp.refl rl) (rep_vD f.2)
  · exact k.elim
theorem s_ch {op op' : CO} {tc : TE} {rc : Env → R IV} (ha : Snd g W t ra) (hb : Snd g W u rb) (hc : Snd g W tc rc) : Snd g W (tChain (rCO g.K op) (rCO g.K op') t u tc) fun ρ => (ra ρ).held.bind fun x ρ => (rb ρ).held.bind fun y ρ => seen ρ x fun dx => seen ρ y fun dy => match opC op dx dy with
    | some true => (rc ρ).bind fun z ρ => seen ρ y fun dy => seen ρ z fun dz => .bool ρ (opC op' dy dz)
    | some false => .ok (.d (.bl false)) ρ
    | none => .no := fun ρ F σ H Q rl k => by
  refine ha.held.go rl k fun v ρ1 x F1 H1 s iv k => hb.held.go s.rel k fun w ρ2 y F2 H2 s2 iw k => ?_
  obtain ⟨a, ea, k⟩ := seen_inv k
  obtain ⟨b, eb, k⟩ := seen_inv k
  have s12 := s.trans s2
  cases e : opC op a b with
  | none => rw [e] at k; exact k.elim
  | some q =>
    rw [e] at k
    refine opC_ok s2.rel (s2.rel.seen (IvP.ok (H0 := H) (iv.mono s2.ext)) ea) (s2.rel.seen (IvP.ok (H0 := H) iw) eb) e ⟨q, rfl, ?_⟩
    cases q with
    | false => rw [if_neg Bool.false_ne_true]; exact okD s12 k (.bl _)
    | true =>
      rw [if_pos rfl]
      refine hc.go s2.rel k fun z ρ3 x3 F3 H3 s3 iz k => ?_
      obtain ⟨b', eb', k⟩ := seen_inv k
      obtain ⟨c', ec', k⟩ := seen_inv k
      obtain ⟨z', ez, k⟩ := bool_inv k
      exact opC_ok s3.rel (s3.rel.seen (IvP.ok (H0 := H) (iw.mono s3.ext)) eb') (s3.rel.seen iz ec') ez (okD (s12.trans s3) k (.bl _))
theorem Sn.non_iff {x : V} {d : D} (h : Sn g F H x d) : (x = .non) ↔ d = .non := by cases h <;> simp
theorem s_isN (ha : Snd g W t ra) : Snd g W (tIsN t) fun ρ => (ra ρ).bind fun x ρ => seen ρ x fun x => match x with
    | .non => .ok (.d (.bl true)) ρ
    | _ => .ok (.d (.bl false)) ρ := fun ρ F σ H Q rl k => by
  refine ha.go rl k fun v ρ1 x F1 H1 s iv k => ?_
  obtain ⟨a, ea, k⟩ := seen_inv k
  have h := (s.rel.seen iv ea).non_iff
  split at k
  · rw [decide_eq_true (h.mpr rfl)]; exact okD s k (.bl _)
  · rename_i q
    rw [decide_eq_false fun z => q (h.mp z)]; exact okD s k (.bl _)
theorem s_notN (ha : Snd g W t ra) : Snd g W (tNotN t) fun ρ => (ra ρ).bind fun x ρ => seen ρ x fun x => match x with
    | .non => .ok (.d (.bl false)) ρ
    | _ => .ok (.d (.bl true)) ρ := fun ρ F σ H Q rl k => by
  refine ha.go rl k fun v ρ1 x F1 H1 s iv k => ?_
  obtain ⟨a, ea, k⟩ := seen_inv k
  have h := (s.rel.seen iv ea).non_iff
  split at k
  · rw [decide_eq_true (h.mpr rfl)]; exact okD s k (.bl _)
  · rename_i q
    rw [decide_eq_false fun z => q (h.mp z)]; exact okD s k (.bl _)
theorem s_and (ha : Snd g W t ra) (hb : Snd g W u rb) : Snd g W (tAndT g.K t u) fun ρ => (ra ρ).held.bind fun x ρ => seen ρ x fun d => match truD d with
    | some true => rb ρ
    | some false => .ok x ρ
    | none => .no := fun ρ F σ H Q rl k => by
  refine ha.held.go rl k fun v ρ1 x F1 H1 s iv k => ?_
  obtain ⟨a, ea, k⟩ := seen_inv k
  have sx := s.rel.seen (IvP.ok (H0 := H) iv) ea
  split at k
  · rename_i e
    refine ⟨true, truD_ok s.rel sx e, ?_⟩
    rw [if_pos rfl]
    exact hb ρ1 F1 σ H1 Q s.rel (okQ_of s k)
  · rename_i e
    refine ⟨false, truD_ok s.rel sx e, ?_⟩
    rw [if_neg (by decide)]
    exact k x F1 H1 s iv.ok
  · exact k.elim
theorem s_or (ha : Snd g W t ra) (hb : Snd g W u rb) : Snd g W (tOrT g.K t u) fun ρ => (ra ρ).held.bind fun x ρ => seen ρ x fun d => match truD d with
    | some true => .ok x ρ
    | some false => rb ρ
    | none => .no := fun ρ F σ H Q rl k => by
  refine ha.held.go rl k fun v ρ1 x F1 H1 s iv k => ?_
  obtain ⟨a, ea, k⟩ := seen_inv k
  have sx := s.rel.seen (IvP.ok (H0 := H) iv) ea
  split at k
  · rename_i e
    refine ⟨true, truD_ok s.rel sx e, ?_⟩
    rw [if_pos rfl]
    exact k x F1 H1 s iv.ok
  · rename_i e
    refine ⟨false, truD_ok s.rel sx e, ?_⟩
    rw [if_neg (by decide)]
    exact hb ρ1 F1 σ H1 Q s.rel (okQ_of s k)
  · exact k.elim
theorem R.assoc {α β γ : Type} {r : R α} {f : α → Env → R β} {h : β → Env → R γ} : (r.bind f).bind h = r.bind fun x ρ => (f x ρ).bind h := by cases r <;> rfl
theorem tru_inv {d : D} {A : Bool → Env → Prop} {B : Nat → List D → Env → Prop} (k : Good (match truD d with
    | some b => R.ok b ρ
    | none => .no) A B) : ∃ b, truD d = some b ∧ A b ρ := by
  cases e : truD d with
  | none => rw [e] at k; exact k.elim
  | some b => rw [e] at k; exact ⟨b, rfl, k⟩
theorem s_tru (ha : Snd g W t ra) : SndT g W (tTru g.K t) fun ρ => (ra ρ).tru := fun ρ F σ H Q rl k => by
  refine ha.go rl k fun v ρ1 x F1 H1 s iv k => ?_
  obtain ⟨a, ea, k⟩ := seen_inv k
  obtain ⟨b, eb, k⟩ := tru_inv k
  exact ⟨b, truD_ok s.rel (s.rel.seen iv ea) eb, k F1 H1 s⟩
theorem s_not (ha : Snd g W t ra) : Snd g W (tNotT g.K t) fun ρ => (ra ρ).tru.bind fun b ρ => .ok (.d (.bl (!b))) ρ := fun ρ F σ H Q rl k => by
  dsimp only [R.tru] at k
  rw [R.assoc] at k
  refine ha.go rl k fun v ρ1 x F1 H1 s iv k => ?_
  obtain ⟨a, ea, k⟩ := seen_inv (Good.bind.mp k)
  obtain ⟨b, eb, k⟩ := tru_inv k
  exact ⟨b, truD_ok s.rel (s.rel.seen iv ea) eb, okD s k (.bl _)⟩
theorem s_ife {tc : TT} {rc : Env → R Bool} (hc : SndT g W tc rc) (ha : Snd g W t ra) (hb : Snd g W u rb) : Snd g W (tIf tc t u) fun ρ => (rc ρ).bind fun b ρ => match b with
    | true => ra ρ
    | false => rb ρ := fun ρ F σ H Q rl k => by
  refine hc.go rl k fun v ρ1 F1 H1 s k => ?_
  cases v with
  | true => rw [if_pos rfl]; exact ha ρ1 F1 σ H1 Q s.rel (okQ_of s k)
  | false => rw [if_neg (by decide)]; exact hb ρ1 F1 σ H1 Q s.rel (okQ_of s k)
theorem s_ix (ha : Snd g W t ra) (hb : Snd g W u rb) : Snd g W (tOp (rIXX g.K) t u) fun ρ => (ra ρ).held.bind fun x ρ => ((rb ρ).kept g.np).bind fun y ρ => seen ρ x fun x => .dat ρ (opI x y) := fun ρ F σ H Q rl k => by
  refine ha.held.go rl k fun v ρ1 x F1 H1 s iv k => hb.kept.go s.rel k fun w ρ2 y F2 H2 s2 iw k => ?_
  obtain ⟨a, ea, k⟩ := seen_inv k
  obtain ⟨z, ez, k⟩ := dat_inv k
  exact opI_ok s2.rel (s2.rel.seen (IvP.ok (H0 := H) (iv.mono s2.ext)) ea) (iw.sn s2.rel.same) ez fun z rz => okD (s.trans s2) k rz
/-- several values -/
def SndL (g : Gam) (W : WX) (t : TA) (r : Env → R (List D)) : Prop := ∀ ρ F σ H (Q : List V → Hp → Prop), Rl g ρ F σ H → Good (r ρ) (fun ds ρ' => ∀ xs F' H', Stp g ρ F σ H ρ' F' σ H' → Rps g F' xs ds → Q xs H') (ErQ g W ρ F σ H) → t σ H Q
inductive IvPs (g : G0) (F : Hp) (σ : L2.St) : List V → List IV → Prop
  | nil : IvPs g F σ [] []
  | cons {x : V} {xs : List V} {v : IV} {vs : List IV} (h : IvP g F σ x v) (r : IvPs g F σ xs vs) : IvPs g F σ (x :: xs) (v :: vs)
theorem IvPs.mono {xs : List V} {vs : List IV} (e : Same F F1) (h : IvPs g F σ xs vs) : IvPs g F1 σ xs vs := by
  induction h with
  | nil => exact .nil
  | cons h _ ih => exact .cons (h.mono e) ih
theorem IvPs.len {xs : List V} {vs : List IV} (h : IvPs g F σ xs vs) : xs.length = vs.length := by
  induction h with
  | nil => rfl
  | cons _ _ ih => simp [ih]
theorem IvPs.at {xs : List V} {vs : List IV} (h : IvPs g F σ xs vs) : ∀ (i : Nat) (x : V) (w : IV), xs[i]? = some x → vs[i]? = some w → IvP g F σ x w := by
  induction h with
  | nil => intro i x w a; simp at a
  | cons h _ ih =>
    intro i x w a b
    cases i with
    | zero => simp at a b; subst a; subst b; exact h
    | succ i => exact ih i x w (by simpa using a) (by simpa using b)
def SndV (g : Gam) (W : WX) (t : TA) (r : Env → R (List IV)) : Prop := ∀ ρ F σ H (Q : List V → Hp → Prop), Rl g ρ F σ H → Good (r ρ) (fun vs ρ' => ∀ xs F' H', Stp g ρ F σ H ρ' F' σ H' → IvPs g F' σ xs vs → Q xs H') (ErQ g W ρ F σ H) → t σ H Q
theorem SndL.go {t : TA} {r : Env → R (List D)} {β : Type} {f : List D → Env → R β} {A : β → Env → Prop} {Q : List V → Hp → Prop} (h : SndL g W t r) (rl : Rl g ρ F σ H) (k : Good ((r ρ).bind f) A (ErQ g W ρ F σ H))
    (n : ∀ v ρ1 x F1 H1, Stp g ρ F σ H ρ1 F1 σ H1 → Rps g F1 x v → Good (f v ρ1) A (ErQ g W ρ1 F1 σ H1) → Q x H1) : t σ H Q :=
  h ρ F σ H Q rl ((Good.bind.mp k).mono (fun v ρ1 k x F1 H1 s iv => n v ρ1 x F1 H1 s iv (k.mono (fun _ _ a => a) fun _ _ _ e => e.later s)) fun _ _ _ q => q)
theorem SndV.go {t : TA} {r : Env → R (List IV)} {β : Type} {f : List IV → Env → R β} {A : β → Env → Prop} {Q : List V → Hp → Prop} (h : SndV g W t r) (rl : Rl g ρ F σ H) (k : Good ((r ρ).bind f) A (ErQ g W ρ F σ H))
    (n : ∀ v ρ1 x F1 H1, Stp g ρ F σ H ρ1 F1 σ H1 → IvPs g F1 σ x v → Good (f v ρ1) A (ErQ g W ρ1 F1 σ H1) → Q x H1) : t σ H Q :=
  h ρ F σ H Q rl ((Good.bind.mp k).mono (fun v ρ1 k x F1 H1 s iv => n v ρ1 x F1 H1 s iv (k.mono (fun _ _ a => a) fun _ _ _ e => e.later s)) fun _ _ _ q => q)
theorem s_nil : SndL g W tNil fun ρ => .ok [] ρ := fun ρ F σ H Q rl k => k [] F H (Stp.refl rl) .nil
theorem s_cons {ts : TA} {rs : Env → R (List D)} (ha : Snd g W t ra) (hr : SndL g W ts rs) : SndL g W (tCons t ts) fun ρ => ((ra ρ).kept g.np).bind fun x ρ => (rs ρ).bind fun xs ρ => .ok (x :: xs) ρ := fun ρ F σ H Q rl k => by
  refine ha.kept.go rl k fun v ρ1 x F1 H1 s iv k => hr.go s.rel k fun w ρ2 y F2 H2 s2 iw k => ?_
  exact k (x :: y) F2 H2 (s.trans s2) (.cons (iv.mono s2.ext) iw)
theorem s_nilV : SndV g W tNil fun ρ => .ok [] ρ := fun ρ F σ H Q rl k => k [] F H (Stp.refl rl) .nil
theorem s_consV {ts : TA} {rs : Env → R (List IV)} (ha : Snd g W t ra) (hr : SndV g W ts rs) : SndV g W (tCons t ts) fun ρ => (ra ρ).held.bind fun x ρ => (rs ρ).bind fun xs ρ => .ok (x :: xs) ρ := fun ρ F σ H Q rl k => by
  refine ha.held.go rl k fun v ρ1 x F1 H1 s iv k => hr.go s.rel k fun w ρ2 y F2 H2 s2 iw k => ?_
  exact k (x :: y) F2 H2 (s.trans s2) (.cons (iv.mono s2.ext) iw)
theorem if_inv {c : Prop} [Decidable c] {r : R IV} {A : IV → Env → Prop} {B : Nat → List D → Env → Prop} (k : Good (if c then r else .no) A B) : c ∧ Good r A B := by
  split at k
  · exact ⟨by assumption, k⟩
  · exact k.elim
theorem s_tup {ts : TA} {rs : Env → R (List D)} (hr : SndL g W ts rs) : Snd g W (tTup ts) fun ρ => (rs ρ).bind fun ds ρ => if ds.length ≤ line then .ok (.d (.tup ds)) ρ else .no := fun ρ F σ H Q rl k => by
  refine hr.go rl k fun v ρ1 x F1 H1 s iv k => ?_
  obtain ⟨hl, k⟩ := if_inv k
  exact ⟨by rw [iv.1]; exact Nat.le_trans hl line_le, fun q hq => (OkQ.later s k).tup s.rel hq iv⟩
theorem s_lst {ts : TA} {rs : Env → R (List D)} (hr : SndL g W ts rs) : Snd g W (tLst ts) fun ρ => (rs ρ).bind fun ds ρ => if ds.length ≤ line then .ok (.fr (.lst ds)) ρ else .no := fun ρ F σ H Q rl k => by
  refine hr.go rl k fun v ρ1 x F1 H1 s iv k => ?_
  obtain ⟨hl, k⟩ := if_inv k
  exact ⟨by rw [iv.1]; exact Nat.le_trans hl line_le, fun q hq => (OkQ.later s k).fresh s.rel hq (.lst upd_same iv) rfl⟩
theorem s_bi {ts : TA} {rs : Env → R (List IV)} {f : BI} (hr : SndV g W ts rs) : Snd g W (tCB (rBI g.K f) ts) fun ρ => (rs ρ).bind fun vs ρ => match vs.mapM (vw ρ) with
    | some ds => .val ρ (opF f ds)
    | none => .no := fun ρ F σ H Q rl k => by
  refine hr.go rl k fun v ρ1 x F1 H1 s iv k => ?_
  split at k
  · rename_i ds e
    obtain ⟨z, ez, k⟩ := val_inv k
    exact opF_ok s.rel iv.len iv.at e ez (k.later s)
  · exact k.elim
theorem s_bm {ts : TA} {rs : Env → R (List IV)} {m : MT} (ha : Snd g W t ra) (hr : SndV g W ts rs) : Snd g W (tBM g.K "str" (rMT g.K m) t ts) fun ρ => (ra ρ).held.bind fun x ρ => seen ρ x fun d => match d with
    | .str z => (rs ρ).bind fun vs ρ => match vs.mapM (vw ρ) with
      | some ds => .dat ρ (opM m z ds)
      | none => .no
    | _ => .no := fun ρ F σ H Q rl k => by
  refine ha.held.go rl k fun v ρ1 x F1 H1 s iv k => ?_
  obtain ⟨a, ea, k⟩ := seen_inv k
  have sx := s.rel.seen (IvP.ok (H0 := H) iv) ea
  cases a with
  | str z =>
    cases sx
    refine ⟨rfl, hr.go s.rel k fun w ρ2 y F2 H2 s2 iw k => ?_⟩
    split at k
    · rename_i ds e
      obtain ⟨d, ez, k⟩ := dat_inv k
      exact opM_ok s2.rel iw.len iw.at e ez (k.later (s.trans s2))
    · exact k.elim
  | _ => exact k.elim
/-! ### classes, fields -/
theorem Sn.tyx (K : KF g) {x : V} {d : D} (h : Sn g F H x d) : TyX g.K H x (tyD g d) := by
  cases h with
  | non => exact .base .non
  | bl b => exact .base (.bl b)
  | int i => exact .base (.int i)
  | str z => exact .base (.str z)
  | tup h r =>
    rcases h with (h | ⟨o, h⟩) | ⟨o, its, n, h, c, _⟩
    · exact .base (.tup h)
    · exact .fTuple h
    · exact .kTuple h c
  | lst h r => exact .base (.lst h)
  | scr h =>
    rcases h with (h | ⟨o, h⟩) | ⟨o, its, n, h, c, _⟩
    · exact .base (.lst h)
    · exact .base (.frz h)
    · exact .kList h c
  | dK h hk r => exact .base (.dK h)
  | dT h hk r => exact .base (.dT h)
  | obj hc h hk r =>
    obtain ⟨a, b, c, _⟩ := K.cls _ hc
    exact .base (.ins h a b K.cget K.ctak c)
theorem Sn.bound {x : V} {c : Nat} {fs : List D} (h : Sn g F H x (.obj c fs)) : c < g.T.nc := by cases h with | obj hc _ _ _ => exact hc
theorem clsV_ty (t : TY) : ClsV (tyV g t) (tyU g t) := by cases t <;> first | exact .ty _ | exact .own _
theorem excAt_some {x : V} {v : IV} {c : Nat} {fs : List D} (r : Rl g ρ F σ H) (h : IvP g F σ x v) (e : excAt ρ v = some (c, fs)) : ∃ (a : Addr) (d : Option Addr), g.pn = some (a, .ref (g.ec c), d) ∧ x = .ref a ∧ ExF g F d c fs := by
  cases v with
  | sl i =>
    have h : σ[i]? = some (some x) := h
    simp only [excAt] at e
    have y := r.sl i
    cases q : ρ.at i with
    | exc c' fs' =>
      rw [q] at e y
      cases e
      cases y with
      | exc hp h' f => rw [h] at h'; cases h'; exact ⟨_, _, hp, rfl, f⟩
    | _ => rw [q] at e; cases e
  | _ => cases e
theorem s_isi (K : KF g) {ty : TY} (ha : Snd g W t ra) : Snd g W (tCB (rIsX g) (tCons t (tCons (tC (tyV g ty)) tNil))) fun ρ => (ra ρ).held.bind fun x ρ => isiR g.T ty x ρ := fun ρ F σ H Q rl k => by
  refine ha.held.go rl k fun v ρ1 x F1 H1 s iv k => ?_
  obtain ⟨ht, k⟩ := if_inv k
  cases e : excAt ρ1 v with
  | some p =>
    rw [e] at k
    obtain ⟨c, fs⟩ := p
    obtain ⟨p, d, h1, rfl, h0, dd, ws, h4, h5, _⟩ := excAt_some s.rel iv e
    exact .inr ⟨p, c, d, dd, ws, _, _, _, h1, h0, rfl, clsV_ty ty, h4, s.rel.same _ _ h5, K.ise c ty ht h0, okD s k (.bl _)⟩
  | none =>
    rw [e] at k
    obtain ⟨a, ea, k⟩ := seen_inv k
    have sx := s.rel.seen (IvP.ok (H0 := H) iv) ea
    exact .inl ⟨x, _, _, _, _, rfl, clsV_ty ty, sx.tyx K, K.isi a ty ht (fun c fs z => by subst z; exact sx.bound), okD s k (.bl _)⟩
theorem lookup_zip : ∀ {fs : List (Str × V)} {ns : List Str} {ds : List D} {n : Str} {d : D}, fs.map (·.1) = ns → Rps g F (fs.map (·.2)) ds → (ns.zip ds).lookup n = some d → n ∈ ns ∧ ∃ v, fs.lookup n = some v ∧ Rep g F v d
  | [], ns, ds, n, d, h, r, e => by subst h; cases e
  | (m, v) :: fs, ns, [], n, d, h, r, e => by have := r.1; simp at this
  | (m, v) :: fs, ns, d' :: ds, n, d, h, r, e => by
    subst h
    simp only [List.map_cons, List.zip_cons_cons, List.lookup_cons] at e ⊢
    cases q : n == m with
    | true =>
      rw [q] at e
      cases e
      exact ⟨by rw [eq_of_beq q]; exact List.mem_cons_self, v, rfl, r.head⟩
    | false =>
      rw [q] at e
      obtain ⟨a, b⟩ := lookup_zip rfl r.tail e
      exact ⟨List.mem_cons_of_mem _ a, b⟩
theorem zip_mem {n : Str} {x : D} : ∀ {ns : List Str} {ds : List D}, (ns.zip ds).lookup n = some x → n ∈ ns
  | [], _, h => by cases h
  | m :: ns, [], h => by cases h
  | m :: ns, d :: ds, h => by
    simp only [List.zip_cons_cons, List.lookup_cons] at h
    cases e : n == m with
    | true => rw [eq_of_beq e]; exact List.mem_cons_self
    | false => rw [e] at h; exact List.mem_cons_of_mem _ (zip_mem h)
theorem fieldE_mem {T : Tb} {c : Nat} {fs : List D} {n : Str} {x : D} (h : fieldE T c fs n = some x) : n ∈ T.ef c := by
  unfold fieldE at h
  split at h
  · exact zip_mem h
  · cases h
theorem s_fld (K : KF g) {n : Str} (ha : Snd g W t ra) : Snd g W (tFldX g t n) fun ρ => (ra ρ).held.bind fun x ρ => fldR g.T n x ρ := fun ρ F σ H Q rl k => by
  refine ha.held.go rl k fun v ρ1 x F1 H1 s iv k => ?_
  unfold fldR at k
  cases e : excAt ρ1 v with
  | some p =>
    rw [e] at k
    obtain ⟨c, fs⟩ := p
    obtain ⟨z, ez, k⟩ := dat_inv k
    obtain ⟨p, d, h1, rfl, h0, dd, ws, h4, h5, h6⟩ := excAt_some s.rel iv e
    obtain ⟨y, hy, ry⟩ := h6 n z ez
    exact .inr ⟨p, c, d, dd, ws, y, h1, h0, ⟨c, h0, fieldE_mem ez⟩, rfl, h4, s.rel.same _ _ h5, hy, okD s k ry⟩
  | none =>
    rw [e] at k
    obtain ⟨a, ea, k⟩ := seen_inv k
    obtain ⟨z, ez, k2⟩ := dat_inv k
    have sx := s.rel.seen (IvP.ok (H0 := H) iv) ea
    cases a with
    | obj c fs =>
      simp only [fieldD] at ez
      split at ez
      · cases sx with
        | obj hc h hk r =>
          obtain ⟨hm, y, hy, ry⟩ := lookup_zip hk r ez
          obtain ⟨a, _, _, b⟩ := K.cls _ hc
          exact .inl ⟨_, _, _, _, y, rfl, h, a, b n hm, hy, okD s k2 ry⟩
      · cases ez
    | _ => cases ez
/-! ### dicts -/
inductive KR {κ : Type} (g : G0) (F : Hp) : List (κ × V) → List (κ × D) → Prop
  | nil : KR g F [] []
  | cons {k : κ} {v : V} {d : D} {kvs : List (κ × V)} {es : List (κ × D)} (h : Rep g F v d) (r : KR g F kvs es) : KR g F ((k, v) :: kvs) ((k, d) :: es)
theorem KR.of {κ : Type} : ∀ {kvs : List (κ × V)} {es : List (κ × D)}, kvs.map (·.1) = es.map (·.1) → Rps g F (kvs.map (·.2)) (es.map (·.2)) → KR g F kvs es
  | [], [], _, _ => .nil
  | [], _ :: _, h, _ => by cases h
  | _ :: _, [], h, _ => by cases h
  | (k, v) :: kvs, (k', d) :: es, h, r => by
    simp only [List.map_cons, List.cons.injEq] at h
    obtain ⟨h1, h2⟩ := h
    have h1 : k = k' := h1
    subst h1
    exact .cons r.head (KR.of h2 r.tail)
theorem KR.keys {κ : Type} {kvs : List (κ × V)} {es : List (κ × D)} (h : KR g F kvs es) : kvs.map (·.1) = es.map (·.1) := by
  induction h with
  | nil => rfl
  | cons h _ ih => simp [ih]
theorem KR.vals {κ : Type} {kvs : List (κ × V)} {es : List (κ × D)} (h : KR g F kvs es) : Rps g F (kvs.map (·.2)) (es.map (·.2)) := by
  induction h with
  | nil => exact .nil
  | cons h _ ih => exact .cons h ih
theorem KR.mono {κ : Type} {kvs : List (κ × V)} {es : List (κ × D)} (e : Same F F1) (h : KR g F kvs es) : KR g F1 kvs es := by
  induction h with
  | nil => exact .nil
  | cons h _ ih => exact .cons (h.mono e) ih
theorem KR.len {κ : Type} {kvs : List (κ × V)} {es : List (κ × D)} (h : KR g F kvs es) : kvs.length = es.length := by
  induction h with
  | nil => rfl
  | cons h _ ih => simp [ih]
theorem KR.put {κ : Type} [DecidableEq κ] {kvs : List (κ × V)} {es : List (κ × D)} {k : κ} {v : V} {d : D} (h : KR g F kvs es) (hd : Rep g F v d) : KR g F (putK kvs k v) (EN.put es k d) := by
  have any : (kvs.any fun p => decide (p.1 = k)) = (es.any fun p => decide (p.1 = k)) := by
    induction h with
    | nil => rfl
    | cons h _ ih => simp [ih]
  unfold putK EN.put
  rw [any]
  split
  · rename_i hh
    clear any hh
    induction h with
    | nil => exact .nil
    | @cons k' v' d' kvs es h _ ih =>
      simp only [List.map_cons]
      by_cases e : k' = k
      · rw [if_pos e, if_pos e]; exact .cons hd ih
      · rw [if_neg e, if_neg e]; exact .cons h ih
  · rename_i hh
    clear any hh
    induction h with
    | nil => exact .cons hd .nil
    | cons h _ ih => exact .cons h ih
theorem KR.all {more : List (Key × V)} {mes : List (Key × D)} (m : KR g F more mes) : ∀ {kvs : List (Key × V)} {es : List (Key × D)}, KR g F kvs es → KR g F (mergeK kvs more) (putAll es mes) := by
  induction m with
  | nil => intro kvs es h; exact h
  | cons h _ ih => intro kvs es r; exact ih (r.put h)
/-- pairs on their way -/
def SndPs (g : Gam) (W : WX) (t : List (TE × TE)) (r : Env → R (List (Key × D))) : Prop := ∀ ρ F σ H (Q : List (V × V) → Hp → Prop), Rl g ρ F σ H → Good (r ρ) (fun es ρ' => ∀ kvs F' H', Stp g ρ F σ H ρ' F' σ H' → KR g F' kvs es → Q (kvs.map fun kv => (kV kv.1, kv.2)) H') (ErQ g W ρ F σ H) → tPairs t σ H Q
theorem s_pnil : SndPs g W [] fun ρ => .ok [] ρ := fun ρ F σ H Q rl k => k [] F H (Stp.refl rl) .nil
theorem s_pcons {ts : List (TE × TE)} {rs : Env → R (List (Key × D))} (ha : Snd g W t ra) (hb : Snd g W u rb) (hr : SndPs g W ts rs) : SndPs g W ((t, u) :: ts) fun ρ => ((ra ρ).kept g.np).bind fun k ρ => ((rb ρ).kept g.np).bind fun v ρ => (rs ρ).bind fun kvs ρ => match k.key? with
    | some k => .ok ((k, v) :: kvs) ρ
    | none => .no := fun ρ F σ H Q rl k => by
  refine ha.kept.go rl k fun v ρ1 x F1 H1 s iv k => hb.kept.go s.rel k fun w ρ2 y F2 H2 s2 iw k => ?_
  refine hr ρ2 F2 σ H2 _ s2.rel ((Good.bind.mp k).mono (fun es ρ3 k kvs F3 H3 s3 kr => ?_) fun _ _ _ q => q)
  split at k
  · rename_i key e
    have := k ((key, y) :: kvs) F3 H3 ((s.trans s2).trans s3) (.cons ((iw.mono s3.ext)) kr)
    rw [iv.key e]
    exact this
  · exact k.elim
/-- an object of our own that nobody has yet, written -/
theorem Stp.own (rl : Rl g ρ F σ H) (hp : H p = none) (s1 : Stp g ρ F σ (upd H p o) ρ1 F1 σ1 H1) : F1 p = none ∧ (∀ i, ¬ Held ρ1 σ1 i p) ∧ H1 p = some o ∧ ∀ o', Stp g ρ F σ H ρ1 F1 σ1 (upd H1 p o') := by
  have fr := rl.free hp
  have n0 : ¬ Ow ρ σ p := fun ⟨i, h⟩ => fr.2 i h.held
  have e1 : H1 p = some o := s1.keep p _ upd_same n0
  have f1 : F1 p = none := by
    cases e : F1 p with
    | none => rfl
    | some u =>
      rcases s1.new p fr.1 (by rw [e]; exact fun z => nomatch z) with z | z
      · rw [upd_same] at z; cases z
      · exact absurd z n0
  have nw : ¬ Ow ρ1 σ1 p := fun h => (s1.ow p h).elim n0 fun z => by rw [upd_same] at z; cases z
  have n1 : ∀ i, ¬ Held ρ1 σ1 i p := fun i h => by
    obtain ⟨a, b⟩ := h
    rcases a with ⟨c, a⟩ | ⟨c, a⟩
    · exact nw ⟨i, ⟨c, a⟩, b⟩
    · obtain ⟨a', b'⟩ := s1.brw i c a
      exact fr.2 i ⟨.inr ⟨c, a'⟩, b'.symm.trans b⟩
  refine ⟨f1, n1, e1, fun o' => ⟨s1.rel.updH f1 n1, s1.ext, fun a x y => ?_, fun a u e n => ?_, fun a e => ?_, fun a h => ?_, s1.brw⟩⟩
  · have z : a ≠ p := fun z => by rw [z] at y; exact y f1
    rcases s1.new a x y with w | w
    · rw [upd_ne z] at w; exact .inl w
    · exact .inr w
  · have z : a ≠ p := fun z => by rw [z, hp] at e; cases e
    rw [upd_ne z]
    exact s1.keep a u (by rw [upd_ne z]; exact e) n
  · by_cases z : a = p
    · subst z; exact hp
    · rw [upd_ne z] at e
      have := s1.dom a e
      rw [upd_ne z] at this
      exact this
  · rcases s1.ow a h with w | w
    · exact .inl w
    · by_cases z : a = p
      · subst z; exact .inr hp
      · rw [upd_ne z] at w; exact .inr w
theorem s_dct {ts : List (TE × TE)} {rs : Env → R (List (Key × D))} (hr : SndPs g W ts rs) : Snd g W (tDisp ts) fun ρ => (rs ρ).bind fun kvs ρ => if kvs.length ≤ 15 then .ok (.fr (.dK (putAll [] kvs))) ρ else .no := fun ρ F σ H Q rl k => by
  intro p hp
  have s0 := Stp.alloc (o := .dK []) rl hp
  refine hr ρ F σ _ _ s0.rel ((Good.bind.mp k).mono (fun es ρ1 k kvs F1 H1 s1 kr => ?_) fun c fs ρ' e d F' H' s x => e d F' H' (s0.trans s) x)
  obtain ⟨hl, k⟩ := if_inv k
  obtain ⟨f1, n1, e1, w⟩ := Stp.own rl hp s1
  have kr2 : KR g F1 (mergeK [] kvs) (putAll [] es) := kr.all .nil
  exact ⟨e1, kvs, rfl, by rw [kr.len]; exact hl, k _ F1 _ (w _) ⟨p, rfl, hp, f1, .dK upd_same kr2.keys kr2.vals, rfl, n1⟩⟩
theorem s_dct0 : Snd g W tDNewK fun ρ => (R.ok ([] : List (Key × D)) ρ).bind fun kvs ρ => if kvs.length ≤ 15 then .ok (.fr (.dK (putAll [] kvs))) ρ else .no := fun ρ F σ H Q rl k p hp => by
  obtain ⟨_, k⟩ := if_inv k
  exact k.fresh rl hp (.dK upd_same rfl .nil) rfl
end
end EN
/-! Slices, walks, comprehensions. -/
namespace EN
open PySem L2
section
variable {g : Gam} {W : WX} {ρ ρ1 ρ2 : Env} {F F1 F2 H H1 H2 H0 : Hp} {σ σ1 σ2 : L2.St} {p : Addr} {o : HO} {i j : Nat} {Q : VK} {t u : TE} {ra rb : Env → R IV}
def SndO (g : Gam) (W : WX) (t : TO) (r : Env → R (Option Int)) : Prop := ∀ ρ F σ H (Q : Option Int → Hp → Prop), Rl g ρ F σ H → Good (r ρ) (fun o ρ' => ∀ F' H', Stp g ρ F σ H ρ' F' σ H' → Q o H') (ErQ g W ρ F σ H) → t σ H Q
theorem s_prt {nl : Bool} (ha : Snd g W t ra) : SndO g W (prt nl t) fun ρ => prtR g.np nl ra ρ := fun ρ F σ H Q rl k => by
  cases nl with
  | true => exact k F H (Stp.refl rl)
  | false =>
    refine ha.kept.go rl k fun v ρ1 x F1 H1 s iv k => ?_
    cases v with
    | int i => cases iv; exact ⟨i, rfl, k F1 H1 s⟩
    | _ => exact k.elim
theorem SndO.go {t : TO} {r : Env → R (Option Int)} {β : Type} {f : Option Int → Env → R β} {A : β → Env → Prop} {Q : Option Int → Hp → Prop} (h : SndO g W t r) (rl : Rl g ρ F σ H) (k : Good ((r ρ).bind f) A (ErQ g W ρ F σ H))
    (n : ∀ v ρ1 F1 H1, Stp g ρ F σ H ρ1 F1 σ H1 → Good (f v ρ1) A (ErQ g W ρ1 F1 σ H1) → Q v H1) : t σ H Q :=
  h ρ F σ H Q rl ((Good.bind.mp k).mono (fun v ρ1 k F1 H1 s => n v ρ1 F1 H1 s (k.mono (fun _ _ a => a) fun _ _ _ e => e.later s)) fun _ _ _ q => q)
theorem s_slc {tl th : TO} {rl' rh : Env → R (Option Int)} (ha : Snd g W t ra) (hl : SndO g W tl rl') (hh : SndO g W th rh) : Snd g W (tSl (rSLL g.K) t tl th) fun ρ => (ra ρ).held.bind fun x ρ => (rl' ρ).bind fun l ρ => (rh ρ).bind fun h ρ => seen ρ x fun x => .val ρ (opS x l h) := fun ρ F σ H Q rl k => by
  refine ha.held.go rl k fun v ρ1 x F1 H1 s iv k => hl.go s.rel k fun l ρ2 F2 H2 s2 k => hh.go s2.rel k fun h ρ3 F3 H3 s3 k => ?_
  obtain ⟨a, ea, k⟩ := seen_inv k
  obtain ⟨z, ez, k⟩ := val_inv k
  exact opS_ok s3.rel ((iv.mono s2.ext).mono s3.ext) ea ez (k.later ((s.trans s2).trans s3))
/-! ### walks -/
/-- what is walked stays, while its slot is lent -/
theorem stays {x : V} {v : IV} {d : D} (rl : Rl g ρ F σ H) (iv : IvP g F σ x v) (e : vw ρ v = some d) : ∀ ρ' F' σ' H', Stp g (lend ρ v) F σ H ρ' F' σ' H' → Sn g F' H' x d := fun ρ' F' σ' H' s => by
  cases v with
  | d y =>
    cases e
    exact Rep.sn s.rel.same (Rep.mono s.ext iv)
  | fr c => exact absurd iv id
  | sl i =>
    have h : σ[i]? = some (some x) := iv
    simp only [vw] at e
    simp only [lend] at s
    have y := rl.sl i
    cases q : ρ.at i with
    | un => rw [q] at e; cases e
    | d y' =>
      rw [q] at e y
      cases e
      cases y with
      | d h1 h2 => rw [h] at h1; cases h1; exact (h2.mono s.ext).sn s.rel.same
    | own c =>
      rw [q] at e y s
      cases e
      cases y with
      | own h1 hf h2 h3 =>
        rw [h] at h1; cases h1
        refine (h2.mono s.ext fun o ho => s.keep _ o ho fun ⟨j, ⟨c', hj⟩, z⟩ => ?_).sn h3
        rw [at_set] at hj
        split at hj
        · cases hj
        · rename_i nj
          refine rl.apart i j _ (fun w => nj ⟨w, at_lt (by rw [q]; exact fun z => nomatch z)⟩) ⟨⟨c, q⟩, h⟩ ⟨.inl ⟨c', hj⟩, z⟩
    | bor c =>
      rw [q] at e y s
      cases e
      cases y with
      | bor h1 hf h2 h3 =>
        rw [h] at h1; cases h1
        refine (h2.mono s.ext fun o ho => s.keep _ o ho fun ⟨j, ⟨c', hj⟩, z⟩ => ?_).sn h3
        by_cases w : j = i
        · rw [w, q] at hj; cases hj
        · exact rl.apart j i _ w ⟨⟨c', hj⟩, z⟩ ⟨.inr ⟨c, q⟩, h⟩
    | exc c fs => rw [q] at e; cases e
/-- J walks over ds -/
inductive Wk (g : Gam) (ρ : Env) (F : Hp) (σ : L2.St) (H : Hp) : It → List D → Prop
  | l {a : Addr} {ds : List D} (h : ∀ ρ' F' σ' H', Stp g ρ F σ H ρ' F' σ' H' → ∃ vs, SqL g.K H' a vs ∧ Rps g F' vs ds) : Wk g ρ F σ H (Itl g.K a) ds
  | t {a : Addr} {ds : List D} (h : ∀ ρ' F' σ' H', Stp g ρ F σ H ρ' F' σ' H' → ∃ vs, SqT g.K H' a vs ∧ Rps g F' vs ds) : Wk g ρ F σ H (Itt g.K a) ds
  | r (i j : Int) : Wk g ρ F σ H (Itr i (j - i).toNat) (rngD i j)
  | s (z : Str) : Wk g ρ F σ H (Its z) (z.cps.toList.map fun c => D.str ⟨#[c]⟩)
theorem rngD_len {i j : Int} : (rngD i j).length = (j - i).toNat := by simp [rngD]
theorem Wk.stop {J : It} {ds : List D} (w : Wk g ρ F σ H J ds) (s : Stp g ρ F σ H ρ1 F1 σ1 H1) {k : Nat} (h : ds.length ≤ k) : J.stop k H1 := by
  cases w with
  | l q => obtain ⟨vs, a, b⟩ := q _ _ _ _ s; exact ⟨vs, a, by rw [b.1]; exact h⟩
  | t q => obtain ⟨vs, a, b⟩ := q _ _ _ _ s; exact ⟨vs, a, by rw [b.1]; exact h⟩
  | r i j =>
    show (j - i).toNat ≤ k
    rw [← rngD_len]
    exact h
  | s z =>
    show z.cps.size ≤ k
    simpa using h
theorem Wk.go {J : It} {ds : List D} (w : Wk g ρ F σ H J ds) (s : Stp g ρ F σ H ρ1 F1 σ1 H1) {k : Nat} {d : D} (h : ds[k]? = some d) : J.go k H1 ∧ ∀ x H', J.yld k H1 x H' → H' = H1 ∧ Rep g F1 x d := by
  cases w with
  | l q =>
    obtain ⟨vs, a, b⟩ := q _ _ _ _ s
    obtain ⟨v, hv, r⟩ := b.at h
    refine ⟨⟨vs, v, a, hv⟩, fun x H' y => ⟨y.1, ?_⟩⟩
    have := y.2 vs a
    rw [hv] at this; cases this; exact r
  | t q =>
    obtain ⟨vs, a, b⟩ := q _ _ _ _ s
    obtain ⟨v, hv, r⟩ := b.at h
    refine ⟨⟨vs, v, a, hv⟩, fun x H' y => ⟨y.1, ?_⟩⟩
    have := y.2 vs a
    rw [hv] at this; cases this; exact r
  | r i j =>
    unfold rngD at h
    rw [List.getElem?_map] at h
    cases e : (List.range (j - i).toNat)[k]? with
    | none => rw [e] at h; cases h
    | some n =>
      rw [e] at h
      obtain ⟨hk, hn⟩ := List.getElem?_eq_some_iff.mp e
      rw [List.getElem_range] at hn
      subst hn
      cases h
      exact ⟨show k < (j - i).toNat from by rw [← List.length_range (n := (j - i).toNat)]; exact hk, fun x H' y => ⟨y.1, by rw [y.2]; exact .int _⟩⟩
  | s z =>
    rw [List.getElem?_map] at h
    cases e : z.cps.toList[k]? with
    | none => rw [e] at h; cases h
    | some c =>
      rw [e] at h
      cases h
      have hk : k < z.cps.size := by simpa using (List.getElem?_eq_some_iff.mp e).1
      refine ⟨hk, fun x H' y => ⟨y.1, ?_⟩⟩
      obtain ⟨c', hc', rfl⟩ := y.2
      rw [Array.getElem?_toList] at e
      rw [e] at hc'
      cases hc'
      exact .str _
def SndI (g : Gam) (W : WX) (t : TI) (r : Env → R (IV × List D)) : Prop := ∀ ρ F σ H (R : It → Hp → Prop), Rl g ρ F σ H → Good (r ρ) (fun p ρ' => ∀ J F' H', Stp g ρ F σ H ρ' F' σ H' → Wk g (lend ρ' p.1) F' σ H' J p.2 → p.2.length ≤ line → R J H') (ErQ g W ρ F σ H) → t σ H R
theorem s_itE (ha : Snd g W t ra) : SndI g W (iSeq g.K t) fun ρ => (ra ρ).held.bind fun x ρ => seen ρ x fun d => match walkD d with
    | some xs => if xs.length ≤ line then .ok (x, xs) ρ else .no
    | none => .no := fun ρ F σ H Z rl k => by
  refine ha.held.go rl k fun v ρ1 x F1 H1 s iv k => ?_
  obtain ⟨d, ed, k⟩ := seen_inv k
  cases e : walkD d with
  | none => rw [e] at k; exact k.elim
  | some xs =>
    rw [e] at k
    have k : Good (if xs.length ≤ line then R.ok (v, xs) ρ1 else R.no) (fun p ρ' => ∀ J F' H', Stp g ρ F σ H ρ' F' σ H' → Wk g (lend ρ' p.1) F' σ H' J p.2 → p.2.length ≤ line → Z J H') (ErQ g W ρ1 F1 σ H1) := k
    split at k
    · rename_i hl
      have st := stays s.rel iv ed
      have sx := s.rel.seen (IvP.ok (H0 := H) iv) ed
      unfold walkD at e
      split at e
      · cases e
        obtain ⟨a, vs, rfl, h1, h2⟩ := sx.isLst
        refine ⟨a, rfl, .inl ⟨vs, SqL.of h1, k _ F1 H1 s (.l fun ρ' F' σ' H' s' => ?_) hl⟩⟩
        obtain ⟨a', vs', e', h1, h2⟩ := (st _ _ _ _ s').isLst
        cases e'
        exact ⟨vs', SqL.of h1, h2⟩
      · cases e
        obtain ⟨a, vs, rfl, h1, h2⟩ := sx.isTup
        refine ⟨a, rfl, .inr ⟨vs, h1, k _ F1 H1 s (.t fun ρ' F' σ' H' s' => ?_) hl⟩⟩
        obtain ⟨a', vs', e', h1, h2⟩ := (st _ _ _ _ s').isTup
        cases e'
        exact ⟨vs', h1, h2⟩
      · cases e
        cases sx with
        | scr h =>
          refine ⟨_, rfl, .inl ⟨_, h, k _ F1 H1 s (.l fun ρ' F' σ' H' s' => ?_) hl⟩⟩
          cases st _ _ _ _ s' with
          | scr h' => exact ⟨_, h', scr_rel⟩
      · cases e
    · exact k.elim
theorem s_txt (ha : Snd g W t ra) : SndI g W (iStr t) fun ρ => ((ra ρ).kept g.np).bind fun x ρ => match x with
    | .str z => if z.length ≤ line then .ok (.d .non, z.cps.toList.map fun c => D.str ⟨#[c]⟩) ρ else .no
    | _ => .no := fun ρ F σ H Z rl k => by
  refine ha.kept.go rl k fun v ρ1 x F1 H1 s iv k => ?_
  cases v with
  | str z =>
    cases iv
    have k : Good (if z.length ≤ line then R.ok (IV.d .non, z.cps.toList.map fun c => D.str ⟨#[c]⟩) ρ1 else R.no) (fun p ρ' => ∀ J F' H', Stp g ρ F σ H ρ' F' σ H' → Wk g (lend ρ' p.1) F' σ H' J p.2 → p.2.length ≤ line → Z J H') (ErQ g W ρ1 F1 σ H1) := k
    split at k
    · rename_i h
      exact ⟨z, rfl, k _ F1 H1 s (.s z) (by rw [List.length_map, Array.length_toList]; exact h)⟩
    · exact k.elim
  | _ => exact k.elim
theorem rngOk_of {i j : Int} (h : rngOk i j = true) : (-(2 ^ 62) ≤ i ∧ i < 2 ^ 62 ∧ -(2 ^ 62) ≤ j ∧ j < 2 ^ 62) ∧ (rngD i j).length ≤ line := by
  obtain ⟨h1, h2, h3, h4, h5⟩ := of_decide_eq_true h
  refine ⟨⟨h1, h2, h3, h4⟩, ?_⟩
  rw [rngD_len]
  omega
theorem s_rng (ha : Snd g W t ra) : SndI g W (iRng1 (tCons t tNil)) fun ρ => ((ra ρ).kept g.np).bind fun x ρ => match x with
    | .int j => if rngOk 0 j then .ok (.d .non, rngD 0 j) ρ else .no
    | _ => .no := fun ρ F σ H Z rl k => by
  refine ha.kept.go rl k fun v ρ1 x F1 H1 s iv k => ?_
  cases v with
  | int j =>
    cases iv
    have k : Good (if rngOk 0 j = true then R.ok (IV.d .non, rngD 0 j) ρ1 else R.no) (fun p ρ' => ∀ J F' H', Stp g ρ F σ H ρ' F' σ H' → Wk g (lend ρ' p.1) F' σ H' J p.2 → p.2.length ≤ line → Z J H') (ErQ g W ρ1 F1 σ H1) := k
    split at k
    · rename_i h
      obtain ⟨h1, h2⟩ := rngOk_of h
      have w : Wk g ρ1 F1 σ H1 (Itr 0 (j - 0).toNat) (rngD 0 j) := .r 0 j
      rw [Int.sub_zero] at w
      exact ⟨j, rfl, h1.2.2.1, h1.2.2.2, k _ F1 H1 s w h2⟩
    · exact k.elim
  | _ => exact k.elim
theorem s_rng2 (ha : Snd g W t ra) (hb : Snd g W u rb) : SndI g W (iRng2 (tCons t (tCons u tNil))) fun ρ => ((ra ρ).kept g.np).bind fun x ρ => ((rb ρ).kept g.np).bind fun y ρ => match x, y with
    | .int i, .int j => if rngOk i j then .ok (.d .non, rngD i j) ρ else .no
    | _, _ => .no := fun ρ F σ H Z rl k => by
  refine ha.kept.go rl k fun v ρ1 x F1 H1 s iv k => hb.kept.go s.rel k fun w ρ2 y F2 H2 s2 iw k => ?_
  cases v with
  | int i =>
    cases w with
    | int j =>
      cases iv
      cases iw
      have k : Good (if rngOk i j = true then R.ok (IV.d .non, rngD i j) ρ2 else R.no) (fun p ρ' => ∀ J F' H', Stp g ρ F σ H ρ' F' σ H' → Wk g (lend ρ' p.1) F' σ H' J p.2 → p.2.length ≤ line → Z J H') (ErQ g W ρ2 F2 σ H2) := k
      split at k
      · rename_i h
        obtain ⟨h1, h2⟩ := rngOk_of h
        exact ⟨i, j, rfl, h1, k _ F2 H2 (s.trans s2) (.r i j) h2⟩
      · exact k.elim
    | _ => exact k.elim
  | _ => exact k.elim
end
end EN
/-! Comprehensions. -/
namespace EN
open PySem L2
section
variable {g : Gam} {W : WX} {ρ ρ' ρ1 ρ2 : Env} {F F1 F2 H H1 H2 H0 : Hp} {σ σ' σ1 σ2 : L2.St} {p : Addr} {o : HO} {i j : Nat} {Q : VK} {t u : TE} {ra rb : Env → R IV}
theorem Good.calm {α : Type} {r : R α} {A : α → Env → Prop} {B B' : Nat → List D → Env → Prop} (k : Good r.calm A B) : Good r A B' := by
  cases r with
  | ok a ρ => exact k
  | er c fs ρ => exact k.elim
  | no => exact k
/-- apart from slot i nothing differs -/
def Off (i : Nat) (ρ : Env) (σ : L2.St) (ρ' : Env) (σ' : L2.St) : Prop := ∀ j, j ≠ i → ρ.at j = ρ'.at j ∧ σ[j]? = σ'[j]?
def NoOB (s : Slot) : Prop := ∀ c, s ≠ .own c ∧ s ≠ .bor c
theorem Off.symm (h : Off i ρ σ ρ' σ') : Off i ρ' σ' ρ σ := fun j n => ⟨(h j n).1.symm, (h j n).2.symm⟩
theorem Off.own (h : Off i ρ σ ρ' σ') (n : NoOB (ρ.at i)) (k : Own ρ σ j p) : Own ρ' σ' j p := by
  by_cases e : j = i
  · subst e; obtain ⟨⟨c, z⟩, _⟩ := k; exact absurd z (n c).1
  · obtain ⟨⟨c, z⟩, w⟩ := k; obtain ⟨a, b⟩ := h j e; exact ⟨⟨c, a ▸ z⟩, b ▸ w⟩
theorem Off.held (h : Off i ρ σ ρ' σ') (n : NoOB (ρ.at i)) (k : Held ρ σ j p) : Held ρ' σ' j p := by
  by_cases e : j = i
  · subst e
    obtain ⟨z, _⟩ := k
    rcases z with ⟨c, z⟩ | ⟨c, z⟩
    · exact absurd z (n c).1
    · exact absurd z (n c).2
  · obtain ⟨z, w⟩ := k
    obtain ⟨a, b⟩ := h j e
    exact ⟨by rw [← a]; exact z, b ▸ w⟩
theorem Off.ow (h : Off i ρ σ ρ' σ') (n : NoOB (ρ.at i)) (k : Ow ρ σ p) : Ow ρ' σ' p := let ⟨j, k⟩ := k; ⟨j, h.own n k⟩
theorem SlOk.off {s : Slot} (e : σ[j]? = σ'[j]?) (h : SlOk g F σ H j s) : SlOk g F σ' H j s := by
  cases h with
  | un => exact .un
  | d h r => exact .d (e ▸ h) r
  | own h hf r ft => exact .own (e ▸ h) hf r ft
  | bor h hf r ft => exact .bor (e ▸ h) hf r ft
  | exc hp h f => exact .exc hp (e ▸ h) f
theorem Rl.off (r : Rl g ρ F σ H) (h : Off i ρ σ ρ' σ') (hl : ρ'.length = σ'.length) (n : NoOB (ρ.at i)) (n' : NoOB (ρ'.at i)) (si : SlOk g F σ' H i (ρ'.at i)) : Rl g ρ' F σ' H where
  same := r.same
  len := hl
  sl := fun j => by
    by_cases e : j = i
    · subst e; exact si
    · obtain ⟨a, b⟩ := h j e
      rw [← a]
      exact (r.sl j).off b
  apart := fun a b q z x y => r.apart a b q z (h.symm.own n' x) (h.symm.held n' y)
  old := fun a q x => r.old a q (h.symm.own n' x)
  new := fun a q x => r.new a q (h.symm.own n' x)
/-- a step, seen from where slot i differs -/
theorem Stp.off {τ τ' : L2.St} {θ θ' : Env} (s : Stp g ρ F σ H ρ' F1 σ' H1) (h : Off i ρ σ θ τ) (h' : Off i ρ' σ' θ' τ') (n : NoOB (ρ.at i)) (n2 : NoOB (θ.at i)) (n' : NoOB (ρ'.at i)) (n2' : NoOB (θ'.at i)) (r : Rl g θ' F1 τ' H1) : Stp g θ F τ H θ' F1 τ' H1 where
  rel := r
  ext := s.ext
  new := fun a x y => (s.new a x y).imp_right fun z => h.ow n z
  keep := fun a o e z => s.keep a o e fun w => z (h.ow n w)
  dom := s.dom
  ow := fun a z => (s.ow a (h'.symm.ow n2' z)).imp_left fun w => h.ow n w
  brw := fun j c z => by
    by_cases e : j = i
    · subst e; exact absurd z (n2' c).2
    · obtain ⟨a, b⟩ := h' j e
      obtain ⟨a', b'⟩ := h j e
      rw [← a] at z
      obtain ⟨x, y⟩ := s.brw j c z
      exact ⟨a' ▸ x, by rw [← b, ← b']; exact y⟩
theorem off_set {s : Slot} {x : Option V} : Off i ρ σ (ρ.set i s) (σ.set i x) := fun j n => ⟨(at_set_ne fun z => n z.symm).symm, by rw [List.getElem?_set_ne fun z => n z.symm]⟩
theorem off_refl : Off i ρ σ ρ σ := fun _ _ => ⟨rfl, rfl⟩
theorem Off.trans {ρ2 : Env} {σ2 : L2.St} (a : Off i ρ σ ρ1 σ1) (b : Off i ρ1 σ1 ρ2 σ2) : Off i ρ σ ρ2 σ2 := fun j n => ⟨(a j n).1.trans (b j n).1, (a j n).2.trans (b j n).2⟩
theorem nob_un : NoOB .un := fun c => notOB_un c
theorem nob_d {x : D} : NoOB (.d x) := fun c => notOB_d c
theorem nob_set {s : Slot} (h : NoOB s) : NoOB (Env.at (ρ.set i s) i) := by
  rw [at_set]
  split
  · exact h
  · rename_i q
    have : ¬ i < ρ.length := fun z => q ⟨rfl, z⟩
    intro c
    have e : ρ.at i = .un := by
      by_cases w : ρ.at i = .un
      · exact w
      · exact absurd (at_lt w) this
    rw [e]
    exact notOB_un c
/-- slot i bound to a value -/
theorem Rl.bnd {x : V} {d : D} (r : Rl g ρ F σ H) (n : NoOB (ρ.at i)) (h : Rep g F x d) : Rl g (ρ.set i (.d d)) F (σ.set i (some x)) H := by
  refine r.off (i := i) off_set (by rw [List.length_set, List.length_set]; exact r.len) n (nob_set nob_d) ?_
  rw [at_set]
  split
  · rename_i q
    exact .d (by rw [List.getElem?_set_self (by rw [← r.len]; exact q.2)]) h
  · rename_i q
    have e : ρ.at i = .un := by
      by_cases w : ρ.at i = .un
      · exact w
      · exact absurd ⟨rfl, at_lt w⟩ q
    rw [e]; exact .un
theorem Rl.unb (r : Rl g ρ F σ H) (n : NoOB (ρ.at i)) (x : Option V) : Rl g (ρ.set i .un) F (σ.set i x) H := by
  refine r.off (i := i) off_set (by rw [List.length_set, List.length_set]; exact r.len) n (nob_set nob_un) ?_
  rw [at_set]
  split
  · exact .un
  · rename_i q
    have e : ρ.at i = .un := by
      by_cases w : ρ.at i = .un
      · exact w
      · exact absurd ⟨rfl, at_lt w⟩ q
    rw [e]; exact .un
/-- what nobody holds stays, and nobody holds it -/
theorem Stp.free (s : Stp g ρ F σ H ρ1 F1 σ1 H1) (h : H p = some o) (f : F p = none) (n : ∀ i, ¬ Held ρ σ i p) : H1 p = some o ∧ F1 p = none ∧ ∀ i, ¬ Held ρ1 σ1 i p := by
  have n0 : ¬ Ow ρ σ p := fun ⟨i, h⟩ => n i h.held
  refine ⟨s.keep p o h n0, ?_, fun j z => ?_⟩
  · cases e : F1 p with
    | none => rfl
    | some u =>
      rcases s.new p f (by rw [e]; exact fun z => nomatch z) with z | z
      · rw [h] at z; cases z
      · exact absurd z n0
  · obtain ⟨a, b⟩ := z
    rcases a with ⟨c, a⟩ | ⟨c, a⟩
    · rcases s.ow p ⟨j, ⟨c, a⟩, b⟩ with z | z
      · exact n0 z
      · rw [h] at z; cases z
    · obtain ⟨a', b'⟩ := s.brw j c a
      exact n j ⟨.inr ⟨c, a'⟩, b'.symm.trans b⟩
/-- a write to what nobody holds, that was not there at the beginning -/
theorem Stp.wr (s : Stp g ρ F σ H ρ1 F1 σ1 H1) (hp : H p = none) (f : F1 p = none) (n : ∀ i, ¬ Held ρ1 σ1 i p) : Stp g ρ F σ H ρ1 F1 σ1 (upd H1 p o) where
  rel := s.rel.updH f n
  ext := s.ext
  new := s.new
  keep := fun a u e z => by rw [upd_ne (ne_of_none e hp)]; exact s.keep a u e z
  dom := fun a e => by
    by_cases z : a = p
    · subst z; exact hp
    · rw [upd_ne z] at e; exact s.dom a e
  ow := s.ow
  brw := s.brw
/-! ### a slot lent -/
theorem lend_len {v : IV} : (lend ρ v).length = ρ.length := by
  unfold lend
  split
  · split
    · rw [List.length_set]
    · rfl
  · rfl
theorem bor_ne_own {c : Cn} : ∀ c', Slot.bor c ≠ .own c' := fun _ => Slot.noConfusion
theorem lend_own {v : IV} (h : Own (lend ρ v) σ j p) : Own ρ σ j p := by
  unfold lend at h
  split at h
  · split at h
    · exact own_set bor_ne_own h
    · exact h
  · exact h
theorem lend_held {v : IV} (h : Held (lend ρ v) σ j p) : Held ρ σ j p := by
  unfold lend at h
  split at h
  · split at h
    · rename_i i _ c e
      obtain ⟨a, b⟩ := h
      by_cases z : i = j
      · subst z; exact ⟨.inl ⟨c, e⟩, b⟩
      · rw [at_set_ne z] at a; exact ⟨a, b⟩
    · exact h
  · exact h
theorem Rl.lend {v : IV} (r : Rl g ρ F σ H) : Rl g (lend ρ v) F σ H where
  same := r.same
  len := by rw [lend_len]; exact r.len
  sl := fun j => by
    unfold EN.lend
    split
    · split
      · rename_i i _ c e
        rw [at_set]
        split
        · rename_i q
          obtain ⟨rfl, _⟩ := q
          have y := r.sl i
          rw [e] at y
          cases y with
          | own h1 h2 h3 h4 => exact .bor h1 h2 h3 h4
        · exact r.sl j
      · exact r.sl j
    · exact r.sl j
  apart := fun a b q n x y => r.apart a b q n (lend_own x) (lend_held y)
  old := fun a q x => r.old a q (lend_own x)
  new := fun a q x => r.new a q (lend_own x)
/-- given back -/
theorem Stp.unlend {v : IV} (r : Rl g ρ F σ H) (s : Stp g (EN.lend ρ v) F σ H ρ1 F1 σ1 H1) : Stp g ρ F σ H (EN.unlend ρ ρ1 v) F1 σ1 H1 := by
  have base : ρ1 = EN.unlend ρ ρ1 v → (∀ j c, ρ1.at j = .bor c → (EN.lend ρ v).at j = .bor c → ρ.at j = .bor c) → Stp g ρ F σ H (EN.unlend ρ ρ1 v) F1 σ1 H1 := fun e hb => by
    rw [← e]
    exact ⟨s.rel, s.ext, fun a x y => (s.new a x y).imp_right fun ⟨j, z⟩ => ⟨j, lend_own z⟩, fun a u e z => s.keep a u e fun ⟨j, w⟩ => z ⟨j, lend_own w⟩, s.dom, fun a z => (s.ow a z).imp_left fun ⟨j, w⟩ => ⟨j, lend_own w⟩, fun j c z => let ⟨x, y⟩ := s.brw j c z; ⟨hb j c z x, y⟩⟩
  cases v with
  | d x => exact base rfl fun _ _ _ h => h
  | fr c => exact base rfl fun _ _ _ h => h
  | sl i =>
    cases e : ρ.at i with
    | own c =>
      have le : EN.lend ρ (.sl i) = ρ.set i (.bor c) := by simp only [EN.lend]; rw [e]
      have hi : i < ρ.length := at_lt (by rw [e]; exact fun z => nomatch z)
      cases e1 : ρ1.at i with
      | bor c1 =>
        obtain ⟨p, h1, _⟩ := r.ownAt e
        rw [le] at s base
        obtain ⟨x, y⟩ := s.brw i c1 e1
        have ue : EN.unlend ρ ρ1 (.sl i) = ρ1.set i (.own c1) := by simp only [EN.unlend]; rw [e, e1]
        have hi1 : i < ρ1.length := at_lt (by rw [e1]; exact fun z => nomatch z)
        have own_i : Own ρ σ i p := ⟨⟨c, e⟩, h1⟩
        have np : ∀ q, Own ρ1 σ1 q p → False := fun q z => by
          rcases s.ow p ⟨q, z⟩ with ⟨j, w⟩ | w
          · have w' : Own ρ σ j p := own_set bor_ne_own w
            by_cases q2 : j = i
            · obtain ⟨⟨c', w⟩, _⟩ := w
              rw [q2, at_set_same hi] at w
              cases w
            · exact r.apart j i p q2 w' own_i.held
          · obtain ⟨_, _, _, h3, _⟩ := r.ownAt e
            rename_i p' h1' _ _
            rw [h1] at h1'; cases h1'
            obtain ⟨o, ho⟩ := h3.there
            rw [ho] at w; cases w
        have ob : ∀ {j q}, Own (ρ1.set i (.own c1)) σ1 j q → (j = i ∧ q = p) ∨ (j ≠ i ∧ Own ρ1 σ1 j q) := fun {j q} z => by
          obtain ⟨⟨c', z⟩, w⟩ := z
          by_cases q2 : j = i
          · subst q2
            rw [y, h1] at w
            cases w
            exact .inl ⟨rfl, rfl⟩
          · rw [at_set_ne fun z => q2 z.symm] at z
            exact .inr ⟨q2, ⟨c', z⟩, w⟩
        have hb : ∀ {j q}, Held (ρ1.set i (.own c1)) σ1 j q → j ≠ i → Held ρ1 σ1 j q := fun {j q} z n => by
          obtain ⟨z, w⟩ := z
          rw [at_set_ne fun z => n z.symm] at z
          exact ⟨z, w⟩
        have s_i := s.rel.sl i
        rw [e1] at s_i
        rw [ue]
        refine ⟨⟨s.rel.same, by rw [List.length_set]; exact s.rel.len, fun j => ?_, fun a b q n x y => ?_, fun a q x => ?_, fun a q x => ?_⟩, s.ext, fun a x y => (s.new a x y).imp_right fun ⟨j, z⟩ => ⟨j, own_set bor_ne_own z⟩,
          fun a u e z => s.keep a u e fun ⟨j, w⟩ => z ⟨j, own_set bor_ne_own w⟩, s.dom, fun a z => ?_, fun j c' z => ?_⟩
        · rw [at_set]
          split
          · rename_i q
            obtain ⟨rfl, _⟩ := q
            cases s_i with
            | bor h1 h2 h3 h4 => exact .own h1 h2 h3 h4
          · exact s.rel.sl j
        · rcases ob x with ⟨rfl, rfl⟩ | ⟨h, x3⟩
          · have y := hb y fun z => n z.symm
            obtain ⟨y1, y2⟩ := y
            rcases y1 with ⟨c', y1⟩ | ⟨c', y1⟩
            · exact np b ⟨⟨c', y1⟩, y2⟩
            · obtain ⟨z1, z2⟩ := s.brw b c' y1
              rw [at_set_ne n] at z1
              exact r.apart a b q n own_i ⟨.inr ⟨c', z1⟩, z2.symm.trans y2⟩
          · by_cases h' : b = i
            · subst h'
              have : q = p := by
                obtain ⟨_, y2⟩ := y
                rw [‹σ1[b]? = σ[b]?›, h1] at y2
                cases y2; rfl
              subst this
              exact np a x3
            · exact s.rel.apart a b q n x3 (hb y h')
        · rcases ob x with ⟨rfl, rfl⟩ | ⟨h, x⟩
          · exact r.old _ _ own_i
          · exact s.rel.old a q x
        · rcases ob x with ⟨rfl, rfl⟩ | ⟨h, x⟩
          · exact r.new _ _ own_i
          · exact s.rel.new a q x
        · obtain ⟨j, z⟩ := z
          rcases ob z with ⟨rfl, rfl⟩ | ⟨h, z⟩
          · exact .inl ⟨_, own_i⟩
          · exact (s.ow a ⟨j, z⟩).imp_left fun ⟨j, w⟩ => ⟨j, own_set bor_ne_own w⟩
        · by_cases q : j = i
          · subst q; rw [at_set_same hi1] at z; cases z
          · rw [at_set_ne fun z => q z.symm] at z
            obtain ⟨a, b⟩ := s.brw j c' z
            rw [at_set_ne fun z => q z.symm] at a
            exact ⟨a, b⟩
      | _ =>
        refine base (by simp only [EN.unlend]; rw [e, e1]) fun j c' z w => ?_
        rw [le] at w
        by_cases q : j = i
        · subst q; rw [e1] at z; cases z
        · rw [at_set_ne fun z => q z.symm] at w; exact w
    | _ => exact base (by simp only [EN.unlend]; rw [e]) fun j c' z w => by simp only [EN.lend] at w; rw [e] at w; exact w
end
end EN
/-! Comprehensions: the rule. -/
namespace EN
open PySem L2
section
variable {g : Gam} {W : WX} {ρ ρ' ρ1 ρ2 : Env} {F F1 F2 H H1 H2 H0 : Hp} {σ σ' σ1 σ2 : L2.St} {p : Addr} {o : HO} {i j : Nat} {Q : VK} {t u : TE} {ra rb : Env → R IV}
theorem off_un {s : Slot} : Off i ρ σ (ρ.set i s) σ := fun j n => ⟨(at_set_ne fun z => n z.symm).symm, rfl⟩
theorem off_st {x : Option V} : Off i ρ σ ρ (σ.set i x) := fun j n => ⟨rfl, by rw [List.getElem?_set_ne fun z => n z.symm]⟩
theorem at_un (h : ¬ i < ρ.length) : ρ.at i = .un := by
  by_cases w : ρ.at i = .un
  · exact w
  · exact absurd (at_lt w) h
theorem un_self (h : ρ.at i = .un) : Env.at (ρ.set i .un) i = .un := by
  rw [at_set]
  split
  · rfl
  · exact h
theorem set_un_at : Env.at (ρ.set i .un) i = .un := by
  rw [at_set]
  split
  · rfl
  · rename_i q; exact at_un fun z => q ⟨rfl, z⟩
/-- one turn: the slot is bound, something runs, the slot is free again -/
theorem turnS {x : V} {d : D} (r : Rl g (ρ.set i .un) F σ H) (hσ : σ.set i none = σ) (h : Rep g F x d) : Rl g (ρ.set i (.d d)) F (σ.set i (some x)) H ∧
    ∀ ρ1 F1 H1, NoOB (ρ1.at i) → Stp g (ρ.set i (.d d)) F (σ.set i (some x)) H ρ1 F1 (σ.set i (some x)) H1 → Stp g (ρ.set i .un) F σ H (ρ1.set i .un) F1 σ H1 := by
  have r2 := r.bnd (i := i) (by rw [set_un_at]; exact nob_un) h
  rw [List.set_set] at r2
  refine ⟨r2, fun ρ1 F1 H1 n s => ?_⟩
  have r3 := s.rel.unb n none
  rw [List.set_set, hσ] at r3
  refine s.off (i := i) (fun j n => ?_) (fun j n => ?_) (nob_set nob_d) (by rw [set_un_at]; exact nob_un) n (by rw [set_un_at]; exact nob_un) r3
  · rw [at_set_ne fun z => n z.symm, at_set_ne fun z => n z.symm, List.getElem?_set_ne fun z => n z.symm]; exact ⟨rfl, rfl⟩
  · rw [at_set_ne fun z => n z.symm, List.getElem?_set_ne fun z => n z.symm]; exact ⟨rfl, rfl⟩
theorem nobB_of {s : Slot} (h : nobB s = true) : NoOB s := fun c => ⟨(fun z => by subst z; cases h), (fun z => by subst z; cases h)⟩
theorem nobR_inv {α : Type} {r : R α} {A : α → Env → Prop} {B : Nat → List D → Env → Prop} (k : Good (nobR i ρ r) A B) : NoOB (ρ.at i) ∧ Good r A B := by
  unfold nobR at k
  split at k
  · rename_i e; exact ⟨nobB_of e, k⟩
  · exact k.elim
theorem lend_at {v : IV} (n : NoOB (ρ.at i)) : (lend ρ v).at i = ρ.at i := by
  unfold lend
  split
  · split
    · rename_i j _ c e
      by_cases z : j = i
      · subst z; exact absurd e (n c).1
      · rw [at_set_ne z]
    · rfl
  · rfl
theorem unlend_set {v : IV} {s : Slot} (n : NoOB (ρ.at i)) : unlend ρ (ρ1.set i s) v = (unlend ρ ρ1 v).set i s := by
  cases v with
  | sl j =>
    by_cases z : j = i
    · subst z
      have e : ∀ ρ2, unlend ρ ρ2 (.sl j) = ρ2 := fun ρ2 => by
        simp only [unlend]
        split
        · rename_i e _; exact absurd e (n _).1
        · rfl
      rw [e, e]
    · simp only [unlend]
      rw [at_set_ne fun w => z w.symm]
      split
      · rw [List.set_comm _ _ fun w => z w.symm]
      · rfl
  | _ => rfl
theorem unlend_held {v : IV} (h : Held (unlend ρ ρ1 v) σ j p) : Held ρ1 σ j p := by
  unfold unlend at h
  split at h
  · split at h
    · rename_i i _ _ _ c e1 e2
      obtain ⟨a, b⟩ := h
      by_cases z : i = j
      · subst z; exact ⟨.inr ⟨c, e2⟩, b⟩
      · rw [at_set_ne z] at a; exact ⟨a, b⟩
    · exact h
  · exact h
theorem drop_at {α : Type} {ds : List α} {k : Nat} {d : α} (h : ds[k]? = some d) : ds.drop k = d :: ds.drop (k + 1) := by
  obtain ⟨a, b⟩ := List.getElem?_eq_some_iff.mp h
  rw [List.drop_eq_getElem_cons a, b]
theorem lc_loop {v : IV} {s : Slot} {J : It} {ds : List D} {tt : TT} {rc : Env → R Bool} {te : TE} {re : Env → R IV} {B : Nat → List D → Env → Prop} (rl : Rl g ρ F σ H) (hs : ρ.at i = s) (ns : NoOB s) (w : Wk g (lend ρ v) F σ H J ds) (hl : ds.length ≤ line)
    (hc : SndT g W0 tt rc) (he : Snd g W0 te re) (k : Good (lcRun i rc (fun ρ => (re ρ).kept g.np) ds ((lend ρ v).set i .un)) (fun ys ρ' => OkQ g ρ F σ H Q (.fr (.lst ys)) ((unlend ρ ρ' v).set i s)) B) :
    ∀ D, H D = none → ∃ W : Nat → Nat → Hp → Prop, (∃ m, W 0 m (upd H D (.lst []))) ∧ ∀ i' m H, W i' m H →
      (J.stop i' H ∧ Q (.ref D) H) ∨ (J.go i' H ∧ ∃ Nx : Hp → Prop, (∀ H', Nx H' → ∃ m', m' < m ∧ W (i' + 1) m' H') ∧ ∀ x H', J.yld i' H x H' → gName i x (wipe σ [i]) H' fun σ2 H2 => wipe σ2 [i] = wipe σ [i] ∧ tt σ2 H2 fun b H3 =>
        if b = true then te σ2 H3 fun y H4 => ∃ acc, H4 D = some (.lst acc) ∧ acc.length < sizeLine ∧ Nx (upd H4 D (.lst (acc ++ [y]))) else Nx H3) := by
  intro D hD
  have nl : NoOB ((lend ρ v).at i) := by rw [lend_at (hs ▸ ns), hs]; exact ns
  have r0 : Rl g ((lend ρ v).set i .un) F (σ.set i none) H := rl.lend.unb nl none
  have b0 : Stp g (lend ρ v) F σ H ((lend ρ v).set i .un) F (σ.set i none) H := (Stp.refl rl.lend).off (i := i) off_refl off_set nl nl nl (by rw [set_un_at]; exact nob_un) r0
  have hσ : (σ.set i none).set i none = σ.set i none := List.set_set ..
  let WW : Nat → Nat → Hp → Prop := fun k m Hk => k + m = ds.length ∧ ∃ ρk Fk acc ys, Stp g ((lend ρ v).set i .un) F (σ.set i none) H (ρk.set i .un) Fk (σ.set i none) Hk ∧ Hk D = some (.lst acc) ∧ Fk D = none ∧ (∀ j, ¬ Held (ρk.set i .un) (σ.set i none) j D) ∧ Rps g Fk acc ys ∧
    ys.length ≤ k ∧ Good (lcRun i rc (fun ρ => (re ρ).kept g.np) (ds.drop k) ρk) (fun zs ρ' => OkQ g ρ F σ H Q (.fr (.lst (ys ++ zs))) ((unlend ρ ρ' v).set i s)) B
  refine ⟨WW, ⟨ds.length, by omega, (lend ρ v).set i .un, F, [], [], ?_, upd_same, (r0.free hD).1, ?_, .nil, Nat.le_refl _, ?_⟩, ?_⟩
  · rw [List.set_set]; exact Stp.alloc r0 hD
  · rw [List.set_set]; exact (r0.free hD).2
  · exact k
  rintro k m Hk ⟨km, ρk, Fk, acc, ys, st, hDk, hFk, nh, ra, ly, kk⟩
  cases e : ds[k]? with
  | none =>
    have hk : ds.length ≤ k := List.getElem?_eq_none_iff.mp e
    refine .inl ⟨w.stop (b0.trans st) hk, ?_⟩
    rw [List.drop_eq_nil_of_le hk] at kk
    have kk : OkQ g ρ F σ H Q (.fr (.lst (ys ++ []))) ((unlend ρ ρk v).set i s) := kk
    rw [List.append_nil] at kk
    have sl : SlOk g Fk σ Hk i s := by
      have y := rl.sl i
      rw [hs] at y
      cases y with
      | un => exact .un
      | d h r => exact .d h (r.mono st.ext)
      | own => exact absurd rfl (ns _).1
      | bor => exact absurd rfl (ns _).2
      | exc hp h f => exact .exc hp h (f.mono st.ext)
    have offB : Off i (ρk.set i .un) (σ.set i none) (ρk.set i s) σ := fun j n => ⟨by rw [at_set_ne fun z => n z.symm, at_set_ne fun z => n z.symm], by rw [List.getElem?_set_ne fun z => n z.symm]⟩
    have rB : Rl g (ρk.set i s) Fk σ Hk := by
      refine st.rel.off (i := i) offB ?_ (by rw [set_un_at]; exact nob_un) (nob_set ns) ?_
      · have := st.rel.len
        rw [List.length_set, List.length_set] at this
        rw [List.length_set]; exact this
      · rw [at_set]
        split
        · exact sl
        · rename_i q
          rw [at_un fun z => q ⟨rfl, z⟩]; exact .un
    have sB : Stp g (lend ρ v) F σ H (ρk.set i s) Fk σ Hk := (b0.trans st).off (i := i) off_refl offB nl nl (by rw [set_un_at]; exact nob_un) (nob_set ns) rB
    have sE := Stp.unlend rl sB
    rw [← unlend_set (hs ▸ ns)] at kk
    refine kk (.ref D) Fk Hk sE ⟨D, rfl, hD, hFk, .lst hDk ra, rfl, fun j h => ?_⟩
    exact nh j (offB.symm.held (nob_set ns) (unlend_held h))
  | some d =>
    obtain ⟨hk, _⟩ := List.getElem?_eq_some_iff.mp e
    obtain ⟨go, yl⟩ := w.go (b0.trans st) e
    refine .inr ⟨go, fun H' => WW (k + 1) (m - 1) H', fun H' h => ⟨m - 1, by omega, h⟩, fun x H' y => ?_⟩
    obtain ⟨rfl, rx⟩ := yl x H' y
    obtain ⟨r2, back⟩ := turnS st.rel hσ rx
    rw [drop_at e] at kk
    refine ⟨?_, ?_⟩
    · show ((wipe σ [i]).set i (some x)).set i none = wipe σ [i]
      rw [List.set_set]
      exact hσ
    · have kk := Good.bind.mp kk
      refine hc (ρk.set i (.d d)) Fk ((σ.set i none).set i (some x)) H' _ r2 (kk.calm.mono (fun b ρ3 k3 F3 H3 s3 => ?_) fun _ _ _ z => z)
      cases b with
      | false =>
        rw [if_neg (by decide)]
        obtain ⟨n3, k3⟩ := nobR_inv k3
        have s4 := back ρ3 F3 H3 n3 s3
        obtain ⟨d1, d2, d3⟩ := s4.free hDk hFk nh
        exact ⟨by omega, ρ3, F3, acc, ys, st.trans s4, d1, d2, d3, ra.mono s4.ext, by omega, k3⟩
      | true =>
        rw [if_pos rfl]
        have k3 := Good.bind.mp k3
        refine he.kept ρ3 F3 ((σ.set i none).set i (some x)) H3 _ s3.rel (k3.calm.mono (fun y ρ4 k4 z F4 H4 s4 ry => ?_) fun _ _ _ z => z)
        obtain ⟨n4, k4⟩ := nobR_inv k4
        have s5 := back ρ4 F4 H4 n4 (s3.trans s4)
        obtain ⟨d1, d2, d3⟩ := s5.free hDk hFk nh
        have la : acc.length < sizeLine := by rw [ra.1]; exact Nat.lt_of_le_of_lt (Nat.le_trans ly (Nat.le_trans (Nat.le_of_lt hk) hl)) line_lt
        have k5 := Good.bind.mp k4
        refine ⟨acc, d1, la, by omega, ρ4, F4, acc ++ [z], ys ++ [y], (st.trans s5).wr hD d2 d3, upd_same, d2, d3, (ra.mono s5.ext).append (.cons ry .nil), by rw [List.length_append]; simp; omega, ?_⟩
        refine k5.mono (fun zs ρ' q => ?_) fun _ _ _ z => z
        rw [List.append_assoc]
        exact q
theorem s_lc {wi : TI} {ri : Env → R (IV × List D)} {tt : TT} {rc : Env → R Bool} {te : TE} {re : Env → R IV} (hi : SndI g W wi ri) (hc : SndT g W0 tt rc) (he : Snd g W0 te re) : Snd g W (tLc wi (gName i) tt te [i]) fun ρ => (ri ρ).bind fun p ρ =>
    (lcRun i rc (fun ρ => (re ρ).kept g.np) p.2 ((lend ρ p.1).set i .un)).lcEnd i p.1 ρ := fun ρ F σ H Q rl k => by
  refine hi ρ F σ H _ rl ((Good.bind.mp k).mono (fun p ρ1 k J F1 H1 s w hl => ?_) fun _ _ _ q => q)
  have k := k.later s
  unfold R.lcEnd at k
  cases e : ρ1.at i with
  | un => rw [e] at k; exact lc_loop s.rel e nob_un w hl hc he (Good.bind.mp k)
  | d x => rw [e] at k; exact lc_loop s.rel e nob_d w hl hc he (Good.bind.mp k)
  | _ => rw [e] at k; exact k.elim
end
end EN
/-! Calls. -/
namespace EN
open PySem L2
/-- how arguments stand at a call -/
structure Ent (g : G0) (as : Env) (F : Hp) (xs : List V) (H : Hp) : Prop where
  same : Same F H
  len : as.length = xs.length
  sl : ∀ i, SlOk g F (xs.map some) H i (as.at i)
  apart : ∀ i j p, i ≠ j → Own as (xs.map some) i p → Held as (xs.map some) j p → False
/-- what a call leaves -/
structure Out (g : G0) (as : Env) (F : Hp) (xs : List V) (H : Hp) (ps : Env) (F' : Hp) (H' : Hp) : Prop where
  same : Same F' H'
  ext : Same F F'
  new : ∀ a, F a = none → F' a ≠ none → H a = none ∨ Ow as (xs.map some) a
  keep : ∀ a o, H a = some o → ¬ Ow as (xs.map some) a → H' a = some o
  dom : ∀ a, H' a = none → H a = none
  par : ∀ j c, ps.at j = .own c → ∃ p, xs[j]? = some (.ref p) ∧ F' p = none ∧ CRep g F' H' p c ∧ c.fit g.T = true
/-- what it gives -/
def RvOk (g : G0) (F' H H' : Hp) (x : V) : IV → Prop
  | .d y => Rep g F' x y
  | .fr c => ∃ p, x = .ref p ∧ H p = none ∧ F' p = none ∧ CRep g F' H' p c ∧ c.fit g.T = true
  | .sl _ => False
/-- a def's promise -/
def spN (g : G0) (fn : Fn) (f : Nat) : Sp := fun xs H Q E => ∃ as F, Ent g as F xs H ∧ match fn f as with
  | .ok v ps => ∀ x F' H', Out g as F xs H ps F' H' → RvOk g F' H H' x v → Q x H'
  | .er c fs ps => ∀ d F' H', Out g as F xs H ps F' H' → ExF g F' d c fs → E (.ref (g.ec c)) d H'
  | .no => False
section
variable {g : Gam} {W : WX} {ρ ρ' ρ1 ρ2 : Env} {F F1 F2 F' H H1 H2 H0 H' : Hp} {σ σ' σ1 σ2 : L2.St} {p : Addr} {o : HO} {i j : Nat} {Q : VK} {t u : TE} {ra rb : Env → R IV} {T : Tb} {fn : Fn} {f : Nat}
theorem prepV_ok {v : IV} {x : V} {m : Nat} {q : IV × Env} (rl : Rl g ρ F σ H) (h : IvP g F σ x v) (e : prepV g.np m v ρ = some q) : ∃ F', Stp g ρ F σ H q.2 F' σ H ∧ IvP g F' σ x q.1 := by
  have same : some (v, ρ) = some q → ∃ F', Stp g ρ F σ H q.2 F' σ H ∧ IvP g F' σ x q.1 := fun e => by cases e; exact ⟨F, Stp.refl rl, h⟩
  cases v with
  | d y => exact same e
  | fr c => exact same e
  | sl i =>
    simp only [prepV] at e
    split at e
    · cases z : ρ.at i with
      | own c =>
        rw [z] at e
        dsimp only at e
        split at e
        · cases e
        · cases e
          obtain ⟨F1, p, h1, h2, s1⟩ := rl.keepOwn z
          have hx : σ[i]? = some (some x) := h
          rw [h1] at hx
          cases hx
          exact ⟨F1, s1, h2⟩
      | _ => rw [z] at e; exact same e
    · exact same e
theorem prep_ok {β : Type} {A : β → Env → Prop} {B : Nat → List D → Env → Prop} : ∀ {vs : List IV} {xs : List V} {ρ : Env} {F : Hp} {b : Nat} {K : List IV → Env → R β}, Rl g ρ F σ H → IvPs g F σ xs vs → Good ((prep T g.np f b vs ρ).bind K) A B →
    ∃ vs' ρ' F', Stp g ρ F σ H ρ' F' σ H ∧ IvPs g F' σ xs vs' ∧ Good (K vs' ρ') A B
  | [], xs, ρ, F, b, K, rl, iv, k => by cases iv; exact ⟨[], ρ, F, Stp.refl rl, .nil, k⟩
  | v :: vs, _, ρ, F, b, K, rl, .cons (x := x) (xs := xs) h r, k => by
    unfold prep at k
    cases e : prepV g.np (T.md f b) v ρ with
    | none => rw [e] at k; exact k.elim
    | some q =>
      rw [e] at k
      obtain ⟨F1, s1, h1⟩ := prepV_ok rl h e
      dsimp only at k
      rw [R.assoc] at k
      obtain ⟨vs', ρ', F', s, r', k'⟩ := prep_ok s1.rel (r.mono s1.ext) k
      exact ⟨_ :: vs', ρ', F', s1.trans s, .cons (h1.mono s.ext) r', k'⟩
theorem hand_at : ∀ {vs : List IV} {as : Env} {b : Nat}, handAll T f ρ b vs = some as → as.length = vs.length ∧ ∀ (i : Nat) (v : IV), vs[i]? = some v → ∃ s, as[i]? = some s ∧ handed ρ (T.md f (b + i)) v = some s
  | [], as, b, e => by cases e; exact ⟨rfl, fun i v h => by simp at h⟩
  | v :: vs, as, b, e => by
    unfold handAll at e
    split at e
    · rename_i s ss h1 h2
      cases e
      obtain ⟨a, q⟩ := hand_at h2
      refine ⟨by simp [a], fun i w h => ?_⟩
      cases i with
      | zero => simp at h; subst h; exact ⟨s, rfl, h1⟩
      | succ i =>
        obtain ⟨s', x, y⟩ := q i w (by simpa using h)
        exact ⟨s', by simpa using x, by rw [show b + (i + 1) = b + 1 + i by omega]; exact y⟩
    · cases e
theorem handed_own {m : Nat} {v : IV} {c : Cn} (h : handed ρ m v = some (.own c)) : ∃ i, v = .sl i ∧ m = 2 ∧ ρ.at i = .own c := by
  unfold handed at h
  split at h
  · cases h
  · cases h
  · split at h
    · cases h
    · rename_i e; cases h; exact ⟨_, rfl, rfl, e⟩
    · cases h
    · cases h
    · cases h
theorem handed_bor {m : Nat} {v : IV} {c : Cn} (h : handed ρ m v = some (.bor c)) : ∃ i, v = .sl i ∧ (ρ.at i = .own c ∨ ρ.at i = .bor c) := by
  unfold handed at h
  split at h
  · cases h
  · cases h
  · split at h
    · rename_i e; cases h; exact ⟨_, rfl, .inl e⟩
    · cases h
    · rename_i e; cases h; exact ⟨_, rfl, .inr e⟩
    · cases h
    · cases h
theorem slots_mem : ∀ {vs : List IV} {j i : Nat}, vs[j]? = some (.sl i) → i ∈ slotsOf vs
  | [], j, i, h => by simp at h
  | v :: vs, 0, i, h => by simp at h; subst h; exact List.mem_cons_self
  | v :: vs, j + 1, i, h => by
    have := slots_mem (vs := vs) (j := j) (by simpa using h)
    cases v <;> first | exact this | exact List.mem_cons_of_mem _ this
theorem slots_inj : ∀ {vs : List IV} {j k i : Nat}, (slotsOf vs).Nodup → vs[j]? = some (.sl i) → vs[k]? = some (.sl i) → j = k
  | [], j, k, i, _, h, _ => by simp at h
  | v :: vs, 0, 0, i, _, _, _ => rfl
  | v :: vs, 0, k + 1, i, n, h, h' => by
    simp at h; subst h
    exact absurd (slots_mem (vs := vs) (by simpa using h')) (List.nodup_cons.mp n).1
  | v :: vs, j + 1, 0, i, n, h, h' => by
    simp at h'; subst h'
    exact absurd (slots_mem (vs := vs) (by simpa using h)) (List.nodup_cons.mp n).1
  | v :: vs, j + 1, k + 1, i, n, h, h' => by
    have n' : (slotsOf vs).Nodup := by cases v <;> first | exact n | exact (List.nodup_cons.mp n).2
    exact congrArg (· + 1) (slots_inj (vs := vs) n' (by simpa using h) (by simpa using h'))
theorem IvPs.atV {xs : List V} {vs : List IV} (h : IvPs g F σ xs vs) {k : Nat} {v : IV} (e : vs[k]? = some v) : ∃ x, xs[k]? = some x ∧ IvP g F σ x v := by
  have hk : k < xs.length := by rw [h.len]; exact (List.getElem?_eq_some_iff.mp e).1
  exact ⟨xs[k], List.getElem?_eq_getElem hk, h.at k _ _ (List.getElem?_eq_getElem hk) e⟩
theorem IvPs.atX {xs : List V} {vs : List IV} (h : IvPs g F σ xs vs) {k : Nat} {x : V} (e : xs[k]? = some x) : ∃ v, vs[k]? = some v ∧ IvP g F σ x v := by
  have hk : k < vs.length := by rw [← h.len]; exact (List.getElem?_eq_some_iff.mp e).1
  exact ⟨vs[k], List.getElem?_eq_getElem hk, h.at k _ _ e (List.getElem?_eq_getElem hk)⟩
/-- where an argument comes from -/
theorem hand_slot {vs : List IV} {xs : List V} {as : Env} (iv : IvPs g F σ xs vs) (e : handAll T f ρ 0 vs = some as) (k : Nat) : as.at k = .un ∨ ∃ v x, vs[k]? = some v ∧ xs[k]? = some x ∧ IvP g F σ x v ∧ handed ρ (T.md f k) v = some (as.at k) := by
  obtain ⟨hl, hh⟩ := hand_at e
  by_cases hk : k < as.length
  · have hv : k < vs.length := by rw [← hl]; exact hk
    obtain ⟨s, h1, h2⟩ := hh k vs[k] (List.getElem?_eq_getElem hv)
    obtain ⟨x, h3, h4⟩ := iv.atV (List.getElem?_eq_getElem hv)
    have : as.at k = s := by unfold Env.at; rw [List.getD_eq_getElem?_getD, h1]; rfl
    rw [Nat.zero_add] at h2
    exact .inr ⟨_, x, List.getElem?_eq_getElem hv, h3, h4, by rw [this]; exact h2⟩
  · exact .inl (at_un hk)
theorem hand_ownS {vs : List IV} {xs : List V} {as : Env} (iv : IvPs g F σ xs vs) (e : handAll T f ρ 0 vs = some as) {k : Nat} (h : Own as (xs.map some) k p) : ∃ i, vs[k]? = some (.sl i) ∧ T.md f k = 2 ∧ Own ρ σ i p := by
  obtain ⟨⟨c, h1⟩, h2⟩ := h
  rcases hand_slot iv e k with z | ⟨v, x, a, b, d, q⟩
  · rw [z] at h1; cases h1
  · rw [h1] at q
    obtain ⟨i, rfl, m, r⟩ := handed_own q
    rw [List.getElem?_map, b] at h2
    cases h2
    exact ⟨i, a, m, ⟨c, r⟩, d⟩
theorem hand_heldS {vs : List IV} {xs : List V} {as : Env} (iv : IvPs g F σ xs vs) (e : handAll T f ρ 0 vs = some as) {k : Nat} (h : Held as (xs.map some) k p) : ∃ i, vs[k]? = some (.sl i) ∧ Held ρ σ i p := by
  obtain ⟨h1, h2⟩ := h
  rcases hand_slot iv e k with z | ⟨v, x, a, b, d, q⟩
  · rw [z] at h1; rcases h1 with ⟨c, h1⟩ | ⟨c, h1⟩ <;> cases h1
  · rw [List.getElem?_map, b] at h2
    cases h2
    rcases h1 with ⟨c, h1⟩ | ⟨c, h1⟩
    · rw [h1] at q
      obtain ⟨i, rfl, m, r⟩ := handed_own q
      exact ⟨i, a, .inl ⟨c, r⟩, d⟩
    · rw [h1] at q
      obtain ⟨i, rfl, r⟩ := handed_bor q
      exact ⟨i, a, r.elim (fun r => .inl ⟨c, r⟩) fun r => .inr ⟨c, r⟩, d⟩
theorem ent_of {vs : List IV} {xs : List V} {as : Env} (rl : Rl g ρ F σ H) (iv : IvPs g F σ xs vs) (e : handAll T f ρ 0 vs = some as) (nd : (slotsOf vs).Nodup) : Ent g as F xs H where
  same := rl.same
  len := by rw [(hand_at e).1, iv.len]
  sl := fun k => by
    rcases hand_slot iv e k with z | ⟨v, x, a, b, d, q⟩
    · rw [z]; exact .un
    · have hx : (xs.map some)[k]? = some (some x) := by rw [List.getElem?_map, b]; rfl
      cases v with
      | d y =>
        have q : Slot.d y = as.at k := Option.some.inj q
        rw [← q]
        exact .d hx d
      | fr c => cases q
      | sl i =>
        have d : σ[i]? = some (some x) := d
        have y := rl.sl i
        simp only [handed] at q
        split at q
        · rename_i c h _
          have q := Option.some.inj q
          rw [← q]
          rw [h] at y
          cases y with
          | own h1 h2 h3 h4 => rw [d] at h1; cases h1; exact .bor hx h2 h3 h4
        · rename_i c h _
          have q := Option.some.inj q
          rw [← q]
          rw [h] at y
          cases y with
          | own h1 h2 h3 h4 => rw [d] at h1; cases h1; exact .own hx h2 h3 h4
        · rename_i c h _
          have q := Option.some.inj q
          rw [← q]
          rw [h] at y
          cases y with
          | bor h1 h2 h3 h4 => rw [d] at h1; cases h1; exact .bor hx h2 h3 h4
        · rename_i c fs h
          have q := Option.some.inj q
          rw [← q]
          rw [h] at y
          cases y with
          | exc hp h1 h4 => rw [d] at h1; cases h1; exact .exc hp hx h4
        · cases q
  apart := fun a b q n x y => by
    obtain ⟨i, h1, _, h2⟩ := hand_ownS iv e x
    obtain ⟨j, h3, h4⟩ := hand_heldS iv e y
    by_cases z : i = j
    · subst z; exact n (slots_inj nd h1 h3)
    · exact rl.apart i j q z h2 h4
/-- what stands behind a call -/
theorem back_at {ps : Env} : ∀ {vs : List IV} {b : Nat} {ρ ρ' : Env}, (slotsOf vs).Nodup → back T f ps b vs ρ = some ρ' → ρ'.length = ρ.length ∧
    ∀ i, (∃ j c, vs[j]? = some (.sl i) ∧ T.md f (b + j) = 2 ∧ (∃ c0, ρ.at i = .own c0) ∧ ps.at (b + j) = .own c ∧ ρ'.at i = .own c) ∨ (ρ'.at i = ρ.at i ∧ ¬ ∃ j, vs[j]? = some (.sl i) ∧ T.md f (b + j) = 2 ∧ ∃ c0, ρ.at i = .own c0)
  | [], b, ρ, ρ', n, e => by
    cases e
    exact ⟨rfl, fun i => .inr ⟨rfl, fun ⟨j, h, _⟩ => by simp at h⟩⟩
  | v :: vs, b, ρ, ρ', n, e => by
    have n' : (slotsOf vs).Nodup := by cases v <;> first | exact n | exact (List.nodup_cons.mp n).2
    have other : back T f ps (b + 1) vs ρ = some ρ' → (∀ i, v = .sl i → T.md f b = 2 → ∀ c0, ρ.at i ≠ .own c0) → ρ'.length = ρ.length ∧
        ∀ i, (∃ j c, (v :: vs)[j]? = some (.sl i) ∧ T.md f (b + j) = 2 ∧ (∃ c0, ρ.at i = .own c0) ∧ ps.at (b + j) = .own c ∧ ρ'.at i = .own c) ∨ (ρ'.at i = ρ.at i ∧ ¬ ∃ j, (v :: vs)[j]? = some (.sl i) ∧ T.md f (b + j) = 2 ∧ ∃ c0, ρ.at i = .own c0) := fun e no => by
      obtain ⟨a, q⟩ := back_at n' e
      refine ⟨a, fun i => ?_⟩
      rcases q i with ⟨j, c, h1, h2, h3, h4, h5⟩ | ⟨h1, h2⟩
      · exact .inl ⟨j + 1, c, by simpa using h1, by rw [show b + (j + 1) = b + 1 + j by omega]; exact h2, h3, by rw [show b + (j + 1) = b + 1 + j by omega]; exact h4, h5⟩
      · refine .inr ⟨h1, fun ⟨j, x, y, c0, z⟩ => ?_⟩
        cases j with
        | zero => simp at x; exact no i x y c0 z
        | succ j => exact h2 ⟨j, by simpa using x, by rw [show b + 1 + j = b + (j + 1) by omega]; exact y, c0, z⟩
    cases v with
    | d y => exact other (by simpa only [back] using e) fun i z => nomatch z
    | fr y => exact other (by simpa only [back] using e) fun i z => nomatch z
    | sl i =>
      unfold back at e
      split at e
      · rename_i c0 h1 h2
        split at e
        · rename_i c h3
          obtain ⟨a, q⟩ := back_at n' e
          have hi : i < ρ.length := at_lt (by rw [h1]; exact fun z => nomatch z)
          have ni : i ∉ slotsOf vs := (List.nodup_cons.mp n).1
          refine ⟨by rw [a, List.length_set], fun i' => ?_⟩
          by_cases z : i' = i
          · subst z
            rcases q i' with ⟨j, c, x1, _⟩ | ⟨x1, _⟩
            · exact absurd (slots_mem x1) ni
            · exact .inl ⟨0, c, rfl, h2, ⟨c0, h1⟩, h3, by rw [x1, at_set_same hi]⟩
          · have ne : Env.at (ρ.set i (.own c)) i' = ρ.at i' := at_set_ne fun w => z w.symm
            rcases q i' with ⟨j, c, x1, x2, x3, x4, x5⟩ | ⟨x1, x2⟩
            · exact .inl ⟨j + 1, c, by simpa using x1, by rw [show b + (j + 1) = b + 1 + j by omega]; exact x2, by rw [← ne]; exact x3, by rw [show b + (j + 1) = b + 1 + j by omega]; exact x4, x5⟩
            · refine .inr ⟨x1.trans ne, fun ⟨j, y1, y2, y3⟩ => ?_⟩
              cases j with
              | zero => simp at y1; exact z y1.symm
              | succ j => exact x2 ⟨j, by simpa using y1, by rw [show b + 1 + j = b + (j + 1) by omega]; exact y2, by rw [ne]; exact y3⟩
        · cases e
      · rename_i h1
        exact other e fun i' z m c0 w => by
          cases z
          exact h1 c0 w m
theorem stp_back {vs : List IV} {xs : List V} {as ps : Env} (rl : Rl g ρ F σ H) (iv : IvPs g F σ xs vs) (e : handAll T f ρ 0 vs = some as) (nd : (slotsOf vs).Nodup) (eb : back T f ps 0 vs ρ = some ρ') (out : Out g as F xs H ps F' H') : Stp g ρ F σ H ρ' F' σ H' := by
  obtain ⟨bl, bs⟩ := back_at nd eb
  have ow : ∀ {q}, Ow as (xs.map some) q → Ow ρ σ q := fun ⟨k, h⟩ => let ⟨i, _, _, h⟩ := hand_ownS iv e h; ⟨i, h⟩
  have own : ∀ {i q}, Own ρ' σ i q → Own ρ σ i q := fun {i q} ⟨⟨c, h⟩, k⟩ => by
    rcases bs i with ⟨j, c1, _, _, h3, _, _⟩ | ⟨h1, _⟩
    · exact ⟨h3, k⟩
    · exact ⟨⟨c, h1 ▸ h⟩, k⟩
  have held : ∀ {i q}, Held ρ' σ i q → Held ρ σ i q := fun {i q} ⟨h, k⟩ => by
    rcases bs i with ⟨j, c1, _, _, h3, _, _⟩ | ⟨h1, _⟩
    · exact ⟨.inl h3, k⟩
    · exact ⟨by rw [← h1]; exact h, k⟩
  have far : ∀ {i q}, Held ρ σ i q → (¬ ∃ j, vs[j]? = some (.sl i) ∧ T.md f (0 + j) = 2 ∧ ∃ c0, ρ.at i = .own c0) → ¬ Ow as (xs.map some) q := fun {i q} h n ⟨k, z⟩ => by
    obtain ⟨i2, h1, h2, h3⟩ := hand_ownS iv e z
    by_cases w : i2 = i
    · subst w; exact n ⟨k, h1, by rw [Nat.zero_add]; exact h2, h3.1⟩
    · exact rl.apart i2 i q w h3 h
  refine ⟨⟨out.same, bl.trans rl.len, fun i => ?_, fun i j q n x y => rl.apart i j q n (own x) (held y), fun i q x => rl.old i q (own x), fun i q x => rl.new i q (own x)⟩, out.ext, fun a x y => (out.new a x y).imp_right ow, fun a o x z => out.keep a o x fun w => z (ow w), out.dom, fun a ⟨i, z⟩ => .inl ⟨i, own z⟩, fun i c z => ?_⟩
  · rcases bs i with ⟨j, c, h1, h2, h3, h4, h5⟩ | ⟨h1, h2⟩
    · rw [h5]
      rw [Nat.zero_add] at h4
      obtain ⟨p, x1, x2, x3, x4⟩ := out.par j c h4
      obtain ⟨x, y1, y2⟩ := iv.atV h1
      rw [x1] at y1
      cases y1
      exact .own y2 x2 x3 x4
    · rw [h1]
      refine (rl.sl i).mono out.ext (fun c q z h => ?_) fun c q u z h hu => ?_
      · have hh := held_of z h
        cases w : F' q with
        | none => rfl
        | some u =>
          obtain ⟨a, o, ho⟩ := hh.there rl
          rcases out.new q a (by rw [w]; exact fun z => nomatch z) with y | y
          · rw [ho] at y; cases y
          · exact absurd y (far hh h2)
      · exact out.keep q u hu (far (held_of z h) h2)
  · rcases bs i with ⟨j, c1, _, _, _, _, h5⟩ | ⟨h1, _⟩
    · rw [h5] at z; cases z
    · exact ⟨h1 ▸ z, rfl⟩
theorem s_call {ts : TA} {rs : Env → R (List IV)} {fsp : Nat → Sp} (hf : ∀ f, fsp f = spN g fn f) (hr : SndV g W ts rs) : Snd g W (tCallS (fsp f) (WE W) ts) fun ρ => (rs ρ).bind fun vs ρ => callR T fn g.np f vs ρ := fun ρ F σ H Q rl k => by
  refine hr.go rl k fun vs ρ1 xs F1 H1 s iv k => ?_
  unfold callR at k
  obtain ⟨vs', ρ2, F2, s2, iv2, k⟩ := prep_ok s.rel iv k
  rw [hf]
  cases e : handAll T f ρ2 0 vs' with
  | none => rw [e] at k; exact k.elim
  | some as =>
    rw [e] at k
    dsimp only at k
    obtain ⟨nd, k⟩ := if_inv k
    refine ⟨as, F2, ent_of s2.rel iv2 e nd, ?_⟩
    cases r : fn f as with
    | no => rw [r] at k; exact k.elim
    | ok v ps =>
      rw [r] at k
      intro x F' H' out rv
      cases eb : back T f ps 0 vs' ρ2 with
      | none => simp only [backR, eb] at k; exact k.elim
      | some ρ3 =>
        simp only [backR, eb] at k
        have s3 := stp_back s2.rel iv2 e nd eb out
        refine k x F' H' ((s.trans s2).trans s3) ?_
        cases v with
        | d y => exact rv
        | fr c =>
          obtain ⟨p, rfl, h1, h2, h3, h4⟩ := rv
          refine ⟨p, rfl, s.dom p h1, h2, h3, h4, fun i h => ?_⟩
          have h' : Held ρ2 σ i p := by
            obtain ⟨a, b⟩ := h
            obtain ⟨bl, bs⟩ := back_at nd eb
            rcases bs i with ⟨j, c1, _, _, h3, _, _⟩ | ⟨h1, _⟩
            · exact ⟨.inl h3, b⟩
            · exact ⟨by rw [← h1]; exact a, b⟩
          obtain ⟨_, u, hu⟩ := h'.there s2.rel
          rw [h1] at hu; cases hu
        | sl i => exact rv.elim
    | er c fs ps =>
      rw [r] at k
      intro d F' H' out ex
      cases eb : back T f ps 0 vs' ρ2 with
      | none => simp only [backR, eb] at k; exact k.elim
      | some ρ3 =>
        simp only [backR, eb] at k
        have s3 := stp_back s2.rel iv2 e nd eb out
        exact k d F' H' (s2.trans s3) ex
end
end EN
/-! Every expression's reading follows from its run. -/
namespace EN
open PySem L2
section
variable {g : Gam} {W : WX} {ρ ρ' ρ1 ρ2 : Env} {F F1 F2 F' H H1 H2 H0 H' : Hp} {σ σ' σ1 σ2 : L2.St} {p : Addr} {o : HO} {i j : Nat} {Q : VK} {t u : TE} {ra rb : Env → R IV} {T : Tb} {fn : Fn} {f : Nat}
def OnlyB (r : R IV) : Prop := ∀ v ρ, r = .ok v ρ → ∃ b, v = .d (.bl b)
theorem OnlyB.bind {α : Type} {r : R α} {f : α → Env → R IV} (h : ∀ a ρ, OnlyB (f a ρ)) : OnlyB (r.bind f) := fun v ρ e => by
  cases r with
  | ok a ρ1 => exact h a ρ1 v ρ e
  | er c fs ρ1 => cases e
  | no => cases e
theorem OnlyB.seen {x : IV} {f : D → R IV} (h : ∀ d, OnlyB (f d)) : OnlyB (EN.seen ρ x f) := fun v ρ' e => by
  unfold EN.seen at e
  split at e
  · exact h _ v ρ' e
  · cases e
theorem OnlyB.bool {b : Option Bool} : OnlyB (R.bool ρ b) := fun v ρ' e => by
  cases b with
  | none => cases e
  | some b => cases e; exact ⟨b, rfl⟩
theorem OnlyB.mk {b : Bool} : OnlyB (R.ok (.d (.bl b)) ρ) := fun v ρ' e => by cases e; exact ⟨b, rfl⟩
theorem s_test (h : Snd g W t ra) (hb : ∀ ρ, OnlyB (ra ρ)) : SndT g W (tTest t) fun ρ => (ra ρ).tru := fun ρ F σ H Q rl k => by
  have k := Good.bind.mp k
  refine h ρ F σ H _ rl ?_
  cases e : ra ρ with
  | no => rw [e] at k; exact k
  | er c fs ρ1 => rw [e] at k; exact k
  | ok v ρ1 =>
    obtain ⟨b, rfl⟩ := hb ρ v ρ1 e
    rw [e] at k
    intro x F1 H1 s iv
    have iv : Rep g F1 x (.bl b) := iv
    cases iv
    exact ⟨b, rfl, k F1 H1 s⟩
theorem kpF_vw (v : IV) (ρ : Env) : ∃ v', kpF v ρ = .ok v' ρ ∧ vw ρ v' = vw ρ v := by
  cases v with
  | d y => exact ⟨_, rfl, rfl⟩
  | fr c => exact ⟨_, rfl, rfl⟩
  | sl i => exact ⟨_, rfl, rfl⟩
theorem sT_and {tt tu : TT} (ha : SndT g W tt fun ρ => (ra ρ).tru) (hb : SndT g W tu fun ρ => (rb ρ).tru) : SndT g W (tAnd tt tu) fun ρ => ((ra ρ).held.bind fun x ρ => seen ρ x fun d => match truD d with
    | some true => rb ρ
    | some false => .ok x ρ
    | none => .no).tru := fun ρ F σ H Q rl k => by
  refine ha ρ F σ H _ rl ?_
  dsimp only at k ⊢
  cases e : ra ρ with
  | no => rw [e] at k; exact k
  | er c fs ρ1 => rw [e] at k; exact k
  | ok v ρ1 =>
    rw [e] at k
    obtain ⟨v', h1, h2⟩ := kpF_vw v ρ1
    have k : Good ((seen ρ1 v' fun d => match truD d with
      | some true => rb ρ1
      | some false => R.ok v' ρ1
      | none => .no).tru) (OkB g ρ F σ H Q) (ErQ g W ρ F σ H) := by
      have : (R.ok v ρ1).held = R.ok v' ρ1 := h1
      rw [this] at k
      exact k
    show Good (seen ρ1 v fun d => match truD d with
      | some b => R.ok b ρ1
      | none => .no) _ _
    unfold seen at k ⊢
    rw [h2] at k
    cases q : vw ρ1 v with
    | none => rw [q] at k; exact k
    | some d =>
      rw [q] at k
      dsimp only at k ⊢
      cases q2 : truD d with
      | none => rw [q2] at k; exact k
      | some b =>
        rw [q2] at k
        cases b with
        | true =>
          intro F1 H1 s
          rw [if_pos rfl]
          exact hb ρ1 F1 σ H1 Q s.rel (k.mono (fun b ρ' z F' H' q => z F' H' (s.trans q)) fun _ _ _ z => z.later s)
        | false =>
          intro F1 H1 s
          rw [if_neg (by decide)]
          have k : Good (seen ρ1 v' fun d => match truD d with
            | some b => R.ok b ρ1
            | none => .no) (OkB g ρ F σ H Q) (ErQ g W ρ F σ H) := k
          unfold seen at k
          rw [h2, q] at k
          dsimp only at k
          rw [q2] at k
          exact k F1 H1 s
theorem sT_or {tt tu : TT} (ha : SndT g W tt fun ρ => (ra ρ).tru) (hb : SndT g W tu fun ρ => (rb ρ).tru) : SndT g W (tOr tt tu) fun ρ => ((ra ρ).held.bind fun x ρ => seen ρ x fun d => match truD d with
    | some true => .ok x ρ
    | some false => rb ρ
    | none => .no).tru := fun ρ F σ H Q rl k => by
  refine ha ρ F σ H _ rl ?_
  dsimp only at k ⊢
  cases e : ra ρ with
  | no => rw [e] at k; exact k
  | er c fs ρ1 => rw [e] at k; exact k
  | ok v ρ1 =>
    rw [e] at k
    obtain ⟨v', h1, h2⟩ := kpF_vw v ρ1
    have k : Good ((seen ρ1 v' fun d => match truD d with
      | some true => R.ok v' ρ1
      | some false => rb ρ1
      | none => .no).tru) (OkB g ρ F σ H Q) (ErQ g W ρ F σ H) := by
      have : (R.ok v ρ1).held = R.ok v' ρ1 := h1
      rw [this] at k
      exact k
    show Good (seen ρ1 v fun d => match truD d with
      | some b => R.ok b ρ1
      | none => .no) _ _
    unfold seen at k ⊢
    rw [h2] at k
    cases q : vw ρ1 v with
    | none => rw [q] at k; exact k
    | some d =>
      rw [q] at k
      dsimp only at k ⊢
      cases q2 : truD d with
      | none => rw [q2] at k; exact k
      | some b =>
        rw [q2] at k
        cases b with
        | false =>
          intro F1 H1 s
          rw [if_neg (by decide)]
          exact hb ρ1 F1 σ H1 Q s.rel (k.mono (fun b ρ' z F' H' q => z F' H' (s.trans q)) fun _ _ _ z => z.later s)
        | true =>
          intro F1 H1 s
          rw [if_pos rfl]
          have k : Good (seen ρ1 v' fun d => match truD d with
            | some b => R.ok b ρ1
            | none => .no) (OkB g ρ F σ H Q) (ErQ g W ρ F σ H) := k
          unfold seen at k
          rw [h2, q] at k
          dsimp only at k
          rw [q2] at k
          exact k F1 H1 s
theorem sT_not {tt : TT} (ha : SndT g W tt fun ρ => (ra ρ).tru) : SndT g W (tNot tt) fun ρ => ((ra ρ).tru.bind fun b ρ => .ok (.d (.bl (!b))) ρ).tru := fun ρ F σ H Q rl k => by
  refine ha ρ F σ H _ rl ?_
  have k := Good.bind.mp (Good.bind.mp k)
  exact k.mono (fun b ρ1 z F1 H1 s => z F1 H1 s) fun _ _ _ z => z
theorem s_no {te : TE} : Snd g W te fun ρ => .no := fun ρ F σ H Q rl k => k.elim
/-- what the readings name -/
def sg (g : G0) (fn : Fn) : Sg := ⟨g, spN g fn⟩
theorem s_pN {te : List (TE × TE)} : SndPs g W te fun ρ => .no := fun ρ F σ H Q rl k => k.elim
theorem isiR_b {ty : TY} {x : IV} : OnlyB (isiR T ty x ρ) := fun v ρ' e => by
  unfold isiR at e
  split at e
  · split at e
    · cases e; exact ⟨_, rfl⟩
    · exact OnlyB.seen (fun d => OnlyB.mk) v ρ' e
  · cases e
variable (K : KF g) (fn : Fn)
include K
mutual
theorem snd : ∀ (e : IE) (W : WX), Snd g W (rd (sg g fn) W e) fun ρ => ev g.T fn g.np e ρ
  | .var i, W => s_var
  | .lit d, W => s_lit
  | .tup es, W => s_tup (sndL es W)
  | .lst es, W => s_lst (sndL es W)
  | .dct .nil, W => s_dct0
  | .dct (.cons e es), W => s_dct (sndPs (.cons e es) W)
  | .bin op a b, W => s_bin (snd a W) (snd b W)
  | .neg a, W => s_neg (snd a W)
  | .gc n, W => s_gc
  | .ch op op' a b c, W => s_ch (snd a W) (snd b W) (snd c W)
  | .bm m a es, W => s_bm (snd a W) (sndV es W)
  | .cmp op a b, W => s_cmp (snd a W) (snd b W)
  | .isN a, W => s_isN (snd a W)
  | .notN a, W => s_notN (snd a W)
  | .and a b, W => s_and (snd a W) (snd b W)
  | .or a b, W => s_or (snd a W) (snd b W)
  | .not a, W => s_not (snd a W)
  | .ife c a b, W => s_ife (sndT c W) (snd a W) (snd b W)
  | .ix a b, W => s_ix (snd a W) (snd b W)
  | .slc a lo hi, W => s_slc (snd a W) (s_prt (snd lo W)) (s_prt (snd hi W))
  | .call f es, W => s_call (fun _ => rfl) (sndV es W)
  | .bi f es, W => s_bi (sndV es W)
  | .isi a t, W => s_isi K (snd a W)
  | .fld a n, W => s_fld K (snd a W)
  | .lc elt i it true c, W => s_lc (sndI it W) (sndT c W0) (snd elt W0)
  | .lc elt i it false c, W => s_lc (sndI it W) (fun ρ F σ H Q rl k => k F H (Stp.refl rl)) (snd elt W0)
theorem sndT : ∀ (e : IE) (W : WX), SndT g W (rdT (sg g fn) W e) fun ρ => (ev g.T fn g.np e ρ).tru
  | .var i, W => s_tru s_var
  | .lit d, W => s_tru s_lit
  | .tup es, W => s_tru (s_tup (sndL es W))
  | .lst es, W => s_tru (s_lst (sndL es W))
  | .dct .nil, W => s_tru s_dct0
  | .dct (.cons e es), W => s_tru (s_dct (sndPs (.cons e es) W))
  | .bin op a b, W => s_tru (s_bin (snd a W) (snd b W))
  | .neg a, W => s_tru (s_neg (snd a W))
  | .gc n, W => s_tru s_gc
  | .ch op op' a b c, W => s_test (s_ch (snd a W) (snd b W) (snd c W)) fun ρ => OnlyB.bind fun _ _ => OnlyB.bind fun _ _ => OnlyB.seen fun dx => OnlyB.seen fun dy => by
      cases e : opC op dx dy with
      | none => exact fun _ _ z => nomatch z
      | some q =>
        cases q with
        | false => exact OnlyB.mk
        | true => exact OnlyB.bind fun _ _ => OnlyB.seen fun _ => OnlyB.seen fun _ => OnlyB.bool
  | .bm m a es, W => s_tru (s_bm (snd a W) (sndV es W))
  | .cmp op a b, W => s_test (s_cmp (snd a W) (snd b W)) fun ρ => OnlyB.bind fun _ _ => OnlyB.bind fun _ _ => OnlyB.seen fun _ => OnlyB.seen fun _ => OnlyB.bool
  | .isN a, W => s_test (s_isN (snd a W)) fun ρ => OnlyB.bind fun _ _ => OnlyB.seen fun d => by cases d <;> exact OnlyB.mk
  | .notN a, W => s_test (s_notN (snd a W)) fun ρ => OnlyB.bind fun _ _ => OnlyB.seen fun d => by cases d <;> exact OnlyB.mk
  | .and a b, W => sT_and (sndT a W) (sndT b W)
  | .or a b, W => sT_or (sndT a W) (sndT b W)
  | .not a, W => sT_not (sndT a W)
  | .ife c a b, W => s_tru (s_ife (sndT c W) (snd a W) (snd b W))
  | .ix a b, W => s_tru (s_ix (snd a W) (snd b W))
  | .slc a lo hi, W => s_tru (s_slc (snd a W) (s_prt (snd lo W)) (s_prt (snd hi W)))
  | .call f es, W => s_tru (s_call (fun _ => rfl) (sndV es W))
  | .bi f es, W => s_tru (s_bi (sndV es W))
  | .isi a t, W => s_tru (s_isi K (snd a W))
  | .fld a n, W => s_tru (s_fld K (snd a W))
  | .lc elt i it true c, W => s_tru (s_lc (sndI it W) (sndT c W0) (snd elt W0))
  | .lc elt i it false c, W => s_tru (s_lc (sndI it W) (fun ρ F σ H Q rl k => k F H (Stp.refl rl)) (snd elt W0))
theorem sndL : ∀ (es : IEs) (W : WX), SndL g W (rdA (sg g fn) W es) fun ρ => evs g.T fn g.np es ρ
  | .nil, W => s_nil
  | .cons e es, W => s_cons (snd e W) (sndL es W)
theorem sndV : ∀ (es : IEs) (W : WX), SndV g W (rdA (sg g fn) W es) fun ρ => evA g.T fn g.np es ρ
  | .nil, W => s_nilV
  | .cons e es, W => s_consV (snd e W) (sndV es W)
theorem sndPs : ∀ (es : IEs) (W : WX), SndPs g W (rdP (sg g fn) W es) fun ρ => evp g.T fn g.np es ρ
  | .nil, W => s_pnil
  | .cons e .nil, W => s_pN
  | .cons k (.cons v ps), W => s_pcons (snd k W) (snd v W) (sndPs ps W)
theorem sndI : ∀ (it : IT) (W : WX), SndI g W (rdI (sg g fn) W it) fun ρ => evI g.T fn g.np it ρ
  | .e a, W => s_itE (snd a W)
  | .rng a, W => s_rng (snd a W)
  | .rng2 a b, W => s_rng2 (snd a W) (snd b W)
  | .txt a, W => s_txt (snd a W)
end
end
end EN
/-! Readings of statements. -/
namespace EN
open PySem L2
def rSetX : TSet := fun o i v H Q => rSetL o i v H Q ∨ rSetD o i v H Q
def gNames : List Nat → TGs
  | [] => gNil
  | i :: is => gCons (gName i) (gNames is)
/-- raise C(e, ..) -/
def tRaise (g : G0) (W : WX) (c : Nat) (t : TA) : TS := fun _ σ H => t σ H fun xs H1 => xs.length = (g.T.ef c).length ∧ xs.length ≤ 20 ∧ c < g.T.ne ∧ ∀ dd ws, H1 dd = none → (∀ n v, ((g.T.ef c).zip xs).lookup n = some v → ws.lookup n = some v) → W (.ref (g.ec c)) (some dd) σ (upd H1 dd (.xd ws))
/-- ends behind a suite that holds an error in slot i -/
def endE (i : Nat) (D : Ends) : Ends := { nx := fun σ' H' => D.nx (σ'.set i none) H', rt := D.rt, bk := fun σ' H' => D.bk (σ'.set i none) H', ct := fun σ' H' => D.ct (σ'.set i none) H' }
def rAug : BO → TIp
  | .add => ipI fun i j => i + j
  | .sub => ipI fun i j => i - j
  | _ => fun _ _ _ _ => False
theorem rAug_ok {X : Cx} (op : BO) : PIp X op.op (rAug op) := by
  cases op with
  | add => exact ip_add
  | sub => exact ip_sub
  | _ => exact fun _ _ _ _ _ _ _ _ _ _ _ _ z => z.elim
mutual
def rs (g : G0) (fn : Fn) (W : WX) : IS → TS
  | .asg i e => tAsg (rd (sg g fn) W e) (gName i)
  | .asgT is e => tAsg (rd (sg g fn) W e) (gTup g.K is.length (gNames is))
  | .put i k v => tAsg (rd (sg g fn) W v) (gSub (tVar i) (rd (sg g fn) W k) rSetX)
  | .expr e => tDrop (rd (sg g fn) W e)
  | .app i e => tDrop (tBM g.K "list" rAppend (tVar i) (tCons (rd (sg g fn) W e) tNil))
  | .ret e => tRet (rd (sg g fn) W e)
  | .retN => tRetN
  | .ifS c a b => tIfS (rdT (sg g fn) W c) (rss g fn W a) (rss g fn W b)
  | .forS i it b => tFor (rdI (sg g fn) W it) (gName i) (rss g fn W b)
  | .aug i op e => tAug i (rd (sg g fn) W e) (rAug op)
  | .whl c b => tWhile (rdT (sg g fn) W c) (rss g fn W b)
  | .brk => tBreak
  | .cont => tCont
  | .pass => tNext
  | .raise c es => tRaise g W c (rdA (sg g fn) W es)
  | .tryS b hs => fun D σ H => rss g fn (rh g fn W hs D) b D σ H
def rss (g : G0) (fn : Fn) (W : WX) : ISs → TS
  | .nil => tNext
  | .cons s ss => tSeq (rs g fn W s) (rss g fn W ss)
/-- what the clauses wish of an error -/
def rh (g : G0) (fn : Fn) (W : WX) : IHs → Ends → WX
  | .nil, _ => W
  | .cons k i s hs, D => fun cls d σ H => ∃ b, PySem.W.exmOne g.K cls (.ref (g.ec k)) = some b ∧
    (b = true → ∀ a, H a = none → rss { g with pn := some (a, cls, d) } fn W0 s (endE i D) (σ.set i (some (.ref a))) H) ∧ (b = false → rh g fn W hs D cls d σ H)
end
end EN
/-! Statements: steps. -/
namespace EN
open PySem L2
def RvS (g : Gam) (F' H' : Hp) (x : V) : IV → Prop
  | .d y => Rep g F' x y
  | .fr c => ∃ p, x = .ref p ∧ g.h0 p = none ∧ F' p = none ∧ CRep g F' H' p c ∧ c.fit g.T = true
  | .sl _ => False
def GoodO (g : Gam) (W : WX) (D : Ends) (ρ : Env) (F : Hp) (σ : L2.St) (H : Hp) : O → Prop
  | .nx ρ' => ∀ σ' F' H', Stp g ρ F σ H ρ' F' σ' H' → D.nx σ' H'
  | .rt v ρ' => ∀ x σ' F' H', Stp g ρ F σ H ρ' F' σ' H' → RvS g F' H' x v → D.rt x H'
  | .bk ρ' => ∀ σ' F' H', Stp g ρ F σ H ρ' F' σ' H' → D.bk σ' H'
  | .ct ρ' => ∀ σ' F' H', Stp g ρ F σ H ρ' F' σ' H' → D.ct σ' H'
  | .er c fs ρ' => ∀ d σ' F' H', Stp g ρ F σ H ρ' F' σ' H' → ExF g F' d c fs → W (.ref (g.ec c)) d σ' H'
  | .no => False
/-- the heap has what it had at the def's entry -/
def Dm (g : Gam) (H : Hp) : Prop := ∀ a, H a = none → g.h0 a = none
def SndS (g : Gam) (W : WX) (t : TS) (r : Env → O) : Prop := ∀ ρ F σ H D, Dm g H → Rl g ρ F σ H → GoodO g W D ρ F σ H (r ρ) → t D σ H
section
variable {g : Gam} {W : WX} {ρ ρ' ρ1 ρ2 : Env} {F F1 F2 F' H H1 H2 H0 H' : Hp} {σ σ' σ1 σ2 : L2.St} {p : Addr} {o : HO} {i j : Nat} {Q : VK} {t u : TE} {ra rb : Env → R IV} {T : Tb} {fn : Fn} {f : Nat} {Z : Ends}
theorem Dm.later (h : Dm g H) (s : Stp g ρ F σ H ρ1 F1 σ1 H1) : Dm g H1 := fun a e => h a (s.dom a e)
theorem GoodO.later {r : O} (s : Stp g ρ F σ H ρ1 F1 σ1 H1) (k : GoodO g W Z ρ F σ H r) : GoodO g W Z ρ1 F1 σ1 H1 r := by
  cases r with
  | nx ρ' => exact fun σ' F' H' q => k σ' F' H' (s.trans q)
  | rt v ρ' => exact fun x σ' F' H' q => k x σ' F' H' (s.trans q)
  | bk ρ' => exact fun σ' F' H' q => k σ' F' H' (s.trans q)
  | ct ρ' => exact fun σ' F' H' q => k σ' F' H' (s.trans q)
  | er c fs ρ' => exact fun d σ' F' H' q => k d σ' F' H' (s.trans q)
  | no => exact k
theorem good_to {α : Type} {r : R α} {f : α → Env → O} (k : GoodO g W Z ρ F σ H (r.to f)) : Good r (fun a ρ' => GoodO g W Z ρ F σ H (f a ρ')) (ErQ g W ρ F σ H) := by
  cases r with
  | ok a ρ' => exact k
  | er c fs ρ' => exact fun d F' H' s x => k d σ F' H' s x
  | no => exact k
theorem Rl.put {x : V} {d : D} (r : Rl g ρ F σ H) (h : Rep g F x d) : Rl g (ρ.set i (.d d)) F (σ.set i (some x)) H := by
  have r2 := (r.set (i := i) notOB_un .un).bnd (i := i) (by rw [set_un_at]; exact nob_un) h
  rw [List.set_set] at r2
  exact r2
theorem own_set2 {s : Slot} {x : Option V} {q : Addr} (hs : ∀ c, s ≠ .own c) (h : Own (ρ.set i s) (σ.set i x) j q) : Own ρ σ j q := by
  by_cases e : i = j
  · subst e
    obtain ⟨⟨c, z⟩, w⟩ := h
    rw [at_set] at z
    split at z
    · exact absurd z (hs c)
    · rename_i q
      have : ρ.at i = .un := at_un fun z => q ⟨rfl, z⟩
      rw [this] at z; cases z
  · obtain ⟨⟨c, z⟩, w⟩ := h
    rw [at_set_ne e] at z
    rw [List.getElem?_set_ne e] at w
    exact ⟨⟨c, z⟩, w⟩
theorem Stp.put {x : V} {d : D} (s : Stp g ρ F σ H ρ1 F1 σ1 H1) (h : Rep g F1 x d) : Stp g ρ F σ H (ρ1.set i (.d d)) F1 (σ1.set i (some x)) H1 where
  rel := s.rel.put h
  ext := s.ext
  new := s.new
  keep := s.keep
  dom := s.dom
  ow := fun a ⟨j, z⟩ => s.ow a ⟨j, own_set2 (fun c => (notOB_d c).1) z⟩
  brw := fun j c z => by
    by_cases e : i = j
    · subst e
      rw [at_set] at z
      split at z
      · cases z
      · rename_i q
        have : ρ1.at i = .un := at_un fun z => q ⟨rfl, z⟩
        rw [this] at z; cases z
    · rw [at_set_ne e] at z
      rw [List.getElem?_set_ne e]
      exact s.brw j c z
/-- a slot forgotten -/
theorem Stp.un (s : Stp g ρ F σ H ρ1 F1 σ1 H1) : Stp g ρ F σ H (ρ1.set i .un) F1 σ1 H1 where
  rel := s.rel.set notOB_un .un
  ext := s.ext
  new := s.new
  keep := s.keep
  dom := s.dom
  ow := fun a ⟨j, z⟩ => s.ow a ⟨j, own_set (fun c => (notOB_un c).1) z⟩
  brw := fun j c z => by
    rw [at_set] at z
    split at z
    · cases z
    · exact s.brw j c z
/-- a fresh object in a slot of its own -/
theorem Stp.putOwn {c : Cn} (s : Stp g ρ F σ H ρ1 F1 σ1 H1) (dm : Dm g H) (hi : ¬ i < g.np) (hp : H p = none) (hf : F1 p = none) (hc : CRep g F1 H1 p c) (ft : c.fit g.T = true) (nh : ∀ j, ¬ Held ρ1 σ1 j p) : Stp g ρ F σ H (ρ1.set i (.own c)) F1 (σ1.set i (some (.ref p))) H1 := by
  by_cases hl : i < ρ1.length
  · have hlσ : i < σ1.length := by rw [← s.rel.len]; exact hl
    have ob : ∀ {j q}, Own (ρ1.set i (.own c)) (σ1.set i (some (.ref p))) j q → (j = i ∧ q = p) ∨ (j ≠ i ∧ Own ρ1 σ1 j q) := fun {j q} ⟨⟨c', z⟩, w⟩ => by
      by_cases e : j = i
      · subst e
        rw [List.getElem?_set_self hlσ] at w
        cases w
        exact .inl ⟨rfl, rfl⟩
      · rw [at_set_ne fun z => e z.symm] at z
        rw [List.getElem?_set_ne fun z => e z.symm] at w
        exact .inr ⟨e, ⟨c', z⟩, w⟩
    have hb : ∀ {j q}, Held (ρ1.set i (.own c)) (σ1.set i (some (.ref p))) j q → (j = i ∧ q = p) ∨ (j ≠ i ∧ Held ρ1 σ1 j q) := fun {j q} ⟨z, w⟩ => by
      by_cases e : j = i
      · subst e
        rw [List.getElem?_set_self hlσ] at w
        cases w
        exact .inl ⟨rfl, rfl⟩
      · rw [at_set_ne fun z => e z.symm] at z
        rw [List.getElem?_set_ne fun z => e z.symm] at w
        exact .inr ⟨e, z, w⟩
    refine ⟨⟨s.rel.same, by rw [List.length_set, List.length_set]; exact s.rel.len, fun j => ?_, fun a b q n x y => ?_, fun a q x h => ?_, fun a q x h => ?_⟩, s.ext, s.new, s.keep, s.dom, fun a ⟨j, z⟩ => ?_, fun j c' z => ?_⟩
    · by_cases e : i = j
      · subst e
        rw [at_set_same hl]
        exact .own (List.getElem?_set_self hlσ) hf hc ft
      · rw [at_set_ne e]
        exact (s.rel.sl j).off (List.getElem?_set_ne e).symm
    · rcases ob x with ⟨rfl, rfl⟩ | ⟨h1, x2⟩
      · rcases hb y with ⟨rfl, _⟩ | ⟨_, y2⟩
        · exact n rfl
        · exact nh b y2
      · rcases hb y with ⟨rfl, rfl⟩ | ⟨_, y2⟩
        · exact nh a x2.held
        · exact s.rel.apart a b q n x2 y2
    · rcases ob x with ⟨rfl, rfl⟩ | ⟨h1, x2⟩
      · exact absurd h hi
      · exact s.rel.old a q x2 h
    · rcases ob x with ⟨rfl, rfl⟩ | ⟨h1, x2⟩
      · exact dm _ hp
      · exact s.rel.new a q x2 h
    · rcases ob z with ⟨rfl, rfl⟩ | ⟨h1, x2⟩
      · exact .inr hp
      · exact s.ow a ⟨j, x2⟩
    · by_cases e : i = j
      · subst e; rw [at_set_same hl] at z; cases z
      · rw [at_set_ne e] at z
        rw [List.getElem?_set_ne e]
        exact s.brw j c' z
  · have e1 : ρ1.set i (.own c) = ρ1 := List.set_eq_of_length_le (Nat.le_of_not_lt hl)
    have e2 : σ1.set i (some (.ref p)) = σ1 := List.set_eq_of_length_le (by rw [← s.rel.len]; exact Nat.le_of_not_lt hl)
    rw [e1, e2]
    exact s
theorem kp_ok {x : V} {v : IV} {B : Nat → List D → Env → Prop} {A : D → Env → Prop} (rl : Rl g ρ F σ H) (iv : IvOk g ρ F σ H0 H x v) (nf : ∀ c, v ≠ .fr c) (k : Good (kp g.np ρ v) A B) : ∃ d ρ2 F2, Stp g ρ F σ H ρ2 F2 σ H ∧ Rep g F2 x d ∧ A d ρ2 := by
  cases v with
  | d y => exact ⟨y, ρ, F, Stp.refl rl, iv, k⟩
  | fr c => exact absurd rfl (nf c)
  | sl i =>
    have h : σ[i]? = some (some x) := iv
    simp only [kp] at k
    cases e : ρ.at i with
    | d y =>
      rw [e] at k
      obtain ⟨v, a, b⟩ := rl.dAt e
      rw [h] at a; cases a
      exact ⟨y, ρ, F, Stp.refl rl, b, k⟩
    | own c =>
      rw [e] at k
      dsimp only at k
      split at k
      · exact k.elim
      · obtain ⟨F2, p, a, b, s2⟩ := rl.keepOwn e
        rw [h] at a; cases a
        exact ⟨_, _, F2, s2, b, k⟩
    | _ => rw [e] at k; exact k.elim
/-- slot i = a value -/
theorem store_ok2 {x : V} {v : IV} {f : Env → O} (dm : Dm g H) (s : Stp g ρ F σ H ρ1 F1 σ H1) (iv : IvOk g ρ1 F1 σ H H1 x v) (k : GoodO g W Z ρ F σ H ((store g.np i ρ1 v).to fun _ ρ => f ρ)) : ∃ ρ2 F2, Stp g ρ F σ H ρ2 F2 (σ.set i (some x)) H1 ∧ GoodO g W Z ρ F σ H (f ρ2) := by
  have dat : ∀ {d ρ2 F2}, Stp g ρ F σ H ρ2 F2 σ H1 → Rep g F2 x d → Good (if i < g.np then (match ρ2.at i with
      | .own _ => R.no
      | _ => R.ok () (ρ2.set i (.d d))) else R.ok () (ρ2.set i (.d d))) (fun _ ρ' => GoodO g W Z ρ F σ H (f ρ')) (ErQ g W ρ F σ H) → ∃ ρ2 F2, Stp g ρ F σ H ρ2 F2 (σ.set i (some x)) H1 ∧ GoodO g W Z ρ F σ H (f ρ2) := fun {d ρ2 F2} s2 r k => by
    have s3 := s2.put (i := i) r
    by_cases hi : i < g.np
    · rw [if_pos hi] at k
      cases e : ρ2.at i with
      | own c => rw [e] at k; exact k.elim
      | _ => rw [e] at k; exact ⟨_, _, s3, k⟩
    · rw [if_neg hi] at k
      exact ⟨_, _, s3, k⟩
  cases v with
  | fr c =>
    obtain ⟨p, rfl, h1, h2, h3, h4, h5⟩ := iv
    simp only [store] at k
    split at k
    · obtain ⟨F2, a, b, e, uu⟩ := s.rel.keepNew h2 h3 h4 h5
      have s2 : Stp g ρ F σ H ρ1 F2 σ H1 := ⟨b, s.ext.trans e, fun y z z' => by
        by_cases hy : y = p
        · subst hy; exact .inl h1
        · rw [uu y hy] at z'
          exact s.new y z z', s.keep, s.dom, s.ow, s.brw⟩
      split at k
      · exact k.elim
      · exact ⟨_, _, s2.put a, k⟩
    · rename_i hi
      exact ⟨_, _, s.putOwn dm hi h1 h2 h3 h4 h5, k⟩
  | d y => exact dat s iv (good_to k)
  | sl j =>
    have k1 := good_to k
    have k2 := Good.bind.mp k1
    obtain ⟨d, ρ2, F2, s2, r, k3⟩ := kp_ok s.rel iv (fun c => IV.noConfusion) k2
    exact dat (s.trans s2) r k3
end
end EN
/-! Statements: the rules. -/
namespace EN
open PySem L2
section
variable {g : Gam} {W : WX} {ρ ρ' ρ1 ρ2 : Env} {F F1 F2 F' H H1 H2 H0 H' : Hp} {σ σ' σ1 σ2 : L2.St} {p : Addr} {o : HO} {i j : Nat} {Q : VK} {t u : TE} {ra rb : Env → R IV} {T : Tb} {fn : Fn} {f : Nat} {Z : Ends}
/-- what follows an expression in a statement -/
theorem Snd.st {f : IV → Env → O} {Q : VK} (h : Snd g W t ra) (rl : Rl g ρ F σ H) (k : GoodO g W Z ρ F σ H ((ra ρ).to f)) (n : ∀ v ρ1 x F1 H1, Stp g ρ F σ H ρ1 F1 σ H1 → IvOk g ρ1 F1 σ H H1 x v → GoodO g W Z ρ F σ H (f v ρ1) → Q x H1) : t σ H Q :=
  h ρ F σ H Q rl ((good_to k).mono (fun v ρ1 k x F1 H1 s iv => n v ρ1 x F1 H1 s iv k) fun _ _ _ q => q)
theorem SndD.st {r : Env → R D} {f : D → Env → O} {Q : VK} (h : SndD g W t r) (rl : Rl g ρ F σ H) (k : GoodO g W Z ρ F σ H ((r ρ).to f)) (n : ∀ v ρ1 x F1 H1, Stp g ρ F σ H ρ1 F1 σ H1 → Rep g F1 x v → GoodO g W Z ρ F σ H (f v ρ1) → Q x H1) : t σ H Q :=
  h ρ F σ H Q rl ((good_to k).mono (fun v ρ1 k x F1 H1 s iv => n v ρ1 x F1 H1 s iv k) fun _ _ _ q => q)
theorem SndT.st {tt : TT} {r : Env → R Bool} {f : Bool → Env → O} {Q : Bool → Hp → Prop} (h : SndT g W tt r) (rl : Rl g ρ F σ H) (k : GoodO g W Z ρ F σ H ((r ρ).to f)) (n : ∀ v ρ1 F1 H1, Stp g ρ F σ H ρ1 F1 σ H1 → GoodO g W Z ρ F σ H (f v ρ1) → Q v H1) : tt σ H Q :=
  h ρ F σ H Q rl ((good_to k).mono (fun v ρ1 k F1 H1 s => n v ρ1 F1 H1 s k) fun _ _ _ q => q)
theorem SndL.st {ts : TA} {r : Env → R (List D)} {f : List D → Env → O} {Q : List V → Hp → Prop} (h : SndL g W ts r) (rl : Rl g ρ F σ H) (k : GoodO g W Z ρ F σ H ((r ρ).to f)) (n : ∀ v ρ1 x F1 H1, Stp g ρ F σ H ρ1 F1 σ H1 → Rps g F1 x v → GoodO g W Z ρ F σ H (f v ρ1) → Q x H1) : ts σ H Q :=
  h ρ F σ H Q rl ((good_to k).mono (fun v ρ1 k x F1 H1 s iv => n v ρ1 x F1 H1 s iv k) fun _ _ _ q => q)
theorem ss_asg (ha : Snd g W t ra) : SndS g W (tAsg t (gName i)) fun ρ => (ra ρ).to fun v ρ => (store g.np i ρ v).to fun _ ρ => .nx ρ := fun ρ F σ H Z dm rl k => by
  refine ha.st rl k fun v ρ1 x F1 H1 s iv k => ?_
  obtain ⟨ρ2, F2, s2, k⟩ := store_ok2 dm s iv k
  exact k _ F2 H1 s2
theorem store_d {np : Nat} {d : D} : store np i ρ (.d d) = .ok () (ρ.set i (.d d)) ∨ store np i ρ (.d d) = .no := by
  simp only [store, kp, R.bind]
  by_cases h : i < np
  · rw [if_pos h]
    cases ρ.at i with
    | own c => exact .inr rfl
    | _ => exact .inl rfl
  · rw [if_neg h]; exact .inl rfl
theorem storeAll_ok {f : Env → O} : ∀ {is : List Nat} {ds : List D} {xs : List V} {ρ1 : Env} {F1 : Hp} {σ1 : L2.St} {Q : L2.St → Hp → Prop}, Stp g ρ F σ H ρ1 F1 σ1 H1 → Rps g F1 xs ds → GoodO g W Z ρ F σ H ((storeAll g.np is ds ρ1).to fun _ ρ => f ρ) →
    (∀ ρ2 F2 σ2, Stp g ρ F σ H ρ2 F2 σ2 H1 → GoodO g W Z ρ F σ H (f ρ2) → Q σ2 H1) → is.length = xs.length ∧ gNames is xs σ1 H1 Q := by
  intro is
  induction is with
  | nil =>
    intro ds xs ρ1 F1 σ1 Q s r k n
    cases ds with
    | nil =>
      have : xs = [] := List.eq_nil_of_length_eq_zero r.1
      subst this
      exact ⟨rfl, rfl, n _ _ _ s k⟩
    | cons d ds => exact k.elim
  | cons i is ih =>
    intro ds xs ρ1 F1 σ1 Q s r k n
    cases ds with
    | nil => exact k.elim
    | cons d ds =>
      cases xs with
      | nil => have := r.1; simp at this
      | cons x xs =>
        have s3 := s.put (i := i) r.head
        have go : GoodO g W Z ρ F σ H ((storeAll g.np is ds (ρ1.set i (.d d))).to fun _ ρ => f ρ) → (i :: is).length = (x :: xs).length ∧ gNames (i :: is) (x :: xs) σ1 H1 Q := fun k => by
          obtain ⟨a, b⟩ := ih s3 r.tail k n
          exact ⟨by simp [a], x, xs, rfl, b⟩
        rcases store_d (np := g.np) (i := i) (ρ := ρ1) (d := d) with h | h
        · simp only [storeAll, h, R.bind] at k; exact go k
        · simp only [storeAll, h, R.bind] at k; exact k.elim
theorem ss_asgT {is : List Nat} {ra : Env → R D} (ha : SndD g W t ra) : SndS g W (tAsg t (gTup g.K is.length (gNames is))) fun ρ => (ra ρ).to fun x ρ => match x with
    | .tup xs => (storeAll g.np is xs ρ).to fun _ ρ => .nx ρ
    | _ => .no := fun ρ F σ H Z dm rl k => by
  refine ha.st rl k fun v ρ1 x F1 H1 s iv k => ?_
  cases v with
  | tup ds =>
    cases iv with
    | @tup a vs _ h e r =>
      have q := storeAll_ok (f := fun ρ => .nx ρ) (Q := Z.nx) s ⟨e, r⟩ k fun ρ2 F2 σ2 s2 k2 => k2 σ2 F2 H1 s2
      exact ⟨a, vs, rfl, sm_t s.rel.same h, q.1.symm, q.2⟩
  | _ => exact k.elim
/-- an owned object written -/
theorem Stp.wrOwn {c c' : Cn} (rl : Rl g ρ F σ H) (e : ρ.at i = .own c) (hσ : σ[i]? = some (some (.ref p))) (hc : CRep g F (upd H p o) p c') (ft : c'.fit g.T = true) : Stp g ρ F σ H (ρ.set i (.own c')) F σ (upd H p o) := by
  have hi : i < ρ.length := at_lt (by rw [e]; exact fun z => nomatch z)
  have ow0 : Own ρ σ i p := ⟨⟨c, e⟩, hσ⟩
  obtain ⟨p', h1, hf, h2, _⟩ := rl.ownAt e
  rw [hσ] at h1
  cases h1
  have own : ∀ {j q}, Own (ρ.set i (.own c')) σ j q → Own ρ σ j q := fun {j q} ⟨⟨c2, z⟩, w⟩ => by
    by_cases h : i = j
    · subst h; exact ⟨⟨c, e⟩, w⟩
    · rw [at_set_ne h] at z; exact ⟨⟨c2, z⟩, w⟩
  have held : ∀ {j q}, Held (ρ.set i (.own c')) σ j q → Held ρ σ j q := fun {j q} ⟨z, w⟩ => by
    by_cases h : i = j
    · subst h; exact ⟨.inl ⟨c, e⟩, w⟩
    · rw [at_set_ne h] at z; exact ⟨z, w⟩
  refine ⟨⟨fun a u z => ?_, by rw [List.length_set]; exact rl.len, fun j => ?_, fun a b q n x y => rl.apart a b q n (own x) (held y), fun a q x => rl.old a q (own x), fun a q x => rl.new a q (own x)⟩, Same.refl _, fun a x y => absurd x y, fun a u z w => ?_, fun a z => ?_, fun a ⟨j, z⟩ => .inl ⟨j, own z⟩, fun j c2 z => ?_⟩
  · rw [upd_ne (ne_of_none z hf)]; exact rl.same a u z
  · by_cases h : i = j
    · subst h; rw [at_set_same hi]; exact .own hσ hf hc ft
    · rw [at_set_ne h]
      refine (rl.sl j).mono (Same.refl _) (fun c2 q z w => (held_of z w |>.there rl).1) fun c2 q u z w hu => ?_
      have : q ≠ p := fun y => rl.apart i j p h ow0 (y ▸ held_of z w)
      rw [upd_ne this]; exact hu
  · have : a ≠ p := fun y => w (y ▸ ⟨i, ow0⟩)
    rw [upd_ne this]; exact z
  · by_cases y : a = p
    · subst y; rw [upd_same] at z; cases z
    · rw [upd_ne y] at z; exact z
  · by_cases h : i = j
    · subst h; rw [at_set_same hi] at z; cases z
    · rw [at_set_ne h] at z; exact ⟨z, rfl⟩
theorem isOwn_of {s : Slot} (h : isOwn s = true) : ∃ c, s = .own c := by cases s <;> first | exact ⟨_, rfl⟩ | cases h
theorem isLst_of {s : Slot} (h : isLst s = true) : ∃ ds, s = .own (.lst ds) := by
  cases s with
  | own c => cases c <;> first | exact ⟨_, rfl⟩ | cases h
  | _ => cases h
theorem ss_put {rv rk : Env → R D} (hv : SndD g W t rv) (hk : SndD g W u rk) : SndS g W (tAsg t (gSub (tVar i) u rSetX)) fun ρ => match isOwn (ρ.at i) with
    | true => (rv ρ).to fun v ρ => (rk ρ).to fun k ρ => match ρ.at i with
      | .own c => match cnPut k v c with
        | some c => .nx (ρ.set i (.own c))
        | none => .no
      | _ => .no
    | false => .no := fun ρ F σ H Z dm rl k => by
  cases e0 : isOwn (ρ.at i) with
  | false => simp only [e0] at k; exact k.elim
  | true =>
    simp only [e0] at k
    obtain ⟨c0, e0⟩ := isOwn_of e0
    obtain ⟨p, hσ, _⟩ := rl.ownAt e0
    refine hv.st rl k fun v ρ1 x F1 H1 s iv k => ⟨_, hσ, hk.st s.rel (k.later s) fun w ρ2 y F2 H2 s2 iw k => ?_⟩
    cases e : ρ2.at i with
    | own c =>
      rw [e] at k
      dsimp only at k
      cases e2 : cnPut w v c with
      | none => rw [e2] at k; exact k.elim
      | some c' =>
        rw [e2] at k
        obtain ⟨q, h1, h2, h3, h4⟩ := s2.rel.ownAt e
        rw [hσ] at h1
        cases h1
        have ix := iv.mono s2.ext
        cases c with
        | lst ds =>
          cases h3 with
          | lst hp r =>
            cases w with
            | int z =>
              simp only [cnPut] at e2
              cases e3 : ixN ds.length z with
              | none => rw [e3] at e2; cases e2
              | some j =>
                rw [e3] at e2
                cases e2
                cases iw
                rename_i vs
                refine .inl ⟨p, vs, z, j, rfl, rfl, hp, by rw [r.1]; exact e3, k σ F2 _ (s2.trans (Stp.wrOwn s2.rel e hσ (.lst upd_same (r.set ix j)) rfl))⟩
            | _ => cases e2
        | dK es =>
          cases h3 with
          | dK hp hk r =>
            simp only [cnPut] at e2
            split at e2
            · rename_i key e3
              split at e2
              · rename_i hl
                cases e2
                rename_i kvs _
                have kr : KR g F2 (putK kvs key x) (put es key v) := (KR.of hk r).put ix
                have hl2 : kvs.length < sizeLine := by
                  have : kvs.length = es.length := (KR.of hk r).len
                  rw [this]
                  exact Nat.lt_trans hl line_lt
                rw [iw.key e3]
                exact .inr ⟨p, _, rfl, DPut.k hp hl2, k σ F2 _ (s2.trans (Stp.wrOwn s2.rel e hσ (.dK upd_same kr.keys kr.vals) rfl))⟩
              · cases e2
            · cases e2
        | _ => cases e2
    | _ => rw [e] at k; exact k.elim
theorem ss_app {ra : Env → R D} (ha : SndD g W t ra) : SndS g W (tDrop (tBM g.K "list" rAppend (tVar i) (tCons t tNil))) fun ρ => match isLst (ρ.at i) with
    | true => (ra ρ).to fun x ρ => match ρ.at i with
      | .own (.lst xs) => if xs.length < line then .nx (ρ.set i (.own (.lst (xs ++ [x])))) else .no
      | _ => .no
    | false => .no := fun ρ F σ H Z dm rl k => by
  cases e0 : isLst (ρ.at i) with
  | false => simp only [e0] at k; exact k.elim
  | true =>
    simp only [e0] at k
    obtain ⟨ds0, e0⟩ := isLst_of e0
    obtain ⟨p, hσ, _, h3, _⟩ := rl.ownAt e0
    cases h3 with
    | lst hp0 _ =>
      refine ⟨_, hσ, .inl ⟨rfl, _, SqL.of hp0⟩, ha.st rl k fun v ρ1 x F1 H1 s iv k => ?_⟩
      cases e : ρ1.at i with
      | own c =>
        rw [e] at k
        cases c with
        | lst ds =>
          dsimp only at k
          split at k
          · rename_i hl
            obtain ⟨q, h1, h2, h3, h4⟩ := s.rel.ownAt e
            rw [hσ] at h1
            cases h1
            cases h3 with
            | lst hp r =>
              rename_i vs
              exact ⟨p, vs, x, rfl, rfl, hp, by rw [r.1]; exact Nat.lt_trans hl line_lt, k σ F1 _ (s.trans (Stp.wrOwn s.rel e hσ (.lst upd_same (r.append (.cons iv .nil))) rfl))⟩
          · exact k.elim
        | _ => exact k.elim
      | _ => rw [e] at k; exact k.elim
theorem ss_aug {op : BO} {ra : Env → R D} (ha : SndD g W t ra) : SndS g W (tAug i t (rAug op)) fun ρ => match ρ.at i with
    | .d x => (ra ρ).to fun y ρ => match ρ.at i with
      | .d _ => match augD op x y with
        | some z => .nx (ρ.set i (.d z))
        | none => .no
      | _ => .no
    | _ => .no := fun ρ F σ H Z dm rl k => by
  dsimp only at k
  cases e0 : ρ.at i with
  | d x =>
    rw [e0] at k
    obtain ⟨v, hσ, rv⟩ := rl.dAt e0
    refine ⟨v, hσ, ha.st rl k fun y ρ1 w F1 H1 s iw k => ?_⟩
    cases e1 : ρ1.at i with
    | d x' =>
      rw [e1] at k
      dsimp only at k
      have rv1 := rv.mono s.ext
      cases e2 : augD op x y with
      | none => rw [e2] at k; exact k.elim
      | some z =>
        rw [e2] at k
        unfold augD at e2
        split at e2
        · cases e2; cases rv1; cases iw
          exact ⟨_, _, rfl, rfl, k _ F1 H1 (s.put (.int _))⟩
        · cases e2; cases rv1; cases iw
          exact ⟨_, _, rfl, rfl, k _ F1 H1 (s.put (.int _))⟩
        · cases e2
    | _ => rw [e1] at k; exact k.elim
  | _ => rw [e0] at k; exact k.elim
theorem ss_expr (ha : Snd g W t ra) : SndS g W (tDrop t) fun ρ => (ra ρ).to fun _ ρ => .nx ρ := fun ρ F σ H Z dm rl k => ha.st rl k fun v ρ1 x F1 H1 s iv k => k σ F1 H1 s
theorem ss_ret (ha : Snd g W t ra) : SndS g W (tRet t) fun ρ => (ra ρ).to fun v ρ => retO g.np v ρ := fun ρ F σ H Z dm rl k => by
  refine ha.st rl k fun v ρ1 x F1 H1 s iv k => ?_
  cases v with
  | d y => exact k x σ F1 H1 s iv
  | fr c =>
    obtain ⟨p, rfl, h1, h2, h3, h4, h5⟩ := iv
    exact k _ σ F1 H1 s ⟨p, rfl, dm p h1, h2, h3, h4⟩
  | sl i =>
    have hx : σ[i]? = some (some x) := iv
    simp only [retO] at k
    cases e : ρ1.at i with
    | own c =>
      rw [e] at k
      dsimp only at k
      split at k
      · exact k.elim
      · rename_i hi
        obtain ⟨p, h1, h2, h3, h4⟩ := s.rel.ownAt e
        rw [hx] at h1
        cases h1
        exact k _ σ F1 H1 s.un ⟨p, rfl, s.rel.new i p ⟨⟨c, e⟩, hx⟩ (Nat.le_of_not_lt hi), h2, h3, h4⟩
    | _ => rw [e] at k; exact k.elim
theorem ss_retN : SndS g W tRetN fun ρ => .rt (.d .non) ρ := fun ρ F σ H Z dm rl k => k .non σ F H (Stp.refl rl) .non
theorem ss_if {tc : TT} {rc : Env → R Bool} {ta tb : TS} {xa xb : Env → O} (hc : SndT g W tc rc) (ha : SndS g W ta xa) (hb : SndS g W tb xb) : SndS g W (tIfS tc ta tb) fun ρ => (rc ρ).to fun t ρ => match t with
    | true => xa ρ
    | false => xb ρ := fun ρ F σ H Z dm rl k => by
  refine hc.st rl k fun v ρ1 F1 H1 s k => ?_
  cases v with
  | true => rw [if_pos rfl]; exact ha ρ1 F1 σ H1 Z (dm.later s) s.rel (k.later s)
  | false => rw [if_neg (by decide)]; exact hb ρ1 F1 σ H1 Z (dm.later s) s.rel (k.later s)
theorem ss_brk : SndS g W tBreak fun ρ => .bk ρ := fun ρ F σ H Z dm rl k => k σ F H (Stp.refl rl)
theorem ss_cont : SndS g W tCont fun ρ => .ct ρ := fun ρ F σ H Z dm rl k => k σ F H (Stp.refl rl)
theorem ss_next : SndS g W tNext fun ρ => .nx ρ := fun ρ F σ H Z dm rl k => k σ F H (Stp.refl rl)
theorem ss_seq {ta tb : TS} {xa xb : Env → O} (ha : SndS g W ta xa) (hb : SndS g W tb xb) : SndS g W (tSeq ta tb) fun ρ => (xa ρ).then fun ρ => xb ρ := fun ρ F σ H Z dm rl k => by
  refine ha ρ F σ H { Z with nx := tb Z } dm rl ?_
  cases e : xa ρ with
  | nx ρ1 =>
    simp only [e] at k
    exact fun σ' F' H' s => hb ρ1 F' σ' H' Z (dm.later s) s.rel (k.later s)
  | rt v ρ1 => simp only [e] at k; exact k
  | bk ρ1 => simp only [e] at k; exact k
  | ct ρ1 => simp only [e] at k; exact k
  | er c fs ρ1 => simp only [e] at k; exact k
  | no => simp only [e] at k; exact k
theorem ss_raise {c : Nat} {ts : TA} {rs : Env → R (List D)} (hr : SndL g W ts rs) : SndS g W (tRaise g W c ts) fun ρ => (rs ρ).to fun ds ρ => if c < g.T.ne ∧ ds.length = (g.T.ef c).length ∧ ds.length ≤ 20 then .er c ds ρ else .no := fun ρ F σ H Z dm rl k => by
  refine hr.st rl k fun v ρ1 x F1 H1 s iv k => ?_
  split at k
  · rename_i h
    obtain ⟨h1, h2, h3⟩ := h
    refine ⟨by rw [iv.1]; exact h2, by rw [iv.1]; exact h3, h1, fun dd ws hd hw => ?_⟩
    have fr := s.rel.free hd
    refine k (some dd) σ (upd F1 dd (.xd ws)) _ (s.trans (Stp.allocD s.rel hd)) ⟨h1, dd, ws, rfl, upd_same, fun n y e => ?_⟩
    unfold fieldE at e
    split at e
    · have : ∀ {ns : List Str} {xs : List V} {ds : List D}, Rps g F1 xs ds → (ns.zip ds).lookup n = some y → ∃ v, (ns.zip xs).lookup n = some v ∧ Rep g F1 v y := by
        intro ns
        induction ns with
        | nil => intro xs ds _ e; cases e
        | cons m ns ih =>
          intro xs ds r e
          cases ds with
          | nil => cases e
          | cons d ds =>
            cases xs with
            | nil => have := r.1; simp at this
            | cons x xs =>
              simp only [List.zip_cons_cons, List.lookup_cons] at e ⊢
              cases q : n == m with
              | true => rw [q] at e; cases e; exact ⟨x, rfl, r.head⟩
              | false => rw [q] at e; exact ih r.tail e
      obtain ⟨v', a, b⟩ := this iv e
      exact ⟨v', hw n v' a, b.mono (same_new fr.1)⟩
    · cases e
  · exact k.elim
end
end EN
/-! Loops, except clauses. -/
namespace EN
open PySem L2
section
variable {g : Gam} {W : WX} {ρ ρ' ρ1 ρ2 : Env} {F F1 F2 F' H H1 H2 H0 H' : Hp} {σ σ' σ1 σ2 : L2.St} {p : Addr} {o : HO} {i j : Nat} {Q : VK} {t u : TE} {ra rb : Env → R IV} {T : Tb} {fn : Fn} {f : Nat} {Z : Ends}
theorem ss_for {wi : TI} {ri : Env → R (IV × List D)} {tb : TS} {xb : Env → O} (hi : SndI g W wi ri) (hb : SndS g W tb xb) : SndS g W (tFor wi (gName i) tb) fun ρ => (ri ρ).to fun p ρ => (forRun g.np i xb p.2 (lend ρ p.1)).back ρ p.1 := fun ρ F σ H Z dm rl k => by
  refine hi ρ F σ H _ rl ((good_to k).mono (fun q ρ1 k J F1 H1 s w hl => ?_) fun _ _ _ q => q)
  obtain ⟨v, ds⟩ := q
  have k := k.later s
  have dm1 := dm.later s
  have rl1 := s.rel
  clear s rl dm
  dsimp only at k w hl
  have b0 : Stp g (lend ρ1 v) F1 σ H1 (lend ρ1 v) F1 σ H1 := Stp.refl rl1.lend
  let WW : Nat → Nat → L2.St → Hp → Prop := fun n m σk Hk => n + m = ds.length ∧ ∃ ρk Fk, Stp g (lend ρ1 v) F1 σ H1 ρk Fk σk Hk ∧ GoodO g W Z ρ1 F1 σ H1 ((forRun g.np i xb (ds.drop n) ρk).back ρ1 v)
  refine ⟨WW, ⟨ds.length, by omega, lend ρ1 v, F1, b0, k⟩, ?_⟩
  rintro n m σk Hk ⟨nm, ρk, Fk, st, kk⟩
  cases e : ds[n]? with
  | none =>
    have hn : ds.length ≤ n := List.getElem?_eq_none_iff.mp e
    refine .inl ⟨w.stop st hn, ?_⟩
    rw [List.drop_eq_nil_of_le hn] at kk
    exact kk σk Fk Hk (Stp.unlend rl1 st)
  | some d =>
    obtain ⟨hn, _⟩ := List.getElem?_eq_some_iff.mp e
    obtain ⟨go, yl⟩ := w.go st e
    refine .inr ⟨go, WW (n + 1) (m - 1), fun σ' H' h => ⟨m - 1, by omega, h⟩, fun x H' y => ?_⟩
    obtain ⟨rfl, rx⟩ := yl x H' y
    rw [drop_at e] at kk
    have st2 := st.put (i := i) rx
    rcases store_d (np := g.np) (i := i) (ρ := ρk) (d := d) with h | h
    · refine hb (ρk.set i (.d d)) Fk (σk.set i (some x)) H' _ (fun a e => dm1 a (st2.dom a e)) st2.rel ?_
      simp only [forRun, h] at kk
      dsimp only [R.to] at kk
      cases e2 : xb (ρk.set i (.d d)) with
      | nx ρ3 =>
        rw [e2] at kk
        exact fun σ3 F3 H3 s3 => ⟨by omega, ρ3, F3, st2.trans s3, kk⟩
      | ct ρ3 =>
        rw [e2] at kk
        exact fun σ3 F3 H3 s3 => ⟨by omega, ρ3, F3, st2.trans s3, kk⟩
      | bk ρ3 =>
        rw [e2] at kk
        exact fun σ3 F3 H3 s3 => kk σ3 F3 H3 (Stp.unlend rl1 (st2.trans s3))
      | rt v3 ρ3 =>
        rw [e2] at kk
        exact fun x3 σ3 F3 H3 s3 rv => kk x3 σ3 F3 H3 (Stp.unlend rl1 (st2.trans s3)) rv
      | er c fs ρ3 =>
        rw [e2] at kk
        exact fun dd σ3 F3 H3 s3 ex => kk dd σ3 F3 H3 (Stp.unlend rl1 (st2.trans s3)) ex
      | no => rw [e2] at kk; exact kk
    · simp only [forRun, h] at kk
      exact kk.elim
theorem ss_while {tc : TT} {rc : Env → R Bool} {tb : TS} {xb : Env → O} {n : Nat} (hc : SndT g W tc rc) (hb : SndS g W tb xb) : SndS g W (tWhile tc tb) fun ρ => whRun rc xb n ρ := fun ρ F σ H Z dm rl k => by
  let WW : Nat → L2.St → Hp → Prop := fun m σk Hk => ∃ ρk Fk, Stp g ρ F σ H ρk Fk σk Hk ∧ GoodO g W Z ρ F σ H (whRun rc xb m ρk)
  refine ⟨WW, ⟨n, ρ, F, Stp.refl rl, k⟩, ?_⟩
  rintro m σk Hk ⟨ρk, Fk, st, kk⟩
  cases m with
  | zero => exact kk.elim
  | succ m =>
    refine hc ρk Fk σk Hk _ st.rel ?_
    cases e : rc ρk with
    | no => simp only [whRun, e] at kk; exact kk.elim
    | er c fs ρ1 => simp only [whRun, e] at kk; exact fun d F' H' s x => kk d σk F' H' (st.trans s) x
    | ok v ρ1 =>
      simp only [whRun, e] at kk
      intro F1 H1 s1
      have st1 := st.trans s1
      cases v with
      | false => rw [if_neg Bool.false_ne_true]; exact kk σk F1 H1 st1
      | true =>
        rw [if_pos rfl]
        refine ⟨WW m, fun σ' H' h => ⟨m, Nat.lt_succ_self m, h⟩, ?_⟩
        refine hb ρ1 F1 σk H1 _ (fun a e => dm a (st1.dom a e)) st1.rel ?_
        dsimp only [R.to] at kk
        cases e2 : xb ρ1 with
        | nx ρ3 => rw [e2] at kk; exact fun σ3 F3 H3 s3 => ⟨ρ3, F3, st1.trans s3, kk⟩
        | ct ρ3 => rw [e2] at kk; exact fun σ3 F3 H3 s3 => ⟨ρ3, F3, st1.trans s3, kk⟩
        | bk ρ3 => rw [e2] at kk; exact fun σ3 F3 H3 s3 => kk σ3 F3 H3 (st1.trans s3)
        | rt v3 ρ3 => rw [e2] at kk; exact fun x3 σ3 F3 H3 s3 rv => kk x3 σ3 F3 H3 (st1.trans s3) rv
        | er c fs ρ3 => rw [e2] at kk; exact fun dd σ3 F3 H3 s3 ex => kk dd σ3 F3 H3 (st1.trans s3) ex
        | no => rw [e2] at kk; exact kk
/-! ### an error held -/
theorem Rep.pn {g g' : G0} (hK : g'.K = g.K) (hT : g'.T = g.T) (ho : g'.oc = g.oc) {x : V} {d : D} (h : Rep g F x d) : Rep g' F x d := by
  induction h with
  | non => exact .non
  | bl b => exact .bl b
  | int i => exact .int i
  | str x => exact .str x
  | tup h e r ih => exact .tup (by rw [hK]; exact h) e ih
  | lst h e r ih => exact .lst h e ih
  | scr h => exact .scr (by rw [hK]; exact h)
  | dK h hk e r ih => exact .dK h hk e ih
  | dT h hk e r ih => exact .dT h hk e ih
  | obj hc h hk e r ih => exact .obj (by rw [hT]; exact hc) (by rw [ho]; exact h) (by rw [hT]; exact hk) e ih
theorem CRep.pn {g g' : G0} (hK : g'.K = g.K) (hT : g'.T = g.T) (ho : g'.oc = g.oc) {c : Cn} (h : CRep g F H p c) : CRep g' F H p c := by
  have rs : ∀ {vs : List V} {ds : List D}, Rps g F vs ds → Rps g' F vs ds := fun r => ⟨r.1, fun i v d a b => (r.2 i v d a b).pn hK hT ho⟩
  cases h with
  | lst h r => exact .lst h (rs r)
  | dK h hk r => exact .dK h hk (rs r)
  | dT h hk r => exact .dT h hk (rs r)
  | ob hc h hk r => exact .ob (by rw [hT]; exact hc) (by rw [ho]; exact h) hk (rs r)
theorem ExF.pn {g g' : G0} (hK : g'.K = g.K) (hT : g'.T = g.T) (ho : g'.oc = g.oc) {d : Option Addr} {c : Nat} {fs : List D} (h : ExF g F d c fs) : ExF g' F d c fs := by
  obtain ⟨h0, dd, ws, h1, h2, h3⟩ := h
  exact ⟨by rw [hT]; exact h0, dd, ws, h1, h2, fun n x q => by
    rw [hT] at q
    obtain ⟨v, a, b⟩ := h3 n x q
    exact ⟨v, a, b.pn hK hT ho⟩⟩
/-- a body that holds an error -/
def Gam.hot (g : Gam) (q : Option (Addr × Value × Option Addr)) : Gam := { g with pn := q }
theorem SlOk.hot {q : Option (Addr × Value × Option Addr)} {s : Slot} (ns : ∀ c fs, s ≠ .exc c fs) (h : SlOk g F σ H i s) : SlOk (g.hot q) F σ H i s := by
  cases h with
  | un => exact .un
  | d h r => exact .d h (r.pn (g := g.toG0) (g' := (g.hot q).toG0) rfl rfl rfl)
  | own h hf r ft => exact .own h hf (r.pn (g := g.toG0) (g' := (g.hot q).toG0) rfl rfl rfl) ft
  | bor h hf r ft => exact .bor h hf (r.pn (g := g.toG0) (g' := (g.hot q).toG0) rfl rfl rfl) ft
  | exc hp h f => exact absurd rfl (ns _ _)
theorem SlOk.cold {q : Option (Addr × Value × Option Addr)} {s : Slot} (ns : ∀ c fs, s ≠ .exc c fs) (h : SlOk (g.hot q) F σ H i s) : SlOk g F σ H i s := by
  cases h with
  | un => exact .un
  | d h r => exact .d h (r.pn (g := (g.hot q).toG0) (g' := g.toG0) rfl rfl rfl)
  | own h hf r ft => exact .own h hf (r.pn (g := (g.hot q).toG0) (g' := g.toG0) rfl rfl rfl) ft
  | bor h hf r ft => exact .bor h hf (r.pn (g := (g.hot q).toG0) (g' := g.toG0) rfl rfl rfl) ft
  | exc hp h f => exact absurd rfl (ns _ _)
theorem map_at {f : Slot → Slot} (h : f .un = .un) : Env.at (ρ.map f) i = f (ρ.at i) := by
  unfold Env.at
  rw [List.getD_eq_getElem?_getD, List.getD_eq_getElem?_getD, List.getElem?_map]
  cases ρ[i]? with
  | none => exact h.symm
  | some s => rfl
theorem unE_own {s : Slot} {c : Cn} : s.unE = .own c → s = .own c := by cases s <;> intro h <;> first | exact h | cases h
theorem unE_bor {s : Slot} {c : Cn} : s.unE = .bor c → s = .bor c := by cases s <;> intro h <;> first | exact h | cases h
theorem unE_exc {s : Slot} : ∀ c fs, s.unE ≠ .exc c fs := by cases s <;> intro c fs h <;> cases h
theorem goneE_at : (goneE i ρ).at j = if i = j ∧ i < ρ.length then .un else (ρ.at j).unE := by
  unfold goneE
  rw [at_set, map_at rfl, List.length_map]
/-- into a suite that holds an error -/
theorem Rl.hot {a : Addr} {c : Nat} {fs : List D} {d : Option Addr} (hp : g.pn = none) (r : Rl g ρ F σ H) (h : ExF g F d c fs) : Rl (g.hot (some (a, .ref (g.ec c), d))) (ρ.set i (.exc c fs)) F (σ.set i (some (.ref a))) H := by
  have ns : ∀ j c fs, ρ.at j ≠ .exc c fs := fun j c fs e => by
    have y := r.sl j
    rw [e] at y
    cases y with
    | exc hp' h f => rw [hp] at hp'; cases hp'
  have own : ∀ {j q}, Own (ρ.set i (.exc c fs)) (σ.set i (some (.ref a))) j q → Own ρ σ j q := fun {j q} z => own_set2 (fun c => Slot.noConfusion) z
  have held : ∀ {j q}, Held (ρ.set i (.exc c fs)) (σ.set i (some (.ref a))) j q → Held ρ σ j q := fun {j q} ⟨z, w⟩ => by
    by_cases e : i = j
    · subst e
      rw [at_set] at z
      split at z
      · rcases z with ⟨_, z⟩ | ⟨_, z⟩ <;> cases z
      · rename_i q
        have : ρ.at i = .un := at_un fun z => q ⟨rfl, z⟩
        rw [this] at z
        rcases z with ⟨_, z⟩ | ⟨_, z⟩ <;> cases z
    · rw [at_set_ne e] at z
      rw [List.getElem?_set_ne e] at w
      exact ⟨z, w⟩
  refine ⟨r.same, by rw [List.length_set, List.length_set]; exact r.len, fun j => ?_, fun a b q n x y => r.apart a b q n (own x) (held y), fun a q x => r.old a q (own x), fun a q x => r.new a q (own x)⟩
  by_cases e : i = j
  · subst e
    rw [at_set]
    split
    · rename_i q
      exact .exc rfl (List.getElem?_set_self (by rw [← r.len]; exact q.2)) (h.pn (g := g.toG0) (g' := (g.hot (some (a, .ref (g.ec c), d))).toG0) rfl rfl rfl)
    · rename_i q
      have : ρ.at i = .un := at_un fun z => q ⟨rfl, z⟩
      rw [this]; exact .un
  · rw [at_set_ne e]
    exact ((r.sl j).off (List.getElem?_set_ne e).symm).hot (ns j)
/-- .. and behind it -/
theorem Stp.cold {a : Addr} {c : Nat} {fs : List D} {d : Option Addr} (hp : g.pn = none) (r : Rl g ρ F σ H) (s : Stp (g.hot (some (a, .ref (g.ec c), d))) (ρ.set i (.exc c fs)) F (σ.set i (some (.ref a))) H ρ1 F1 σ1 H1) : Stp g ρ F σ H (goneE i ρ1) F1 (σ1.set i none) H1 := by
  have own : ∀ {j q}, Own (goneE i ρ1) (σ1.set i none) j q → Own ρ1 σ1 j q := fun {j q} ⟨⟨c, z⟩, w⟩ => by
    rw [goneE_at] at z
    split at z
    · cases z
    · rename_i h
      have z := unE_own z
      by_cases e : i = j
      · subst e; rw [at_un fun z => h ⟨rfl, z⟩] at z; cases z
      · rw [List.getElem?_set_ne e] at w; exact ⟨⟨c, z⟩, w⟩
  have held : ∀ {j q}, Held (goneE i ρ1) (σ1.set i none) j q → Held ρ1 σ1 j q := fun {j q} ⟨z, w⟩ => by
    rw [goneE_at] at z
    split at z
    · rcases z with ⟨_, z⟩ | ⟨_, z⟩ <;> cases z
    · rename_i h
      have z : (∃ c, ρ1.at j = .own c) ∨ ∃ c, ρ1.at j = .bor c := z.elim (fun ⟨c, z⟩ => .inl ⟨c, unE_own z⟩) fun ⟨c, z⟩ => .inr ⟨c, unE_bor z⟩
      by_cases e : i = j
      · subst e
        rw [at_un fun z => h ⟨rfl, z⟩] at z
        rcases z with ⟨_, z⟩ | ⟨_, z⟩ <;> cases z
      · rw [List.getElem?_set_ne e] at w; exact ⟨z, w⟩
  have ow0 : ∀ {q}, Ow (ρ.set i (.exc c fs)) (σ.set i (some (.ref a))) q → Ow ρ σ q := fun {q} ⟨j, z⟩ => ⟨j, own_set2 (fun c => Slot.noConfusion) z⟩
  refine ⟨⟨s.rel.same, ?_, fun j => ?_, fun a b q n x y => s.rel.apart a b q n (own x) (held y), fun a q x => s.rel.old a q (own x), fun a q x => s.rel.new a q (own x)⟩, s.ext, fun a x y => (s.new a x y).imp_right ow0, ?_, s.dom, fun a ⟨j, z⟩ => (s.ow a ⟨j, own z⟩).imp_left ow0, fun j c' z => ?_⟩
  · unfold goneE
    rw [List.length_set, List.length_map, List.length_set]; exact s.rel.len
  · rw [goneE_at]
    split
    · exact .un
    · rename_i h
      by_cases e : i = j
      · subst e; rw [at_un fun z => h ⟨rfl, z⟩]; exact .un
      · have y := (s.rel.sl j).off (List.getElem?_set_ne (a := none) e).symm
        cases q : ρ1.at j with
        | exc c fs => exact .un
        | un => exact .un
        | d x => rw [q] at y; exact y.cold fun c fs z => nomatch z
        | own x => rw [q] at y; exact y.cold fun c fs z => nomatch z
        | bor x => rw [q] at y; exact y.cold fun c fs z => nomatch z
  · exact fun b u hb nb => s.keep b u hb fun w => nb (ow0 w)
  · rw [goneE_at] at z
    split at z
    · cases z
    · rename_i h
      have z := unE_bor z
      by_cases e : i = j
      · subst e; rw [at_un fun z => h ⟨rfl, z⟩] at z; cases z
      · obtain ⟨x, y⟩ := s.brw j c' z
        rw [at_set_ne e] at x
        rw [List.getElem?_set_ne e] at y ⊢
        exact ⟨x, y⟩
end
end EN
/-! Every statement's reading follows from its run. -/
namespace EN
open PySem L2
section
variable {W : WX} {ρ ρ' ρ1 ρ2 : Env} {F F1 F2 F' H H1 H2 H0 H' : Hp} {σ σ' σ1 σ2 : L2.St} {p : Addr} {o : HO} {i j : Nat} {Q : VK} {t u : TE} {ra rb : Env → R IV} {T : Tb} {f : Nat} {Z : Ends}
theorem KF.hot {g : Gam} {q : Option (Addr × Value × Option Addr)} (K : KF g) : KF (g.hot q) := ⟨K.isi, K.ise, K.cls, K.exm, K.cget, K.ctak⟩
theorem RvS.cold {g : Gam} {q : Option (Addr × Value × Option Addr)} {x : V} {v : IV} (h : RvS (g.hot q) F H x v) : RvS g F H x v := by
  cases v with
  | d y => exact Rep.pn (g := (g.hot q).toG0) (g' := g.toG0) rfl rfl rfl h
  | fr c =>
    obtain ⟨p, a, b, c', e, ft⟩ := h
    exact ⟨p, a, b, c', e.pn (g := (g.hot q).toG0) (g' := g.toG0) rfl rfl rfl, ft⟩
  | sl i => exact h
theorem suite_ok {g : Gam} {a : Addr} {c : Nat} {fs : List D} {d : Option Addr} {r : O} (hp : g.pn = none) (rl : Rl g ρ F σ H) (k : GoodO g W Z ρ F σ H (gone i r)) : GoodO (g.hot (some (a, .ref (g.ec c), d))) W0 (endE i Z) (ρ.set i (.exc c fs)) F (σ.set i (some (.ref a))) H r := by
  cases r with
  | nx ρ2 => exact fun σ2 F2 H2 s => k _ F2 H2 (Stp.cold hp rl s)
  | rt v ρ2 => exact fun x σ2 F2 H2 s rv => k x _ F2 H2 (Stp.cold hp rl s) rv.cold
  | bk ρ2 => exact fun σ2 F2 H2 s => k _ F2 H2 (Stp.cold hp rl s)
  | ct ρ2 => exact fun σ2 F2 H2 s => k _ F2 H2 (Stp.cold hp rl s)
  | er c fs ρ2 => exact k.elim
  | no => exact k
variable (fn : Fn)
mutual
theorem sndS : ∀ (s : IS) (g : Gam) (W : WX), KF g → (s.noTry = true ∨ g.pn = none) → SndS g W (rs g fn W s) fun ρ => ex g.T fn g.np s ρ
  | .asg i e, g, W, K, h => ss_asg (snd K fn e W)
  | .asgT is e, g, W, K, h => ss_asgT (snd K fn e W).kept
  | .put i k v, g, W, K, h => ss_put (snd K fn v W).kept (snd K fn k W).kept
  | .expr e, g, W, K, h => ss_expr (snd K fn e W)
  | .app i e, g, W, K, h => ss_app (snd K fn e W).kept
  | .ret e, g, W, K, h => ss_ret (snd K fn e W)
  | .retN, g, W, K, h => ss_retN
  | .ifS c a b, g, W, K, h => ss_if (sndT K fn c W) (sndSs a g W K (h.imp_left fun h => (Bool.and_eq_true_iff.mp h).1)) (sndSs b g W K (h.imp_left fun h => (Bool.and_eq_true_iff.mp h).2))
  | .forS i it b, g, W, K, h => ss_for (sndI K fn it W) (sndSs b g W K h)
  | .aug i op e, g, W, K, h => ss_aug (snd K fn e W).kept
  | .whl c b, g, W, K, h => ss_while (sndT K fn c W) (sndSs b g W K (.inr (h.elim (fun z => nomatch z) id)))
  | .brk, g, W, K, h => ss_brk
  | .cont, g, W, K, h => ss_cont
  | .pass, g, W, K, h => ss_next
  | .raise c es, g, W, K, h => ss_raise (sndL K fn es W)
  | .tryS b hs, g, W, K, h => fun ρ F σ H Z dm rl k => by
    have hp : g.pn = none := h.elim (fun z => nomatch z) id
    refine sndSs b g (rh g fn W hs Z) K (.inr hp) ρ F σ H Z dm rl ?_
    have k : GoodO g W Z ρ F σ H (match exs g.T fn g.np b ρ with
      | .er c fs ρ => exh g.T fn g.np hs c fs ρ
      | o => o) := k
    show GoodO g (rh g fn W hs Z) Z ρ F σ H (exs g.T fn g.np b ρ)
    cases e : exs g.T fn g.np b ρ with
    | er c fs ρ1 =>
      rw [e] at k
      exact fun d σ' F' H' s x => sndH hs g W K hp ρ1 F' σ' H' Z c fs d (dm.later s) s.rel x (k.later s)
    | _ => rw [e] at k; exact k
theorem sndSs : ∀ (s : ISs) (g : Gam) (W : WX), KF g → (s.noTry = true ∨ g.pn = none) → SndS g W (rss g fn W s) fun ρ => exs g.T fn g.np s ρ
  | .nil, g, W, K, h => ss_next
  | .cons s ss, g, W, K, h => ss_seq (sndS s g W K (h.imp_left fun h => (Bool.and_eq_true_iff.mp h).1)) (sndSs ss g W K (h.imp_left fun h => (Bool.and_eq_true_iff.mp h).2))
theorem sndH : ∀ (hs : IHs) (g : Gam) (W : WX), KF g → g.pn = none → ∀ (ρ : Env) (F : Hp) (σ : L2.St) (H : Hp) (Z : Ends) (c : Nat) (fs : List D) (d : Option Addr), Dm g H → Rl g ρ F σ H → ExF g F d c fs →
    GoodO g W Z ρ F σ H (exh g.T fn g.np hs c fs ρ) → rh g fn W hs Z (.ref (g.ec c)) d σ H
  | .nil, g, W, K, hp, ρ, F, σ, H, Z, c, fs, d, dm, rl, x, k => k d σ F H (Stp.refl rl) x
  | .cons n i s hs, g, W, K, hp, ρ, F, σ, H, Z, c, fs, d, dm, rl, x, k => by
    have k : GoodO g W Z ρ F σ H (if n < g.T.ne ∧ s.noTry = true then match g.T.es c n with
      | true => gone i (exs g.T fn g.np s (ρ.set i (.exc c fs)))
      | false => exh g.T fn g.np hs c fs ρ
      else .no) := k
    split at k
    · rename_i h
      obtain ⟨h1, h2⟩ := h
      refine ⟨_, K.exm c n x.1 h1, fun e a ha => ?_, fun e => ?_⟩
      · rw [e] at k
        exact sndSs s (g.hot (some (a, .ref (g.ec c), d))) W0 K.hot (.inl h2) (ρ.set i (.exc c fs)) F (σ.set i (some (.ref a))) H (endE i Z) dm (Rl.hot hp rl x) (suite_ok hp rl k)
      · rw [e] at k
        exact sndH hs g W K hp ρ F σ H Z c fs d dm rl x k
    · exact k.elim
end
end
end EN
/-! Defs: what a body must bring. -/
namespace EN
open PySem L2
section
variable {g : G0} {F F1 F2 F' H H1 H2 H0 H' : Hp} {p : Addr} {o : HO} {i j : Nat} {Q : VK} {E : XK}
/-- the context of a def's body at an entry -/
def gam (g : G0) (np : Nat) (σ : L2.St) (H : Hp) : Gam := { g with np := np, s0 := σ, h0 := H }
theorem st_at {xs : List V} {n : Nat} : (xs.map some ++ List.replicate n none)[i]? = if i < xs.length then (xs.map some)[i]? else if i < xs.length + n then some none else none := by
  by_cases h : i < xs.length
  · rw [if_pos h, List.getElem?_append_left (by simpa using h)]
  · rw [if_neg h, List.getElem?_append_right (by simpa using Nat.le_of_not_lt h), List.getElem?_replicate, List.length_map]
    by_cases h2 : i < xs.length + n
    · rw [if_pos h2, if_pos (by omega)]
    · rw [if_neg h2, if_neg (by omega)]
theorem env_at {as : Env} {n : Nat} : Env.at (as ++ List.replicate n .un) i = as.at i := by
  unfold Env.at
  rw [List.getD_eq_getElem?_getD, List.getD_eq_getElem?_getD]
  by_cases h : i < as.length
  · rw [List.getElem?_append_left h]
  · rw [List.getElem?_append_right (Nat.le_of_not_lt h), List.getElem?_replicate, List.getElem?_eq_none (Nat.le_of_not_lt h)]
    split <;> rfl
/-- the points at an entry -/
theorem ent_rl {as : Env} {xs : List V} {n : Nat} (e : Ent g as F xs H) : Rl (gam g xs.length (xs.map some ++ List.replicate n none) H) (as ++ List.replicate n .un) F (xs.map some ++ List.replicate n none) H := by
  have lt : ∀ {i}, as.at i ≠ .un → i < xs.length := fun h => by rw [← e.len]; exact at_lt h
  have sσ : ∀ {i}, i < xs.length → (xs.map some ++ List.replicate n none)[i]? = (xs.map some)[i]? := fun h => by rw [st_at, if_pos h]
  have own : ∀ {i q}, Own (as ++ List.replicate n .un) (xs.map some ++ List.replicate n none) i q → Own as (xs.map some) i q := fun {i q} ⟨⟨c, z⟩, w⟩ => by
    rw [env_at] at z
    rw [sσ (lt (by rw [z]; exact fun z => nomatch z))] at w
    exact ⟨⟨c, z⟩, w⟩
  have held : ∀ {i q}, Held (as ++ List.replicate n .un) (xs.map some ++ List.replicate n none) i q → Held as (xs.map some) i q := fun {i q} ⟨z, w⟩ => by
    rw [env_at] at z
    rw [sσ (lt (by rcases z with ⟨c, z⟩ | ⟨c, z⟩ <;> rw [z] <;> exact fun z => nomatch z))] at w
    exact ⟨z, w⟩
  refine ⟨e.same, by simp [e.len], fun i => ?_, fun a b q n x y => e.apart a b q n (own x) (held y), fun a q x _ => x.2, fun a q x h => ?_⟩
  · rw [env_at]
    by_cases h : as.at i = .un
    · rw [h]; exact .un
    · exact (e.sl i).off (sσ (lt h)).symm
  · obtain ⟨⟨c, z⟩, _⟩ := own x
    exact absurd (lt (by rw [z]; exact fun z => nomatch z)) (Nat.not_lt.mpr h)
theorem mask_at : ∀ {as ρ : Env} {j : Nat} {c : Cn}, (mask as ρ).at j = .own c → (∃ c0, as.at j = .own c0) ∧ ρ.at j = .own c
  | [], ρ, j, c, h => by cases h
  | a :: as, [], j, c, h => by
    have : mask (a :: as) [] = [] := by cases a <;> rfl
    rw [this] at h; cases h
  | a :: as, s :: ρ, j, c, h => by
    cases j with
    | zero =>
      cases a with
      | own c0 => exact ⟨⟨c0, rfl⟩, h⟩
      | _ => cases h
    | succ j =>
      have : (mask as ρ).at j = .own c := by cases a <;> exact h
      have r := mask_at (as := as) (ρ := ρ) this
      exact r
/-- what a body leaves -/
theorem out_of {as : Env} {xs : List V} {n : Nat} {ρ' : Env} {σ' : L2.St} (e : Ent g as F xs H) (s : Stp (gam g xs.length (xs.map some ++ List.replicate n none) H) (as ++ List.replicate n .un) F (xs.map some ++ List.replicate n none) H ρ' F' σ' H') : Out g as F xs H (mask as ρ') F' H' := by
  have lt : ∀ {i}, as.at i ≠ .un → i < xs.length := fun h => by rw [← e.len]; exact at_lt h
  have own : ∀ {q}, Ow (as ++ List.replicate n .un) (xs.map some ++ List.replicate n none) q → Ow as (xs.map some) q := fun {q} ⟨i, ⟨c, z⟩, w⟩ => by
    rw [env_at] at z
    rw [st_at, if_pos (lt (by rw [z]; exact fun z => nomatch z))] at w
    exact ⟨i, ⟨c, z⟩, w⟩
  refine ⟨s.rel.same, s.ext, fun a x y => (s.new a x y).imp_right own, fun a u h z => s.keep a u h fun w => z (own w), s.dom, fun j c h => ?_⟩
  obtain ⟨⟨c0, h0⟩, h1⟩ := mask_at h
  have hj := lt (i := j) (by rw [h0]; exact fun z => nomatch z)
  obtain ⟨q, h2, h3, h4, h5⟩ := s.rel.ownAt h1
  have := s.rel.old j q ⟨⟨c, h1⟩, h2⟩ hj
  have this : (xs.map some ++ List.replicate n none)[j]? = some (some (V.ref q)) := this
  rw [st_at, if_pos hj, List.getElem?_map] at this
  cases e2 : xs[j]? with
  | none => rw [e2] at this; cases this
  | some x => rw [e2] at this; cases this; exact ⟨q, rfl, h3, h4, h5⟩
/-- THE RULE for a def: its promise gives its body's reading -/
theorem body_ok {T : Tb} {fds : Nat → Option Fd} {k f : Nat} {fd : Fd} {xs : List V} (K : KF g) (hT : g.T = T) (hfd : fds f = some fd) (hn : g.pn = none ∨ fd.body.noTry = true) (h : spN g (runF T fds (k + 1)) f xs H Q E) :
    xs.length = fd.np ∧ rss g (runF T fds k) (fun cls d _ H => E cls d H) fd.body { nx := fun _ H' => Q .non H', rt := Q } (xs.map some ++ List.replicate (fd.ns - fd.np) none) H := by
  subst hT
  obtain ⟨as, F, e, q⟩ := h
  have hl : as.length = fd.np := by
    by_cases hl : as.length = fd.np
    · exact hl
    · simp only [runF, hfd, if_neg hl] at q
  have hx : xs.length = fd.np := by rw [← e.len]; exact hl
  refine ⟨hx, ?_⟩
  simp only [runF, hfd, if_pos hl] at q
  have rl := ent_rl (n := fd.ns - fd.np) e
  have := sndSs (runF g.T fds k) fd.body (gam g xs.length (xs.map some ++ List.replicate (fd.ns - fd.np) none) H) (fun cls d _ H => E cls d H) K (hn.elim .inr .inl) _ F _ H { nx := fun _ H' => Q .non H', rt := Q } (fun a h => h) rl
  refine this ?_
  have np : (gam g xs.length (xs.map some ++ List.replicate (fd.ns - fd.np) none) H).np = fd.np := hx
  show GoodO _ _ _ _ _ _ _ (exs g.T (runF g.T fds k) (gam g xs.length (xs.map some ++ List.replicate (fd.ns - fd.np) none) H).np fd.body (as ++ List.replicate (fd.ns - fd.np) .un))
  rw [np]
  cases r : exs g.T (runF g.T fds k) fd.np fd.body (as ++ List.replicate (fd.ns - fd.np) .un) with
  | nx ρ' =>
    rw [r] at q
    exact fun σ' F' H' s => q .non F' H' (out_of e s) .non
  | rt v ρ' =>
    rw [r] at q
    exact fun x σ' F' H' s rv => q x F' H' (out_of e s) (by
      cases v with
      | d y => exact rv
      | fr c => exact rv
      | sl i => exact rv)
  | bk ρ' => rw [r] at q; exact q.elim
  | ct ρ' => rw [r] at q; exact q.elim
  | er c fs ρ' =>
    rw [r] at q
    exact fun d σ' F' H' s ex => q d F' H' (out_of e s) ex
  | no => rw [r] at q; exact q.elim
end
end EN
/-! The program's tree beside ours. -/
namespace EN
open PySem L2
/-- the text's names: defs, classes of errors, own classes -/
structure Cc where
  gn : Nat → Str
  /-- which defs may be called (true: while an error is held) -/
  cl : Bool → Nat → Bool
  en : Nat → Str
  cn : Nat → Str
  /-- the module's constants -/
  kn : Nat → Str := fun _ => ""
  /-- the parameters of a def, which may be called by keywords -/
  pn : Nat → List Str := fun _ => []
  kw : Nat → Bool := fun _ => false
def visB (sc : Scope) (x : Str) : Bool := match sc.names.lookup x with
  | some .local => true
  | some .cell => true
  | some .free => true
  | _ => false
def glB (sc : Scope) (x : Str) : Bool := decide (sc.names.lookup x = some .globalImplicit) && !(x == ("__debug__" : Str))
def locT (sc : Scope) (x : Str) : Bool := decide (sc.names.lookup x = some .local) || decide (sc.names.lookup x = some .cell)
def locB (sc : Scope) (x : Str) : Bool := decide (sc.names.lookup x = some .local)
def BI.nm : BI → Str
  | .len => "len" | .int => "int" | .sum => "sum" | .list => "list" | .tuple => "tuple" | .str => "str" | .all => "all" | .max => "max"
/-- also while an error is held -/
def BI.hotOk : BI → Bool
  | .all => false
  | .max => false
  | _ => true
def MT.nm : MT → Str
  | .rmp => "removeprefix" | .find => "find" | .join => "join"
def TY.nm (C : Cc) : TY → Str
  | .int => "int" | .str => "str" | .bool => "bool" | .list => "list" | .tuple => "tuple" | .dict => "dict"
  | .cls c => C.cn c | .exc c => C.en c | .ve => "ValueError"
/-- no star -/
def plainE : Expr → Bool
  | .Starred _ _ => false
  | _ => true
def noSlice : Expr → Bool
  | .Slice _ _ _ _ => false
  | _ => true
def noCall : Expr → Bool
  | .Call _ _ _ _ => false
  | _ => true
def noSet : Expr → Bool
  | .Set _ _ _ => false
  | _ => true
def isNil {α : Type} : List α → Bool
  | [] => true
  | _ => false
variable (C : Cc) (T : Tb) (N : List Str)
def nmB (sc : Scope) (i : Nat) (x : Str) : Bool := decide (N[i]? = some x) && visB sc x && !(x == ("__debug__" : Str)) && !(x == ("__classdict__" : Str))
def tgB (sc : Scope) (i : Nat) (x : Str) : Bool := decide (N[i]? = some x) && locB sc x
/-- a target in a def's body -/
def tgT (sc : Scope) (i : Nat) (x : Str) : Bool := decide (N[i]? = some x) && locT sc x
section
variable (hot : Bool)
mutual
/-- tt: as a test -/
def cE (tt : Bool) (sc : Scope) : IE → Expr → Bool
  | .var i, e => match e with
    | .Name x _ => nmB N sc i x
    | _ => false
  | .lit d, e => match d, e with
    | .non, .Constant .none _ _ => true
    | .bl b, .Constant (.bool b') _ _ => b == b'
    | .int b, .Constant (.int b') _ _ => decide (b = b')
    | .str b, .Constant (.str b') _ _ => decide (b = b')
    | _, _ => false
  | .tup es, e => match e with
    | .Tuple es' _ _ => !tt && cA sc es es'
    | _ => false
  | .lst es, e => match e with
    | .List es' _ => !tt && cA sc es es'
    | _ => false
  | .dct ps, e => match e with
    | .Dict ks vs _ => !tt && cP sc ps ks vs && decide (ks.length ≤ 15) && ks.all (·.isSome) && decide (ks.length = vs.length)
    | _ => false
  | .bin op a b, e => match e with
    | .BinOp a' op' b' _ => decide (op' = op.op) && cE false sc a a' && cE false sc b b'
    | _ => false
  | .neg a, e => match e with
    | .UnaryOp .USub a' _ => !tt && cE false sc a a'
    | _ => false
  | .cmp op a b, e => match e with
    | .Compare a' [op'] [b'] _ => decide (op' = op.op) && cE false sc a a' && cE false sc b b' && noSet b'
    | _ => false
  | .gc n, e => match e with
    | .Name x _ => decide (x = C.kn n) && glB sc x && decide (n < T.nk) && flatD (T.gc n)
    | _ => false
  | .ch op op' a b c, e => match e with
    | .Compare a' [o1, o2] [b', c'] _ => decide (o1 = op.op) && decide (o2 = op'.op) && cE false sc a a' && cE false sc b b' && cE false sc c c' && noSet c'
    | _ => false
  | .bm m a es, e => match e with
    | .Call (.Attribute o n p) es' [] q => decide (n = m.nm) && cE false sc a o && noCall o && cA sc es es' && !isNil es' && decide (es'.length < 30) && p.endLine == q.line
    | _ => false
  | .isN a, e => match e with
    | .Compare a' [.Is] [.Constant .none _ _] _ => cE false sc a a'
    | _ => false
  | .notN a, e => match e with
    | .Compare a' [.IsNot] [.Constant .none _ _] _ => cE false sc a a'
    | _ => false
  | .and a b, e => match e with
    | .BoolOp .And (a' :: b' :: r) p => cE tt sc a a' && (match r with
      | [] => cE tt sc b b'
      | c' :: r => cE tt sc b (.BoolOp .And (b' :: c' :: r) p))
    | _ => false
  | .or a b, e => match e with
    | .BoolOp .Or (a' :: b' :: r) p => cE tt sc a a' && (match r with
      | [] => cE tt sc b b'
      | c' :: r => cE tt sc b (.BoolOp .Or (b' :: c' :: r) p))
    | _ => false
  | .not a, e => match e with
    | .UnaryOp .Not a' _ => cE tt sc a a'
    | _ => false
  | .ife c a b, e => match e with
    | .IfExp c' a' b' _ => !tt && cE true sc c c' && cE false sc a a' && cE false sc b b'
    | _ => false
  | .ix a b, e => match e with
    | .Subscript a' b' _ => cE false sc a a' && cE false sc b b' && noSlice b'
    | _ => false
  | .slc a lo hi, e => match e with
    | .Subscript a' (.Slice lo' hi' none _) _ => !tt && cE false sc a a' && (match lo' with
      | none => lo.nl
      | some l => !lo.nl && cE false sc lo l) && (match hi' with
      | none => hi.nl
      | some l => !hi.nl && cE false sc hi l)
    | _ => false
  | .call f es, e => match e with
    | .Call (.Name x _) es' [] _ => decide (x = C.gn f) && C.cl hot f && glB sc x && cA sc es es' && !isNil es'
    | .Call (.Name x _) [] (k :: ks) _ => decide (x = C.gn f) && C.cl hot f && glB sc x && cK sc es (k :: ks) && !hot && C.kw f && decide ((k :: ks).map (·.arg) = (C.pn f).map some)
    | _ => false
  | .bi f es, e => match e with
    | .Call (.Name x _) es' [] _ => decide (x = f.nm) && glB sc x && cA sc es es' && !isNil es' && (!hot || f.hotOk)
    | _ => false
  | .isi a t, e => match e with
    | .Call (.Name x _) [a', .Name y _] [] _ => decide (x = ("isinstance" : Str)) && glB sc x && cE false sc a a' && plainE a' && decide (y = t.nm C) && glB sc y && T.tok t
    | _ => false
  | .fld a n, e => match e with
    | .Attribute a' n' _ => decide (n' = n) && noCall a' && cE false sc a a'
    | _ => false
  | .lc elt i it hasIf c, e => match e with
    | .ListComp elt' [⟨.Name x _, iter', ifs', k⟩] scope _ => !tt && decide (k = 0) && blkC N sc scope [(x, i)] && tgB N (relS scope sc) i x && cI sc it iter' && cE false (relS scope sc) elt elt' && (match hasIf, ifs' with
      | true, [c'] => cE true (relS scope sc) c c'
      | false, [] => true
      | _, _ => false)
    | _ => false
def cA (sc : Scope) : IEs → List Expr → Bool
  | .nil, es => isNil es
  | .cons e es, l => match l with
    | e' :: l => cE false sc e e' && plainE e' && cA sc es l
    | [] => false
def cK (sc : Scope) : IEs → List Keyword → Bool
  | .nil, es => isNil es
  | .cons e es, l => match l with
    | ⟨_, e', _⟩ :: l => cE false sc e e' && cK sc es l
    | [] => false
def cP (sc : Scope) : IEs → List (Option Expr) → List Expr → Bool
  | .nil, ks, vs => isNil ks && isNil vs
  | .cons _ .nil, _, _ => false
  | .cons k (.cons v ps), ks, vs => match ks, vs with
    | some k' :: ks, v' :: vs => cE false sc k k' && cE false sc v v' && cP sc ps ks vs
    | _, _ => false
def cI (sc : Scope) : IT → Expr → Bool
  | .txt a, e => !hot && cE false sc a e && noSet e
  | .e a, e => cE false sc a e && noSet e
  | .rng a, e => match e with
    | .Call (.Name x _) [a'] [] _ => decide (x = ("range" : Str)) && glB sc x && cE false sc a a' && plainE a'
    | _ => false
  | .rng2 a b, e => match e with
    | .Call (.Name x _) [a', b'] [] _ => decide (x = ("range" : Str)) && glB sc x && cE false sc a a' && plainE a' && cE false sc b b' && plainE b'
    | _ => false
end
end
/-- a comprehension -/
def isLc : Expr → Bool
  | .ListComp _ _ _ _ => true
  | .SetComp _ _ _ _ => true
  | .DictComp _ _ _ _ _ => true
  | _ => false
def cNs (sc : Scope) : List Nat → List Expr → Bool
  | [], es => isNil es
  | i :: is, es => match es with
    | .Name x _ :: es => tgT N sc i x && cNs sc is es
    | _ => false
/-- x = [..] on one line -/
def swp (sc : Scope) (x : Str) (p : Pos) : Expr → Bool
  | .ListComp _ _ scope q => sc.kind == .function && decide (sc.names.lookup x = some .local) && (p.line == q.line) && !(scope.names.any fun (n, k) => n == x && (k == .local || k == .cell))
  | _ => false
def oneH : IHs → Bool
  | .cons _ _ _ .nil => true
  | _ => false
def isLcE : IE → Bool
  | .lc _ _ _ _ _ => true
  | _ => false
mutual
def cS (hot : Bool) (sc : Scope) : IS → Stmt → Bool
  | .asg i e, s => match s with
    | .Assign [.Name x p] e' _ => tgT N sc i x && cE C T N hot false sc e e' && (!isLc e' || (!hot && tgB N sc i x && swp sc x p e' && isLcE e))
    | _ => false
  | .asgT is e, s => match s with
    | .Assign [.Tuple ts _ _] e' _ => !hot && cNs N sc is ts && cE C T N hot false sc e e' && !isLc e' && (match e' with
      | .Tuple _ _ _ => false
      | _ => true)
    | _ => false
  | .put i k v, s => match s with
    | .Assign [.Subscript (.Name x _) k' _] v' _ => nmB N sc i x && cE C T N hot false sc k k' && noSlice k' && cE C T N hot false sc v v' && !isLc v'
    | _ => false
  | .expr e, s => match s with
    | .Expr e' _ => cE C T N hot false sc e e' && !isLc e'
    | _ => false
  | .app i e, s => match s with
    | .Expr (.Call (.Attribute (.Name x _) m p) [e'] [] q) _ => decide (m = ("append" : Str)) && nmB N sc i x && cE C T N hot false sc e e' && plainE e' && p.endLine == q.line
    | _ => false
  | .ret e, s => match s with
    | .Return (some e') _ => cE C T N hot false sc e e'
    | _ => false
  | .retN, s => match s with
    | .Return none _ => true
    | _ => false
  | .ifS c a b, s => match s with
    | .If c' a' b' _ => cE C T N hot true sc c c' && cSs hot sc a a' && cSs hot sc b b'
    | _ => false
  | .forS i it b, s => match s with
    | .For (.Name x _) it' b' [] _ => !hot && tgT N sc i x && cI C T N hot sc it it' && cSs hot sc b b'
    | _ => false
  | .aug i op e, s => match s with
    | .AugAssign (.Name x _) op' e' _ => decide (op' = op.op) && tgT N sc i x && cE C T N hot false sc e e'
    | _ => false
  | .whl c b, s => match s with
    | .While c' b' [] _ => !hot && cE C T N hot true sc c c' && cSs hot sc b b'
    | _ => false
  | .brk, s => match s with
    | .Break _ => true
    | _ => false
  | .cont, s => match s with
    | .Continue _ => true
    | _ => false
  | .pass, s => match s with
    | .Pass _ => true
    | _ => false
  | .raise c es, s => match s with
    | .Raise (some (.Call (.Name x _) es' [] _)) none _ => !hot && decide (x = C.en c) && glB sc x && decide (c < T.ne) && cA C T N hot sc es es' && !isNil es' && decide ((T.ef c).Nodup) && !isNil (T.ef c)
    | _ => false
  | .tryS b hs, s => match s with
    | .Try b' hs' [] [] _ => !hot && cSs hot sc b b' && cHs sc hs hs' && oneH hs
    | _ => false
def cSs (hot : Bool) (sc : Scope) : ISs → List Stmt → Bool
  | .nil, l => isNil l
  | .cons s ss, l => match l with
    | s' :: l => cS hot sc s s' && cSs hot sc ss l
    | [] => false
def cHs (sc : Scope) : IHs → List ExceptHandler → Bool
  | .nil, l => isNil l
  | .cons k i s hs, l => match l with
    | .ExceptHandler (some (.Name x _)) (some n) (b :: bs) _ :: l => decide (x = C.en k) && decide (k < T.ne) && glB sc x && tgB N sc i n && s.noTry && cSs true sc s (b :: bs) && cHs sc hs l
    | _ => false
end
end EN
/-! What a family of contexts must offer; then every expression that cE lets pass has its reading. -/
namespace EN
open PySem L2 PySem.Spec PyProof.Rows
/-- what must be known of a context -/
structure Bas (C : Cc) (N : List Str) (g : G0) (X : Cx) (sc : Scope) : Prop where
  K : X.K = g.K
  N : X.N = N
  sc : X.env.scope = sc
  hu : X.A.units + 65 < cLine
  bl : ∀ x : Str, x ∈ (["len", "int", "sum", "list", "tuple", "isinstance", "range", "str", "bool", "dict", "ValueError", "all", "max"] : List Str) → X.mg x = none
  en : ∀ c, c < g.T.ne → X.mg (C.en c) = some (.ref (g.ec c))
  cn : ∀ c, c < g.T.nc → X.mg (C.cn c) = some (.ref (g.oc c))
  kc : ∀ n, n < g.T.nk → ∃ u, X.mg (C.kn n) = some u ∧ RelV (vD (g.T.gc n)) u
structure Rul (C : Cc) (N : List Str) (g : G0) (fn : Fn) (hot : Bool) (I : Cx → Expr → Expr → TI → Prop) (P : Cx → Scope → WX → Prop) : Prop where
  bas : ∀ {X sc W}, P X sc W → Bas C N g X sc
  call : ∀ {X sc W} {f : Nat} {e : Expr} {es : List Expr} {t : TA} {p pos : Pos}, P X sc W → C.cl hot f = true → Gl X (C.gn f) → (C.gn f == ("__debug__" : Str)) = false → PA X (e :: es) t → starEach (e :: es) X.env = (false, eval e X.env) :: starEach es X.env → (backTo pos (starEach es X.env)).any (·.1) = false →
    PE X (.Call (.Name (C.gn f) p) (e :: es) [] pos) (tCallS (spN g fn f) (WE W) t)
  callK : ∀ {X sc W} {f : Nat} {k : Keyword} {ks : List Keyword} {t : TA} {p pos : Pos}, hot = false → P X sc W → C.cl false f = true → C.kw f = true → Gl X (C.gn f) → (C.gn f == ("__debug__" : Str)) = false → PK X (k :: ks) t → (k :: ks).map (·.arg) = (C.pn f).map some →
    PE X (.Call (.Name (C.gn f) p) [] (k :: ks) pos) (tCallS (spN g fn f) (WE W) t)
  txt : ∀ {X sc W} {tg l : Expr} {tl : TE}, hot = false → P X sc W → PE X l tl → I X tg l (iStr tl)
  bi : ∀ {X sc W} (b : BI), (hot = true → b.hotOk = true) → P X sc W → CallR X b.val (rBI X.K b)
  isi : ∀ {X sc W}, P X sc W → CallR X (.builtin "isinstance") (rIsX g)
  fld : ∀ {X sc W} {o : Expr} {ta : TE} {n : Str} {pos : Pos}, P X sc W → PE X o ta → attributeBase o n X.env (eval o X.env) = eval o X.env → PE X (.Attribute o n pos) (tFldX g ta n)
  seq : ∀ {X sc W} {tg l : Expr} {tl : TE}, P X sc W → PE X l tl → I X tg l (iSeq X.K tl)
  rng1 : ∀ {X sc W} {tg a : Expr} {ta : TA} {p pos : Pos}, P X sc W → Gl X "range" → X.mg "range" = none → PA X [a] ta → starEach [a] X.env = [(false, eval a X.env)] → I X tg (.Call (.Name "range" p) [a] [] pos) (iRng1 ta)
  rng2 : ∀ {X sc W} {tg a b : Expr} {ta : TA} {p pos : Pos}, P X sc W → Gl X "range" → X.mg "range" = none → PA X [a, b] ta → starEach [a, b] X.env = [(false, eval a X.env), (false, eval b X.env)] → starEach [b] X.env = [(false, eval b X.env)] → I X tg (.Call (.Name "range" p) [a, b] [] pos) (iRng2 ta)
  lc : ∀ {X sc W} {elt iter : Expr} {ifs : List Expr} {scope : Scope} {x : Str} {i : Nat} {p pos : Pos} {wi : TI} {tt : TT} {te : TE}, P X sc W → blkC N sc scope [(x, i)] = true → N[i]? = some x → (relS scope sc).names.lookup x = some .local → I X (.Name x p) iter wi →
    (∀ X', P X' (relS scope sc) W0 → PTs X' ifs tt) → (∀ X', P X' (relS scope sc) W0 → PE X' elt te) → (∀ y, foldedSetIterable iter X.env y = pure y) → PE X (.ListComp elt [⟨.Name x p, iter, ifs, 0⟩] scope pos) (tLc wi (gName i) tt te [i])
section
variable {C : Cc} {N : List Str} {g : G0} {fn : Fn} {P : Cx → Scope → WX → Prop} {X : Cx} {sc : Scope} {W : WX}
theorem and2 {a b : Bool} (h : (a && b) = true) : a = true ∧ b = true := Bool.and_eq_true_iff.mp h
theorem star_plain {e : Expr} {es : List Expr} {env : PySem.Env} (h : plainE e = true) : starEach (e :: es) env = (false, eval e env) :: starEach es env := by
  cases e <;> first | rfl | cases h
theorem Bas.gl (b : Bas C N g X sc) {x : Str} (h : glB sc x = true) : Gl X x ∧ (x == ("__debug__" : Str)) = false := by
  obtain ⟨h1, h2⟩ := and2 h
  refine ⟨?_, by simpa using h2⟩
  show X.env.scope.names.lookup x = _
  rw [b.sc]
  exact of_decide_eq_true h1
theorem Bas.vis (b : Bas C N g X sc) {x : Str} (h : visB sc x = true) : Vis X.env.scope x := by
  rw [b.sc]
  unfold visB at h
  split at h
  · exact .inl (by assumption)
  · exact .inr (.inl (by assumption))
  · exact .inr (.inr (by assumption))
  · cases h
theorem ad_var (b : Bas C N g X sc) {i : Nat} {x : Str} {p : Pos} (h : nmB N sc i x = true) : PE X (.Name x p) (tVar i) := by
  obtain ⟨h, h4⟩ := and2 h
  obtain ⟨h, h3⟩ := and2 h
  obtain ⟨h1, h2⟩ := and2 h
  exact pe_var (by rw [b.N]; exact of_decide_eq_true h1) (b.vis h2) (by simpa using h3) (by simpa using h4)
theorem plainIx_of {b : Expr} (h : noSlice b = true) : PlainIx b := fun o i => by
  cases b <;> first | rfl | cases h
theorem noMarks {op : CmpOp} {b : Expr} (h : noSet b = true) : behindInMarks op b = false := by
  cases b <;> first | rfl | cases h
theorem PE.toK {e : Expr} {t t' : TE} (h : PE X e t) (e' : t = t') : PE X e t' := e' ▸ h
theorem noBase {o : Expr} {n : Str} {env : PySem.Env} (h : noCall o = true) : attributeBase o n env (eval o env) = eval o env := by
  cases o <;> first | rfl | cases h
theorem noFold {e : Expr} {env : PySem.Env} (h : noSet e = true) : ∀ y, foldedSetIterable e env y = pure y := fun y => by
  cases e <;> first | rfl | cases h
theorem truth_of {e : Expr} {t : TE} (h : PE X e t) (he : ∀ whole, isTrue e X.env whole = (do let v ← whole; standAt e.pos; holding [v] (truthy v))) (hK : X.K = g.K) : PT X e (tTru g.K t) := by
  have := pt_truth h he
  rw [hK] at this
  exact this
theorem cons_of {es : List Expr} (h : isNil es = false) : ∃ e r, es = e :: r := by
  cases es with
  | nil => cases h
  | cons e r => exact ⟨e, r, rfl⟩
theorem BI.boot (b : BI) : (∃ id, b.val = .builtin id ∧ bootBuiltins b.nm = some (.builtin id)) ∨ ∃ T, b.val = .type T ∧ bootBuiltins b.nm = some (.type T) := by
  cases b with
  | len => exact .inl ⟨_, rfl, Boot.len⟩
  | int => exact .inr ⟨_, rfl, Boot.int⟩
  | sum => exact .inl ⟨_, rfl, Boot.sum⟩
  | list => exact .inr ⟨_, rfl, Boot.list⟩
  | tuple => exact .inr ⟨_, rfl, Boot.tuple⟩
  | str => exact .inr ⟨_, rfl, Boot.str⟩
  | all => exact .inl ⟨_, rfl, Boot.all⟩
  | max => exact .inl ⟨_, rfl, Boot.max⟩
theorem BI.nm_mem (b : BI) : b.nm ∈ (["len", "int", "sum", "list", "tuple", "isinstance", "range", "str", "bool", "dict", "ValueError", "all", "max"] : List Str) := by cases b <;> simp [BI.nm]
theorem BI.nm_ne (b : BI) : b.nm ≠ "__name__" := by cases b <;> decide
end
end EN
/-! Every expression that cE lets pass has its reading. -/
namespace EN
open PySem L2 PySem.Spec PyProof.Rows
section
variable {C : Cc} {N : List Str} {g : G0} {fn : Fn} {hot : Bool} {I : Cx → Expr → Expr → TI → Prop} {P : Cx → Scope → WX → Prop} (R : Rul C N g fn hot I P)
theorem ad_ty {X : Cx} {sc : Scope} (b : Bas C N g X sc) {t : TY} {y : Str} {p : Pos} (hy : y = t.nm C) (hg : glB sc y = true) (ht : g.T.tok t = true) : PE X (.Name y p) (tC (tyV g t)) := by
  obtain ⟨g1, g2⟩ := b.gl hg
  subst hy
  have bt : ∀ {n : String}, (t.nm C) ∈ (["len", "int", "sum", "list", "tuple", "isinstance", "range", "str", "bool", "dict", "ValueError", "all", "max"] : List Str) → bootBuiltins (t.nm C) = some (.type n) → (t.nm C) ≠ "__name__" → tyV g t = .ty n → PE X (.Name (t.nm C) p) (tC (tyV g t)) := fun hm hb hn e => by
    rw [e]; exact pe_bltn g1 (b.bl _ hm) hb rfl hn g2
  cases t with
  | int => exact bt (by simp [TY.nm]) Boot.int (by simp only [TY.nm]; decide) rfl
  | str => exact bt (by simp [TY.nm]) Boot.str (by simp only [TY.nm]; decide) rfl
  | bool => exact bt (by simp [TY.nm]) Boot.bool (by simp only [TY.nm]; decide) rfl
  | list => exact bt (by simp [TY.nm]) Boot.list (by simp only [TY.nm]; decide) rfl
  | tuple => exact bt (by simp [TY.nm]) Boot.tuple (by simp only [TY.nm]; decide) rfl
  | dict => exact bt (by simp [TY.nm]) Boot.dict (by simp only [TY.nm]; decide) rfl
  | ve => exact bt (by simp [TY.nm]) Boot.«ValueError» (by simp only [TY.nm]; decide) rfl
  | cls c => exact pe_glob g1 (b.cn c (of_decide_eq_true ht)) rfl g2
  | exc c => exact pe_glob g1 (b.en c (of_decide_eq_true ht)) rfl g2
def AD (tt : Bool) (X : Cx) (e : Expr) (t : TE) (u : TT) : Prop := match tt with
  | false => PE X e t
  | true => PT X e u
theorem both {X : Cx} {e : Expr} {t : TE} {tt : Bool} (hK : X.K = g.K) (h : PE X e t) (he : ∀ whole, isTrue e X.env whole = (do let v ← whole; standAt e.pos; holding [v] (truthy v))) : AD tt X e t (tTru g.K t) := by
  cases tt with
  | false => exact h
  | true => exact truth_of h he hK
theorem pw_to {X : Cx} {e : Expr} {t : TT} (h : PW X e t) : PT X e t := ⟨fun pins s σ H Q I q => h.run _ pins s σ H Q I q⟩
theorem pw_of {X : Cx} {op : BoolOp} {b c : Expr} {r : List Expr} {p : Pos} {t : TT} (h : PT X (.BoolOp op (b :: c :: r) p) t) : PW X (.BoolOp op (b :: c :: r) p) t := ⟨fun whole pins s σ H Q I q => by
  have := h.run pins s σ H Q I q
  exact this⟩
theorem pl_all {sc : Scope} {env : PySem.Env} {pos : Pos} : ∀ {es : IEs} {l : List Expr}, cA C g.T N hot sc es l = true → (backTo pos (starEach l env)).any (·.1) = false
  | .nil, l, c => by
    unfold cA at c
    cases l with
    | nil => rfl
    | cons e es => cases c
  | .cons e es, l, c => by
    unfold cA at c
    split at c
    · obtain ⟨c, c3⟩ := and2 c
      obtain ⟨c1, c2⟩ := and2 c
      rw [star_plain c2]
      have := pl_all (env := env) (pos := pos) c3
      show (false || (backTo pos (starEach _ env)).any (·.1)) = false
      rw [this]; rfl
    · cases c
theorem pl_all' {sc : Scope} {env : PySem.Env} : ∀ {es : IEs} {l : List Expr}, cA C g.T N hot sc es l = true → ∀ pos, (backTo pos (starEach l env)).all (fun x => !x.1) = true ∧ (backTo pos (starEach l env)).length = l.length
  | .nil, l, c, pos => by
    unfold cA at c
    cases l with
    | nil => exact ⟨rfl, rfl⟩
    | cons e es => cases c
  | .cons e es, l, c, pos => by
    unfold cA at c
    split at c
    · obtain ⟨c, c3⟩ := and2 c
      obtain ⟨c1, c2⟩ := and2 c
      rw [star_plain c2]
      have := pl_all' (env := env) c3 pos
      refine ⟨?_, congrArg Nat.succ this.2⟩
      show (true && (backTo pos (starEach _ env)).all (fun x => !x.1)) = true
      rw [this.1]; rfl
    · cases c
/-- every argument is plain -/
theorem pl_of {X : Cx} {sc : Scope} {es : IEs} {e : Expr} {r : List Expr} (c : cA C g.T N hot sc es (e :: r) = true) : starEach (e :: r) X.env = (false, eval e X.env) :: starEach r X.env ∧ ∀ pos, (backTo pos (starEach r X.env)).any (·.1) = false := by
  cases es with
  | nil => unfold cA at c; cases c
  | cons a es =>
    unfold cA at c
    obtain ⟨c, c3⟩ := and2 c
    obtain ⟨c1, c2⟩ := and2 c
    exact ⟨star_plain c2, fun pos => pl_all c3⟩
theorem tests0 {X : Cx} {c : Expr} {t : TT} (h : PT X c t) : PTs X [c] t := pts_one h
include R
mutual
theorem adE : ∀ (e : IE) {X : Cx} {sc : Scope} {W : WX} (h : P X sc W) (tt : Bool) (e' : Expr), cE C g.T N hot tt sc e e' = true → AD tt X e' (rd (sg g fn) W e) (rdT (sg g fn) W e)
  | .var i, X, sc, W, h, tt, e', c => by
    unfold cE at c
    split at c
    · exact both (R.bas h).K (ad_var (R.bas h) c) fun _ => rfl
    · cases c
  | .lit d, X, sc, W, h, tt, e', c => by
    unfold cE at c
    split at c
    · exact both (R.bas h).K pe_non fun _ => rfl
    · cases eq_of_beq c; exact both (R.bas h).K pe_bl fun _ => rfl
    · cases of_decide_eq_true c; exact both (R.bas h).K pe_int fun _ => rfl
    · cases of_decide_eq_true c; exact both (R.bas h).K pe_str fun _ => rfl
    · cases c
  | .tup es, X, sc, W, h, tt, e', c => by
    unfold cE at c
    split at c
    · obtain ⟨c1, c2⟩ := and2 c
      cases tt with
      | true => cases c1
      | false => exact pe_tup (adA es h _ c2)
    · cases c
  | .lst es, X, sc, W, h, tt, e', c => by
    unfold cE at c
    split at c
    · obtain ⟨c1, c2⟩ := and2 c
      cases tt with
      | true => cases c1
      | false => exact pe_lst (adA es h _ c2)
    · cases c
  | .dct ps, X, sc, W, h, tt, e', c => by
    unfold cE at c
    split at c
    · rename_i ks vs pos
      obtain ⟨c, c5⟩ := and2 c
      obtain ⟨c, c4⟩ := and2 c
      obtain ⟨c, c3⟩ := and2 c
      obtain ⟨c1, c2⟩ := and2 c
      cases tt with
      | true => cases c1
      | false =>
        cases ps with
        | nil =>
          unfold cP at c2
          obtain ⟨a, b⟩ := and2 c2
          cases ks with
          | cons k ks => cases a
          | nil =>
            cases vs with
            | cons v vs => cases b
            | nil => exact pe_dnewK
        | cons k ps =>
          refine pe_disp (adP (.cons k ps) h pos _ _ c2) c4 (of_decide_eq_true c5) (fun z => ?_) (of_decide_eq_true c3)
          subst z
          cases ps with
          | nil => unfold cP at c2; cases c2
          | cons v ps => unfold cP at c2; cases c2
    · cases c
  | .bin op a b, X, sc, W, h, tt, e', c => by
    unfold cE at c
    split at c
    · obtain ⟨c, c3⟩ := and2 c
      obtain ⟨c1, c2⟩ := and2 c
      cases of_decide_eq_true c1
      refine both (R.bas h).K ?_ fun _ => rfl
      have ok := rBO_ok (X := X) op
      rw [(R.bas h).K] at ok
      exact pe_op ok (adE a h false _ c2) (adE b h false _ c3)
    · cases c
  | .neg a, X, sc, W, h, tt, e', c => by
    unfold cE at c
    split at c
    · obtain ⟨c1, c2⟩ := and2 c
      cases tt with
      | true => cases c1
      | false => exact pe_un un_neg (adE a h false _ c2)
    · cases c
  | .cmp op a b, X, sc, W, h, tt, e', c => by
    unfold cE at c
    split at c
    · obtain ⟨c, c4⟩ := and2 c
      obtain ⟨c, c3⟩ := and2 c
      obtain ⟨c1, c2⟩ := and2 c
      cases of_decide_eq_true c1
      have ok := rCO_ok (R.bas h).hu op
      rw [(R.bas h).K] at ok
      cases tt with
      | false => exact pe_cmpR ok (adE a h false _ c2) (adE b h false _ c3) (noMarks c4)
      | true => exact pt_cmpR ok (adE a h false _ c2) (adE b h false _ c3) (noMarks c4)
    · cases c
  | .gc n, X, sc, W, h, tt, e', c => by
    unfold cE at c
    split at c
    · obtain ⟨c, c4⟩ := and2 c
      obtain ⟨c, c3⟩ := and2 c
      obtain ⟨c1, c2⟩ := and2 c
      cases of_decide_eq_true c1
      obtain ⟨g1, g2⟩ := (R.bas h).gl c2
      obtain ⟨u, m, r⟩ := (R.bas h).kc n (of_decide_eq_true c3)
      exact both (R.bas h).K (pe_glob g1 m r g2) fun _ => rfl
    · cases c
  | .ch op op' a b d, X, sc, W, h, tt, e', c => by
    unfold cE at c
    split at c
    · obtain ⟨c, c6⟩ := and2 c
      obtain ⟨c, c5⟩ := and2 c
      obtain ⟨c, c4⟩ := and2 c
      obtain ⟨c, c3⟩ := and2 c
      obtain ⟨c1, c2⟩ := and2 c
      cases of_decide_eq_true c1
      cases of_decide_eq_true c2
      have ok := rCO_ok (R.bas h).hu op
      have ok' := rCO_ok (R.bas h).hu op'
      rw [(R.bas h).K] at ok ok'
      cases tt with
      | false => exact pe_chain ok ok' (adE a h false _ c3) (adE b h false _ c4) (adE d h false _ c5) (noMarks c6)
      | true => exact pt_chain ok ok' (adE a h false _ c3) (adE b h false _ c4) (adE d h false _ c5) (noMarks c6)
    · cases c
  | .bm m a es, X, sc, W, h, tt, e', c => by
    unfold cE at c
    split at c
    · rename_i o n p es' q
      obtain ⟨c, c7⟩ := and2 c
      obtain ⟨c, c6⟩ := and2 c
      obtain ⟨c, c5⟩ := and2 c
      obtain ⟨c, c4⟩ := and2 c
      obtain ⟨c, c3⟩ := and2 c
      obtain ⟨c1, c2⟩ := and2 c
      cases of_decide_eq_true c1
      have pa := adA es h _ c4
      obtain ⟨e, r, rfl⟩ := cons_of (by simpa using c5)
      refine both (R.bas h).K ?_ fun _ => rfl
      have st := pl_of (X := X) c4
      have go : ∀ {name : Str} {id : String}, PySem.Slot "str" name id → typeOf (.builtin id) = pure (.type "method_descriptor") → MtR X id (rMT X.K m) → name = m.nm → PE X (.Call (.Attribute o m.nm p) (e :: r) [] q) (tBM g.K "str" (rMT g.K m) (rd (sg g fn) W a) (rdA (sg g fn) W es)) := fun s1 s2 s3 s4 => by
        subst s4
        have := pe_bm (X := X) (cpos := q) (apos := p) F.plainAttrs_str s1 s2 s3 (adE a h false _ c2) pa (noBase c3) (by
          rw [Bool.and_eq_true, Bool.and_eq_true]
          refine ⟨⟨(pl_all' c4 q).1, rfl⟩, ?_⟩
          exact c6) c7 st.1 (st.2 _)
        rw [(R.bas h).K] at this
        exact this
      cases m with
      | rmp => exact go F.slot_str_removeprefix F.type_str_removeprefix (rMT_ok .rmp) rfl
      | find => exact go F.slot_str_find F.type_str_find (rMT_ok .find) rfl
      | join => exact go F.slot_str_join F.type_str_join (rMT_ok .join) rfl
    · cases c
  | .isN a, X, sc, W, h, tt, e', c => by
    unfold cE at c
    split at c
    · cases tt with
      | false => exact pe_cmp (pc_isN (adE a h false _ c))
      | true => exact pt_cmp (pc_isN (adE a h false _ c))
    · cases c
  | .notN a, X, sc, W, h, tt, e', c => by
    unfold cE at c
    split at c
    · cases tt with
      | false => exact pe_cmp (pc_notN (adE a h false _ c))
      | true => exact pt_cmp (pc_notN (adE a h false _ c))
    · cases c
  | .not a, X, sc, W, h, tt, e', c => by
    unfold cE at c
    split at c
    · cases tt with
      | false =>
        refine ⟨fun pins s σ H Q I q => ?_⟩
        refine (pe_notT (adE a h false _ c)).run pins s σ H Q I ?_
        rw [(R.bas h).K]
        exact q
      | true => exact pt_not (adE a h true _ c)
    · cases c
  | .and a b, X, sc, W, h, tt, e', c => by
    unfold cE at c
    split at c
    · rename_i a' b' r p
      obtain ⟨c1, c2⟩ := and2 c
      cases tt with
      | false =>
        have hb : PE X (.BoolOp .And (b' :: r) p) (rd (sg g fn) W b) := by
          cases r with
          | nil => exact pe_one (adE b h false _ c2)
          | cons c' r => exact adE b h false _ c2
        refine ⟨fun pins s σ H Q I q => ?_⟩
        refine (pe_andT (adE a h false _ c1) hb).run pins s σ H Q I ?_
        rw [(R.bas h).K]
        exact q
      | true =>
        have hb : PW X (.BoolOp .And (b' :: r) p) (rdT (sg g fn) W b) := by
          cases r with
          | nil => exact pw_and1 (adE b h true _ c2)
          | cons c' r => exact pw_of (adE b h true _ c2)
        exact pw_to (pw_and (adE a h true _ c1) hb)
    · cases c
  | .or a b, X, sc, W, h, tt, e', c => by
    unfold cE at c
    split at c
    · rename_i a' b' r p
      obtain ⟨c1, c2⟩ := and2 c
      cases tt with
      | false =>
        have hb : PE X (.BoolOp .Or (b' :: r) p) (rd (sg g fn) W b) := by
          cases r with
          | nil => exact pe_one (adE b h false _ c2)
          | cons c' r => exact adE b h false _ c2
        refine ⟨fun pins s σ H Q I q => ?_⟩
        refine (pe_orT (adE a h false _ c1) hb).run pins s σ H Q I ?_
        rw [(R.bas h).K]
        exact q
      | true =>
        have hb : PW X (.BoolOp .Or (b' :: r) p) (rdT (sg g fn) W b) := by
          cases r with
          | nil => exact pw_or1 (adE b h true _ c2)
          | cons c' r => exact pw_of (adE b h true _ c2)
        exact pw_to (pw_or (adE a h true _ c1) hb)
    · cases c
  | .ife a b d, X, sc, W, h, tt, e', c => by
    unfold cE at c
    split at c
    · obtain ⟨c, c4⟩ := and2 c
      obtain ⟨c, c3⟩ := and2 c
      obtain ⟨c1, c2⟩ := and2 c
      cases tt with
      | true => cases c1
      | false => exact pe_ifExp (adE a h true _ c2) (adE b h false _ c3) (adE d h false _ c4)
    · cases c
  | .ix a b, X, sc, W, h, tt, e', c => by
    unfold cE at c
    split at c
    · obtain ⟨c, c3⟩ := and2 c
      obtain ⟨c1, c2⟩ := and2 c
      refine both (R.bas h).K ?_ fun _ => rfl
      have ok := rIXX_ok (X := X) (by have := (R.bas h).hu; omega)
      rw [(R.bas h).K] at ok
      exact pe_ix ok (adE a h false _ c1) (adE b h false _ c2) (plainIx_of c3)
    · cases c
  | .slc a lo hi, X, sc, W, h, tt, e', c => by
    unfold cE at c
    split at c
    · rename_i a' lo' hi' _ _
      obtain ⟨c, c4⟩ := and2 c
      obtain ⟨c, c3⟩ := and2 c
      obtain ⟨c1, c2⟩ := and2 c
      cases tt with
      | true => cases c1
      | false =>
        have ok := rSLL_ok (X := X)
        rw [(R.bas h).K] at ok
        refine pe_slice ok (adE a h false _ c2) ?_ ?_
        · cases lo' with
          | none =>
            have c3 : lo.nl = true := c3
            rw [c3]; exact po_none
          | some l =>
            obtain ⟨c5, c6⟩ := and2 c3
            have c5 : lo.nl = false := by simpa using c5
            rw [c5]; exact po_some (adE lo h false _ c6)
        · cases hi' with
          | none =>
            have c4 : hi.nl = true := c4
            rw [c4]; exact po_none
          | some l =>
            obtain ⟨c5, c6⟩ := and2 c4
            have c5 : hi.nl = false := by simpa using c5
            rw [c5]; exact po_some (adE hi h false _ c6)
    · cases c
  | .call f es, X, sc, W, h, tt, e', c => by
    unfold cE at c
    split at c
    · rename_i x _ es' _
      obtain ⟨c, c5⟩ := and2 c
      obtain ⟨c, c4⟩ := and2 c
      obtain ⟨c, c3⟩ := and2 c
      obtain ⟨c1, c2⟩ := and2 c
      cases of_decide_eq_true c1
      obtain ⟨g1, g2⟩ := (R.bas h).gl c3
      have pa := adA es h _ c4
      obtain ⟨e, r, rfl⟩ := cons_of (by simpa using c5)
      refine both (R.bas h).K ?_ fun _ => rfl
      have st := pl_of (X := X) c4
      exact R.call h c2 g1 g2 pa st.1 (st.2 _)
    · rename_i x _ k ks _
      obtain ⟨c, c7⟩ := and2 c
      obtain ⟨c, c6⟩ := and2 c
      obtain ⟨c, c5⟩ := and2 c
      obtain ⟨c, c4⟩ := and2 c
      obtain ⟨c, c3⟩ := and2 c
      obtain ⟨c1, c2⟩ := and2 c
      cases of_decide_eq_true c1
      obtain ⟨g1, g2⟩ := (R.bas h).gl c3
      have hh : hot = false := by simpa using c5
      refine both (R.bas h).K ?_ fun _ => rfl
      exact R.callK hh h (by rw [← hh]; exact c2) c6 g1 g2 (adK es h _ c4) (of_decide_eq_true c7)
    · cases c
  | .bi f es, X, sc, W, h, tt, e', c => by
    unfold cE at c
    split at c
    · rename_i x _ es' _
      obtain ⟨c, c9⟩ := and2 c
      obtain ⟨c, c4⟩ := and2 c
      obtain ⟨c, c3⟩ := and2 c
      obtain ⟨c1, c2⟩ := and2 c
      cases of_decide_eq_true c1
      obtain ⟨g1, g2⟩ := (R.bas h).gl c2
      have pa := adA es h _ c3
      obtain ⟨e, r, rfl⟩ := cons_of (by simpa using c4)
      refine both (R.bas h).K ?_ fun _ => rfl
      have st := pl_of (X := X) c3
      have ok := R.bi f (fun z => by rw [z] at c9; simpa using c9) h
      rw [(R.bas h).K] at ok
      rcases f.boot with ⟨id, e1, e2⟩ | ⟨T, e1, e2⟩
      · rw [e1] at ok
        exact pe_callB ok g1 ((R.bas h).bl _ f.nm_mem) e2 pa f.nm_ne g2 st.1 (st.2 _)
      · rw [e1] at ok
        exact pe_callTy ok g1 ((R.bas h).bl _ f.nm_mem) e2 pa f.nm_ne g2 st.1 (st.2 _)
    · cases c
  | .isi a t, X, sc, W, h, tt, e', c => by
    unfold cE at c
    split at c
    · rename_i x _ a' y _ _
      obtain ⟨c, c7⟩ := and2 c
      obtain ⟨c, c6⟩ := and2 c
      obtain ⟨c, c5⟩ := and2 c
      obtain ⟨c, c4⟩ := and2 c
      obtain ⟨c, c3⟩ := and2 c
      obtain ⟨c1, c2⟩ := and2 c
      cases of_decide_eq_true c1
      obtain ⟨g1, g2⟩ := (R.bas h).gl c2
      refine both (R.bas h).K ?_ fun _ => rfl
      exact pe_callB (R.isi h) g1 ((R.bas h).bl _ (by simp)) Boot.isinstance (pa_cons (adE a h false _ c3) (pa_cons (ad_ty (R.bas h) (of_decide_eq_true c5) c6 c7) pa_nil rfl) (star_plain c4)) (by decide) g2 (star_plain c4) rfl
    · cases c
  | .fld a n, X, sc, W, h, tt, e', c => by
    unfold cE at c
    split at c
    · obtain ⟨c, c3⟩ := and2 c
      obtain ⟨c1, c2⟩ := and2 c
      cases of_decide_eq_true c1
      exact both (R.bas h).K (R.fld h (adE a h false _ c3) (noBase c2)) fun _ => rfl
    · cases c
  | .lc elt i it hasIf cc, X, sc, W, h, tt, e', c => by
    unfold cE at c
    split at c
    · rename_i elt' x px iter' ifs' k scope pe
      obtain ⟨c, c7⟩ := and2 c
      obtain ⟨c, c6⟩ := and2 c
      obtain ⟨c, c5⟩ := and2 c
      obtain ⟨c, c4⟩ := and2 c
      obtain ⟨c, c3⟩ := and2 c
      obtain ⟨c1, c2⟩ := and2 c
      cases of_decide_eq_true c2
      obtain ⟨t1, t2⟩ := and2 c4
      cases tt with
      | true => cases c1
      | false =>
        have hi := adI it h (.Name x px) iter' c5
        refine R.lc h c3 (of_decide_eq_true t1) (of_decide_eq_true t2) hi.1 (fun X' h' => ?_) (fun X' h' => adE elt h' false _ c6) hi.2
        cases hasIf with
        | true =>
          match ifs', c7 with
          | [c'], c7 => exact pts_one (adE cc h' true _ c7)
        | false =>
          match ifs', c7 with
          | [], c7 => exact pts_nil
    · cases c
theorem adI : ∀ (it : IT) {X : Cx} {sc : Scope} {W : WX} (h : P X sc W) (tg : Expr) (e' : Expr), cI C g.T N hot sc it e' = true → I X tg e' (rdI (sg g fn) W it) ∧ ∀ y, foldedSetIterable e' X.env y = pure y
  | .e a, X, sc, W, h, tg, e', c => by
    unfold cI at c
    obtain ⟨c1, c2⟩ := and2 c
    have := R.seq (tg := tg) h (adE a h false _ c1)
    rw [(R.bas h).K] at this
    exact ⟨this, noFold c2⟩
  | .txt a, X, sc, W, h, tg, e', c => by
    unfold cI at c
    obtain ⟨c, c3⟩ := and2 c
    obtain ⟨c1, c2⟩ := and2 c
    exact ⟨R.txt (by simpa using c1) h (adE a h false _ c2), noFold c3⟩
  | .rng a, X, sc, W, h, tg, e', c => by
    unfold cI at c
    split at c
    · obtain ⟨c, c4⟩ := and2 c
      obtain ⟨c, c3⟩ := and2 c
      obtain ⟨c1, c2⟩ := and2 c
      cases of_decide_eq_true c1
      obtain ⟨g1, g2⟩ := (R.bas h).gl c2
      exact ⟨R.rng1 h g1 ((R.bas h).bl _ (by simp)) (pa_cons (adE a h false _ c3) pa_nil (star_plain c4)) (star_plain c4), fun _ => rfl⟩
    · cases c
  | .rng2 a b, X, sc, W, h, tg, e', c => by
    unfold cI at c
    split at c
    · obtain ⟨c, c6⟩ := and2 c
      obtain ⟨c, c5⟩ := and2 c
      obtain ⟨c, c4⟩ := and2 c
      obtain ⟨c, c3⟩ := and2 c
      obtain ⟨c1, c2⟩ := and2 c
      cases of_decide_eq_true c1
      obtain ⟨g1, g2⟩ := (R.bas h).gl c2
      have s1 : ∀ env, starEach [_, _] env = [(false, eval _ env), (false, eval _ env)] := fun env => (star_plain c4).trans (congrArg _ (star_plain c6))
      exact ⟨R.rng2 h g1 ((R.bas h).bl _ (by simp)) (pa_cons (adE a h false _ c3) (pa_cons (adE b h false _ c5) pa_nil (star_plain c6)) (star_plain c4)) (s1 _) (star_plain c6), fun _ => rfl⟩
    · cases c
theorem adA : ∀ (es : IEs) {X : Cx} {sc : Scope} {W : WX} (h : P X sc W) (es' : List Expr), cA C g.T N hot sc es es' = true → PA X es' (rdA (sg g fn) W es)
  | .nil, X, sc, W, h, es', c => by
    unfold cA at c
    cases es' with
    | nil => exact pa_nil
    | cons e es => cases c
  | .cons e es, X, sc, W, h, es', c => by
    unfold cA at c
    split at c
    · obtain ⟨c, c3⟩ := and2 c
      obtain ⟨c1, c2⟩ := and2 c
      exact pa_cons (adE e h false _ c1) (adA es h _ c3) (star_plain c2)
    · cases c
theorem adK : ∀ (es : IEs) {X : Cx} {sc : Scope} {W : WX} (h : P X sc W) (es' : List Keyword), cK C g.T N hot sc es es' = true → PK X es' (rdA (sg g fn) W es)
  | .nil, X, sc, W, h, es', c => by
    unfold cK at c
    cases es' with
    | nil => exact pk_nil
    | cons e es => cases c
  | .cons e es, X, sc, W, h, es', c => by
    unfold cK at c
    split at c
    · obtain ⟨c1, c2⟩ := and2 c
      exact pk_cons (adE e h false _ c1) (adK es h _ c2)
    · cases c
theorem adP : ∀ (ps : IEs) {X : Cx} {sc : Scope} {W : WX} (h : P X sc W) (pos : Pos) (ks : List (Option Expr)) (vs : List Expr), cP C g.T N hot sc ps ks vs = true → PPs X pos ks vs (rdP (sg g fn) W ps)
  | .nil, X, sc, W, h, pos, ks, vs, c => by
    unfold cP at c
    obtain ⟨a, b⟩ := and2 c
    cases ks with
    | cons k ks => cases a
    | nil =>
      cases vs with
      | cons v vs => cases b
      | nil => exact pps_nil
  | .cons k .nil, X, sc, W, h, pos, ks, vs, c => by unfold cP at c; cases c
  | .cons k (.cons v ps), X, sc, W, h, pos, ks, vs, c => by
    unfold cP at c
    split at c
    · obtain ⟨c, c3⟩ := and2 c
      obtain ⟨c1, c2⟩ := and2 c
      exact pps_cons (adE k h false _ c1) (adE v h false _ c2) (adP ps h pos _ _ c3)
    · cases c
end
end
end EN
/-! Every statement that cS lets pass has its reading. -/
namespace EN
open PySem L2 PySem.Spec PyProof.Rows
structure RulS (C : Cc) (N : List Str) (g : G0) (fn : Fn) (hot : Bool) (I : Cx → Expr → Expr → TI → Prop) (P Q : Cx → Scope → WX → Prop) : Prop where
  R : Rul C N g fn hot I P
  q2p : ∀ {X sc W}, Q X sc W → P X sc W
  nd : N.Nodup
  fnT : ∀ {X sc W}, Q X sc W → ∀ x, X.fn x = true
  kind : ∀ {X sc W}, Q X sc W → X.env.scope.kind = .function
  tup : ∀ {X sc W} {ts : List Expr} {k n : Nat} {t : TGs} {pos : Pos}, hot = false → Q X sc W → PGs X ts t → (assignEach ts X.env).length = n → (assignEach ts X.env).findIdx? (·.1) = none → PG X (.Tuple ts k pos) (gTup X.K n t)
  aug : ∀ {X sc W} {i : Nat} {x : Str} {e : Expr} {te : TE} {op : BO} {p pos : Pos}, Q X sc W → N[i]? = some x → Loc X.env.scope x → PE X e te → PS X (.AugAssign (.Name x p) op.op e pos) (tAug i te (rAug op))
  whl : ∀ {X sc W} {c : Expr} {b : List Stmt} {tc : TT} {tb : TS} {pos : Pos}, hot = false → Q X sc W → PT X c tc → PSs X b tb → PS X (.While c b [] pos) (tWhile tc tb)
  for_ : ∀ {X sc W} {tg iter : Expr} {body : List Stmt} {wi : TI} {gg : TG} {tb : TS} {pos : Pos}, hot = false → Q X sc W → I X tg iter wi → PG X tg gg → PSs X body tb → (∀ x, foldedSetIterable iter X.env x = pure x) → PS X (.For tg iter body [] pos) (tFor wi gg tb)
  raise : ∀ {X sc W} {c : Nat} {e : Expr} {es : List Expr} {t : TA} {p q pos : Pos}, hot = false → Q X sc W → c < g.T.ne → (g.T.ef c).Nodup → g.T.ef c ≠ [] → Gl X (C.en c) → (C.en c == ("__debug__" : Str)) = false → PA X (e :: es) t → starEach (e :: es) X.env = (false, eval e X.env) :: starEach es X.env → (backTo q (starEach es X.env)).any (·.1) = false →
    PS X (.Raise (some (.Call (.Name (C.en c) p) (e :: es) [] q)) none pos) (tRaise g W c t)
  setLc : ∀ {X sc W} {elt iter : Expr} {ifs : List Expr} {scope : Scope} {x y : Str} {i j : Nat} {p py pos spos : Pos} {wi : TI} {tt : TT} {te : TE}, hot = false → Q X sc W → N[j]? = some y → X.env.scope.names.lookup y = some .local → swapsWith (.ListComp elt [⟨.Name x p, iter, ifs, 0⟩] scope pos) (some (.Name y py)) spos.line X.env = pure true →
    blkC N sc scope [(x, i)] = true → N[i]? = some x → (relS scope sc).names.lookup x = some .local → I X (.Name x p) iter wi →
    (∀ X', P X' (relS scope sc) W0 → PTs X' ifs tt) → (∀ X', P X' (relS scope sc) W0 → PE X' elt te) → (∀ z, foldedSetIterable iter X.env z = pure z) → PS X (.Assign [.Name y py] (.ListComp elt [⟨.Name x p, iter, ifs, 0⟩] scope pos) spos) (tAsg (tLc wi (gName i) tt te [i]) (gName j))
  try_ : ∀ {X sc W} {b : ISs} {hs : IHs} {b' : List Stmt} {hs' : List ExceptHandler} {pos : Pos}, hot = false → Q X sc W → (∀ X' W', Q X' sc W' → PSs X' b' (rss g fn W' b)) → cHs C g.T N sc hs hs' = true → oneH hs = true → PS X (.Try b' hs' [] [] pos) (rs g fn W (.tryS b hs))
section
variable {C : Cc} {N : List Str} {g : G0} {fn : Fn} {hot : Bool} {I : Cx → Expr → Expr → TI → Prop} {P Q : Cx → Scope → WX → Prop} (A : RulS C N g fn hot I P Q)
include A
theorem RulS.loc {X : Cx} {sc : Scope} {W : WX} (h : Q X sc W) {i : Nat} {x : Str} (c : tgT N sc i x = true) : X.N[i]? = some x ∧ Loc X.env.scope x := by
  obtain ⟨c1, c2⟩ := and2 c
  have b := A.R.bas (A.q2p h)
  refine ⟨by rw [b.N]; exact of_decide_eq_true c1, ?_⟩
  rw [b.sc]
  unfold locT at c2
  rcases Bool.or_eq_true_iff.mp c2 with c2 | c2
  · exact .inl (of_decide_eq_true c2)
  · exact .inr (of_decide_eq_true c2)
theorem RulS.ndX {X : Cx} {sc : Scope} {W : WX} (h : Q X sc W) : X.N.Nodup := by rw [(A.R.bas (A.q2p h)).N]; exact A.nd
theorem RulS.gname {X : Cx} {sc : Scope} {W : WX} (h : Q X sc W) {i : Nat} {x : Str} {p : Pos} (c : tgT N sc i x = true) : PG X (.Name x p) (gName i) := by
  obtain ⟨a, b⟩ := A.loc h c
  exact pg_name (A.ndX h) a b (.inl (A.fnT h x))
theorem RulS.ad_names {X : Cx} {sc : Scope} {W : WX} (h : Q X sc W) : ∀ {is : List Nat} {ts : List Expr}, cNs N sc is ts = true → PGs X ts (gNames is) ∧ (assignEach ts X.env).length = is.length ∧ (assignEach ts X.env).findIdx? (·.1) = none
  | [], ts, c => by
    unfold cNs at c
    cases ts with
    | nil => exact ⟨pgs_nil, rfl, rfl⟩
    | cons t ts => cases c
  | i :: is, ts, c => by
    unfold cNs at c
    split at c
    · obtain ⟨c1, c2⟩ := and2 c
      obtain ⟨a, b, d⟩ := RulS.ad_names h c2
      refine ⟨pgs_cons (A.gname h c1) a rfl, by show (assignEach _ X.env).length + 1 = _; rw [b]; rfl, ?_⟩
      show List.findIdx? (·.1) ((false, _) :: assignEach _ X.env) = none
      rw [List.findIdx?_cons]
      simp [d]
    · cases c
omit A in
theorem noSwap {e : Expr} {o : Option Expr} {l : Nat} {env : PySem.Env} (h : isLc e = false) : swapsWith e o l env = pure false := by
  cases e <;> first | rfl | cases h
theorem RulS.ad_asg {X : Cx} {sc : Scope} {W : WX} (h : Q X sc W) {tg e : Expr} {te : TE} {gg : TG} {pos : Pos} (he : PE X e te) (hg : PG X tg gg) (hl : isLc e = false) (hw : swappedStores [tg] e X.env = pure none) (h1 : (assignEach [tg] X.env).map (·.2) = [assign tg X.env]) : PS X (.Assign [tg] e pos) (tAsg te gg) :=
  ps_asg he hg (noSwap hl) hw h1
theorem RulS.sw_eq {X : Cx} {sc : Scope} {W : WX} (h : Q X sc W) {elt : Expr} {gens : List Comprehension} {scope : Scope} {x : Str} {p q : Pos} {l : Nat} (c : swp sc x p (.ListComp elt gens scope q) = true) : swapsWith (.ListComp elt gens scope q) (some (.Name x p)) l X.env = pure true := by
  have b := A.R.bas (A.q2p h)
  obtain ⟨c, c4⟩ := and2 c
  obtain ⟨c, c3⟩ := and2 c
  obtain ⟨c1, c2⟩ := and2 c
  have hk := A.kind h
  have e1 : (X.env.blockKind == .function) = true := by
    unfold PySem.Env.blockKind
    rw [hk]; rfl
  have e2 : (X.env.kindOf x == some .local) = true := by
    show (X.env.scope.names.lookup x == some .local) = true
    rw [b.sc, of_decide_eq_true c2]; rfl
  unfold swapsWith
  have c3 : (p.line == (Expr.ListComp elt gens scope q).pos.line) = true := c3
  simp only [e1, e2, c3, c4, Bool.true_and, pure_bind]
mutual
theorem adS : ∀ (s : IS) {X : Cx} {sc : Scope} {W : WX} (h : Q X sc W) (s' : Stmt), cS C g.T N hot sc s s' = true → PS X s' (rs g fn W s)
  | .asg i e, X, sc, W, h, s', c => by
    unfold cS at c
    split at c
    · rename_i x p e' pos
      obtain ⟨c, c3⟩ := and2 c
      obtain ⟨c1, c2⟩ := and2 c
      obtain ⟨a, b⟩ := A.loc h c1
      cases hl : isLc e' with
      | false => exact ps_set (A.ndX h) a b (adE A.R e (A.q2p h) false _ c2) (noSwap hl) (.inl (A.fnT h x))
      | true =>
        rw [hl] at c3
        obtain ⟨e3, e5⟩ := and2 c3
        obtain ⟨f3, e4⟩ := and2 e3
        obtain ⟨f0, f3⟩ := and2 f3
        clear c3 e3
        cases e with
        | lc elt j it hasIf cc =>
          unfold cE at c2
          split at c2
          · rename_i elt' x' px iter' ifs' k scope pe _
            obtain ⟨c2, d7⟩ := and2 c2
            obtain ⟨c2, d6⟩ := and2 c2
            obtain ⟨c2, d5⟩ := and2 c2
            obtain ⟨c2, d4⟩ := and2 c2
            obtain ⟨c2, d3⟩ := and2 c2
            obtain ⟨d1, d2⟩ := and2 c2
            cases of_decide_eq_true d2
            obtain ⟨t1, t2⟩ := and2 d4
            have hi := adI A.R it (A.q2p h) (.Name x' px) iter' d5
            have sw := A.sw_eq h (l := pos.line) e4
            have bs := A.R.bas (A.q2p h)
            have y1 := and2 f3
            refine A.setLc (by simpa using f0) h (of_decide_eq_true y1.1) (by rw [bs.sc]; exact of_decide_eq_true y1.2) sw d3 (of_decide_eq_true t1) (of_decide_eq_true t2) hi.1 (fun X' h' => ?_) (fun X' h' => adE A.R elt h' false _ d6) hi.2
            cases hasIf with
            | true =>
              match ifs', d7 with
              | [c'], d7 => exact pts_one (adE A.R cc h' true _ d7)
            | false =>
              match ifs', d7 with
              | [], d7 => exact pts_nil
          · cases c2
        | _ => cases e5
    · cases c
  | .asgT is e, X, sc, W, h, s', c => by
    unfold cS at c
    split at c
    · rename_i ts k p e' pos
      obtain ⟨c, c4⟩ := and2 c
      obtain ⟨c, c3⟩ := and2 c
      obtain ⟨c, c2⟩ := and2 c
      obtain ⟨c0, c1⟩ := and2 c
      obtain ⟨a, b, d⟩ := A.ad_names h c1
      have hg := A.tup (k := k) (pos := p) (by simpa using c0) h a b d
      have K := (A.R.bas (A.q2p h)).K
      rw [K] at hg
      refine A.ad_asg h (adE A.R e (A.q2p h) false _ c2) hg (by simpa using c3) ?_ rfl
      cases e' <;> first | rfl | cases c4
    · cases c
  | .put i k v, X, sc, W, h, s', c => by
    unfold cS at c
    split at c
    · rename_i x px k' p v' pos
      obtain ⟨c, c5⟩ := and2 c
      obtain ⟨c, c4⟩ := and2 c
      obtain ⟨c, c3⟩ := and2 c
      obtain ⟨c1, c2⟩ := and2 c
      have bs := A.R.bas (A.q2p h)
      have st : PSet X rSetX := fun pins s σ H o i v ov iv u Q I ro ri rv q => q.elim (fun q => set_list pins s σ H o i v ov iv u Q I ro ri rv q) fun q => set_dict (by have := bs.hu; omega) pins s σ H o i v ov iv u Q I ro ri rv q
      refine A.ad_asg h (adE A.R v (A.q2p h) false _ c4) (pg_sub (ad_var bs c1) (adE A.R k (A.q2p h) false _ c2) st ?_) (by simpa using c5) rfl rfl
      intro w
      cases k' <;> first | rfl | cases c3
    · cases c
  | .expr e, X, sc, W, h, s', c => by
    unfold cS at c
    split at c
    · obtain ⟨c1, c2⟩ := and2 c
      exact ps_expr (adE A.R e (A.q2p h) false _ c1) (noSwap (by simpa using c2))
    · cases c
  | .app i e, X, sc, W, h, s', c => by
    unfold cS at c
    split at c
    · rename_i x px m p e' q pos
      obtain ⟨c, c5⟩ := and2 c
      obtain ⟨c, c4⟩ := and2 c
      obtain ⟨c, c3⟩ := and2 c
      obtain ⟨c1, c2⟩ := and2 c
      cases of_decide_eq_true c1
      have bs := A.R.bas (A.q2p h)
      have := pe_bm (X := X) (cpos := q) (apos := p) F.plainAttrs_list F.slot_list_append rfl mt_append (ad_var (p := px) bs c2) (pa_cons (adE A.R e (A.q2p h) false _ c3) pa_nil (star_plain c4)) rfl (by rw [star_plain c4]; rfl) c5 (star_plain c4) rfl
      rw [bs.K] at this
      exact ps_expr this rfl
    · cases c
  | .ret e, X, sc, W, h, s', c => by
    unfold cS at c
    split at c
    · exact ps_ret (adE A.R e (A.q2p h) false _ c)
    · cases c
  | .retN, X, sc, W, h, s', c => by
    unfold cS at c
    split at c
    · exact ps_retN
    · cases c
  | .ifS a b d, X, sc, W, h, s', c => by
    unfold cS at c
    split at c
    · obtain ⟨c, c3⟩ := and2 c
      obtain ⟨c1, c2⟩ := and2 c
      exact ps_if (adE A.R a (A.q2p h) true _ c1) (adSs b h _ c2) (adSs d h _ c3)
    · cases c
  | .forS i it b, X, sc, W, h, s', c => by
    unfold cS at c
    split at c
    · rename_i x px it' b' pos
      obtain ⟨c, c3⟩ := and2 c
      obtain ⟨c, c2⟩ := and2 c
      obtain ⟨c0, c1⟩ := and2 c
      have hi := adI A.R it (A.q2p h) (.Name x px) it' c2
      exact A.for_ (by simpa using c0) h hi.1 (A.gname h c1) (adSs b h _ c3) hi.2
    · cases c
  | .aug i op e, X, sc, W, h, s', c => by
    unfold cS at c
    split at c
    · obtain ⟨c, c3⟩ := and2 c
      obtain ⟨c1, c2⟩ := and2 c
      cases of_decide_eq_true c1
      obtain ⟨a, b⟩ := A.loc h c2
      rw [(A.R.bas (A.q2p h)).N] at a
      exact A.aug h a b (adE A.R e (A.q2p h) false _ c3)
    · cases c
  | .whl a b, X, sc, W, h, s', c => by
    unfold cS at c
    split at c
    · obtain ⟨c, c3⟩ := and2 c
      obtain ⟨c1, c2⟩ := and2 c
      exact A.whl (by simpa using c1) h (adE A.R a (A.q2p h) true _ c2) (adSs b h _ c3)
    · cases c
  | .brk, X, sc, W, h, s', c => by
    unfold cS at c
    split at c
    · exact ps_break
    · cases c
  | .cont, X, sc, W, h, s', c => by
    unfold cS at c
    split at c
    · exact ps_continue
    · cases c
  | .pass, X, sc, W, h, s', c => by
    unfold cS at c
    split at c
    · exact ps_pass
    · cases c
  | .raise k es, X, sc, W, h, s', c => by
    unfold cS at c
    split at c
    · rename_i x px es' q pos
      obtain ⟨c, c7⟩ := and2 c
      obtain ⟨c, c6⟩ := and2 c
      obtain ⟨c, c5⟩ := and2 c
      obtain ⟨c, c4⟩ := and2 c
      obtain ⟨c, c3⟩ := and2 c
      obtain ⟨c, c2⟩ := and2 c
      obtain ⟨c0, c1⟩ := and2 c
      cases of_decide_eq_true c1
      obtain ⟨g1, g2⟩ := (A.R.bas (A.q2p h)).gl c2
      have nn : g.T.ef k ≠ [] := fun z => by rw [z] at c7; cases c7
      have pa := adA A.R es (A.q2p h) _ c4
      obtain ⟨e, r, rfl⟩ := cons_of (by simpa using c5)
      have st := pl_of (X := X) c4
      exact A.raise (by simpa using c0) h (of_decide_eq_true c3) (of_decide_eq_true c6) nn g1 g2 pa st.1 (st.2 _)
    · cases c
  | .tryS b hs, X, sc, W, h, s', c => by
    unfold cS at c
    split at c
    · obtain ⟨c, c3⟩ := and2 c
      obtain ⟨c, c2⟩ := and2 c
      obtain ⟨c0, c1⟩ := and2 c
      exact A.try_ (by simpa using c0) h (fun X' W' h' => adSs b h' _ c1) c2 c3
    · cases c
theorem adSs : ∀ (s : ISs) {X : Cx} {sc : Scope} {W : WX} (h : Q X sc W) (s' : List Stmt), cSs C g.T N hot sc s s' = true → PSs X s' (rss g fn W s)
  | .nil, X, sc, W, h, s', c => by
    unfold cSs at c
    cases s' with
    | nil => exact pss_nil
    | cons a as => cases c
  | .cons s ss, X, sc, W, h, s', c => by
    unfold cSs at c
    split at c
    · obtain ⟨c1, c2⟩ := and2 c
      exact pss_cons (adS s h _ c1) (adSs ss h _ c2)
    · cases c
end
end
end EN
/-! Where no error is held: the family of contexts. -/
namespace EN
open PySem L2 PySem.Spec PyProof.Rows
/-- all parameters by keywords, in order -/
def KwB (K : Frag) (fd : FuncData) (ps : List Str) : Prop := ∀ (s : Shared) (ws : List Value), K.In s.heap → ws.length = ps.length → BindsTo s fd ⟨[], ps.zip ws⟩ (ps.zip ws)
theorem kw_all {env : PySem.Env} {pos : Pos} : ∀ {kws : List Keyword} {ps : List Str}, kws.map (·.arg) = ps.map some → (backToKw pos (keywordEach kws env)).all (·.1.isSome) = true ∧ (backToKw pos (keywordEach kws env)).filterMap (·.1) = ps ∧ (backToKw pos (keywordEach kws env)).any (·.1.isNone) = false
  | [], ps, h => by
    cases ps with
    | nil => exact ⟨rfl, rfl, rfl⟩
    | cons p ps => cases h
  | ⟨a, e, q⟩ :: kws, ps, h => by
    cases ps with
    | nil => cases h
    | cons p ps =>
      simp only [List.map_cons, List.cons.injEq] at h
      obtain ⟨h1, h2⟩ := h
      have h1 : a = some p := h1
      subst h1
      obtain ⟨r1, r2, r3⟩ := kw_all (env := env) (pos := pos) h2
      unfold backToKw at r1 r2 r3 ⊢
      unfold keywordEach
      simp only [List.map_cons, List.all_cons, List.any_cons, List.filterMap_cons]
      refine ⟨by rw [r1]; rfl, by rw [r2], by rw [r3]; rfl⟩
section
variable {X : Cx} {CX : CXT} {k : Nat} {f : Addr} {fd : FuncData} {ps : List Str} {sp : Sp} {E : L2.St → XK} {x : Str} {p pos : Pos} {kw : Keyword} {kws : List Keyword} {t : TA}
theorem pe_callKw (F : FnOk X.prog X.w X.K X.mg X.base CX k f fd ps sp) (hr : Room k X.A) (hg : Gl X x) (hm : X.mg x = some (.ref f)) (hk : PySem.W.keepIn X.K (.ref f) = true) (hb : KwB X.K fd ps) (hx : ∀ σ, L2.PassesAt CX X σ (E σ))
    (hkw : PK X (kw :: kws) t) (hn : (kw :: kws).map (·.arg) = ps.map some) (hdb : (x == ("__debug__" : Str)) = false) : PE X (.Call (.Name x p) [] (kw :: kws) pos) (L2.tCallS sp E t) := by
  obtain ⟨n1, n2, n3⟩ := kw_all (env := X.env) (pos := pos) hn
  refine ⟨fun pins s σ H Q I h => ?_⟩
  refine wpAny_Call_Name_kw (ld_glob I hg hm ?_ hdb)
  refine PySem.W.callWith_KW0 (h₀ := X.base) I.ok.mod.kin hk n1 ?_ (by rw [n3]; rfl)
  refine thn (hkw.run pos pins s σ H _ I h) fun ws s2 ⟨zs, H2, I2, rz, q2⟩ => ⟨I2.kIn, ?_⟩
  rw [n2]
  have hl : ws.length = ps.length := by rw [← rz.length]; exact F.len _ _ _ _ q2
  refine wpAny_call (codeAny_mono (F.run X.A X.stack s2 H2 ⟨[], ps.zip ws⟩ ws zs Q (E σ) hr I2.env0 (hb s2 ws I2.kIn hl) rz q2) fun r s' hq => ?_)
  cases r with
  | error e => exact hx σ pins H2 s2 e s' I2 hq
  | ok fl =>
    cases fl with
    | ret u => exact I2.after hq
    | next => exact False.elim hq
    | brk => exact False.elim hq
    | cont => exact False.elim hq
end
/-- a def as it stands in the text, and its promise -/
def FnF (C : Cc) (g : G0) (fn : Fn) (X : Cx) (f : Nat) : Prop := ∃ (fa : Addr) (fd : FuncData) (ps : List Str) (k : Nat), X.mg (C.gn f) = some (.ref fa) ∧ PySem.W.keepIn X.K (.ref fa) = true ∧ Binds X.K fd ps [] ∧
  FnOk X.prog X.w X.K X.mg X.base (L2N.CX X.prog X.w) k fa fd ps (spN g fn f) ∧ Room k X.A ∧ (C.kw f = true → C.pn f = ps ∧ KwB X.K fd ps)
structure PC (C : Cc) (N : List Str) (g : G0) (fn : Fn) (X : Cx) (sc : Scope) (W : WX) : Prop where
  bas : Bas C N g X sc
  calm : X.calm = true
  nd : N.Nodup
  tk : L2N.Takes X W
  ff : ∀ f, C.cl false f = true → FnF C g fn X f
section
variable {C : Cc} {N : List Str} {g : G0} {fn : Fn} {X : Cx} {sc : Scope} {W : WX}
theorem pi_seq {tg l : Expr} {tl : TE} (hl : PE X l tl) : PI X tg l (iSeq X.K tl) := by
  refine ⟨fun pins s σ H Z I h => ?_⟩
  refine thn (hl.run pins s σ H _ I h) fun v s1 ⟨x, H1, I1, r1, q1⟩ => ?_
  obtain ⟨a, e, q⟩ := q1
  subst e
  cases r1
  have ok : FpOk X pins H1 s1.heap.objs.size := I1.fpOk (Nat.le_refl _) (I1.hok.fresh (Nat.le_refl _))
  have one : ∀ b ∈ [s1.heap.objs.size], FpOk X pins H1 b := fun b hb => by rw [List.mem_singleton.mp hb]; exact ok
  rcases q with ⟨xs, hq, q⟩ | ⟨xs, hq, q⟩
  · obtain ⟨its, rv, p, hz⟩ := I1.list hq
    exact wpAny_pyIter_list p.isList ⟨_, [s1.heap.objs.size], _, _, H1, rfl, I1.kept (t' := s1.toks) fun b o e => Heap.get?_push_of_some _ e, turn_list a _, ⟨_, Heap.get?_push_size _ rfl, rfl, rfl⟩, one, q⟩
  · obtain ⟨its, rv, p, hz⟩ := I1.tuple hq
    exact wpAny_pyIter_tuple (show s1.heap.IsTuple a its.toArray from p) ⟨_, [s1.heap.objs.size], _, _, H1, rfl, I1.kept (t' := s1.toks) fun b o e => Heap.get?_push_of_some _ e, turn_tuple a _, ⟨_, Heap.get?_push_size _ rfl, rfl, rfl⟩, one, q⟩
theorem takes_none {Y : Cx} : L2N.Takes Y W0 := fun _ _ x => by
  obtain ⟨_, _, _, _, _, _, _, _, _, _, _, _, _, _, _, _, z⟩ := x
  exact z.elim
theorem PC.blk (h : PC C N g fn X sc W) {s : Shared} {H : Hp} {scope : Scope} {A : Addr} {cl : List (Str × Addr)} {fp : List Addr} : PC C N g fn (X.blk s H scope (compEnvC scope cl A X.env) fp) (relS scope sc) W0 where
  bas := ⟨h.bas.K, h.bas.N, by
    show relabel scope X.env = relS scope sc
    rw [← h.bas.sc]; rfl, h.bas.hu, h.bas.bl, h.bas.en, h.bas.cn, h.bas.kc⟩
  calm := h.calm
  nd := h.nd
  tk := takes_none
  ff := h.ff
theorem PC.tgt {Y : Cx} {sc' : Scope} (h : PC C N g fn Y sc' W) {i : Nat} {x : Str} {p : Pos} (h1 : N[i]? = some x) (h2 : sc'.names.lookup x = some .local) : PG Y (.Name x p) (gName i) := by
  have h2 : Y.env.scope.names.lookup x = some .local := by rw [h.bas.sc]; exact h2
  exact pg_name (by rw [h.bas.N]; exact h.nd) (by rw [h.bas.N]; exact h1) (.inl h2) (.inr h2)
theorem rulC (hp : g.pn = none) : Rul C N g fn false PI (PC C N g fn) where
  bas h := h.bas
  call := fun {X sc W f e es t p pos} h hf g1 g2 pa st pl => by
    obtain ⟨fa, fd, ps, k, m, kp, b, F, r, _⟩ := h.ff f hf
    exact pe_callS (E := WE W) F r g1 m kp b (fun σ => L2N.passAt h.tk σ) pa g2 st pl
  callK := fun {X sc W f k ks t p pos} _ h hf hw g1 g2 pk hn => by
    obtain ⟨fa, fd, ps, k, m, kp, b, F, r, hb⟩ := h.ff f hf
    obtain ⟨e, hb⟩ := hb hw
    exact pe_callKw (E := WE W) F r g1 m kp hb (fun σ => L2N.passAt h.tk σ) pk (by rw [← e]; exact hn) g2
  txt := fun _ h he => pi_str he
  bi := fun b _ h => rBI_ok b fun _ => h.calm
  isi := fun {X sc W} h pins s σ H xs us Q I r q => by
    rcases q with q | ⟨a, c, d, dd, ws, u, cv, b, z, _⟩
    · rw [← h.bas.K] at q
      exact call_isi pins s σ H xs us Q I r q
    · rw [hp] at z; cases z
  fld := fun {X sc W o ta n pos} h he hb => by
    refine ⟨fun pins s σ H Q I q => ?_⟩
    refine (pe_fld he hb).run pins s σ H Q I ?_
    unfold tFldX at q
    unfold tFld
    rw [h.bas.K]
    have : (fun (x : V) (H1 : Hp) => (∃ a C dx fs v, x = .ref a ∧ H1 a = some (.ins C dx fs) ∧ Cls g.K C ∧ NoAttr g.K C n ∧ fs.lookup n = some v ∧ Q v H1) ∨ ∃ (a : Addr) (c : Nat) (d : Option Addr) (dd : Addr) (ws : List (Str × V)) (v : V), g.pn = some (a, .ref (g.ec c), d) ∧ c < g.T.ne ∧ (∃ k, k < g.T.ne ∧ n ∈ g.T.ef k) ∧ x = .ref a ∧ d = some dd ∧ H1 dd = some (.xd ws) ∧ ws.lookup n = some v ∧ Q v H1) =
        fun x H1 => ∃ a C dx fs v, x = .ref a ∧ H1 a = some (.ins C dx fs) ∧ Cls g.K C ∧ NoAttr g.K C n ∧ fs.lookup n = some v ∧ Q v H1 := by
      funext x H1
      refine propext ⟨fun z => z.elim id fun ⟨a, c, d, dd, ws, v, z, _⟩ => ?_, .inl⟩
      rw [hp] at z; cases z
    rw [this] at q
    exact q
  seq := fun h hl => pi_seq hl
  rng1 := fun h g1 m pa st => pi_range1 g1 m pa st
  rng2 := fun h g1 m pa st st2 => pi_range2 g1 m pa st st2
  lc := fun {X sc W elt iter ifs scope x i p pos wi tt te} h hb h1 h2 hi ht he hs => by
    have bs := h.bas
    have bo : BlkOk X.N X.env.scope scope [(x, i)] := by rw [bs.N, bs.sc]; exact blkOk_by hb
    exact pe_lc h.calm (by rw [bs.N]; exact h.nd) hi bo (fun s H A cl fp => PC.tgt h.blk h1 h2) (fun s H A cl fp => ht _ h.blk) (fun s H A cl fp => he _ h.blk) hs
end
end EN
/-! Errors made: their class's __init__ keeps its arguments. -/
namespace EN
open PySem L2 PySem.Spec PyProof.Rows
/-- what __init__ of the c-th class promises -/
def spI (g : G0) (c : Nat) : Sp := fun xs H Q _ => ∃ (a : Addr) (vs : List V), xs = .ref a :: vs ∧ vs.length = (g.T.ef c).length ∧ vs.length ≤ 20 ∧ (g.T.ef c) ≠ [] ∧ H a = some (exo a (g.ec c) none) ∧
  ∀ dx, H dx = none → dx ≠ a → Q .non (upd (upd H dx (exd dx ((g.T.ef c).zip vs).reverse)) a (exo a (g.ec c) (some dx)))
/-- a class of errors as it stands in the text -/
def ErF (C : Cc) (g : G0) (X : Cx) (c : Nat) : Prop := OexC X.K (g.ec c) ∧ ((g.T.ef c) ≠ [] → ∃ (fI : Addr) (fd : FuncData) (ps : List Str) (k : Nat), PySem.W.findIn X.K (.ref (g.ec c)) "__init__" = some (some (.ref fI)) ∧ PySem.W.typeIn X.K (.ref fI) = some (.type "function") ∧
  FnOk X.prog X.w X.K X.mg X.base (L2N.CX X.prog X.w) k fI fd ps (spI g c) ∧ Room (k + 1) X.A ∧ Binds X.K fd ps [])
section
variable {C : Cc} {N : List Str} {g : G0} {fn : Fn} {X : Cx} {sc : Scope} {W : WX}
theorem passN : Passes (L2N.CX X.prog X.w) X E0 := fun _ _ _ _ _ _ _ h => by
  obtain ⟨_, _, _, _, _, _, _, _, _, _, _, _, z⟩ := h
  exact z.elim
theorem heap_eq {H : Hp} {a dx : Addr} {o1 o2 o3 : HO} (ha : H a = none) (hd : H dx = none) (ne : dx ≠ a) (fs : List (Str × V)) : upd (del (upd (upd (upd H a o1) dx o2) a o3) a) dx (.xd fs) = upd H dx (.xd fs) := by
  funext b
  by_cases h1 : b = dx
  · subst h1; rw [upd_same, upd_same]
  · rw [upd_ne h1, upd_ne h1]
    by_cases h2 : b = a
    · subst h2; rw [del_same, ha]
    · rw [del_ne h2, upd_ne h2, upd_ne h1, upd_ne h2]
theorem look_append {n : Str} : ∀ {l r : List (Str × V)}, (l ++ r).lookup n = match l.lookup n with
    | some v => some v
    | none => r.lookup n
  | [], r => rfl
  | (m, v) :: l, r => by
    simp only [List.cons_append, List.lookup_cons]
    cases n == m with
    | true => rfl
    | false => exact look_append
theorem look_none {n : Str} : ∀ {l : List (Str × V)}, n ∉ l.map (·.1) → l.lookup n = none
  | [], _ => rfl
  | (m, v) :: l, h => by
    simp only [List.map_cons, List.mem_cons, not_or] at h
    simp only [List.lookup_cons]
    rw [show (n == m) = false from by simpa using h.1]
    exact look_none h.2
theorem zip_rev {n : Str} {v : V} : ∀ {ns : List Str} {vs : List V}, ns.Nodup → (ns.zip vs).lookup n = some v → ((ns.zip vs).reverse).lookup n = some v
  | [], vs, _, h => by cases h
  | m :: ns, [], _, h => by cases h
  | m :: ns, w :: vs, nd, h => by
    obtain ⟨n1, n2⟩ := List.nodup_cons.mp nd
    simp only [List.zip_cons_cons, List.reverse_cons, List.lookup_cons] at h ⊢
    rw [look_append]
    cases e : n == m with
    | true =>
      rw [e] at h
      cases h
      have hm := eq_of_beq e
      subst hm
      have : (ns.zip vs).reverse.lookup n = none := look_none fun z => by
        rw [List.map_reverse, List.mem_reverse] at z
        obtain ⟨p, hp, rfl⟩ := List.mem_map.mp z
        exact n1 (List.of_mem_zip hp).1
      rw [this]
      simp
    | false =>
      rw [e] at h
      rw [zip_rev n2 h]
/-- C(e, ..): a new error -/
theorem pmkN {c : Nat} {e : Expr} {es : List Expr} {ta : TA} {p q : Pos} (b : Bas C N g X sc) (hc : c < g.T.ne) (F : ErF C g X c) (hnd : (g.T.ef c).Nodup) (ne : g.T.ef c ≠ []) (g1 : Gl X (C.en c)) (g2 : (C.en c == ("__debug__" : Str)) = false) (ha : PA X (e :: es) ta)
    (he : starEach (e :: es) X.env = (false, eval e X.env) :: starEach es X.env) (hpl : (backTo q (starEach es X.env)).any (·.1) = false) :
    L2N.PMk X (.Call (.Name (C.en c) p) (e :: es) [] q) fun σ H Q => ta σ H fun xs H1 => xs.length = (g.T.ef c).length ∧ xs.length ≤ 20 ∧ c < g.T.ne ∧ ∀ dd ws, H1 dd = none → (∀ n v, ((g.T.ef c).zip xs).lookup n = some v → ws.lookup n = some v) → Q (.ref (g.ec c)) (some dd) (upd H1 dd (.xd ws)) := by
  intro pins s σ H Q I h
  obtain ⟨T, hI⟩ := F
  obtain ⟨nm, qq, M, bs, bm, sn, sub, ab, col, dd, k0, k1, k2, k3, k5, hC, hbm⟩ := T.cls
  refine wpAny_Call_Name_kw (ld_glob I g1 (b.en c hc) ?_ g2)
  refine PySem.W.callWith_K (h₀ := X.base) I.ok.mod.kin T.kC (thn (ha.run q pins s σ H _ I h) fun us s1 ⟨vs, H1, I1, r1, l1, l2, _, q1⟩ => ⟨I1.kIn, ?_⟩) he hpl
  obtain ⟨fI, fd, ps, k, iC, tI, F1, hr, hb⟩ := hI ne
  show wpAny _ _ (call (.ref (g.ec c)) us) _ _ _
  obtain ⟨hp, gg, dr, tk, os⟩ := s1
  generalize hA : hp.objs.size + 1 = a
  have hsz : hp.objs.size ≤ a := by omega
  have hn : H1 a = none := I1.hok.fresh hsz
  have kk : ∀ b o, hp.get? b = some o → ((hp.push (PySem.W.kdv_tup us)).push (PySem.HandSPX.excO (g.ec c) hp.objs.size)).get? b = some o := fun b o e => Heap.get?_push_of_some _ (Heap.get?_push_of_some _ e)
  have hget : ((hp.push (PySem.W.kdv_tup us)).push (PySem.HandSPX.excO (g.ec c) hp.objs.size)).get? a = some (PySem.HandSPX.excO (g.ec c) hp.objs.size) := by subst hA; heap_get
  have I2 : Inv X pins σ (upd H1 a (exo a (g.ec c) none)) ⟨(hp.push (PySem.W.kdv_tup us)).push (PySem.HandSPX.excO (g.ec c) hp.objs.size), gg, dr, tk, os⟩ :=
    I1.laid (t' := tk) (a := a) (o := exo a (g.ec c) none) kk hsz (exo_ok hget)
  have hq : spI g c (.ref a :: vs) (upd H1 a (exo a (g.ec c) none)) (fun v H2 => v = .non ∧ ∃ (d : Addr) (fs : List (Str × V)), H2 a = some (exo a (g.ec c) (some d)) ∧ H2 d = some (exd d fs) ∧ H1 d = none ∧ Q (.ref (g.ec c)) (some d) (upd (del H2 a) d (.xd fs))) E0 := by
    refine ⟨a, vs, rfl, l1, l2, ne, upd_same, fun dx hd na => ⟨rfl, dx, _, upd_same, by rw [upd_ne na, upd_same], ?_, ?_⟩⟩
    · rw [upd_ne na] at hd; exact hd
    · rw [upd_ne na] at hd
      rw [heap_eq hn hd na]
      exact q1 dx _ hd fun n v hv => zip_rev hnd hv
  have r2 : Vals (V.ref a :: vs) (Value.ref a :: us) := .cons rfl r1
  have hl : (Value.ref a :: us ++ ([] : List Value)).length = ps.length := by
    rw [List.append_nil, ← r2.length, F1.len _ _ _ _ hq]
  have hus : us.length ≤ sizeLine := by
    rw [← Paired.length r1, sizeLine_eq]
    omega
  have bd := hb ⟨(hp.push (PySem.W.kdv_tup us)).push (PySem.HandSPX.excO (g.ec c) hp.objs.size), gg, dr, tk, os⟩ (Value.ref a :: us) I2.kIn hl
  rw [List.append_nil] at bd
  subst hA
  refine wpAny_call (PySem.HandSPX.call_own F.excBase_ValueError (fun Y => PySem.HandSPX.refsVE_contains Y bm hbm) (I1.kIn _ _ hC) (PySem.W.looks_findIn I1.kIn iC) (fun self => PySem.W.bind_fn I1.kIn self tI) hus
    (codeAny_mono (F1.run _ X.stack _ _ ⟨Value.ref (hp.objs.size + 1) :: us, []⟩ (Value.ref (hp.objs.size + 1) :: us) _ _ E0 (hr.make (g.ec c) us []) (I2.env0.make (g.ec c) us []) bd r2 hq) fun r s' hq' => ?_))
  cases r with
  | error er => exact passN pins σ _ _ er s' I2 hq'
  | ok fl =>
    cases fl with
    | ret u =>
      obtain ⟨v, H2, os2, bare2, un2, hok2, rv, ev, d, fs, ea, ed, hd1, q2⟩ := hq'
      subst ev
      obtain ⟨h2, g2, d2, t2, os'⟩ := s'
      obtain ⟨t0, G, J, kG, ge, hoe, na⟩ := mk_end0 (d2 := d2) (t2 := t2) I1 hsz kk un2 hok2 os2 bare2 ea ed hd1
      exact ⟨rv, _, _, _, ⟨G, g2, d2, t2, os'⟩, _, .ref (g.ec c), some d, rfl, J, kG, ge, hoe, ⟨rfl, rfl, fun w e => by cases e; rfl⟩, rfl, rfl, na, rfl, bare2, raises_own T.exC T.tyC, q2⟩
    | next => exact False.elim hq'
    | brk => exact False.elim hq'
    | cont => exact False.elim hq'
/-- raise C(e, ..) -/
theorem raiseC {c : Nat} {e : Expr} {es : List Expr} {t : TA} {p q pos : Pos} (b : Bas C N g X sc) (hcalm : X.calm = true) (tk : L2N.Takes X W) (hc : c < g.T.ne) (F : ErF C g X c) (hnd : (g.T.ef c).Nodup) (hne : g.T.ef c ≠ []) (g1 : Gl X (C.en c)) (g2 : (C.en c == ("__debug__" : Str)) = false) (ha : PA X (e :: es) t)
    (he : starEach (e :: es) X.env = (false, eval e X.env) :: starEach es X.env) (hpl : (backTo q (starEach es X.env)).any (·.1) = false) :
    PS X (.Raise (some (.Call (.Name (C.en c) p) (e :: es) [] q)) none pos) (tRaise g W c t) := L2N.ps_raise (W := W) hcalm tk (pmkN (p := p) b hc F hnd hne g1 g2 ha he hpl)
end
end EN
/-! Bodies of defs where no error is held. -/
namespace EN
open PySem L2 PySem.Spec PyProof.Rows
/-- a suite that holds an error: what its body must have -/
def HotS (C : Cc) (N : List Str) (g : G0) (fn : Fn) (X : Cx) (sc : Scope) : Prop := ∀ (a : Addr) (oe : Obj) (cls : Value) (d : Option Addr) (pn : List (Addr × Obj)) (s : ISs) (s' : List Stmt), L2N.Zn cls d oe → (∃ vs, oe.data = .fields vs) → cSs C g.T N true sc s s' = true → s.noTry = true →
  PSs (X.suite a ((a, oe) :: pn)) s' (rss { g with pn := some (a, cls, d) } fn W0 s)
structure QC (C : Cc) (N : List Str) (g : G0) (fn : Fn) (X : Cx) (sc : Scope) (W : WX) : Prop extends PC C N g fn X sc W where
  fnT : ∀ x, X.fn x = true
  kind : X.env.scope.kind = .function
  own : PassesOwn (model X.prog X.w) X.A X.env X.xe
  stk : X.stack = X.env :: X.outer
  frm : X.env.frame = some X.env.locals
  er : ∀ c, c < g.T.ne → ErF C g X c
  hot : HotS C N g fn X sc
section
variable {C : Cc} {N : List Str} {g : G0} {fn : Fn} {X : Cx} {sc : Scope} {W : WX}
theorem QC.tr (h : QC C N g fn X sc W) {pn : List (Addr × Obj)} {xe : Value → Shared → Prop} {W' : WX} (tk : L2N.Takes (X.tr pn xe) W') (po : PassesOwn (model X.prog X.w) X.A X.env xe) : QC C N g fn (X.tr pn xe) sc W' where
  bas := ⟨h.bas.K, h.bas.N, h.bas.sc, h.bas.hu, h.bas.bl, h.bas.en, h.bas.cn, h.bas.kc⟩
  calm := h.calm
  nd := h.nd
  tk := tk
  ff := h.ff
  fnT := h.fnT
  kind := h.kind
  own := po
  stk := h.stk
  frm := h.frm
  er := h.er
  hot := h.hot
theorem rulSC (hp : g.pn = none) (nd : N.Nodup) : RulS C N g fn false PI (PC C N g fn) (QC C N g fn) where
  R := rulC hp
  q2p h := h.toPC
  nd := nd
  fnT h := h.fnT
  kind h := h.kind
  tup := fun _ h pg hl hs => pg_tup h.calm pg hl hs
  aug := fun {X sc W i x e te op p pos} h hi hx he => ps_aug (by rw [h.bas.N]; exact nd) (by rw [h.bas.N]; exact hi) hx he (rAug_ok op) (.inl (h.fnT x))
  whl := fun _ h hc hb => ps_while h.own hc hb
  for_ := fun _ h hi hg hb hs => ps_for h.own h.calm hi hg hb hs
  raise := fun {X sc W c e es t p q pos} _ h hc nd ne g1 g2 pa st pl => raiseC h.bas h.calm h.tk hc (h.er c hc) nd ne g1 g2 pa st pl
  setLc := fun {X sc W elt iter ifs scope x y i j p py pos spos wi tt te} _ h hj hy sw hb h1 h2 hi ht he hs => by
    have bs := h.bas
    have bo : BlkOk X.N X.env.scope scope [(x, i)] := by rw [bs.N, bs.sc]; exact blkOk_by hb
    exact ps_setLc h.calm (by rw [bs.N]; exact h.nd) (by rw [bs.N]; exact hj) hy sw hi bo (fun s H A cl fp => PC.tgt h.toPC.blk h1 h2) (fun s H A cl fp => ht _ h.toPC.blk) (fun s H A cl fp => he _ h.toPC.blk) hs
  try_ := fun {X sc W b hs b' hs' pos} _ h hb hc ho => by
    match hs, ho with
    | .cons k i s .nil, _ =>
      unfold cHs at hc
      split at hc
      · rename_i x px n b0 bs ph l
        obtain ⟨hc, c7⟩ := and2 hc
        obtain ⟨hc, c6⟩ := and2 hc
        obtain ⟨hc, c5⟩ := and2 hc
        obtain ⟨hc, c4⟩ := and2 hc
        obtain ⟨hc, c3⟩ := and2 hc
        obtain ⟨c1, c2⟩ := and2 hc
        cases of_decide_eq_true c1
        have hk := of_decide_eq_true c2
        obtain ⟨g1, g2⟩ := h.bas.gl c3
        obtain ⟨t1, t2⟩ := and2 c4
        cases l with
        | cons y l => unfold cHs at c7; cases c7
        | nil =>
          have q := L2N.ps_try_as (np := px) (pos' := ph) (pos := pos) (tb := fun W' => rss g fn W' b) (ts := fun a cls d => rss { g with pn := some (a, cls, d) } fn W0 s) (Wout := W) h.stk h.frm (by rw [h.bas.N]; exact nd) (by rw [h.bas.N]; exact of_decide_eq_true t1)
            (by show X.env.scope.names.lookup n = _; rw [h.bas.sc]; exact of_decide_eq_true t2) ⟨g1, g2, .inl (h.bas.en k hk)⟩ h.tk (fun W' pn xe tk po => hb _ _ (h.tr tk po)) (fun a oe cls d pn z hd => h.hot a oe cls d pn s (b0 :: bs) z hd c6 c5)
          refine ⟨fun pins s0 σ H D I r => q.run pins s0 σ H D I ?_⟩
          have e : ∀ (cls : Value) (d : Option Addr) (σ : L2.St) (H : Hp), rh g fn W (.cons k i s .nil) D cls d σ H = wAs X.K (.ref (g.ec k)) i (fun a cls d => rss { g with pn := some (a, cls, d) } fn W0 s) W D cls d σ H := fun cls d σ H => by
            rw [h.bas.K]; rfl
          have e2 : rh g fn W (.cons k i s .nil) D = wAs X.K (.ref (g.ec k)) i (fun a cls d => rss { g with pn := some (a, cls, d) } fn W0 s) W D := by
            funext cls d σ H; exact e cls d σ H
          rw [← e2]
          exact r
      · cases hc
end
end EN
/-! Where an error is held: rules. -/
namespace EN
open PySem PySem.Spec PyProof.Rows L2
/-- an error class, as its held instances are looked at -/
structure HotK (K : PySem.W.Frag) (g : G0) (D : Addr) : Prop where
  c : ExcC K D
  no : ∀ n, (∃ k, k < g.T.ne ∧ n ∈ g.T.ef k) → PySem.W.findIn K (.ref D) n = some none
section
variable {X : Cx} {g : G0} {a D dd : Addr} {oe : Obj} {pins : List (Addr × Obj)} {σ : L2.St} {H : Hp} {s : Shared} {ws : List (Str × V)}
/-- the held error as the heap has it -/
theorem held_inst (I : Inv X pins σ H s) (hp : (a, oe) ∈ X.pn) (hz : L2N.Zn (.ref D) (some dd) oe) (hf : ∃ vs, oe.data = .fields vs) (hx : H dd = some (.xd ws)) :
    ∃ od, PySem.W.InstAt s.heap a oe D (some od) ∧ ∀ n v, ws.lookup n = some v → ∃ u, PySem.W.lookIn n od = some (some u) ∧ L2.RelV v u := by
  obtain ⟨here, _⟩ := I.pin (a, oe) (List.mem_append_left _ hp)
  obtain ⟨vs, hd⟩ := hf
  obtain ⟨mA, ns, rel⟩ := (show ObjOk X.prog X.w H s.heap dd (.xd ws) from I.hok dd _ hx)
  obtain ⟨od, ho, hl⟩ := lookIn_ns ns
  refine ⟨od, ⟨here, hz.1, by unfold PySem.W.notCls; rw [hd] <;> rfl, by rw [hz.2.1]; exact ho⟩, fun n v e => ?_⟩
  obtain ⟨u, hu, ru⟩ := RelO.some_of (v := v) (o := mA n) (by rw [← e]; exact rel n)
  exact ⟨u, by rw [hl, hu], ru⟩
/-- isinstance of any value, of the held error -/
theorem hot_isi {d : Option Addr} {cl : Value} (hK : X.K = g.K) (hg : g.pn = some (a, cl, d)) (hp : (a, oe) ∈ X.pn) (hz : L2N.Zn cl d oe) (hf : ∃ vs, oe.data = .fields vs) (F : ∀ c, c < g.T.ne → HotK X.K g (g.ec c)) : CallR X (.builtin "isinstance") (rIsX g) := by
  intro pins s σ H xs us Q I r q
  rcases q with q | ⟨a', c, d', dd, ws, u, cv, b, e1, c0, rfl, hu, e2, hx, kt, q⟩
  · rw [← hK] at q
    exact call_isi pins s σ H xs us Q I r q
  · rw [hg] at e1
    cases e1
    subst e2
    cases r with
    | cons rx r =>
      cases r with
      | cons rt r =>
        cases r
        cases rx
        cases hu.eq rt
        obtain ⟨od, J, _⟩ := held_inst I hp hz hf hx
        have T := (F c c0).c
        rw [← hK] at kt
        refine PySem.W.kia_one (PySem.W.kitx_exc ?_ T.hg T.hk T.hs T.ha T.hn T.ht T.hm) I.kIn J kt (fun z => nomatch z) fun tk => ⟨.bl b, H, I.tok tk, rfl, q⟩
        obtain ⟨cd, h1, _⟩ := PySem.W.any_some T.hd
        rw [h1]; rfl
/-- e.n of an instance, of the held error -/
theorem hot_fld {d : Option Addr} {cl : Value} {o : Expr} {ta : TE} {n : Str} {pos : Pos} (hK : X.K = g.K) (hg : g.pn = some (a, cl, d)) (hp : (a, oe) ∈ X.pn) (hz : L2N.Zn cl d oe) (hf : ∃ vs, oe.data = .fields vs) (F : ∀ c, c < g.T.ne → HotK X.K g (g.ec c))
    (he : PE X o ta) (hb : attributeBase o n X.env (eval o X.env) = eval o X.env) : PE X (.Attribute o n pos) (tFldX g ta n) := by
  refine ⟨fun pins s σ H Q I h => ?_⟩
  refine attr_of hb (thn (he.run pins s σ H _ I h) fun u s1 ⟨x, H1, I1, rx, q⟩ => ?_)
  rcases q with ⟨b, C, dx, fs, v, ex, ea, cl, nn, l, q⟩ | ⟨a', c, d', dd, ws, v, e1, c0, hn, ex, e2, hx, l, q⟩
  · subst ex
    obtain rfl : u = Value.ref b := rx
    rw [← hK] at cl nn
    exact getattr_ok I1 ea cl nn l fun u' s2 I2 ru => ⟨v, H1, I2, ru, q⟩
  · rw [hg] at e1
    cases e1
    subst e2 ex
    obtain rfl : u = Value.ref a := rx
    obtain ⟨od, J, hl⟩ := held_inst I1 hp hz hf hx
    obtain ⟨w, hw, rw'⟩ := hl n v l
    have T := F c c0
    exact HandSPX.exc_get I1.kIn J T.c.hg T.c.hk T.c.hs (PySem.W.findObj_own T.c.hd (T.no n hn) rfl hw) (handed_of rw') ⟨v, H1, I1.tok _, rw', q⟩
end
end EN
/-! Where an error is held: the end of a walk. -/
namespace EN
open PySem PySem.Spec PyProof.Rows L2 HotX
section
variable {prog : Program} {w : World} {A : Around} {E : Value → Shared → Prop} {s : Shared}
/-- StopIteration, raised while an error is held -/
theorem stopH {α : Type} {x1 : Addr} {Q : α → Shared → Prop} (hot : HotAt A x1 s.heap)
    (k : ∀ (a : Addr) (o : Obj) (h' : Heap), h'.get? a = some o → o.cls = .type "StopIteration" → (∀ b u, s.heap.get? b = some u → h'.get? b = some u) → E (.ref a) { s with heap := h' }) :
    wpAny (model prog w) A (newExc (.type "StopIteration") [] >>= fun e => (raiseNew e : Sem α)) Q E s := by
  obtain ⟨h0, o1, vs1, there, d1, c1⟩ := hot
  refine wpAny_bind ?_
  simp only [newTuple, newExc]
  refine wpAny_bind (wpAny_newObj_type ?_ (by size_fits))
  have first0 : firstArgMember (.type "StopIteration") [] = (pure Value.none : Sem Value) := by
    first
      | rfl
      | (simp only [firstArgMember]; rfl)
  refine wpAny_bind (wpAny_of_eq first0 ?_)
  refine wpAny_newObj_type ?_ (by size_fits)
  have g1 := Heap.get?_push_of_some { cls := .type "tuple", dict := none, data := .seq ([] : List Value).toArray } there
  have lt1 := Heap.lt_size g1
  refine raiseNew_hot (x1 := x1) ⟨h0, o1, vs1, Heap.get?_push_of_some _ g1, d1, c1⟩ (Nat.ne_of_lt lt1) (Heap.get?_push_size _ rfl) rfl ?_ ?_
  · first
      | (simp; done)
      | (simp; omega)
      | (simp only [Array.size_append]; simp; omega)
  · refine k _ _ _ (Heap.get?_update_self _ (Heap.get?_push_size _ rfl) rfl) rfl fun b u e => ?_
    have e2 := Heap.get?_push_of_some { cls := .type "tuple", dict := none, data := .seq ([] : List Value).toArray } e
    exact (Heap.get?_update_other _ _ (Nat.ne_of_gt (Heap.lt_size e2))).trans (Heap.get?_push_of_some _ e2)
/-- a tuple's walk ends -/
theorem tupEndH {it t x1 : Addr} {i : Nat} {items : Array Value} {Q : Option Value → Shared → Prop} (hot : HotAt A x1 s.heap) (ne : x1 ≠ it) (hit : s.heap.IsTupleIter it t i) (ht : s.heap.IsTuple t items) (hx : items[i]? = none)
    (hQ : ∀ h', Heap.ExtBut it s.heap h' → Q none { s with heap := h' }) : wpAny (model prog w) A (pyNext (.ref it)) Q E s := by
  obtain ⟨o, ho, hc, hd⟩ := id hit
  obtain ⟨ol, hol, _, nl, hdl⟩ := ht
  obtain ⟨h0, o1, vs1, there, d1, c1⟩ := hot
  have tys := hit.typeIs
  unfold pyNext
  refine wpAny_bind (wpAny_attempt (wpAny_callSpecial?_slot (name := Str.ofString "__next__") tys F.slot_tuple_iterator_next (wpAny_call_entry F.slot_tuple_iterator_next tys F.entry_tuple_iterator_next ?_ (F.args_tuple_iterator_next_1 _))))
  change wpAny _ _ (field (.ref it) 0 >>= _) _ _ _
  refine wpAny_bind (wpAny_field ho hd (x := .ref t) rfl ?_)
  change wpAny _ _ (if (Value.ref t == Value.none) = true then _ else _) _ _ _
  rw [if_neg (show ¬ ((Value.ref t == Value.none) = true) from Bool.false_ne_true)]
  change wpAny _ _ (field (.ref it) 1 >>= _) _ _ _
  refine wpAny_bind (wpAny_field ho hd (x := .int i 0) rfl ?_)
  change wpAny _ _ (seqItems? (.ref t) >>= _) _ _ _
  refine wpAny_bind (wpAny_seqItems hol hdl ?_)
  simp only [Int.toNat_natCast, hx]
  refine wpAny_bind (wpAny_rule (wpAny_bind (wpAny_setField ho hd (by simp) ?_)))
  refine stopH (x1 := x1) ⟨h0, o1, vs1, (Heap.get?_update_other _ _ ne.symm).trans there, d1, c1⟩ fun a oa h' ha hca keep => ?_
  refine wpAny_bind (wpAny_isInstance (T := "StopIteration") (b := true) ⟨_, ha, hca⟩ isSubtype_stop (wpAny_pure (hQ _ fun b u hb e => keep b u ?_)))
  exact (Heap.get?_update_other _ _ (Ne.symm hb)).trans e
/-- a list's walk ends -/
theorem lstEndH {it l x1 : Addr} {i : Nat} {items : Array Value} {Q : Option Value → Shared → Prop} (hot : HotAt A x1 s.heap) (ne : x1 ≠ it) (hit : s.heap.IsListIter it l i) (hl : s.heap.IsList l items) (hx : items[i]? = none)
    (hQ : ∀ h', Heap.ExtBut it s.heap h' → Q none { s with heap := h' }) : wpAny (model prog w) A (pyNext (.ref it)) Q E s := by
  obtain ⟨o, ho, hc, hd⟩ := id hit
  obtain ⟨ol, hol, _, nl, hdl⟩ := hl
  obtain ⟨h0, o1, vs1, there, d1, c1⟩ := hot
  have tys := hit.typeIs
  unfold pyNext
  refine wpAny_bind (wpAny_attempt (wpAny_callSpecial?_slot (name := Str.ofString "__next__") tys slot_listiter_next (wpAny_call_entry slot_listiter_next tys entry_listiter_next ?_ (args_listiter_next _))))
  change wpAny _ _ (field (.ref it) 0 >>= _) _ _ _
  refine wpAny_bind (wpAny_field ho hd (x := .ref l) rfl ?_)
  change wpAny _ _ (if (Value.ref l == Value.none) = true then _ else _) _ _ _
  rw [if_neg (show ¬ ((Value.ref l == Value.none) = true) from Bool.false_ne_true)]
  change wpAny _ _ (field (.ref it) 1 >>= _) _ _ _
  refine wpAny_bind (wpAny_field ho hd (x := .int i 0) rfl ?_)
  change wpAny _ _ (seqItems? (.ref l) >>= _) _ _ _
  refine wpAny_bind (wpAny_seqItems hol hdl ?_)
  simp only [Int.toNat_natCast, hx]
  refine wpAny_bind (wpAny_rule (wpAny_bind (wpAny_setField ho hd (by simp) ?_)))
  refine stopH (x1 := x1) ⟨h0, o1, vs1, (Heap.get?_update_other _ _ ne.symm).trans there, d1, c1⟩ fun a oa h' ha hca keep => ?_
  refine wpAny_bind (wpAny_isInstance (T := "StopIteration") (b := true) ⟨_, ha, hca⟩ isSubtype_stop (wpAny_pure (hQ _ fun b u hb e => keep b u ?_)))
  exact (Heap.get?_update_other _ _ (Ne.symm hb)).trans e
end
end EN
/-! Where an error is held: comprehensions. -/
namespace EN
open PySem PySem.Spec PyProof.Rows L2 HotX L2H
section
variable {P : Program} {w : World} {K : PySem.W.Frag} {tg : Expr}
theorem HotC.apart {X : Cx} {pins : List (Addr × Obj)} {σ : L2.St} {H : Hp} {s : Shared} {it : Addr} (c : HotC X) (I : Inv X pins σ H s) (f : FpOk X pins H it) : ∃ x1, HotAt X.A x1 s.heap ∧ x1 ≠ it := by
  obtain ⟨p, ⟨hh, v1, e1, c1⟩, hp⟩ := c
  exact ⟨p.1, ⟨hh, p.2, v1, (I.pin p (List.mem_append_left _ hp)).1, e1, c1⟩, f.2.2.2.2.2 p (List.mem_append_left _ hp)⟩
theorem turnLH (a it : Addr) : TurnH P w K tg (Itl K a) [it] it (fun i h => h.IsListIter it a i) where
  mem := List.mem_singleton.mpr rfl
  obj := fun i h st b hb => by
    rw [List.mem_singleton.mp hb]
    obtain ⟨o, e, _, d⟩ := st
    exact ⟨o, e, fun v z => by rw [d] at z; cases z⟩
  keep := fun i h h' st k => st.at fun o e => k it (List.mem_singleton.mpr rfl) o e
  item := fun X hP hw hK hc i pins s σ H E I hf st hg => by
    subst hP hw hK
    obtain ⟨xs, x, hq, hx⟩ := hg
    obtain ⟨its, rv, p, _⟩ := I.list hq
    obtain ⟨u, hu, ru⟩ := rv.get hx
    have f := hf it (List.mem_singleton.mpr rfl)
    refine wpAny_pyNext_list_item st p.isList (x := u) (by simpa using hu) fun h' st' sb => ?_
    have I1 : Inv X pins σ H { s with heap := h' } := I.turned (t' := s.toks) (fun b o hb e => (sb.2 b hb).trans e) f.1 f.2.1 f.2.2.2.1 f.2.2.2.2.1 f.2.2.2.2.2
    obtain ⟨o, e, c, d⟩ := id st'
    exact ⟨u, rfl, go_of (s := { s with heap := h' }) e c d (by decide) ⟨x, H, I1, ru, ⟨rfl, fun ys hy => by rw [I.list_inj hy hq]; exact hx⟩, st', fun b hb => (hf b hb).1⟩⟩
  done := fun X hP hw hK hc i pins s σ H E I hf st hg => by
    subst hP hw hK
    obtain ⟨xs, hq, hx⟩ := hg
    obtain ⟨its, rv, p, _⟩ := I.list hq
    have f := hf it (List.mem_singleton.mpr rfl)
    have hl := rv.length
    obtain ⟨x1, hot, ne⟩ := HotC.apart hc I f
    exact lstEndH hot ne st p.isList (by simp; omega) fun h' eb => ⟨rfl, I.turned (t' := s.toks) (fun b o hb e => eb b o hb e) f.1 f.2.1 f.2.2.2.1 f.2.2.2.2.1 f.2.2.2.2.2⟩
  self := fun _ _ _ _ _ st h => wpAny_pyIter_listiter st h
theorem turnTH (a it : Addr) : TurnH P w K tg (Itt K a) [it] it (fun i h => h.IsTupleIter it a i) where
  mem := List.mem_singleton.mpr rfl
  obj := fun i h st b hb => by
    rw [List.mem_singleton.mp hb]
    obtain ⟨o, e, _, d⟩ := st
    exact ⟨o, e, fun v z => by rw [d] at z; cases z⟩
  keep := fun i h h' st k => st.at fun o e => k it (List.mem_singleton.mpr rfl) o e
  item := fun X hP hw hK hc i pins s σ H E I hf st hg => by
    subst hP hw hK
    obtain ⟨xs, x, hq, hx⟩ := hg
    obtain ⟨its, rv, p, _⟩ := I.tuple hq
    obtain ⟨u, hu, ru⟩ := rv.get hx
    have f := hf it (List.mem_singleton.mpr rfl)
    refine wpAny_pyNext_tuple_item st (show s.heap.IsTuple a its.toArray from p) (x := u) (by simpa using hu) fun h' st' sb => ?_
    have I1 : Inv X pins σ H { s with heap := h' } := I.turned (t' := s.toks) (fun b o hb e => (sb.2 b hb).trans e) f.1 f.2.1 f.2.2.2.1 f.2.2.2.2.1 f.2.2.2.2.2
    obtain ⟨o, e, c, d⟩ := id st'
    exact ⟨u, rfl, go_of (s := { s with heap := h' }) e c d (by decide) ⟨x, H, I1, ru, ⟨rfl, fun ys hy => by rw [I.tuple_inj hy hq]; exact hx⟩, st', fun b hb => (hf b hb).1⟩⟩
  done := fun X hP hw hK hc i pins s σ H E I hf st hg => by
    subst hP hw hK
    obtain ⟨xs, hq, hx⟩ := hg
    obtain ⟨its, rv, p, _⟩ := I.tuple hq
    have f := hf it (List.mem_singleton.mpr rfl)
    have hl := rv.length
    obtain ⟨x1, hot, ne⟩ := HotC.apart hc I f
    exact tupEndH hot ne st (show s.heap.IsTuple a its.toArray from p) (by simp; omega) fun h' eb => ⟨rfl, I.turned (t' := s.toks) (fun b o hb e => eb b o hb e) f.1 f.2.1 f.2.2.2.1 f.2.2.2.2.1 f.2.2.2.2.2⟩
  self := fun _ _ _ _ _ st h => wpAny_pyIter_tupleiter st h
theorem pi_seqH {X : Cx} {tg l : Expr} {tl : TE} (hl : PE X l tl) : PIH X tg l (iSeq X.K tl) := by
  refine ⟨fun pins s σ H Z I h => ?_⟩
  refine thn (hl.run pins s σ H _ I h) fun v s1 ⟨x, H1, I1, r1, q1⟩ => ?_
  obtain ⟨a, e, q⟩ := q1
  subst e
  cases r1
  have ok : FpOk X pins H1 s1.heap.objs.size := I1.fpOk (Nat.le_refl _) (I1.hok.fresh (Nat.le_refl _))
  have one : ∀ b ∈ [s1.heap.objs.size], FpOk X pins H1 b := fun b hb => by rw [List.mem_singleton.mp hb]; exact ok
  rcases q with ⟨xs, hq, q⟩ | ⟨xs, hq, q⟩
  · obtain ⟨its, rv, p, hz⟩ := I1.list hq
    exact wpAny_pyIter_list p.isList ⟨_, [s1.heap.objs.size], _, _, H1, rfl, I1.kept (t' := s1.toks) fun b o e => Heap.get?_push_of_some _ e, turnLH a _, ⟨_, Heap.get?_push_size _ rfl, rfl, rfl⟩, one, q⟩
  · obtain ⟨its, rv, p, hz⟩ := I1.tuple hq
    exact wpAny_pyIter_tuple (show s1.heap.IsTuple a its.toArray from p) ⟨_, [s1.heap.objs.size], _, _, H1, rfl, I1.kept (t' := s1.toks) fun b o e => Heap.get?_push_of_some _ e, turnTH a _, ⟨_, Heap.get?_push_size _ rfl, rfl, rfl⟩, one, q⟩
end
/-- a comprehension's block where p's error is held -/
abbrev hblk (X : Cx) (p : Addr × Obj) (s : Shared) (H : Hp) (scope : Scope) (ce : PySem.Env) (fp : List Addr) : Cx := (X.blk s H scope ce fp).tr [p] fun _ _ => False
section
variable {X : Cx} {p : Addr × Obj}
/-- into the block -/
theorem blkIn {σ : L2.St} {s0 s1 : Shared} {H0 H : Hp} {scope : Scope} {ce : PySem.Env} {fp : List Addr} (I : Inv (X.blk s0 H0 scope ce fp) [] σ H s1)
    (f : s1.heap.get? p.1 = some p.2 ∧ H p.1 = none ∧ p.1 ≠ ce.locals ∧ p.1 ∉ frs X.stack ∧ ∀ v, p.2.data ≠ .cell v) : Inv (hblk X p s0 H0 scope ce fp) [] σ H s1 :=
  Inv.toTry (X := X.blk s0 H0 scope ce fp) (pins := [p]) (I.pins_of fun q hq => by rw [List.mem_singleton.mp hq]; exact f) _
/-- [elt for tg in iter if ..] where p's error is held -/
theorem lcH {elt tg iter : Expr} {ifs : List Expr} {scope : Scope} {own : List (Str × Nat)} {pos : Pos} {wi : TI} {gg : TG} {tt : TT} {te : TE} (hot : Hot1 X.A p) (hpn : p ∈ X.pn) (hN : X.N.Nodup) (hi : PIH X tg iter wi) (ok : BlkOk X.N X.env.scope scope own)
    (hg : ∀ s H C cl fp, PG (hblk X p s H scope (compEnvC scope cl C X.env) fp) tg gg) (ht : ∀ s H C cl fp, PTs (hblk X p s H scope (compEnvC scope cl C X.env) fp) ifs tt) (he : ∀ s H C cl fp, PE (hblk X p s H scope (compEnvC scope cl C X.env) fp) elt te)
    (hs : ∀ x, foldedSetIterable iter X.env x = pure x) : PE X (.ListComp elt [⟨tg, iter, ifs, 0⟩] scope pos) (tLc wi gg tt te (own.map (·.2))) := by
  refine ⟨fun pins s σ H Q I h => ?_⟩
  rw [eval_ListComp]
  have clo : ∀ y ∈ scope.names, y.2 = .free → ∃ c, X.env.cells.lookup y.1 = some c := fun y hy e => (ok.free y hy e).elim (fun k => I.ok.has _ (.inl k)) fun k => I.ok.has _ (.inr k)
  refine wpAny_comprehension_free (use := none) rfl hs (closure_ok clo) ok.kind (fun y hy e => by rw [ok.uniq y hy, e]) (thn (hi.run pins s σ H _ I h) fun xv s1 hx => thn hx fun itv s2 h2 => ?_)
  obtain ⟨it, fp, tn, J, H2, rfl, I2, T, st2, f2, q⟩ := h2
  refine wpAny_newObj_type (newEnv_comp ?_) (by show 0 ≤ sizeLine; decide)
  obtain ⟨D, hD⟩ : ∃ D, s2.heap.objs.size = D := ⟨_, rfl⟩
  rw [hD]
  have hDn : H2 D = none := I2.hok.fresh (Nat.le_of_eq hD)
  obtain ⟨WW, ⟨m0, w0⟩, turn⟩ := q D hDn
  -- the new list stands
  have I3 : Inv X pins σ (upd H2 D (.lst [])) { s2 with heap := s2.heap.push { cls := .type "list", data := .seq ([] : List Value).toArray } } :=
    I2.laid (t' := s2.toks) (fun b o e => Heap.get?_push_of_some _ e) (Nat.le_of_eq hD) ⟨Nat.zero_le _, [], 0, .nil, by rw [← hD]; exact Heap.get?_push_size _ rfl⟩
  have inFp : ∀ b ∈ fp, b < s2.heap.objs.size := fun b hb => let ⟨o, e, _⟩ := T.obj _ _ st2 b hb; Heap.lt_size e
  have f3 : ∀ b ∈ fp, FpOk X pins (upd H2 D (.lst [])) b ∧ b < (s2.heap.push { cls := .type "list", data := .seq ([] : List Value).toArray }).objs.size := fun b hb => by
    have lt := inFp b hb
    refine ⟨⟨?_, (f2 b hb).2⟩, by rw [Heap.size_push]; exact Nat.lt_succ_of_lt lt⟩
    rw [upd_ne (by rw [← hD]; exact Nat.ne_of_lt lt)]
    exact (f2 b hb).1
  have st3 : tn 0 (s2.heap.push { cls := .type "list", data := .seq ([] : List Value).toArray }) := T.keep _ _ _ st2 fun b _ o e => Heap.get?_push_of_some _ e
  generalize hs3 : ({ s2 with heap := s2.heap.push { cls := .type "list", data := .seq ([] : List Value).toArray } } : Shared) = s3 at I3
  have hh : s2.heap.push { cls := .type "list", data := .seq ([] : List Value).toArray } = s3.heap := by rw [← hs3]
  rw [hh] at f3 st3
  generalize hH : upd H2 D (.lst []) = H3 at I3 f3 w0
  have I4 := block_start I3 ok hN f3
  have pg := hg s3 H3 s3.heap.objs.size (cellsFrom (s3.heap.objs.size + 1) scope.names (cloFrom X.env.cells scope.names [])) fp
  have pt := ht s3 H3 s3.heap.objs.size (cellsFrom (s3.heap.objs.size + 1) scope.names (cloFrom X.env.cells scope.names [])) fp
  have pe := he s3 H3 s3.heap.objs.size (cellsFrom (s3.heap.objs.size + 1) scope.names (cloFrom X.env.cells scope.names [])) fp
  have pinP := I3.pin p (List.mem_append_left _ hpn)
  have kpc : ∀ b o, s3.heap.get? b = some o → (pushCells (s3.heap.push { cls := .type "dict", data := .dict #[] }) scope.names).get? b = some o := fun b o e => pushCells_keeps _ _ _ _ (Heap.get?_push_of_some _ e)
  have ce0 : (compEnvC scope (cellsFrom (s3.heap.objs.size + 1) scope.names (cloFrom X.env.cells scope.names [])) s3.heap.objs.size X.env).locals = s3.heap.objs.size := rfl
  show codeAny _ _ (.compStart (.ListComp elt [⟨tg, iter, ifs, 0⟩] scope pos) 0 (.ref it) (.ref D) (compEnvC scope (cellsFrom (s3.heap.objs.size + 1) scope.names (cloFrom X.env.cells scope.names [])) s3.heap.objs.size X.env)) _ _
  generalize compEnvC scope (cellsFrom (s3.heap.objs.size + 1) scope.names (cloFrom X.env.cells scope.names [])) s3.heap.objs.size X.env = ce at I4 pg pt pe ce0 ⊢
  have notFr : p.1 ∉ frs X.stack := fun hm => (List.mem_cons.mp (I3.stkSub p.1 hm)).elim pinP.2.2.1 pinP.2.2.2.1
  have I5 := blkIn (p := p) I4 ⟨kpc _ _ pinP.1, pinP.2.1, by rw [ce0]; exact Nat.ne_of_lt (Heap.lt_size pinP.1), notFr, pinP.2.2.2.2⟩
  have nfp : ∀ b ∈ fp, H3 b = none := fun b hb => (f3 b hb).1.1
  have st4 : tn 0 (pushCells (s3.heap.push { cls := .type "dict", data := .dict #[] }) scope.names) := T.keep _ _ _ st3 fun b _ o e => kpc b o e
  have hotY : HotC (hblk X p s3 H3 scope ce fp) := ⟨p, hot, List.mem_singleton.mpr rfl⟩
  -- the iterator's objects, seen from the block
  have stat : ∀ {σ' : L2.St} {H' : Hp} {s' : Shared}, Inv (hblk X p s3 H3 scope ce fp) [] σ' H' s' → (∀ b ∈ fp, H' b = none) → ∀ b ∈ fp, FpOk (hblk X p s3 H3 scope ce fp) [] H' b := fun {σ' H' s'} I' hn b hb =>
    ⟨hn b hb, (I'.ok.exf b hb).1, I'.ok.exfs b hb, .inl hb, fun x c e => (I'.ok.exf b hb).2 x c e, fun q hq => by
      rw [List.append_nil] at hq
      rw [List.mem_singleton.mp hq]
      exact (f3 b hb).1.2.2.2.2.2 p (List.mem_append_left _ hpn)⟩
  have loop : codeAny (model X.prog X.w) X.A (.compLoop (.ListComp elt [⟨tg, iter, ifs, 0⟩] scope pos) 0 (.ref it) (.ref D) ce) (compPost (model X.prog X.w) X.A X.xe none (EP X pins σ Q) (.ref D) s3.heap.objs.size) { s3 with heap := pushCells (s3.heap.push { cls := .type "dict", data := .dict #[] }) scope.names } := by
    refine compLoop_any (fun n s' => ∃ i H', Inv (hblk X p s3 H3 scope ce fp) [] (wipe σ (own.map (·.2))) H' s' ∧ tn i s'.heap ∧ (∀ b ∈ fp, H' b = none) ∧ WW i n H') ?_ m0 ⟨0, H3, I5, st4, nfp, w0⟩
    rintro n s5 ⟨i, H5, J5, t5, n5, w5⟩
    rcases turn i n H5 w5 with ⟨stop, qq⟩ | ⟨go, Nx, hNx, step⟩
    · refine thnF (T.done (hblk X p s3 H3 scope ce fp) rfl rfl rfl hotY i [] s5 _ H5 (fun _ _ => False) J5 (stat J5 n5) t5 stop) fun r s6 ⟨hr, I6⟩ => ?_
      subst hr
      have I7 : Inv X pins σ H5 s6 := I3.call' (ch := fp) I6.os I6.base I6.hok I6.bare fun b hb => let z := (f3 b hb).1.2; ⟨z.2.2.1, z.1, z.2.2.2.1, z.2.2.2.2⟩
      have nC : H5 s3.heap.objs.size = none := by
        have z : H5 ce.locals = none := I6.free
        rw [ce0] at z; exact z
      obtain ⟨m, hn, _⟩ := I6.loc
      have hn : s6.heap.Ns ce.locals m := hn
      rw [ce0] at hn
      have fC : FpOk X pins H5 s3.heap.objs.size := I3.fpOk (Nat.le_refl _) nC
      exact ⟨m, hn, fun h'' sb => ⟨.ref D, H5, I7.turned (t' := s6.toks) (fun b o hb e => (sb.2 b hb).trans e) fC.1 fC.2.1 fC.2.2.2.1 fC.2.2.2.2.1 fC.2.2.2.2.2, rfl, qq⟩⟩
    · refine thnF (T.item (hblk X p s3 H3 scope ce fp) rfl rfl rfl hotY i [] s5 _ H5 (fun _ _ => False) J5 (stat J5 n5) t5 go) fun r s6 ⟨u, hr, h6⟩ => ?_
      subst hr
      refine thnF h6 fun _ s7 ⟨x, H7, J7, r7, y7, t7, n7⟩ => ?_
      refine thnF (pg.run _ s7 _ H7 x u _ (J7.pinned (stat J7 n7) (T.obj _ _ t7)) r7 (step x H7 y7)) fun _ s8 ⟨σ8, H8, J8, hw8, q8⟩ => ?_
      refine thnF (pt.run _ s8 σ8 H8 _ J8 q8) fun b s9 ⟨H9, J9, q9⟩ => ?_
      have fin : ∀ {s' : Shared} {H' : Hp}, Inv (hblk X p s3 H3 scope ce fp) ([] ++ pinsAt fp s7.heap) σ8 H' s' → Nx H' → ∃ m, m < n ∧ ∃ i H', Inv (hblk X p s3 H3 scope ce fp) [] (wipe σ (own.map (·.2))) H' s' ∧ tn i s'.heap ∧ (∀ b ∈ fp, H' b = none) ∧ WW i m H' := fun {s' H'} J' nx => by
        obtain ⟨m', hm, w'⟩ := hNx H' nx
        have still : ∀ b ∈ fp, ∀ o, s7.heap.get? b = some o → s'.heap.get? b = some o ∧ H' b = none := fun b hb o e => let z := J'.pin (b, o) (List.mem_append_right _ (List.mem_append_right _ (mem_pinsAt hb e))); ⟨z.1, z.2.1⟩
        refine ⟨m', hm, i + 1, H', (J'.unpinned (pins := [])).weak (by rw [← hw8, wipe_length]) (fun j v e => ?_), T.keep _ _ _ t7 fun b hb o e => (still b hb o e).1, fun b hb => ?_, w'⟩
        · rw [← hw8] at e
          exact (wipe_some e).1
        · obtain ⟨o, e, _⟩ := T.obj _ _ t7 b hb
          exact (still b hb o e).2
      cases b with
      | false => exact fin J9 q9
      | true =>
        refine thnF (pe.run _ s9 σ8 H9 _ J9 q9) fun z s10 ⟨yv, H10, J10, r10, acc, hD10, hz10, nx⟩ => ?_
        exact app_ok (X := hblk X p s3 H3 scope ce fp) J10 hD10 hz10 r10 fun s11 J11 => fin J11 nx
  exact codeAny_compStart_list loop (T.self X.A 0 _ _ _ st4 loop)
end
end EN
/-! Where an error is held: sum, calls, bodies. -/
namespace EN
open PySem PySem.Spec PyProof.Rows L2 HotX L2H
/-- a list's walk where x1's error is held -/
theorem walkLH {prog : Program} {w : World} {A : Around} {x1 : Addr} {o1 : Obj} {vs1 : Array Value} (hh : A.handled = some (.ref x1)) (d1 : o1.data = .fields vs1) (c1 : vs1[2]? = some .none) (I l : Addr) (ne : l ≠ I) (ne1 : x1 ≠ I) (items : Array Value) :
    Walks prog w A I [I, l, x1] [I] items.size (fun i v => items[i]? = some v) (fun i h => (h.IsListIter I l i ∧ h.IsList l items) ∧ h.get? x1 = some o1) where
  sub := fun b hb => by rw [List.mem_singleton.mp hb]; exact List.mem_cons_self
  frame := fun _ _ _ st k => ⟨⟨st.1.1.at fun o e => k I List.mem_cons_self o e, st.1.2.at fun o e => k l (List.mem_cons_of_mem _ List.mem_cons_self) o e⟩, k x1 (by simp) _ st.2⟩
  item := fun i s Q E hi st hQ => by
    refine wpAny_pyNext_list_item st.1.1 st.1.2 (x := items[i]) (by simp [hi]) fun h' it' same => ?_
    exact hQ _ h' s.toks (by simp [hi]) ⟨⟨it', st.1.2.extBut same.extBut ne⟩, (same.2 x1 ne1).trans st.2⟩ fun b o hb e => same.extBut b o (fun z => hb (by simp [z])) e
  done := fun s Q E st hQ => lstEndH ⟨hh, o1, vs1, st.2, d1, c1⟩ ne1 st.1.1 st.1.2 (by simp) fun h' ext => hQ h' s.toks fun b o hb e => ext b o (fun z => hb (by simp [z])) e
  self := fun _ _ _ _ st hQ => wpAny_pyIter_listiter st.1.1 hQ
/-- sum of a list of ints -/
theorem sumH {X : Cx} (hc : HotC X) : CallR X (.builtin "sum") (rSum X.K) := by
  intro pins s σ H vs us Q I r h
  obtain ⟨a, ns, rfl, hs, q⟩ := h
  obtain ⟨its, rv, hl, _⟩ := I.list hs
  rw [Vals.ref1 r]
  have nums := rv.ints
  obtain ⟨xs, ex⟩ := nums.allInts.items
  have hn : numsOf (intItems xs).toList = ns := by rw [← ex]; exact nums.numsOf
  rw [nums_intItems] at hn
  have hl2 := hl.isList
  rw [ex] at hl2
  obtain ⟨p, ⟨hh, v1, e1, c1⟩, hp⟩ := hc
  have there := (I.pin p (List.mem_append_left _ hp)).1
  refine call_sum_walkG (iter_intList hl2 fun s₂ e st hfp hne => ?_)
  subst e
  refine ⟨_, _, _, _, _, _, numAt xs, rfl, walkLH (A := X.A.in1) hh e1 c1 _ a hne (Nat.ne_of_lt (Heap.lt_size there)) (intItems xs), ⟨st, Heap.get?_push_of_some _ there⟩, fun b hb => ?_, fun _ _ => intItems_at, fun h' tk t' hk => ?_⟩
  · rcases List.mem_cons.mp hb with z | hb
    · exact hfp b (z ▸ List.mem_cons_self)
    · rcases List.mem_cons.mp hb with z | hb
      · exact hfp b (z ▸ List.mem_cons_of_mem _ List.mem_cons_self)
      · rw [List.mem_singleton.mp hb]
        exact Heap.lt_size (Heap.get?_push_of_some _ there)
  · have sum : preSum (numAt xs) (intItems xs).size = ns.sum := by
      rw [preSum_eq, List.take_of_length_le (by simp [intItems]), hn]
    rw [sum]
    exact ⟨.int _, H, I.kept (old_kept hk), ⟨_, rfl⟩, q⟩
/-! ### calls -/
/-- what a def promises while p's error is held -/
structure FnP (P : Program) (w : World) (K : PySem.W.Frag) (mg : Str → Option Value) (base : Heap) (CX : CXT) (p : Addr × Obj) (k : Nat) (f : Addr) (fd : FuncData) (ps : List Str) (sp : Sp) : Prop where
  len : ∀ vs H Q E, sp vs H Q E → vs.length = ps.length
  run : ∀ (A : Around) (outer : List PySem.Env) (s : Shared) (H : Hp) (args : Args) (us : List Value) (vs : List V) (Q : VK) (E : XK), RoomH k A → Hot1 A p → PinOk outer H s p → Env0 P w K mg base A outer s H →
    BindsTo s fd args (ps.zip us) → Vals vs us → sp vs H Q E → codeAny (model P w) A (.call (.ref f) args) (CR CX outer P w H s Q E) s
section
variable {X : Cx} {CX : CXT} {p : Addr × Obj} {k : Nat} {f : Addr} {fd : FuncData} {ps : List Str} {sp : Sp} {W : WX}
theorem callP {x : Str} {q pos : Pos} {e : Expr} {es : List Expr} {t : TA} (F : FnP X.prog X.w X.K X.mg X.base CX p k f fd ps sp) (hr : RoomH k X.A) (hot : Hot1 X.A p) (hpn : p ∈ X.pn) (hg : Gl X x) (hm : X.mg x = some (.ref f)) (hk : PySem.W.keepIn X.K (.ref f) = true)
    (hb : Binds X.K fd ps []) (hx : ∀ σ, PassesAt CX X σ (WE W σ)) (ha : PA X (e :: es) t) (hdb : (x == ("__debug__" : Str)) = false) (he : starEach (e :: es) X.env = (false, eval e X.env) :: starEach es X.env) (hpl : (backTo pos (starEach es X.env)).any (·.1) = false) :
    PE X (.Call (.Name x q) (e :: es) [] pos) (tCallS sp (WE W) t) := by
  refine ⟨fun pins s σ H Q I h => wpAny_Call_Name_kw (ld_glob I hg hm (PySem.W.callWith_K (h₀ := X.base) I.ok.mod.kin hk (thn (ha.run pos pins s σ H _ I h) fun us s1 ⟨vs, H1, I1, r, sp1⟩ => ⟨I1.kIn, ?_⟩) he hpl) hdb)⟩
  have pin := I1.pin p (List.mem_append_left _ hpn)
  have stands : PinOk X.stack H1 s1 p := ⟨pin.1, pin.2.1, fun hm => (List.mem_cons.mp (I1.stkSub p.1 hm)).elim pin.2.2.1 pin.2.2.2.1, pin.2.2.2.2⟩
  have few : us.length = ps.length := r.length.symm.trans (F.len _ _ _ _ sp1)
  have bd := hb s1 us I1.kIn (by rw [List.append_nil]; exact few)
  rw [List.append_nil] at bd
  refine wpAny_call (codeAny_mono (F.run X.A X.stack s1 H1 ⟨us, []⟩ us vs Q (WE W σ) hr hot stands I1.env0 bd r sp1) fun res s2 hq => ?_)
  match res, hq with
  | .error e, hq => exact hx σ pins H1 s1 e s2 I1 hq
  | .ok (.ret u), hq => exact I1.after hq
  | .ok .next, hq => exact hq.elim
  | .ok .brk, hq => exact hq.elim
  | .ok .cont, hq => exact hq.elim
end
/-- THE RULE for a def called while p's error is held -/
theorem fn_ofP {CX : CXT} {P : Program} {w : World} {K : PySem.W.Frag} {mg : Str → Option Value} {base : Heap} {p : Addr × Obj} {k : Nat} {f : Addr} {name qual : Str} {params : Arguments} {body : List Stmt} {scope : Scope} {dV kV doc pm cdv ct oc : Value} {an od : Option Addr} {osl : Array (Option Value)} {N ps : List Str} {sp : Sp}
    (lk : K.lookup f = some ⟨oc, od, .func (PySem.W.fnOf name qual params body scope dV kV doc pm an cdv ct), osl⟩) (hcd : PySem.W.codeIn K cdv qual = true) (S : FnScope N ps scope) (len : ∀ vs H Q E, sp vs H Q E → vs.length = ps.length)
    (hbody : ∀ (A : Around) (outer : List PySem.Env) (s : Shared) (H : Hp) (vs : List V) (Q : VK) (E : XK), Hot1 A p → RoomH k (A.deeper (envOfC qual scope s.heap.objs.size f cdv)) → sp vs H Q E →
      ∃ t, PSs (cxH CX P w K mg base N qual scope f cdv A outer s H E p) body t ∧ t { nx := fun _ H' => Q .non H', rt := Q } (L2.start N vs) H) : FnP P w K mg base CX p (k + 1) f (PySem.W.fnOf name qual params body scope dV kV doc pm an cdv ct) ps sp := by
  refine ⟨len, fun A outer s H args us vs Q E room hot pin e0 bd r hsp => ?_⟩
  have kin : K.In s.heap := e0.mod.kin.keeps fun b o e => (e0.bs b o e).1
  have nolim : s.heap.NoLimit := e0.mod.nolimit.keeps fun b o e => (e0.bs b o e).1
  have slots : ∀ y ∈ ps.zip us, scope.names.lookup y.1 = some .local ∨ (scope.names.lookup y.1 = some .cell ∧ ((cellsFrom (s.heap.objs.size + 1) scope.names []).lookup y.1).isSome = true) := by
    rintro ⟨n, v⟩ hy
    refine (S.par n (List.of_mem_zip hy).1).imp_right fun q => ⟨q, PySem.W.cellsFrom_some _ _ _ (.inl q)⟩
  refine codeAny_call_function room.depth (kin _ _ lk) rfl S.co S.gen rfl (PySem.W.codeRec_of kin hcd) (bd _ _ _ _ (wpAny_newFunctionEnv_cells S.kind slots fun env he s1 x => ?_))
  subst he
  refine ⟨nolim.keeps x.toInCall.keep, codeAny_func ?_⟩
  obtain ⟨t, ht, hq⟩ := hbody A outer s H vs Q E hot (room.deeper _) hsp
  have I := inv_startH (CX := CX) (E := E) S pin e0 (len _ _ _ _ hsp) r x
  refine wpAny_mono (ht.run [] s1 (L2.start N vs) H _ I hq) (fun fl s' hs => ?_) fun e s' hs => hs
  match fl, hs with
  | .ret u, ⟨v, σ', H', J, rv, q⟩ => exact ⟨v, H', J.os, J.bare, J.base, J.hok, rv, q⟩
  | .next, ⟨σ', H', J, q⟩ => exact ⟨.non, H', J.os, J.bare, J.base, J.hok, rfl, q⟩
  | .brk, ⟨_, _, _, q⟩ => exact q.elim
  | .cont, ⟨_, _, _, q⟩ => exact q.elim
end EN
/-! Where an error is held: the family of contexts. -/
namespace EN
open PySem PySem.Spec PyProof.Rows L2 HotX L2H
/-- a def as it stands in the text, and its promise while p's error is held -/
def FnFP (C : Cc) (g : G0) (fn : Fn) (p : Addr × Obj) (X : Cx) (f : Nat) : Prop := ∃ (fa : Addr) (fd : FuncData) (ps : List Str) (k : Nat), X.mg (C.gn f) = some (.ref fa) ∧ PySem.W.keepIn X.K (.ref fa) = true ∧ Binds X.K fd ps [] ∧
  FnP X.prog X.w X.K X.mg X.base (L2N.CX X.prog X.w) p k fa fd ps (spN g fn f) ∧ RoomH k X.A
structure PH (C : Cc) (N : List Str) (g : G0) (fn : Fn) (p : Addr × Obj) (X : Cx) (sc : Scope) (W : WX) : Prop where
  bas : Bas C N g X sc
  nd : N.Nodup
  tk : L2N.Takes X W
  hot : Hot1 X.A p
  pn : p ∈ X.pn
  ff : ∀ f, C.cl true f = true → FnFP C g fn p X f
  ek : ∀ c, c < g.T.ne → HotK X.K g (g.ec c)
  gp : ∃ cl d, g.pn = some (p.1, cl, d) ∧ L2N.Zn cl d p.2
section
variable {C : Cc} {N : List Str} {g : G0} {fn : Fn} {p : Addr × Obj} {X : Cx} {sc : Scope} {W : WX}
theorem PH.dat (h : PH C N g fn p X sc W) : ∃ vs, p.2.data = .fields vs := let ⟨_, vs, e, _⟩ := h.hot; ⟨vs, e⟩
theorem PH.blk (h : PH C N g fn p X sc W) {s : Shared} {H : Hp} {scope : Scope} {A : Addr} {cl : List (Str × Addr)} {fp : List Addr} : PH C N g fn p (hblk X p s H scope (compEnvC scope cl A X.env) fp) (relS scope sc) W0 where
  bas := ⟨h.bas.K, h.bas.N, by
    show relabel scope X.env = relS scope sc
    rw [← h.bas.sc]; rfl, h.bas.hu, h.bas.bl, h.bas.en, h.bas.cn, h.bas.kc⟩
  nd := h.nd
  tk := takes_none
  hot := h.hot
  pn := List.mem_singleton.mpr rfl
  ff := h.ff
  ek := h.ek
  gp := h.gp
theorem PH.tgt {Y : Cx} {sc' : Scope} (h : PH C N g fn p Y sc' W) {i : Nat} {x : Str} {q : Pos} (h1 : N[i]? = some x) (h2 : sc'.names.lookup x = some .local) : PG Y (.Name x q) (gName i) := by
  have h2 : Y.env.scope.names.lookup x = some .local := by rw [h.bas.sc]; exact h2
  exact pg_name (by rw [h.bas.N]; exact h.nd) (by rw [h.bas.N]; exact h1) (.inl h2) (.inr h2)
theorem pi_range2H {tg a b : Expr} {ta : TA} {q pos : Pos} (hg : Gl X "range") (hm : X.mg "range" = none) (ha : PA X [a, b] ta) (hs : starEach [a, b] X.env = [(false, eval a X.env), (false, eval b X.env)]) (hs2 : starEach [b] X.env = [(false, eval b X.env)]) :
    PIH X tg (.Call (.Name "range" q) [a, b] [] pos) (iRng2 ta) := by
  refine ⟨fun pins s σ H Z I h => Call_ (ld_blt I hg hm boot_range (PyProof.Rows.callWith_type1 (thn (ha.run pos pins s σ H _ I h) fun us s1 ⟨vs, H1, I1, r1, q1⟩ => ?_) (by rw [hs, hs2]) (by rw [hs2]; rfl)))⟩
  obtain ⟨i, j, rfl, ⟨h1, h2, h3, h4⟩, z⟩ := q1
  obtain ⟨t, u, rfl⟩ := Vals.int2 r1
  exact call_range_2 (range_itH I1 h1 h2 h3 h4 z)
theorem rulH : Rul C N g fn true PIH (PH C N g fn p) where
  bas h := h.bas
  call := fun {X sc W f e es t q pos} h hf g1 g2 pa st pl => by
    obtain ⟨fa, fd, ps, k, m, kp, b, F, r⟩ := h.ff f hf
    exact callP F r h.hot h.pn g1 m kp b (fun σ => L2N.passAt h.tk σ) pa g2 st pl
  callK := fun h => nomatch h
  txt := fun h => nomatch h
  bi := fun b hh h => by
    cases b with
    | all => exact nomatch hh rfl
    | max => exact nomatch hh rfl
    | str => exact rBI_ok .str fun z => nomatch z
    | sum => exact sumH ⟨p, h.hot, h.pn⟩
    | len => exact rBI_ok .len fun z => nomatch z
    | int => exact rBI_ok .int fun z => nomatch z
    | list => exact rBI_ok .list fun z => nomatch z
    | tuple => exact rBI_ok .tuple fun z => nomatch z
  isi := fun h => by
    obtain ⟨cl, d, e, z⟩ := h.gp
    exact hot_isi h.bas.K e h.pn z h.dat h.ek
  fld := fun h he hb => by
    obtain ⟨cl, d, e, z⟩ := h.gp
    exact hot_fld h.bas.K e h.pn z h.dat h.ek he hb
  seq := fun h hl => pi_seqH hl
  rng1 := fun h g1 m pa st => pi_range1H g1 m pa st
  rng2 := fun h g1 m pa st st2 => pi_range2H g1 m pa st st2
  lc := fun {X sc W elt iter ifs scope x i q pos wi tt te} h hb h1 h2 hi ht he hs => by
    have bs := h.bas
    have bo : BlkOk X.N X.env.scope scope [(x, i)] := by rw [bs.N, bs.sc]; exact blkOk_by hb
    exact lcH h.hot h.pn (by rw [bs.N]; exact h.nd) hi bo (fun s H A cl fp => PH.tgt h.blk h1 h2) (fun s H A cl fp => ht _ h.blk) (fun s H A cl fp => he _ h.blk) hs
structure QH (C : Cc) (N : List Str) (g : G0) (fn : Fn) (p : Addr × Obj) (X : Cx) (sc : Scope) (W : WX) : Prop extends PH C N g fn p X sc W where
  fnT : ∀ x, X.fn x = true
  kind : X.env.scope.kind = .function
theorem rulSH (nd : N.Nodup) : RulS C N g fn true PIH (PH C N g fn p) (QH C N g fn p) where
  R := rulH
  q2p h := h.toPH
  nd := nd
  fnT h := h.fnT
  kind h := h.kind
  tup := fun h => nomatch h
  aug := fun {X sc W i x e te op p pos} h hi hx he => ps_aug (by rw [h.bas.N]; exact nd) (by rw [h.bas.N]; exact hi) hx he (rAug_ok op) (.inl (h.fnT x))
  whl := fun h => nomatch h
  for_ := fun h => nomatch h
  raise := fun h => nomatch h
  setLc := fun h => nomatch h
  try_ := fun h => nomatch h
/-- what a calm body must know, so that its suites may hold errors -/
theorem hotS_of {W : WX} (h : PC C N g fn X sc W) (fnT : ∀ x, X.fn x = true) (kind : X.env.scope.kind = .function) (ek : ∀ c, c < g.T.ne → HotK X.K g (g.ec c))
    (ff : ∀ (a : Addr) (oe : Obj) (cls : Value) (d : Option Addr) (pn : List (Addr × Obj)), L2N.Zn cls d oe → ∀ f, C.cl true f = true → FnFP C { g with pn := some (a, cls, d) } fn (a, oe) (X.suite a ((a, oe) :: pn)) f) : HotS C N g fn X sc := by
  intro a oe cls d pn s s' z hd hc _
  obtain ⟨vs, hd⟩ := hd
  have ph : QH C N { g with pn := some (a, cls, d) } fn (a, oe) (X.suite a ((a, oe) :: pn)) sc W0 :=
    { bas := ⟨h.bas.K, h.bas.N, h.bas.sc, h.bas.hu, h.bas.bl, h.bas.en, h.bas.cn, h.bas.kc⟩
      nd := h.nd
      tk := takes_none
      hot := ⟨rfl, vs, hd, z.2.2 vs hd⟩
      pn := List.mem_cons_self
      ff := ff a oe cls d pn z
      ek := fun c hc => ⟨(ek c hc).c, (ek c hc).no⟩
      gp := ⟨cls, d, rfl, z⟩
      fnT := fnT
      kind := kind }
  exact adSs (rulSH h.nd) s ph s' hc
end
end EN
/-! The whole text: every def keeps its promise. -/
namespace EN
open PySem PySem.Spec PyProof.Rows L2 HotX L2H
structure Txt (P : Program) (w : World) (K : PySem.W.Frag) (mg : Str → Option Value) (base : Heap) (C : Cc) (g : G0) (fds : Nat → Option Fd) (N ps : Nat → List Str) (ql : Nat → Str) (st : Nat → Stmt) (fa : Nat → Addr) (fd : Nat → FuncData) : Prop where
  pn : g.pn = none
  hK : K = g.K
  kf : KF g
  bl : ∀ x : Str, x ∈ (["len", "int", "sum", "list", "tuple", "isinstance", "range", "str", "bool", "dict", "ValueError", "all", "max"] : List Str) → mg x = none
  en : ∀ c, c < g.T.ne → mg (C.en c) = some (.ref (g.ec c))
  cn : ∀ c, c < g.T.nc → mg (C.cn c) = some (.ref (g.oc c))
  kc : ∀ n, n < g.T.nk → ∃ u, mg (C.kn n) = some u ∧ RelV (vD (g.T.gc n)) u
  kw : ∀ f, C.cl false f = true → C.kw f = true → C.pn f = ps f ∧ KwB K (fd f) (ps f)
  fn : ∀ f, C.cl false f = true → Fun K (C.gn f) (ql f) (st f) (fa f) (fd f) ∧ FnScope (N f) (ps f) (defScope (st f)) ∧ mg (C.gn f) = some (.ref (fa f)) ∧ Binds K (fd f) (ps f) [] ∧
    ∃ d, fds f = some d ∧ cSs C g.T (N f) false (defScope (st f)) d.body (defBody (st f)) = true ∧ (ps f).length = d.np ∧ (N f).length = d.ns
  fh : ∀ f, C.cl true f = true → C.cl false f = true ∧ ∀ d, fds f = some d → cSs C g.T (N f) true (defScope (st f)) d.body (defBody (st f)) = true ∧ d.body.noTry = true
  ek : ∀ c, c < g.T.ne → HotK K g (g.ec c)
  er : ∀ c, c < g.T.ne → OexC K (g.ec c) ∧ ((g.T.ef c) ≠ [] → ∃ (fI : Addr) (fd : FuncData) (ps : List Str), PySem.W.findIn K (.ref (g.ec c)) "__init__" = some (some (.ref fI)) ∧ PySem.W.typeIn K (.ref fI) = some (.type "function") ∧
    FnOk P w K mg base (L2N.CX P w) 1 fI fd ps (spI g c) ∧ Binds K fd ps [])
section
variable {P : Program} {w : World} {K : PySem.W.Frag} {mg : Str → Option Value} {base : Heap} {C : Cc} {g : G0} {fds : Nat → Option Fd} {N ps : Nat → List Str} {ql : Nat → Str} {st : Nat → Stmt} {fa : Nat → Addr} {fd : Nat → FuncData}
theorem sp_len {g : G0} {T : Tb} {f k : Nat} {d : Fd} {vs : List V} {H : Hp} {Q : VK} {E : XK} (hd : fds f = some d) (h : spN g (runF T fds k) f vs H Q E) : vs.length = d.np := by
  obtain ⟨as, F, e, q⟩ := h
  rw [← e.len]
  cases k with
  | zero => exact q.elim
  | succ k =>
    by_cases hl : as.length = d.np
    · exact hl
    · simp only [runF, hd, if_neg hl] at q
theorem sp_no {g : G0} {T : Tb} {f : Nat} {vs : List V} {H : Hp} {Q : VK} {E : XK} (h : spN g (runF T fds 0) f vs H Q E) : False := let ⟨_, _, _, q⟩ := h; q.elim
/-- while p's error is held -/
theorem Txt.allH (X : Txt P w K mg base C g fds N ps ql st fa fd) (p : Addr × Obj) (cl : Value) (d : Option Addr) (z : L2N.Zn cl d p.2) : ∀ (k f : Nat), C.cl true f = true →
    FnP P w K mg base (L2N.CX P w) p (k + 3) (fa f) (fd f) (ps f) (spN { g with pn := some (p.1, cl, d) } (runF g.T fds k) f)
  | 0, f, hf => ⟨fun _ _ _ _ h => (sp_no h).elim, fun _ _ _ _ _ _ _ _ _ _ _ _ _ _ _ h => (sp_no h).elim⟩
  | k + 1, f, hf => by
    obtain ⟨hc, hh⟩ := X.fh f hf
    obtain ⟨Fu, S, hm, hb, dd, e1, e2, e3, e4⟩ := X.fn f hc
    obtain ⟨h1, h2⟩ := hh dd e1
    obtain ⟨oc, od, kV, doc, pm, an, cdv, ct, osl, e, lk, hcd⟩ := Fu.ex
    rw [e] at lk ⊢
    refine fn_ofP lk hcd S (fun vs H Q E h => (sp_len e1 h).trans e3.symm) fun A outer s H vs Q E hot room hsp => ?_
    have K2 : KF { g with pn := some (p.1, cl, d) } := ⟨X.kf.isi, X.kf.ise, X.kf.cls, X.kf.exm, X.kf.cget, X.kf.ctak⟩
    obtain ⟨hx, rd⟩ := body_ok (g := { g with pn := some (p.1, cl, d) }) (T := g.T) K2 rfl e1 (.inr h2) hsp
    refine ⟨_, adSs (rulSH (C := C) (N := N f) (g := { g with pn := some (p.1, cl, d) }) (fn := runF g.T fds k) (p := p) S.nd) dd.body (sc := defScope (st f)) (W := fun cls d _ H => E cls d H) ?_ _ h1, ?_⟩
    · exact
        { bas := ⟨X.hK, rfl, rfl, by have := room.un; exact (by omega : (A.deeper (envOfC (ql f) (defScope (st f)) s.heap.objs.size (fa f) cdv)).units + 65 < cLine), X.bl, X.en, X.cn, X.kc⟩
          nd := S.nd
          tk := L2N.takes_of rfl rfl rfl rfl
          hot := hot
          pn := List.mem_singleton.mpr rfl
          ff := fun f' hf' => let ⟨F', _, m', b', _⟩ := X.fn f' (X.fh f' hf').1; ⟨fa f', fd f', ps f', k + 3, m', F'.kp, b', Txt.allH X p cl d z k f' hf', room⟩
          ek := fun c hc => ⟨(X.ek c hc).c, (X.ek c hc).no⟩
          gp := ⟨cl, d, rfl, z⟩
          fnT := fun _ => rfl
          kind := S.kind }
    · show rss _ _ _ _ _ (vs.map some ++ List.replicate ((N f).length - vs.length) none) H
      rw [e4, hx]
      exact rd
/-- where no error is held -/
theorem Txt.allC (X : Txt P w K mg base C g fds N ps ql st fa fd) : ∀ (k f : Nat), C.cl false f = true → FnOk P w K mg base (L2N.CX P w) (k + 3) (fa f) (fd f) (ps f) (spN g (runF g.T fds k) f)
  | 0, f, hf => ⟨fun _ _ _ _ h => (sp_no h).elim, fun _ _ _ _ _ _ _ _ _ _ _ _ _ h => (sp_no h).elim⟩
  | k + 1, f, hf => by
    obtain ⟨Fu, S, hm, hb, dd, e1, e2, e3, e4⟩ := X.fn f hf
    obtain ⟨oc, od, kV, doc, pm, an, cdv, ct, osl, e, lk, hcd⟩ := Fu.ex
    rw [e] at lk ⊢
    refine fn_of lk hcd S (fun vs H Q E h => (sp_len e1 h).trans e3.symm) fun A outer s H vs Q E room hsp => ?_
    obtain ⟨hx, rd⟩ := body_ok (T := g.T) X.kf rfl e1 (.inl X.pn) hsp
    have pc : PC C (N f) g (runF g.T fds k) (cxOf (L2N.CX P w) P w K mg base (N f) (ql f) (defScope (st f)) (fa f) cdv A outer s H E) (defScope (st f)) (fun cls d _ H => E cls d H) :=
      { bas := ⟨X.hK, rfl, rfl, by have := room.un; exact (by omega : (A.deeper (envOfC (ql f) (defScope (st f)) s.heap.objs.size (fa f) cdv)).units + 65 < cLine), X.bl, X.en, X.cn, X.kc⟩
        calm := rfl
        nd := S.nd
        tk := L2N.takes_of rfl rfl rfl rfl
        ff := fun f' hf' => let ⟨F', _, m', b', _⟩ := X.fn f' hf'; ⟨fa f', fd f', ps f', k + 3, m', F'.kp, b', Txt.allC X k f' hf', room, X.kw f' hf'⟩ }
    refine ⟨_, adSs (rulSC (C := C) (N := N f) (g := g) (fn := runF g.T fds k) X.pn S.nd) dd.body (sc := defScope (st f)) (W := fun cls d _ H => E cls d H) ?_ _ e2, ?_⟩
    · exact
        { toPC := pc
          fnT := fun _ => rfl
          kind := S.kind
          own := passes_of rfl
          stk := rfl
          frm := rfl
          er := fun c hc => ⟨(X.er c hc).1, fun ne => let ⟨fI, fd', ps', a1, a2, a3, a4⟩ := (X.er c hc).2 ne; ⟨fI, fd', ps', k + 2, a1, a2, a3.mono (by omega), room, a4⟩⟩
          hot := hotS_of pc (fun _ => rfl) S.kind (fun c hc => ⟨(X.ek c hc).c, (X.ek c hc).no⟩) fun a oe cls d pn z f' hf' =>
            let ⟨F', _, m', b', _⟩ := X.fn f' (X.fh f' hf').1
            ⟨fa f', fd f', ps f', k + 3, m', F'.kp, b', Txt.allH X (a, oe) cls d z k f' hf', ⟨room.dp, room.un⟩⟩ }
    · show rss _ _ _ _ _ (vs.map some ++ List.replicate ((N f).length - vs.length) none) H
      rw [e4, hx]
      exact rd
end
end EN
/-! __init__ of an error's class: each field takes its argument. -/
namespace EN
open PySem PySem.Spec PyProof.Rows L2
/-- self.f = x, for the fields from the j-th on -/
def iB (sc : Scope) (N : List Str) : List Str → Nat → List Stmt → Bool
  | [], _, l => isNil l
  | f :: fs, j, l => match l with
    | .Assign [.Attribute (.Name s _) f' _] (.Name x _) _ :: l => decide (f' = f) && nmB N sc 0 s && nmB N sc (j + 1) x && iB sc N fs (j + 1) l
    | _ => false
def tI (K : PySem.W.Frag) : List Str → Nat → TS
  | [], _ => tNext
  | f :: fs, j => tSeq (tOst K f (tVar 0) (tVar (j + 1))) (tI K fs (j + 1))
section
variable {X : Cx} {N : List Str} {sc : Scope}
theorem vis_of (hs : X.env.scope = sc) {x : Str} (h : visB sc x = true) : Vis X.env.scope x := by
  rw [hs]
  unfold visB at h
  split at h
  · exact .inl (by assumption)
  · exact .inr (.inl (by assumption))
  · exact .inr (.inr (by assumption))
  · cases h
theorem nm_of (hN : X.N = N) (hs : X.env.scope = sc) {i : Nat} {x : Str} {p : Pos} (h : nmB N sc i x = true) : PE X (.Name x p) (tVar i) := by
  obtain ⟨h, h4⟩ := and2 h
  obtain ⟨h, h3⟩ := and2 h
  obtain ⟨h1, h2⟩ := and2 h
  exact pe_var (by rw [hN]; exact of_decide_eq_true h1) (vis_of hs h2) (by simpa using h3) (by simpa using h4)
theorem iB_ok (hN : X.N = N) (hs : X.env.scope = sc) : ∀ {fs : List Str} {j : Nat} {l : List Stmt}, iB sc N fs j l = true → PSs X l (tI X.K fs j)
  | [], j, l, h => by
    unfold iB at h
    cases l with
    | nil => exact pss_nil
    | cons a as => cases h
  | f :: fs, j, l, h => by
    unfold iB at h
    split at h
    · obtain ⟨h, h4⟩ := and2 h
      obtain ⟨h, h3⟩ := and2 h
      obtain ⟨h1, h2⟩ := and2 h
      cases of_decide_eq_true h1
      exact pss_cons (ps_ost (nm_of hN hs h2) (nm_of hN hs h3) rfl) (iB_ok hN hs h4)
    · cases h
/-- the fields that are there, then the others -/
theorem tI_run {K : PySem.W.Frag} {a C dx : Addr} {D : Ends} {σ : L2.St} {H : Hp} (T : OexC K C) (h0 : σ[0]? = some (some (.ref a))) (na : dx ≠ a) : ∀ {fs : List Str} {vs : List V} {j : Nat} {ws : List (Str × V)}, (∀ f ∈ fs, PySem.W.findIn K (.ref C) f = some none) → fs.length = vs.length →
    (∀ i v, vs[i]? = some v → σ[j + 1 + i]? = some (some v)) → ws.length + fs.length ≤ 900 → D.nx σ (upd (upd H dx (exd dx ((fs.zip vs).reverse ++ ws))) a (exo a C (some dx))) → tI K fs j D σ (upd (upd H dx (exd dx ws)) a (exo a C (some dx)))
  | [], vs, j, ws, hf, hl, hv, hw, k => by
    have : vs = [] := List.eq_nil_of_length_eq_zero hl.symm
    subst this
    exact k
  | f :: fs, [], j, ws, hf, hl, hv, hw, k => by cases hl
  | f :: fs, v :: vs, j, ws, hf, hl, hv, hw, k => by
    have hw2 : ws.length + (fs.length + 1) ≤ 900 := hw
    refine ⟨v, hv 0 v rfl, .ref a, h0, a, C, rfl, T, hf f List.mem_cons_self, .inr ⟨dx, ws, upd_same, by rw [upd_ne na, upd_same], by omega, ?_⟩⟩
    have e : upd (upd (upd H dx (exd dx ws)) a (exo a C (some dx))) dx (exd dx ((f, v) :: ws)) = upd (upd H dx (exd dx ((f, v) :: ws))) a (exo a C (some dx)) := by
      funext b
      by_cases h1 : b = dx
      · subst h1; rw [upd_same, upd_ne na, upd_same]
      · rw [upd_ne h1]
        by_cases h2 : b = a
        · subst h2; rw [upd_same, upd_same]
        · rw [upd_ne h2, upd_ne h2, upd_ne h1, upd_ne h1]
    rw [e]
    refine tI_run T h0 na (fun g hg => hf g (List.mem_cons_of_mem _ hg)) (by simpa using hl) (fun i u hu => ?_) (by simp; omega) ?_
    · have := hv (i + 1) u (by simpa using hu)
      rw [show j + 1 + 1 + i = j + 1 + (i + 1) by omega]
      exact this
    · have e2 : ((f :: fs).zip (v :: vs)).reverse ++ ws = (fs.zip vs).reverse ++ (f, v) :: ws := by simp
      rw [e2] at k
      exact k
/-- .. from the beginning -/
theorem tI_run0 {K : PySem.W.Frag} {a C : Addr} {D : Ends} {σ : L2.St} {H : Hp} (T : OexC K C) (h0 : σ[0]? = some (some (.ref a))) (ha : H a = some (exo a C none)) {fs : List Str} {vs : List V} (ne : fs ≠ []) (hf : ∀ f ∈ fs, PySem.W.findIn K (.ref C) f = some none) (hl : fs.length = vs.length)
    (hv : ∀ i v, vs[i]? = some v → σ[i + 1]? = some (some v)) (hw : fs.length ≤ 20) (k : ∀ dx, H dx = none → dx ≠ a → D.nx σ (upd (upd H dx (exd dx (fs.zip vs).reverse)) a (exo a C (some dx)))) : tI K fs 0 D σ H := by
  match fs, vs, hl with
  | f :: fs, v :: vs, hl =>
    refine ⟨v, hv 0 v rfl, .ref a, h0, a, C, rfl, T, hf f List.mem_cons_self, .inl ⟨ha, fun dx hd na => ?_⟩⟩
    have hw2 : fs.length + 1 ≤ 20 := hw
    refine tI_run T h0 na (fun g hg => hf g (List.mem_cons_of_mem _ hg)) (by simpa using hl) (fun i u hu => ?_) (by simp; omega) ?_
    · have := hv (i + 1) u (by simpa using hu)
      rw [show 0 + 1 + 1 + i = i + 1 + 1 by omega]
      exact this
    · have := k dx hd na
      have e2 : ((f :: fs).zip (v :: vs)).reverse = (fs.zip vs).reverse ++ [(f, v)] := by simp
      rw [e2] at this
      exact this
/-- THE RULE for such an __init__ -/
theorem init_ok {P : Program} {w : World} {K : PySem.W.Frag} {mg : Str → Option Value} {base : Heap} {g : G0} {c : Nat} {x ql : Str} {st : Stmt} {f : Addr} {fd : FuncData} {N : List Str} (Fu : Fun K x ql st f fd) (S : FnScope N N (defScope st)) (T : OexC K (g.ec c))
    (hb : iB (defScope st) N (g.T.ef c) 0 (defBody st) = true) (hN : N.length = (g.T.ef c).length + 1) (hf : ∀ n ∈ g.T.ef c, PySem.W.findIn K (.ref (g.ec c)) n = some none) : FnOk P w K mg base (L2N.CX P w) 1 f fd N (spI g c) := by
  obtain ⟨oc, od, kV, doc, pm, an, cdv, ct, osl, e, lk, hcd⟩ := Fu.ex
  rw [e] at lk ⊢
  refine fn_of lk hcd S (fun vs H Q E h => ?_) fun A outer s H vs Q E room h => ?_
  · obtain ⟨a, ws, rfl, h1, _⟩ := h
    rw [hN, List.length_cons, h1]
  · obtain ⟨a, ws, rfl, h1, h2, ne, ha, k⟩ := h
    refine ⟨_, iB_ok rfl rfl hb, ?_⟩
    have at0 : (L2.start N (.ref a :: ws))[0]? = some (some (.ref a)) := rfl
    refine tI_run0 T at0 ha ne hf h1.symm (fun i v hv => ?_) (by rw [← h1]; exact h2) k
    show ((V.ref a :: ws).map some ++ _)[i + 1]? = _
    have hi : i < ws.length := (List.getElem?_eq_some_iff.mp hv).1
    rw [List.getElem?_append_left (by simp; omega), List.getElem?_map]
    have : (V.ref a :: ws)[i + 1]? = some v := by simpa using hv
    rw [this]; rfl
end
end EN
/-! The written part: what one look at it tells. -/
namespace EN
open PySem PySem.Spec PyProof.Rows L2
def adr (K : PySem.W.Frag) (n : Str) : Addr := match PySem.W.nsIn K mainGlobals n with
  | some (some (.ref a)) => a
  | _ => 0
def iad (K : PySem.W.Frag) (C : Addr) : Addr := match PySem.W.findIn K (.ref C) "__init__" with
  | some (some (.ref a)) => a
  | _ => 0
def fdOf (K : PySem.W.Frag) (f : Addr) : FuncData := match K.lookup f with
  | some ⟨_, _, .func d, _⟩ => d
  | _ => default
def gOf (K : PySem.W.Frag) (C : Cc) (T : Tb) : G0 := { K := K, T := T, ec := fun c => adr K (C.en c), oc := fun c => adr K (C.cn c), pn := none }
def bltN : List Str := ["len", "int", "sum", "list", "tuple", "isinstance", "range", "str", "bool", "dict", "ValueError", "all", "max"]
def allT (T : Tb) : List TY := [.int, .str, .bool, .list, .tuple, .dict, .ve] ++ (List.range T.ne).map .exc ++ (List.range T.nc).map .cls
def allD : List D := [.non, .bl true, .int 0, .str "", .tup [], .lst [], .scr [], .dK [] [], .dT [] []]
def excB (K : PySem.W.Frag) (D : Addr) : Bool :=
  decide (PySem.W.findIn K (.ref D) "__getattribute__" = some (some (.builtin "BaseException.__getattribute__"))) && decide (PySem.W.findIn K (.ref D) "__getattr__" = some none) && decide (PySem.W.subIn K (.ref D) (.type "BaseException") = some true) && PySem.W.hasDictIn K D &&
  decide (PySem.W.findIn K (.ref D) "__class__" = some (some (.builtin "object.__class__"))) && decide (PySem.W.mroIn K D (.type "object") = some true) && decide (PySem.W.findIn K (.ref D) "__setattr__" = some (some (.builtin "object.__setattr__"))) && decide (PySem.W.typeIn K (.ref D) = some (.type "type")) && PySem.W.keepIn K (.ref D)
def relB : D → Value → Bool
  | .int i, .int j _ => decide (i = j)
  | .str x, .str y _ => decide (x = y)
  | _, _ => false
theorem rel_of {d : D} {u : Value} (h : relB d u = true) : RelV (vD d) u := by
  unfold relB at h
  split at h
  · cases of_decide_eq_true h; exact ⟨_, rfl⟩
  · cases of_decide_eq_true h; exact ⟨_, rfl⟩
  · cases h
def kB (K : PySem.W.Frag) (C : Cc) (T : Tb) (n : Nat) : Bool :=
  bltN.all (fun x => decide (PySem.W.nsIn K mainGlobals x = some none)) &&
  (List.range n).all (fun f => decide (PySem.W.nsIn K mainGlobals (C.gn f) = some (some (.ref (adr K (C.gn f))))) && PySem.W.keepIn K (.ref (adr K (C.gn f)))) &&
  (List.range T.ne).all (fun c => decide (PySem.W.nsIn K mainGlobals (C.en c) = some (some (.ref (adr K (C.en c))))) && excB K (adr K (C.en c)) && (List.range T.ne).all (fun k => (T.ef k).all fun n => decide (PySem.W.findIn K (.ref (adr K (C.en c))) n = some none)) &&
    (isNil (T.ef c) || (decide (PySem.W.findIn K (.ref (adr K (C.en c))) "__init__" = some (some (.ref (iad K (adr K (C.en c)))))) && decide (PySem.W.typeIn K (.ref (iad K (adr K (C.en c)))) = some (.type "function")) && PySem.W.keepIn K (.ref (iad K (adr K (C.en c)))))) &&
    (List.range T.ne).all (fun k => decide (PySem.W.exmOne K (.ref (adr K (C.en c))) (.ref (adr K (C.en k))) = some (T.es c k))) && (allT T).all (fun t => decide (PySem.W.kitOne K (.ref (adr K (C.en c))) (tyU (gOf K C T) t) = some (isE T c t)))) &&
  allD.all (fun d => (allT T).all fun t => decide (PySem.W.kitOne K (tyD (gOf K C T) d) (tyU (gOf K C T) t) = some (isTy d t))) &&
  (List.range T.nk).all (fun n => match PySem.W.nsIn K mainGlobals (C.kn n) with
    | some (some u) => relB (T.gc n) u
    | _ => false) &&
  decide (PySem.W.specialIn K (.builtin "object.__class__") "__get__" = some (some (.builtin "getset_descriptor.__get__"))) && decide (PySem.W.takesIn K (.builtin "object.__class__") = some true)
/-- a def's object -/
def FnL (K : PySem.W.Frag) (x ql : Str) (st : Stmt) (f : Addr) : Prop := ∃ (oc : Value) (od : Option Addr) (kV doc pm : Value) (an : Option Addr) (cdv ct : Value) (osl : Array (Option Value)),
  K.lookup f = some ⟨oc, od, .func (PySem.W.fnOf x ql (defArgs st) (defBody st) (defScope st) .none kV doc pm an cdv ct), osl⟩ ∧ PySem.W.codeIn K cdv ql = true
theorem FnL.fn {K : PySem.W.Frag} {x ql : Str} {st : Stmt} {f : Addr} (h : FnL K x ql st f) (k : PySem.W.keepIn K (.ref f) = true) : Fun K x ql st f (fdOf K f) := by
  obtain ⟨oc, od, kV, doc, pm, an, cdv, ct, osl, l, c⟩ := h
  have e : fdOf K f = PySem.W.fnOf x ql (defArgs st) (defBody st) (defScope st) .none kV doc pm an cdv ct := by
    unfold fdOf
    rw [l]
  exact ⟨⟨oc, od, kV, doc, pm, an, cdv, ct, osl, e, by rw [e]; exact l, c⟩, k⟩
/-- a class of errors -/
def ClL (K : PySem.W.Frag) (C : Addr) : Prop := ∃ nm q N bs bm sn sub ab col dd k0 k1 k2 k3 k5, K.lookup C = some (excClassObj nm q C N bs bm true sn sub ab col dd k0 k1 k2 k3 k5 "ValueError.__new__") ∧ PySem.HandSPX.refsVE bm = true
def BndL (x ql : Str) (st : Stmt) (ps : List Str) : Prop := ∀ (kV doc pm : Value) (an : Option Addr) (cdv ct : Value) (us : List Value), us.length = ps.length → bindArgs (PySem.W.fnOf x ql (defArgs st) (defBody st) (defScope st) .none kV doc pm an cdv ct) ⟨us, []⟩ = pure (ps.zip us)
def BndKL (x ql : Str) (st : Stmt) (ps : List Str) : Prop := ∀ (kV doc pm : Value) (an : Option Addr) (cdv ct : Value) (us : List Value), us.length = ps.length → bindArgs (PySem.W.fnOf x ql (defArgs st) (defBody st) (defScope st) .none kV doc pm an cdv ct) ⟨[], ps.zip us⟩ = pure (ps.zip us)
theorem kwb_of {K : PySem.W.Frag} {x ql : Str} {st : Stmt} {f : Addr} {fd : FuncData} {ps : List Str} (F : Fun K x ql st f fd) (h : BndKL x ql st ps) : KwB K fd ps := by
  obtain ⟨oc, od, kV, doc, pm, an, cdv, ct, osl, rfl, lk, hcd⟩ := F.ex
  exact fun s ws _ hl => BindsTo.of_eq (h kV doc pm an cdv ct ws hl)
def scB (N ps : List Str) (sc : Scope) : Bool := decide (sc.kind = .function) && !sc.isCoroutine && !sc.isGenerator && decide N.Nodup && decide (N.take ps.length = ps) && ps.all (fun x => decide (sc.names.lookup x = some .local) || decide (sc.names.lookup x = some .cell)) && sc.names.all (fun y => decide (y.2 ≠ .free))
theorem sc_of {N ps : List Str} {sc : Scope} (h : scB N ps sc = true) : FnScope N ps sc := by
  unfold scB at h
  simp only [Bool.and_eq_true, List.all_eq_true, Bool.or_eq_true, decide_eq_true_eq, Bool.not_eq_true'] at h
  obtain ⟨⟨⟨⟨⟨⟨h1, h2⟩, h3⟩, h4⟩, h5⟩, h6⟩, h7⟩ := h
  exact ⟨h1, h2, h3, h4, h5, h6, h7⟩
end EN
/-! From the looks at the written part to the law. -/
namespace EN
open PySem PySem.Spec PyProof.Rows L2
section
variable {K : PySem.W.Frag} {mg : Str → Option Value} {h base : Heap} {C : Cc} {T : Tb} {fds : Nat → Option Fd} {n : Nat} {P : Program} {w : World}
theorem fnL_mk {x ql : Str} {st : Stmt} {f : Addr} {oc : Value} {od : Option Addr} {kV doc pm : Value} {an : Option Addr} {cdv ct : Value} {osl : Array (Option Value)} (a : PySem.W.nsIn K mainGlobals x = some (some (.ref f)))
    (l : K.lookup f = some ⟨oc, od, .func (PySem.W.fnOf x ql (defArgs st) (defBody st) (defScope st) .none kV doc pm an cdv ct), osl⟩) (c : PySem.W.codeIn K cdv ql = true) : FnL K x ql st (adr K x) := by
  have e : adr K x = f := by unfold adr; rw [a]
  rw [e]
  exact ⟨oc, od, kV, doc, pm, an, cdv, ct, osl, l, c⟩
theorem iniL_mk {cn x ql : Str} {st : Stmt} {D f : Addr} {oc : Value} {od : Option Addr} {kV doc pm : Value} {an : Option Addr} {cdv ct : Value} {osl : Array (Option Value)} (b : PySem.W.nsIn K mainGlobals cn = some (some (.ref D))) (a : PySem.W.findIn K (.ref D) "__init__" = some (some (.ref f)))
    (l : K.lookup f = some ⟨oc, od, .func (PySem.W.fnOf x ql (defArgs st) (defBody st) (defScope st) .none kV doc pm an cdv ct), osl⟩) (c : PySem.W.codeIn K cdv ql = true) : FnL K x ql st (iad K (adr K cn)) := by
  have e : adr K cn = D := by unfold adr; rw [b]
  have e2 : iad K D = f := by unfold iad; rw [a]
  rw [e, e2]
  exact ⟨oc, od, kV, doc, pm, an, cdv, ct, osl, l, c⟩
theorem clL_mk {cn : Str} {D : Addr} {nm q : Str} {M : Addr} {bs bm : List Value} {sn : List Str} {sub : List Value} {ab : Bool} {col : Option Bool} {dd : Option Addr} {k0 k1 k2 k3 k5 : Option Value} (b : PySem.W.nsIn K mainGlobals cn = some (some (.ref D)))
    (l : K.lookup D = some (excClassObj nm q D M bs bm true sn sub ab col dd k0 k1 k2 k3 k5 "ValueError.__new__")) (r : PySem.HandSPX.refsVE bm = true) : ClL K (adr K cn) := by
  have e : adr K cn = D := by unfold adr; rw [b]
  rw [e]
  exact ⟨nm, q, M, bs, bm, sn, sub, ab, col, dd, k0, k1, k2, k3, k5, l, r⟩
/-- what is said of the text apart from the heap -/
structure TxtS (C : Cc) (T : Tb) (fds : Nat → Option Fd) (n : Nat) (N ps : Nat → List Str) (ql : Nat → Str) (st : Nat → Stmt) (qi : Nat → Str) (Ni : Nat → List Str) (sti : Nat → Stmt) : Prop where
  cl : ∀ f, C.cl false f = true → f < n
  chk : ∀ f, C.cl false f = true → scB (N f) (ps f) (defScope (st f)) = true ∧ ∃ d, fds f = some d ∧ cSs C T (N f) false (defScope (st f)) d.body (defBody (st f)) = true ∧ (ps f).length = d.np ∧ (N f).length = d.ns
  hot : ∀ f, C.cl true f = true → C.cl false f = true ∧ ∀ d, fds f = some d → cSs C T (N f) true (defScope (st f)) d.body (defBody (st f)) = true ∧ d.body.noTry = true
  bnd : ∀ f, C.cl false f = true → BndL (C.gn f) (ql f) (st f) (ps f)
  bnk : ∀ f, C.cl false f = true → C.kw f = true → C.pn f = ps f ∧ BndKL (C.gn f) (ql f) (st f) (ps f)
  nc : T.nc = 0
  ini : ∀ c, c < T.ne → T.ef c ≠ [] → scB (Ni c) (Ni c) (defScope (sti c)) = true ∧ iB (defScope (sti c)) (Ni c) (T.ef c) 0 (defBody (sti c)) = true ∧ (Ni c).length = (T.ef c).length + 1 ∧ BndL "__init__" (qi c) (sti c) (Ni c)
theorem all_lt {n : Nat} {p : Nat → Bool} (h : (List.range n).all p = true) {i : Nat} (hi : i < n) : p i = true := List.all_eq_true.mp h i (List.mem_range.mpr hi)
theorem tyD_rep (g : G0) (d : D) (hd : ∀ c fs, d ≠ .obj c fs) : ∃ e ∈ allD, tyD g d = tyD g e ∧ ∀ t, isTy d t = isTy e t := by
  cases d with
  | non => exact ⟨.non, by simp [allD], rfl, fun t => rfl⟩
  | bl b => exact ⟨.bl true, by simp [allD], rfl, fun t => by cases t <;> rfl⟩
  | int i => exact ⟨.int 0, by simp [allD], rfl, fun t => by cases t <;> rfl⟩
  | str x => exact ⟨.str "", by simp [allD], rfl, fun t => by cases t <;> rfl⟩
  | tup ds => exact ⟨.tup [], by simp [allD], rfl, fun t => by cases t <;> rfl⟩
  | lst ds => exact ⟨.lst [], by simp [allD], rfl, fun t => by cases t <;> rfl⟩
  | scr ns => exact ⟨.scr [], by simp [allD], rfl, fun t => by cases t <;> rfl⟩
  | dK ks vs => exact ⟨.dK [] [], by simp [allD], rfl, fun t => by cases t <;> rfl⟩
  | dT ks vs => exact ⟨.dT [] [], by simp [allD], rfl, fun t => by cases t <;> rfl⟩
  | obj c fs => exact absurd rfl (hd c fs)
theorem allT_mem {T : Tb} {t : TY} (h : T.tok t = true) : t ∈ allT T := by
  unfold allT
  cases t with
  | exc c => exact List.mem_append_left _ (List.mem_append_right _ (List.mem_map.mpr ⟨c, List.mem_range.mpr (of_decide_eq_true h), rfl⟩))
  | cls c => exact List.mem_append_right _ (List.mem_map.mpr ⟨c, List.mem_range.mpr (of_decide_eq_true h), rfl⟩)
  | _ => exact List.mem_append_left _ (List.mem_append_left _ (by simp))
theorem txt_of {N ps : Nat → List Str} {ql : Nat → Str} {st : Nat → Stmt} {qi : Nat → Str} {Ni : Nat → List Str} {sti : Nat → Stmt} (S : TxtS C T fds n N ps ql st qi Ni sti) (X : K.In h) (G : h.Ns mainGlobals mg) (hk : kB K C T n = true)
    (fns : ∀ f, f < n → FnL K (C.gn f) (ql f) (st f) (adr K (C.gn f))) (cls : ∀ c, c < T.ne → ClL K (adr K (C.en c))) (ini : ∀ c, c < T.ne → T.ef c ≠ [] → FnL K "__init__" (qi c) (sti c) (iad K (adr K (C.en c)))) :
    Txt P w K mg base C (gOf K C T) fds N ps ql st (fun f => adr K (C.gn f)) (fun f => fdOf K (adr K (C.gn f))) := by
  unfold kB at hk
  obtain ⟨hk, k6⟩ := and2 hk
  obtain ⟨hk, k5⟩ := and2 hk
  obtain ⟨hk, kk⟩ := and2 hk
  obtain ⟨hk, k4⟩ := and2 hk
  obtain ⟨hk, k3⟩ := and2 hk
  obtain ⟨k1, k2⟩ := and2 hk
  have kf : ∀ f, f < n → PySem.W.nsIn K mainGlobals (C.gn f) = some (some (.ref (adr K (C.gn f)))) ∧ PySem.W.keepIn K (.ref (adr K (C.gn f))) = true := fun f hf => let z := and2 (all_lt k2 hf); ⟨of_decide_eq_true z.1, z.2⟩
  have ke := fun c (hc : c < T.ne) => all_lt k3 hc
  have ex : ∀ c, c < T.ne → HotK K (gOf K C T) (adr K (C.en c)) ∧ PySem.W.nsIn K mainGlobals (C.en c) = some (some (.ref (adr K (C.en c)))) ∧ PySem.W.findIn K (.ref (adr K (C.en c))) "__setattr__" = some (some (.builtin "object.__setattr__")) ∧ PySem.W.typeIn K (.ref (adr K (C.en c))) = some (.type "type") ∧ PySem.W.keepIn K (.ref (adr K (C.en c))) = true := fun c hc => by
    have z := ke c hc
    obtain ⟨z, _⟩ := and2 z
    obtain ⟨z, _⟩ := and2 z
    obtain ⟨z, _⟩ := and2 z
    obtain ⟨z, zn⟩ := and2 z
    obtain ⟨z1, zb⟩ := and2 z
    unfold excB at zb
    obtain ⟨zb, b9⟩ := and2 zb
    obtain ⟨zb, b8⟩ := and2 zb
    obtain ⟨zb, b7⟩ := and2 zb
    obtain ⟨zb, b6⟩ := and2 zb
    obtain ⟨zb, b5⟩ := and2 zb
    obtain ⟨zb, b4⟩ := and2 zb
    obtain ⟨zb, b3⟩ := and2 zb
    obtain ⟨b1, b2⟩ := and2 zb
    refine ⟨⟨⟨of_decide_eq_true b1, of_decide_eq_true b2, of_decide_eq_true b3, b4, of_decide_eq_true b5, of_decide_eq_true k5, of_decide_eq_true k6, of_decide_eq_true b6⟩, fun m hm => ?_⟩, of_decide_eq_true z1, of_decide_eq_true b7, of_decide_eq_true b8, b9⟩
    obtain ⟨k, hk, hm⟩ := hm
    exact of_decide_eq_true (List.all_eq_true.mp (all_lt zn hk) m hm)
  have oex : ∀ c, c < T.ne → OexC K (adr K (C.en c)) := fun c hc => let ⟨a, _, b, d, e⟩ := ex c hc; ⟨cls c hc, b, a.c.hs, d, e⟩
  refine
    { pn := rfl
      hK := rfl
      kf := ⟨fun d t ht hd => ?_, fun c t ht hc => ?_, fun c hc => ?_, fun c k hc hk => ?_, of_decide_eq_true k5, of_decide_eq_true k6⟩
      bl := fun x hx => PySem.W.mg_none_of X G (of_decide_eq_true (List.all_eq_true.mp k1 x hx))
      en := fun c hc => PySem.W.mg_of X G (ex c hc).2.1
      cn := fun c hc => ?_
      kc := fun n hn => by
        have z := all_lt kk hn
        split at z
        · rename_i u e
          exact ⟨u, PySem.W.mg_of X G e, rel_of z⟩
        · cases z
      kw := fun f hf hw => ?_
      fn := fun f hf => ?_
      fh := S.hot
      ek := fun c hc => (ex c hc).1
      er := fun c hc => ⟨oex c hc, fun ne => ?_⟩ }
  · have hd2 : ∀ c fs, d ≠ .obj c fs := fun c fs z => by
      have := hd c fs z
      have this : c < T.nc := this
      rw [S.nc] at this
      exact absurd this (Nat.not_lt_zero _)
    obtain ⟨e, he, e1, e2⟩ := tyD_rep (gOf K C T) d hd2
    rw [e1, e2]
    exact of_decide_eq_true (List.all_eq_true.mp (List.all_eq_true.mp k4 e he) t (allT_mem ht))
  · have z := (and2 (ke c hc)).2
    exact of_decide_eq_true (List.all_eq_true.mp z t (allT_mem ht))
  · have hc : c < T.nc := hc
    rw [S.nc] at hc
    exact absurd hc (Nat.not_lt_zero _)
  · have z := (and2 (and2 (ke c hc)).1).2
    exact of_decide_eq_true (all_lt z hk)
  · have hc : c < T.nc := hc
    rw [S.nc] at hc
    exact absurd hc (Nat.not_lt_zero _)
  · obtain ⟨a, b⟩ := S.bnk f hf hw
    exact ⟨a, kwb_of ((fns f (S.cl f hf)).fn (kf f (S.cl f hf)).2) b⟩
  · obtain ⟨sc, d, e1, e2, e3, e4⟩ := S.chk f hf
    have F := (fns f (S.cl f hf)).fn (kf f (S.cl f hf)).2
    exact ⟨F, sc_of sc, PySem.W.mg_of X G (kf f (S.cl f hf)).1, F.binds (S.bnd f hf), d, e1, e2, e3, e4⟩
  · have z := (and2 (and2 (and2 (ke c hc)).1).1).2
    have ne : T.ef c ≠ [] := ne
    have z2 : (decide (PySem.W.findIn K (.ref (adr K (C.en c))) "__init__" = some (some (.ref (iad K (adr K (C.en c)))))) && decide (PySem.W.typeIn K (.ref (iad K (adr K (C.en c)))) = some (.type "function")) && PySem.W.keepIn K (.ref (iad K (adr K (C.en c))))) = true := by
      rcases Bool.or_eq_true_iff.mp z with y | y
      · cases e : T.ef c with
        | nil => exact absurd e ne
        | cons a b => rw [e] at y; cases y
      · exact y
    obtain ⟨y, y3⟩ := and2 z2
    obtain ⟨y1, y2⟩ := and2 y
    obtain ⟨s1, s2, s3, s4⟩ := S.ini c hc ne
    have F := (ini c hc ne).fn y3
    exact ⟨_, _, Ni c, of_decide_eq_true y1, of_decide_eq_true y2, init_ok (g := gOf K C T) F (sc_of s1) (oex c hc) s2 s3 fun m hm => (ex c hc).1.no m ⟨c, hc, hm⟩, F.binds s4⟩
/-- the law: it is called with the script -/
def spLaw (K : PySem.W.Frag) : Sp := fun vs H Q _ => ∃ (a : Addr) (ns : List Int), vs = [.ref a] ∧ SqL K H a (ns.map V.int) ∧ ns.length ≤ 63 ∧ ∀ H', Q (.bl true) H'
theorem law_sp {g : G0} {k f : Nat} (hr : ∀ ns : List Int, ns.length ≤ 63 → ∃ ps, runF T fds k f [.d (.scr ns)] = .ok (.d (.bl true)) ps) {vs : List V} {H : Hp} {Q : VK} {E : XK} (hs : spLaw g.K vs H Q E) : spN g (runF T fds k) f vs H Q E := by
  obtain ⟨a, ns, rfl, hS, hl, hq⟩ := hs
  obtain ⟨ps, e⟩ := hr ns hl
  let F : Hp := fun b => if b = a then H a else none
  have sm : Same F H := fun b o h => by
    by_cases hb : b = a
    · subst hb; exact (if_pos rfl).symm.trans h
    · rw [show F b = none from if_neg hb] at h; cases h
  have hF : SqL g.K F a (ns.map V.int) := by
    rcases hS with (x | ⟨o, x⟩) | x
    · exact .inl (.inl ((if_pos rfl).trans x))
    · exact .inl (.inr ⟨o, (if_pos rfl).trans x⟩)
    · exact .inr x
  refine ⟨[.d (.scr ns)], F, ⟨sm, rfl, fun i => ?_, fun i j p ne x y => ?_⟩, ?_⟩
  · cases i with
    | zero => exact .d rfl (.scr hF)
    | succ i => exact .un
  · obtain ⟨⟨c, z⟩, _⟩ := x
    cases i with
    | zero => cases z
    | succ i => cases z
  · rw [e]
    intro x F' H' out rv
    have rv : Rep g F' x (.bl true) := rv
    cases rv
    exact hq H'
end
end EN
namespace K74
open PySem EN
def b_read_integer : ISs :=
 (.cons (.asg 1 (.bm .rmp (.var 0) (.cons (.lit (.str "-")) .nil)))
 (.cons (.ifS (.not (.ch .le .le (.lit (.int 1)) (.bi .len (.cons (.var 1) .nil)) (.gc 0))) (.cons (.ret (.lit .non))
 .nil) .nil)
 (.cons (.ifS (.not (.bi .all (.cons (.lc (.ch .le .le (.lit (.str "0")) (.var 2) (.lit (.str "9"))) 2 (.txt (.var 1)) false (.lit (.bl true))) .nil))) (.cons (.ret (.lit .non))
 .nil) .nil)
 (.cons (.asg 3 (.bi .int (.cons (.var 0) .nil)))
 (.cons (.ret (.ife (.cmp .eq (.bi .str (.cons (.var 3) .nil)) (.var 0)) (.var 3) (.lit .non)))
 .nil)))))
def b_told : ISs :=
 (.cons (.ifS (.isN (.var 0)) (.cons (.ret (.gc 2))
 .nil) .nil)
 (.cons (.ifS (.isi (.var 0) .str) (.cons (.ret (.bin .add (.bin .add (.gc 1) (.var 0)) (.gc 1)))
 .nil) .nil)
 (.cons (.ifS (.not (.isi (.var 0) .tuple)) (.cons (.ret (.bi .str (.cons (.var 0) .nil)))
 .nil) .nil)
 (.cons (.ifS (.cmp .eq (.bi .len (.cons (.var 0) .nil)) (.lit (.int 1))) (.cons (.ret (.bin .add (.bin .add (.lit (.str "(")) (.call 1 (.cons (.ix (.var 0) (.lit (.int 0))) .nil))) (.lit (.str ",)"))))
 .nil) .nil)
 (.cons (.ret (.bin .add (.bin .add (.lit (.str "(")) (.bm .join (.lit (.str ",")) (.cons (.lc (.call 1 (.cons (.var 1) .nil)) 1 (.e (.var 0)) false (.lit (.bl true))) .nil))) (.lit (.str ")"))))
 .nil)))))
def b_untold : ISs :=
 (.cons (.asgT [1, 2] (.call 3 (.cons (.var 0) (.cons (.lit (.int 0)) (.cons (.gc 3) .nil)))))
 (.cons (.ifS (.cmp .lt (.var 2) (.bi .len (.cons (.var 0) .nil))) (.cons (.raise 1 (.cons (.var 0) (.cons (.var 2) .nil)))
 .nil) .nil)
 (.cons (.ret (.var 1))
 .nil)))
def b__read_value : ISs :=
 (.cons (.ifS (.cmp .eq (.slc (.var 0) (.var 1) (.bin .add (.var 1) (.lit (.int 1)))) (.lit (.str "("))) (.cons (.ret (.call 4 (.cons (.var 0) (.cons (.var 1) (.cons (.var 2) .nil)))))
 .nil) .nil)
 (.cons (.ifS (.cmp .eq (.slc (.var 0) (.var 1) (.bin .add (.var 1) (.lit (.int 1)))) (.gc 1)) (.cons (.ret (.call 5 (.cons (.var 0) (.cons (.var 1) .nil))))
 .nil) .nil)
 (.cons (.ifS (.cmp .eq (.slc (.var 0) (.var 1) (.bin .add (.var 1) (.bi .len (.cons (.gc 2) .nil)))) (.gc 2)) (.cons (.ret (.tup (.cons (.lit .non) (.cons (.bin .add (.var 1) (.bi .len (.cons (.gc 2) .nil))) .nil))))
 .nil) .nil)
 (.cons (.ret (.call 6 (.cons (.var 0) (.cons (.var 1) .nil))))
 .nil))))
def b__read_tuple : ISs :=
 (.cons (.ifS (.cmp .eq (.var 2) (.lit (.int 0))) (.cons (.raise 1 (.cons (.var 0) (.cons (.var 1) .nil)))
 .nil) .nil)
 (.cons (.ifS (.cmp .eq (.slc (.var 0) (.bin .add (.var 1) (.lit (.int 1))) (.bin .add (.var 1) (.lit (.int 2)))) (.lit (.str ")"))) (.cons (.ret (.tup (.cons (.tup .nil) (.cons (.bin .add (.var 1) (.lit (.int 2))) .nil))))
 .nil) .nil)
 (.cons (.asg 3 (.lst .nil))
 (.cons (.asg 4 (.var 1))
 (.cons (.whl (.cmp .ne (.slc (.var 0) (.var 4) (.bin .add (.var 4) (.lit (.int 1)))) (.lit (.str ")"))) (.cons (.asgT [5, 4] (.call 3 (.cons (.var 0) (.cons (.bin .add (.var 4) (.lit (.int 1))) (.cons (.bin .sub (.var 2) (.lit (.int 1))) .nil)))))
 (.cons (.app 3 (.var 5))
 (.cons (.ifS (.and (.cmp .eq (.bi .len (.cons (.var 3) .nil)) (.lit (.int 1))) (.cmp .eq (.slc (.var 0) (.var 4) (.bin .add (.var 4) (.lit (.int 2)))) (.lit (.str ",)")))) (.cons (.ret (.tup (.cons (.tup (.cons (.var 5) .nil)) (.cons (.bin .add (.var 4) (.lit (.int 2))) .nil))))
 .nil) .nil)
 (.cons (.ifS (.cmp .notin (.slc (.var 0) (.var 4) (.bin .add (.var 4) (.lit (.int 1)))) (.tup (.cons (.lit (.str ",")) (.cons (.lit (.str ")")) .nil)))) (.cons (.raise 1 (.cons (.var 0) (.cons (.var 4) .nil)))
 .nil) .nil)
 .nil)))))
 (.cons (.ifS (.cmp .eq (.bi .len (.cons (.var 3) .nil)) (.lit (.int 1))) (.cons (.raise 1 (.cons (.var 0) (.cons (.var 4) .nil)))
 .nil) .nil)
 (.cons (.ret (.tup (.cons (.bi .tuple (.cons (.var 3) .nil)) (.cons (.bin .add (.var 4) (.lit (.int 1))) .nil))))
 .nil)))))))
def b__read_word : ISs :=
 (.cons (.asg 2 (.bm .find (.var 0) (.cons (.gc 1) (.cons (.bin .add (.var 1) (.lit (.int 1))) .nil))))
 (.cons (.ifS (.or (.cmp .le (.var 2) (.bin .add (.var 1) (.lit (.int 1)))) (.not (.bi .all (.cons (.lc (.or (.cmp .eq (.var 3) (.lit (.str " "))) (.ch .le .le (.lit (.str "a")) (.var 3) (.lit (.str "z")))) 3 (.txt (.slc (.var 0) (.bin .add (.var 1) (.lit (.int 1))) (.var 2))) false (.lit (.bl true))) .nil)))) (.cons (.raise 1 (.cons (.var 0) (.cons (.var 1) .nil)))
 .nil) .nil)
 (.cons (.ret (.tup (.cons (.slc (.var 0) (.bin .add (.var 1) (.lit (.int 1))) (.var 2)) (.cons (.bin .add (.var 2) (.lit (.int 1))) .nil))))
 .nil)))
def b__read_integer : ISs :=
 (.cons (.asg 2 (.var 1))
 (.cons (.whl (.cmp .notin (.slc (.var 0) (.var 2) (.bin .add (.var 2) (.lit (.int 1)))) (.tup (.cons (.lit (.str "")) (.cons (.lit (.str ",")) (.cons (.lit (.str ")")) .nil))))) (.cons (.aug 2 .add (.lit (.int 1)))
 .nil))
 (.cons (.asg 3 (.call 0 (.cons (.slc (.var 0) (.var 1) (.var 2)) .nil)))
 (.cons (.ifS (.isN (.var 3)) (.cons (.raise 1 (.cons (.var 0) (.cons (.var 1) .nil)))
 .nil) .nil)
 (.cons (.ret (.tup (.cons (.var 3) (.cons (.var 2) .nil))))
 .nil)))))
def b__law_draws : ISs :=
 (.cons (.asg 3 (.lit (.int 0)))
 (.cons (.asg 4 (.lit (.int 0)))
 (.cons (.ifS (.cmp .lt (.var 1) (.bi .len (.cons (.var 0) .nil))) (.cons (.asg 3 (.bi .int (.cons (.ix (.var 0) (.var 1)) .nil)))
 (.cons (.asg 4 (.bi .max (.cons (.lit (.int 0)) (.cons (.bin .sub (.var 3) (.bin .pow (.lit (.int 10)) (.lit (.int 18)))) .nil))))
 .nil)) (.cons (.ifS (.cmp .gt (.bi .len (.cons (.var 0) .nil)) (.lit (.int 0))) (.cons (.asg 3 (.bi .int (.cons (.ix (.var 0) (.bin .mod (.bi .int (.cons (.var 1) .nil)) (.bi .len (.cons (.var 0) .nil)))) .nil)))
 .nil) .nil)
 .nil))
 (.cons (.asg 5 (.lst .nil))
 (.cons (.forS 6 (.rng (.bi .len (.cons (.var 2) .nil))) (.cons (.ifS (.cmp .gt (.var 4) (.lit (.int 0))) (.cons (.app 5 (.bin .mod (.bi .int (.cons (.var 4) .nil)) (.ix (.var 2) (.var 6))))
 (.cons (.asg 4 (.bin .fdiv (.var 4) (.ix (.var 2) (.var 6))))
 .nil)) (.cons (.asg 7 (.bin .mod (.bi .int (.cons (.bin .add (.bin .add (.bin .add (.bin .mul (.var 3) (.lit (.int 48271))) (.bin .mul (.var 1) (.lit (.int 69621)))) (.bin .mul (.var 6) (.lit (.int 40692)))) (.lit (.int 12345))) .nil)) (.lit (.int 2147483647))))
 (.cons (.asg 7 (.bin .mod (.bi .int (.cons (.bin .add (.bin .add (.bin .mul (.var 7) (.var 7)) (.bin .mul (.var 6) (.lit (.int 16807)))) (.lit (.int 271))) .nil)) (.lit (.int 2147483563))))
 (.cons (.asg 7 (.bin .mod (.bi .int (.cons (.bin .add (.bin .add (.bin .mul (.var 7) (.var 7)) (.bin .mul (.var 7) (.lit (.int 39373)))) (.lit (.int 7))) .nil)) (.lit (.int 2147483399))))
 (.cons (.app 5 (.bin .mod (.bin .fdiv (.var 7) (.lit (.int 16))) (.ix (.var 2) (.var 6))))
 .nil)))))
 .nil))
 (.cons (.ret (.var 5))
 .nil))))))
def b__law_equal : ISs :=
 (.cons (.ifS (.isN (.var 1)) (.cons (.ret (.isN (.var 0)))
 .nil) .nil)
 (.cons (.ifS (.isi (.var 1) .bool) (.cons (.ret (.and (.isi (.var 0) .bool) (.cmp .eq (.var 0) (.var 1))))
 .nil) .nil)
 (.cons (.ifS (.isi (.var 1) .int) (.cons (.ret (.and (.isi (.var 0) .int) (.and (.not (.isi (.var 0) .bool)) (.cmp .eq (.var 0) (.var 1)))))
 .nil) .nil)
 (.cons (.ifS (.isi (.var 1) .str) (.cons (.ret (.and (.isi (.var 0) .str) (.cmp .eq (.var 0) (.var 1))))
 .nil) .nil)
 (.cons (.ifS (.or (.not (.isi (.var 0) .tuple)) (.cmp .ne (.bi .len (.cons (.var 0) .nil)) (.bi .len (.cons (.var 1) .nil)))) (.cons (.ret (.lit (.bl false)))
 .nil) .nil)
 (.cons (.forS 2 (.rng (.bi .len (.cons (.var 1) .nil))) (.cons (.ifS (.not (.call 8 (.cons (.ix (.var 0) (.var 2)) (.cons (.ix (.var 1) (.var 2)) .nil)))) (.cons (.ret (.lit (.bl false)))
 .nil) .nil)
 .nil))
 (.cons (.ret (.lit (.bl true)))
 .nil)))))))
def b__law_integer : ISs :=
 (.cons (.asg 1 (.bin .add (.ix (.var 0) (.lit (.int 1))) (.bin .mul (.bin .pow (.lit (.int 10)) (.lit (.int 6))) (.ix (.var 0) (.lit (.int 2))))))
 (.cons (.ifS (.cmp .lt (.ix (.var 0) (.lit (.int 0))) (.lit (.int 3))) (.cons (.asg 1 (.ix (.lst (.cons (.lit (.int 0)) (.cons (.lit (.int 1)) (.cons (.bin .sub (.bin .pow (.lit (.int 10)) (.lit (.int 12))) (.lit (.int 1))) .nil)))) (.ix (.var 0) (.lit (.int 0)))))
 .nil) .nil)
 (.cons (.ifS (.cmp .gt (.ix (.var 0) (.lit (.int 0))) (.lit (.int 4))) (.cons (.asg 1 (.bin .mod (.bi .int (.cons (.ix (.var 0) (.lit (.int 1))) .nil)) (.ix (.lst (.cons (.lit (.int 10)) (.cons (.lit (.int 1000)) (.cons (.bin .pow (.lit (.int 10)) (.lit (.int 6))) .nil)))) (.bin .sub (.ix (.var 0) (.lit (.int 0))) (.lit (.int 5))))))
 .nil) .nil)
 (.cons (.ifS (.cmp .eq (.bin .mod (.bi .int (.cons (.ix (.var 0) (.lit (.int 2))) .nil)) (.lit (.int 2))) (.lit (.int 1))) (.cons (.ret (.bin .sub (.lit (.int 0)) (.var 1)))
 .nil) .nil)
 (.cons (.ret (.var 1))
 .nil)))))
def b__law_word : ISs :=
 (.cons (.asg 1 (.lit (.str "")))
 (.cons (.asg 2 (.bin .add (.ix (.var 0) (.lit (.int 1))) (.bin .mul (.bin .pow (.lit (.int 10)) (.lit (.int 6))) (.ix (.var 0) (.lit (.int 2))))))
 (.cons (.forS 3 (.rng (.bin .add (.lit (.int 1)) (.ix (.var 0) (.lit (.int 0))))) (.cons (.asg 1 (.bin .add (.var 1) (.ix (.lit (.str "abcdefghijklmnopqrstuvwxyz  ")) (.bin .mod (.bi .int (.cons (.var 2) .nil)) (.lit (.int 28))))))
 (.cons (.asg 2 (.bin .fdiv (.var 2) (.lit (.int 28))))
 .nil)))
 (.cons (.ifS (.cmp .eq (.bin .mod (.bi .int (.cons (.ix (.var 0) (.lit (.int 2))) .nil)) (.lit (.int 7))) (.lit (.int 3))) (.cons (.ret (.bin .mul (.lit (.str " ")) (.bi .len (.cons (.var 1) .nil))))
 .nil) .nil)
 (.cons (.ret (.var 1))
 .nil)))))
def b__law_leaf : ISs :=
 (.cons (.asg 2 (.call 7 (.cons (.var 0) (.cons (.var 1) (.cons (.lst (.cons (.lit (.int 6)) (.cons (.lit (.int 8)) (.cons (.bin .pow (.lit (.int 10)) (.lit (.int 6))) (.cons (.bin .pow (.lit (.int 10)) (.lit (.int 6))) (.cons (.lit (.int 13)) .nil)))))) .nil)))))
 (.cons (.ifS (.cmp .lt (.ix (.var 2) (.lit (.int 0))) (.lit (.int 2))) (.cons (.ret (.call 9 (.cons (.slc (.var 2) (.lit (.int 1)) (.lit .non)) .nil)))
 .nil) .nil)
 (.cons (.ifS (.cmp .lt (.ix (.var 2) (.lit (.int 0))) (.lit (.int 4))) (.cons (.ret (.call 10 (.cons (.lst (.cons (.ix (.var 2) (.lit (.int 4))) (.cons (.ix (.var 2) (.lit (.int 2))) (.cons (.ix (.var 2) (.lit (.int 3))) .nil)))) .nil)))
 .nil) .nil)
 (.cons (.ifS (.cmp .eq (.ix (.var 2) (.lit (.int 0))) (.lit (.int 4))) (.cons (.ret (.lit .non))
 .nil) .nil)
 (.cons (.ret (.tup .nil))
 .nil)))))
def b__law_value : ISs :=
 (.cons (.asg 1 (.call 7 (.cons (.var 0) (.cons (.lit (.int 0)) (.cons (.lst (.cons (.lit (.int 6)) (.cons (.lit (.int 20)) .nil))) .nil)))))
 (.cons (.asg 2 (.call 11 (.cons (.var 0) (.cons (.lit (.int 1)) .nil))))
 (.cons (.asg 3 (.ix (.lst (.cons (.lit (.int 0)) (.cons (.lit (.int 1)) (.cons (.lit (.int 2)) (.cons (.lit (.int 3)) (.cons (.lit (.int 3)) (.cons (.ix (.var 1) (.lit (.int 1))) .nil))))))) (.ix (.var 1) (.lit (.int 0)))))
 (.cons (.forS 4 (.rng (.var 3)) (.cons (.asg 5 (.call 7 (.cons (.var 0) (.cons (.bin .add (.lit (.int 2)) (.var 4)) (.cons (.lst (.cons (.lit (.int 6)) (.cons (.lit (.int 4)) .nil))) .nil)))))
 (.cons (.asg 6 (.ix (.lst (.cons (.lit (.int 1)) (.cons (.lit (.int 1)) (.cons (.lit (.int 2)) (.cons (.lit (.int 3)) (.cons (.lit (.int 6)) (.cons (.lit (.int 2)) .nil))))))) (.ix (.var 5) (.lit (.int 0)))))
 (.cons (.ifS (.and (.cmp .gt (.var 3) (.lit (.int 4))) (.cmp .gt (.var 6) (.lit (.int 2)))) (.cons (.asg 6 (.lit (.int 1)))
 .nil) .nil)
 (.cons (.asg 7 (.lc (.call 11 (.cons (.var 0) (.cons (.bin .add (.lit (.int 22)) (.bin .mod (.bi .int (.cons (.bin .add (.bin .mul (.lit (.int 4)) (.var 4)) (.var 8)) .nil)) (.lit (.int 36)))) .nil))) 8 (.rng (.var 6)) false (.lit (.bl true))))
 (.cons (.put 7 (.bin .mod (.bi .int (.cons (.ix (.var 5) (.lit (.int 1))) .nil)) (.var 6)) (.var 2))
 (.cons (.asg 2 (.bi .tuple (.cons (.var 7) .nil)))
 .nil)))))))
 (.cons (.ret (.var 2))
 .nil)))))
def b__law_text : ISs :=
 (.cons (.ifS (.isN (.var 0)) (.cons (.ret (.lit (.str "none")))
 .nil) .nil)
 (.cons (.ifS (.isi (.var 0) .int) (.cons (.ret (.bi .str (.cons (.var 0) .nil)))
 .nil) .nil)
 (.cons (.ifS (.isi (.var 0) .str) (.cons (.ret (.bin .add (.bin .add (.lit (.str "\"")) (.var 0)) (.lit (.str "\""))))
 .nil) .nil)
 (.cons (.asg 1 (.lc (.call 13 (.cons (.var 2) .nil)) 2 (.e (.var 0)) false (.lit (.bl true))))
 (.cons (.ifS (.cmp .eq (.bi .len (.cons (.var 1) .nil)) (.lit (.int 1))) (.cons (.ret (.bin .add (.bin .add (.lit (.str "(")) (.ix (.var 1) (.lit (.int 0)))) (.lit (.str ",)"))))
 .nil) .nil)
 (.cons (.ret (.bin .add (.bin .add (.lit (.str "(")) (.bm .join (.lit (.str ",")) (.cons (.var 1) .nil))) (.lit (.str ")"))))
 .nil))))))
def b__law_read_word : ISs :=
 (.cons (.asg 2 (.bin .add (.var 1) (.lit (.int 1))))
 (.cons (.whl (.and (.cmp .lt (.var 2) (.bi .len (.cons (.var 0) .nil))) (.cmp .isin (.ix (.var 0) (.var 2)) (.lit (.str "abcdefghijklmnopqrstuvwxyz ")))) (.cons (.asg 2 (.bin .add (.var 2) (.lit (.int 1))))
 .nil))
 (.cons (.ifS (.or (.cmp .eq (.var 2) (.bin .add (.var 1) (.lit (.int 1)))) (.cmp .ne (.slc (.var 0) (.var 2) (.bin .add (.var 2) (.lit (.int 1)))) (.lit (.str "\"")))) (.cons (.ret (.tup (.cons (.neg (.lit (.int 1))) (.cons (.lit .non) .nil))))
 .nil) .nil)
 (.cons (.ret (.tup (.cons (.bin .add (.var 2) (.lit (.int 1))) (.cons (.slc (.var 0) (.bin .add (.var 1) (.lit (.int 1))) (.var 2)) .nil))))
 .nil))))
def b__law_read_integer : ISs :=
 (.cons (.asg 2 (.var 1))
 (.cons (.ifS (.cmp .eq (.slc (.var 0) (.var 1) (.bin .add (.var 1) (.lit (.int 1)))) (.lit (.str "-"))) (.cons (.asg 2 (.bin .add (.var 1) (.lit (.int 1))))
 .nil) .nil)
 (.cons (.asg 3 (.var 2))
 (.cons (.whl (.and (.cmp .lt (.var 3) (.bi .len (.cons (.var 0) .nil))) (.cmp .isin (.ix (.var 0) (.var 3)) (.lit (.str "0123456789")))) (.cons (.asg 3 (.bin .add (.var 3) (.lit (.int 1))))
 .nil))
 (.cons (.asg 4 (.slc (.var 0) (.var 2) (.var 3)))
 (.cons (.ifS (.or (.cmp .lt (.bi .len (.cons (.var 4) .nil)) (.lit (.int 1))) (.or (.cmp .gt (.bi .len (.cons (.var 4) .nil)) (.lit (.int 12))) (.and (.cmp .eq (.ix (.var 4) (.lit (.int 0))) (.lit (.str "0"))) (.or (.cmp .gt (.bi .len (.cons (.var 4) .nil)) (.lit (.int 1))) (.cmp .gt (.var 2) (.var 1)))))) (.cons (.ret (.tup (.cons (.neg (.lit (.int 1))) (.cons (.lit .non) .nil))))
 .nil) .nil)
 (.cons (.ret (.tup (.cons (.var 3) (.cons (.bi .int (.cons (.slc (.var 0) (.var 1) (.var 3)) .nil)) .nil))))
 .nil)))))))
def b__law_read : ISs :=
 (.cons (.ifS (.cmp .eq (.slc (.var 0) (.var 1) (.bin .add (.var 1) (.lit (.int 4)))) (.lit (.str "none"))) (.cons (.ret (.tup (.cons (.bin .add (.var 1) (.lit (.int 4))) (.cons (.lit .non) .nil))))
 .nil) .nil)
 (.cons (.ifS (.cmp .eq (.slc (.var 0) (.var 1) (.bin .add (.var 1) (.lit (.int 1)))) (.lit (.str "\""))) (.cons (.ret (.call 14 (.cons (.var 0) (.cons (.var 1) .nil))))
 .nil) .nil)
 (.cons (.ifS (.cmp .ne (.slc (.var 0) (.var 1) (.bin .add (.var 1) (.lit (.int 1)))) (.lit (.str "("))) (.cons (.ret (.call 15 (.cons (.var 0) (.cons (.var 1) .nil))))
 .nil) .nil)
 (.cons (.ifS (.cmp .gt (.var 2) (.lit (.int 19))) (.cons (.ret (.tup (.cons (.neg (.lit (.int 1))) (.cons (.lit .non) .nil))))
 .nil) .nil)
 (.cons (.ifS (.cmp .eq (.slc (.var 0) (.bin .add (.var 1) (.lit (.int 1))) (.bin .add (.var 1) (.lit (.int 2)))) (.lit (.str ")"))) (.cons (.ret (.tup (.cons (.bin .add (.var 1) (.lit (.int 2))) (.cons (.tup .nil) .nil))))
 .nil) .nil)
 (.cons (.asg 3 (.lst .nil))
 (.cons (.asg 4 (.bin .add (.var 1) (.lit (.int 1))))
 (.cons (.forS 5 (.rng (.bi .len (.cons (.var 0) .nil))) (.cons (.asg 6 (.call 16 (.cons (.var 0) (.cons (.var 4) (.cons (.bin .add (.var 2) (.lit (.int 1))) .nil)))))
 (.cons (.ifS (.cmp .lt (.ix (.var 6) (.lit (.int 0))) (.lit (.int 0))) (.cons (.ret (.tup (.cons (.neg (.lit (.int 1))) (.cons (.lit .non) .nil))))
 .nil) .nil)
 (.cons (.app 3 (.ix (.var 6) (.lit (.int 1))))
 (.cons (.asg 4 (.ix (.var 6) (.lit (.int 0))))
 (.cons (.ifS (.and (.cmp .eq (.slc (.var 0) (.var 4) (.bin .add (.var 4) (.lit (.int 1)))) (.lit (.str ")"))) (.cmp .gt (.bi .len (.cons (.var 3) .nil)) (.lit (.int 1)))) (.cons (.ret (.tup (.cons (.bin .add (.var 4) (.lit (.int 1))) (.cons (.bi .tuple (.cons (.var 3) .nil)) .nil))))
 .nil) .nil)
 (.cons (.ifS (.and (.cmp .eq (.slc (.var 0) (.var 4) (.bin .add (.var 4) (.lit (.int 2)))) (.lit (.str ",)"))) (.cmp .eq (.bi .len (.cons (.var 3) .nil)) (.lit (.int 1)))) (.cons (.ret (.tup (.cons (.bin .add (.var 4) (.lit (.int 2))) (.cons (.bi .tuple (.cons (.var 3) .nil)) .nil))))
 .nil) .nil)
 (.cons (.ifS (.cmp .ne (.slc (.var 0) (.var 4) (.bin .add (.var 4) (.lit (.int 1)))) (.lit (.str ","))) (.cons (.ret (.tup (.cons (.neg (.lit (.int 1))) (.cons (.lit .non) .nil))))
 .nil) .nil)
 (.cons (.asg 4 (.bin .add (.var 4) (.lit (.int 1))))
 .nil)))))))))
 (.cons (.ret (.tup (.cons (.neg (.lit (.int 1))) (.cons (.lit .non) .nil))))
 .nil)))))))))
def b__law_changed : ISs :=
 (.cons (.asg 2 (.call 7 (.cons (.var 0) (.cons (.lit (.int 60)) (.cons (.lst (.cons (.lit (.int 4)) (.cons (.bin .pow (.lit (.int 10)) (.lit (.int 6))) (.cons (.lit (.int 32)) .nil)))) .nil)))))
 (.cons (.asg 3 (.bin .mod (.bi .int (.cons (.ix (.var 2) (.lit (.int 1))) .nil)) (.bi .len (.cons (.var 1) .nil))))
 (.cons (.asg 4 (.ix (.lit (.str "()\",-0123456789 abnoezAMZ_.'[]n\t")) (.ix (.var 2) (.lit (.int 2)))))
 (.cons (.ifS (.cmp .eq (.ix (.var 2) (.lit (.int 0))) (.lit (.int 0))) (.cons (.ret (.bin .add (.slc (.var 1) (.lit .non) (.var 3)) (.slc (.var 1) (.bin .add (.var 3) (.lit (.int 1))) (.lit .non))))
 .nil) .nil)
 (.cons (.ifS (.cmp .eq (.ix (.var 2) (.lit (.int 0))) (.lit (.int 1))) (.cons (.ret (.bin .add (.bin .add (.slc (.var 1) (.lit .non) (.var 3)) (.var 4)) (.slc (.var 1) (.var 3) (.lit .non))))
 .nil) .nil)
 (.cons (.ifS (.cmp .eq (.ix (.var 2) (.lit (.int 0))) (.lit (.int 2))) (.cons (.ret (.bin .add (.bin .add (.slc (.var 1) (.lit .non) (.var 3)) (.var 4)) (.slc (.var 1) (.bin .add (.var 3) (.lit (.int 1))) (.lit .non))))
 .nil) .nil)
 (.cons (.ret (.bin .add (.bin .add (.bin .add (.slc (.var 1) (.lit .non) (.var 3)) (.slc (.var 1) (.bin .add (.var 3) (.lit (.int 1))) (.bin .add (.var 3) (.lit (.int 2))))) (.ix (.var 1) (.var 3))) (.slc (.var 1) (.bin .add (.var 3) (.lit (.int 2))) (.lit .non))))
 .nil)))))))
def b__law_short_text : ISs :=
 (.cons (.asg 1 (.lst (.cons (.lit (.str "")) (.cons (.lit (.str " ")) (.cons (.lit (.str "None")) (.cons (.lit (.str "none ")) (.cons (.lit (.str " none")) (.cons (.lit (.str "nonenone")) (.cons (.lit (.str "()()")) (.cons (.lit (.str "( )")) (.cons (.lit (.str "(,)")) (.cons (.lit (.str "(1)")) (.cons (.lit (.str "(1,2,)")) (.cons (.lit (.str "(1,,2)")) (.cons (.lit (.str "(1 ,2)")) .nil)))))))))))))))
 (.cons (.asg 1 (.bin .add (.var 1) (.lst (.cons (.lit (.str "(1, 2)")) (.cons (.lit (.str "1,2")) (.cons (.lit (.str "01")) (.cons (.lit (.str "-0")) (.cons (.lit (.str "-")) (.cons (.lit (.str "--1")) (.cons (.lit (.str "+1")) (.cons (.lit (.str "1.0")) (.cons (.lit (.str "1_0")) (.cons (.lit (.str "\"\"")) (.cons (.lit (.str "\"A\"")) (.cons (.lit (.str "\"a")) (.cons (.lit (.str "a")) (.cons (.lit (.str "'a'")) .nil)))))))))))))))))
 (.cons (.asg 1 (.bin .add (.var 1) (.lst (.cons (.lit (.str "\"a-b\"")) (.cons (.lit (.str "\"a\"\"b\"")) (.cons (.lit (.str "[]")) (.cons (.lit (.str "[1,2]")) (.cons (.lit (.str "True")) (.cons (.lit (.str "1\n")) (.cons (.lit (.str "\"a\n\"")) (.cons (.lit (.str "1000000000000")) (.cons (.lit (.str "-9999999999999")) .nil))))))))))))
 (.cons (.asg 1 (.bin .add (.var 1) (.lst (.cons (.lit (.str "000000000001")) (.cons (.lit (.str "(none,)")) (.cons (.lit (.str "(\" \",-1)")) (.cons (.lit (.str "((),(()))")) .nil)))))))
 (.cons (.ret (.ix (.var 1) (.var 0)))
 .nil)))))
def b__law_told : ISs :=
 (.cons (.tryS (.cons (.ret (.tup (.cons (.lit (.str "value")) (.cons (.call 2 (.cons (.var 0) .nil)) .nil))))
 .nil) (.cons 1 1 (.cons (.asg 2 (.fld (.var 1) "at"))
 (.cons (.asg 3 (.and (.isi (.var 2) .int) (.and (.not (.isi (.var 2) .bool)) (.ch .le .le (.lit (.int 0)) (.var 2) (.bi .len (.cons (.var 0) .nil))))))
 (.cons (.ret (.tup (.cons (.lit (.str "text")) (.cons (.fld (.var 1) "text") (.cons (.var 3) .nil)))))
 .nil))) .nil))
 .nil)
def b__law_is_right : ISs :=
 (.cons (.asg 1 (.call 16 (.cons (.var 0) (.cons (.lit (.int 0)) (.cons (.lit (.int 0)) .nil)))))
 (.cons (.asg 2 (.tup (.cons (.lit (.str "text")) (.cons (.var 0) (.cons (.lit (.bl true)) .nil)))))
 (.cons (.ifS (.cmp .eq (.ix (.var 1) (.lit (.int 0))) (.bi .len (.cons (.var 0) .nil))) (.cons (.asg 2 (.tup (.cons (.lit (.str "value")) (.cons (.ix (.var 1) (.lit (.int 1))) .nil))))
 .nil) .nil)
 (.cons (.ret (.call 8 (.cons (.call 19 (.cons (.var 0) .nil)) (.cons (.var 2) .nil))))
 .nil))))
def b_law : ISs :=
 (.cons (.asg 1 (.call 12 (.cons (.var 0) .nil)))
 (.cons (.asg 2 (.call 13 (.cons (.var 1) .nil)))
 (.cons (.forS 3 (.rng (.lit (.int 2))) (.cons (.ifS (.or (.not (.call 8 (.cons (.call 1 (.cons (.var 1) .nil)) (.cons (.var 2) .nil)))) (.not (.call 8 (.cons (.call 19 (.cons (.var 2) .nil)) (.cons (.tup (.cons (.lit (.str "value")) (.cons (.var 1) .nil))) .nil))))) (.cons (.ret (.lit (.bl false)))
 .nil) .nil)
 .nil))
 (.cons (.asg 4 (.call 7 (.cons (.var 0) (.cons (.lit (.int 61)) (.cons (.lst (.cons (.lit (.int 40)) (.cons (.lit (.int 20)) (.cons (.lit (.int 40)) .nil)))) .nil)))))
 (.cons (.forS 5 (.e (.lst (.cons (.call 17 (.cons (.var 0) (.cons (.var 2) .nil))) (.cons (.call 18 (.cons (.ix (.var 4) (.lit (.int 0))) .nil)) (.cons (.bin .add (.var 2) (.var 2)) (.cons (.bin .add (.var 2) (.lit (.str "\n"))) (.cons (.bin .add (.bin .add (.lit (.str "(")) (.var 2)) (.lit (.str ")"))) .nil))))))) (.cons (.ifS (.not (.call 20 (.cons (.var 5) .nil))) (.cons (.ret (.lit (.bl false)))
 .nil) .nil)
 .nil))
 (.cons (.forS 6 (.e (.lst (.cons (.bin .add (.lit (.int 1)) (.ix (.var 4) (.lit (.int 1)))) (.cons (.bin .add (.lit (.int 21)) (.ix (.var 4) (.lit (.int 2)))) (.cons (.lit (.int 20)) .nil))))) (.cons (.ifS (.not (.call 20 (.cons (.bin .add (.bin .add (.bin .mul (.lit (.str "(")) (.var 6)) (.lit (.str ")"))) (.bin .mul (.lit (.str ",)")) (.bin .sub (.var 6) (.lit (.int 1))))) .nil))) (.cons (.ret (.lit (.bl false)))
 .nil) .nil)
 .nil))
 (.cons (.ret (.call 8 (.cons (.call 2 (.cons (.call 1 (.cons (.var 1) .nil)) .nil)) (.cons (.var 1) .nil))))
 .nil)))))))
def fds : Nat → Option Fd
  | 0 => some ⟨1, 4, b_read_integer⟩
  | 1 => some ⟨1, 2, b_told⟩
  | 2 => some ⟨1, 3, b_untold⟩
  | 3 => some ⟨3, 3, b__read_value⟩
  | 4 => some ⟨3, 6, b__read_tuple⟩
  | 5 => some ⟨2, 4, b__read_word⟩
  | 6 => some ⟨2, 4, b__read_integer⟩
  | 7 => some ⟨3, 8, b__law_draws⟩
  | 8 => some ⟨2, 3, b__law_equal⟩
  | 9 => some ⟨1, 2, b__law_integer⟩
  | 10 => some ⟨1, 4, b__law_word⟩
  | 11 => some ⟨2, 3, b__law_leaf⟩
  | 12 => some ⟨1, 9, b__law_value⟩
  | 13 => some ⟨1, 3, b__law_text⟩
  | 14 => some ⟨2, 3, b__law_read_word⟩
  | 15 => some ⟨2, 5, b__law_read_integer⟩
  | 16 => some ⟨3, 7, b__law_read⟩
  | 17 => some ⟨2, 5, b__law_changed⟩
  | 18 => some ⟨1, 2, b__law_short_text⟩
  | 19 => some ⟨1, 4, b__law_told⟩
  | 20 => some ⟨1, 3, b__law_is_right⟩
  | 21 => some ⟨1, 7, b_law⟩
  | _ => none
def tb : Tb where
  ne := 2
  nc := 0
  ef := fun c => match c with
    | 0 => []
    | 1 => ["text", "at"]
    | _ => []
  es := fun c k => match c, k with
    | 0, 0 => true
    | 1, 0 => true
    | 1, 1 => true
    | _, _ => false
  of := fun _ => []
  md := fun f j => match f, j with
    | _, _ => 0
  nk := 4
  gc := fun n => match n with
    | 0 => (.int 12)
    | 1 => (.str "\"")
    | 2 => (.str "none")
    | 3 => (.int 20)
    | _ => .non
def gns : List Str := ["read_integer", "told", "untold", "_read_value", "_read_tuple", "_read_word", "_read_integer", "_law_draws", "_law_equal", "_law_integer", "_law_word", "_law_leaf", "_law_value", "_law_text", "_law_read_word", "_law_read_integer", "_law_read", "_law_changed", "_law_short_text", "_law_told", "_law_is_right", "law"]
def ens : List Str := ["WardError", "InvalidText"]
def cns : List Str := []
def kns : List Str := ["MOST_FIGURES", "QUOTE", "NONE", "DEEPEST"]
def Ns : List (List Str) := [["word", "figures", "figure", "number"], ["value", "part"], ["text", "value", "end"], ["text", "at", "depth"], ["text", "at", "depth", "parts", "here", "part"], ["text", "at", "end", "letter"], ["text", "at", "end", "number"], ["script", "k", "bounds", "cell", "rest", "drawn", "j", "mixed"], ["actual", "expected", "k"], ["drawn", "size"], ["drawn", "word", "rest", "k"], ["script", "k", "drawn"], ["script", "drawn", "value", "rounds", "k", "row", "size", "parts", "j"], ["value", "parts", "part"], ["text", "at", "end"], ["text", "at", "start", "end", "figures"], ["text", "at", "deep", "parts", "end", "turn", "found"], ["script", "text", "drawn", "at", "char"], ["n", "texts"], ["text", "text_error", "at", "inside"], ["text", "read", "due"], ["script", "value", "text", "turn", "drawn", "other", "deep"]]
def Ps : List (List Str) := [["word"], ["value"], ["text"], ["text", "at", "depth"], ["text", "at", "depth"], ["text", "at"], ["text", "at"], ["script", "k", "bounds"], ["actual", "expected"], ["drawn"], ["drawn"], ["script", "k"], ["script"], ["value"], ["text", "at"], ["text", "at"], ["text", "at", "deep"], ["script", "text"], ["n"], ["text"], ["text"], ["script"]]
def places : List Nat := [5, 10, 11, 12, 13, 14, 15, 17, 18, 19, 20, 21, 22, 23, 24, 25, 26, 27, 28, 29, 30, 31]
def eplaces : List Nat := [1, 2]
end K74

namespace K74
open PySem EN L2
def top (i : Nat) : Stmt := PySem.Challenge.pw_bridgeward_k74_told_and_untold_values.main.body.getD i (.Pass ⟨0, 0, 0, 0⟩)
def st (f : Nat) : Stmt := top (places.getD f 0)
def sti (c : Nat) : Stmt := inClass (top (eplaces.getD c 0)) 0
def nm (f : Nat) : Str := gns.getD f ""
def qi (c : Nat) : Str := (ens.getD c "") ++ ".__init__"
def nN (f : Nat) : List Str := Ns.getD f []
def nP (f : Nat) : List Str := Ps.getD f []
def nI (c : Nat) : List Str := "self" :: tb.ef c
def cc : Cc where
  gn := nm
  cl := fun hot f => if hot then false else decide (f < 22)
  en := fun c => ens.getD c ""
  cn := fun c => cns.getD c ""
  kn := fun n => kns.getD n ""
  pn := nP
  kw := fun f => decide (f = 1 ∨ f = 2)
def okF (hot : Bool) (f : Nat) : Bool := match fds f with
  | some d => scB (nN f) (nP f) (defScope (st f)) && cSs cc tb (nN f) hot (defScope (st f)) d.body (defBody (st f)) && decide ((nP f).length = d.np) && decide ((nN f).length = d.ns) && (!hot || d.body.noTry)
  | none => false
theorem ok0 : (List.range 22).all (okF false) = true := by decide +kernel
def okI (c : Nat) : Bool := isNil (tb.ef c) || (scB (nI c) (nI c) (defScope (sti c)) && iB (defScope (sti c)) (nI c) (tb.ef c) 0 (defBody (sti c)) && decide ((nI c).length = (tb.ef c).length + 1))
theorem ok2 : (List.range 2).all okI = true := by decide +kernel
end K74
namespace K74
open PySem EN L2
theorem cl0 {f : Nat} (h : cc.cl false f = true) : f < 22 := of_decide_eq_true h
theorem mem22 {p : Nat → Bool} (h : (List.range 22).all p = true) {f : Nat} (hf : f < 22) : p f = true := List.all_eq_true.mp h f (List.mem_range.mpr hf)
theorem mem2 {p : Nat → Bool} (h : (List.range 2).all p = true) {f : Nat} (hf : f < 2) : p f = true := List.all_eq_true.mp h f (List.mem_range.mpr hf)
theorem ok_out {hot : Bool} {f : Nat} (h : okF hot f = true) : ∃ d, fds f = some d ∧ scB (nN f) (nP f) (defScope (st f)) = true ∧ cSs cc tb (nN f) hot (defScope (st f)) d.body (defBody (st f)) = true ∧ (nP f).length = d.np ∧ (nN f).length = d.ns ∧ (hot = true → d.body.noTry = true) := by
  unfold okF at h
  split at h
  · rename_i d e
    obtain ⟨h, h5⟩ := and2 h
    obtain ⟨h, h4⟩ := and2 h
    obtain ⟨h, h3⟩ := and2 h
    obtain ⟨h1, h2⟩ := and2 h
    exact ⟨d, e, h1, h2, of_decide_eq_true h3, of_decide_eq_true h4, fun z => by subst z; exact h5⟩
  · cases h
theorem txtS : TxtS cc tb fds 22 nN nP nm st qi nI sti where
  cl f h := cl0 h
  chk f h := let ⟨d, e, h1, h2, h3, h4, _⟩ := ok_out (mem22 ok0 (cl0 h)); ⟨h1, d, e, h2, h3, h4⟩
  hot f h := nomatch (show false = true from h)
  bnd f h := by
    have := cl0 h
    match f, this with
    | 0, _ => exact fun _ _ _ _ _ _ us hl => match us, hl with | [_], _ => rfl
    | 1, _ => exact fun _ _ _ _ _ _ us hl => match us, hl with | [_], _ => rfl
    | 2, _ => exact fun _ _ _ _ _ _ us hl => match us, hl with | [_], _ => rfl
    | 3, _ => exact fun _ _ _ _ _ _ us hl => match us, hl with | [_, _, _], _ => rfl
    | 4, _ => exact fun _ _ _ _ _ _ us hl => match us, hl with | [_, _, _], _ => rfl
    | 5, _ => exact fun _ _ _ _ _ _ us hl => match us, hl with | [_, _], _ => rfl
    | 6, _ => exact fun _ _ _ _ _ _ us hl => match us, hl with | [_, _], _ => rfl
    | 7, _ => exact fun _ _ _ _ _ _ us hl => match us, hl with | [_, _, _], _ => rfl
    | 8, _ => exact fun _ _ _ _ _ _ us hl => match us, hl with | [_, _], _ => rfl
    | 9, _ => exact fun _ _ _ _ _ _ us hl => match us, hl with | [_], _ => rfl
    | 10, _ => exact fun _ _ _ _ _ _ us hl => match us, hl with | [_], _ => rfl
    | 11, _ => exact fun _ _ _ _ _ _ us hl => match us, hl with | [_, _], _ => rfl
    | 12, _ => exact fun _ _ _ _ _ _ us hl => match us, hl with | [_], _ => rfl
    | 13, _ => exact fun _ _ _ _ _ _ us hl => match us, hl with | [_], _ => rfl
    | 14, _ => exact fun _ _ _ _ _ _ us hl => match us, hl with | [_, _], _ => rfl
    | 15, _ => exact fun _ _ _ _ _ _ us hl => match us, hl with | [_, _], _ => rfl
    | 16, _ => exact fun _ _ _ _ _ _ us hl => match us, hl with | [_, _, _], _ => rfl
    | 17, _ => exact fun _ _ _ _ _ _ us hl => match us, hl with | [_, _], _ => rfl
    | 18, _ => exact fun _ _ _ _ _ _ us hl => match us, hl with | [_], _ => rfl
    | 19, _ => exact fun _ _ _ _ _ _ us hl => match us, hl with | [_], _ => rfl
    | 20, _ => exact fun _ _ _ _ _ _ us hl => match us, hl with | [_], _ => rfl
    | 21, _ => exact fun _ _ _ _ _ _ us hl => match us, hl with | [_], _ => rfl
  bnk f h hw := by
    have hw : f = 1 ∨ f = 2 := of_decide_eq_true hw
    rcases hw with rfl | rfl
    · exact ⟨rfl, fun _ _ _ _ _ _ us hl => match us, hl with | [_], _ => rfl⟩
    · exact ⟨rfl, fun _ _ _ _ _ _ us hl => match us, hl with | [_], _ => rfl⟩
  nc := rfl
  ini c hc ne := by
    have hc : c < 2 := hc
    have ok := mem2 ok2 hc
    unfold okI at ok
    rcases Bool.or_eq_true_iff.mp ok with y | y
    · cases e : tb.ef c with
      | nil => exact absurd e ne
      | cons a b => rw [e] at y; cases y
    · obtain ⟨y, y3⟩ := and2 y
      obtain ⟨y1, y2⟩ := and2 y
      refine ⟨y1, y2, of_decide_eq_true y3, ?_⟩
      match c, hc with
      | 0, _ => exact absurd rfl ne
      | 1, _ => exact fun _ _ _ _ _ _ us hl => match us, hl with | [_, _, _], _ => rfl
end K74
namespace K74
open PySem EN
abbrev S (l : List Nat) : Str := ⟨l.toArray⟩
theorem S_list (l : List Nat) : (S l).cps.toList = l := rfl
theorem S_len (l : List Nat) : (S l).length = l.length := rfl
theorem S_of (x : Str) : x = S x.cps.toList := by cases x with | mk a => cases a; rfl
theorem S_eq (a b : List Nat) : (S a = S b) ↔ a = b := ⟨fun h => congrArg (fun x : Str => x.cps.toList) h, fun h => by rw [h]⟩
theorem S_app (a b : List Nat) : S a ++ S b = S (a ++ b) := by
  show Str.append (S a) (S b) = _
  unfold Str.append
  simp
theorem S_lp : (Str.ofString "(") = S [40] := by decide
theorem S_rp : (Str.ofString ")") = S [41] := by decide
theorem S_cm : (Str.ofString ",") = S [44] := by decide
theorem S_qt : (Str.ofString "\"") = S [34] := by decide
theorem S_none : (Str.ofString "none") = S [110, 111, 110, 101] := by decide
theorem S_e : (Str.ofString "") = S [] := by decide
theorem S_ce : (Str.ofString ",)") = S [44, 41] := by decide
theorem S_sp : (Str.ofString " ") = S [32] := by decide
theorem S_mn : (Str.ofString "-") = S [45] := by decide
theorem S_0 : (Str.ofString "0") = S [48] := by decide
theorem S_9 : (Str.ofString "9") = S [57] := by decide
theorem S_a : (Str.ofString "a") = S [97] := by decide
theorem S_z : (Str.ofString "z") = S [122] := by decide
theorem mdz (f j : Nat) : tb.md f j = 0 := rfl
theorem gc0 : tb.gc 0 = .int 12 := rfl
theorem gc1 : tb.gc 1 = .str (S [34]) := congrArg D.str S_qt
theorem gc2 : tb.gc 2 = .str (S [110, 111, 110, 101]) := congrArg D.str S_none
theorem gc3 : tb.gc 3 = .int 20 := rfl
theorem ln0 : 0 ≤ line := Nat.zero_le _
theorem ln1 : 1 ≤ line := by decide
theorem ln2 : 2 ≤ line := by decide
theorem ln3 : 3 ≤ line := by decide
theorem ln4 : 4 ≤ line := by decide
theorem ln5 : 5 ≤ line := by decide
theorem ln6 : 6 ≤ line := by decide
theorem ne2 : tb.ne = 2 := rfl
theorem efl : (tb.ef 1).length = 2 := rfl
theorem nk4 : tb.nk = 4 := rfl
theorem cut_of {l : List Nat} {lo hi : Int} (a b : Nat) (ha : lo = a) (hb : hi = b) : L2.cutS (S l) (some lo) (some hi) = S ((l.drop a).take (b - a)) := by
  subst ha; subst hb
  unfold L2.cutS
  rw [HT.sIx_nat, HT.sIx_nat, S_list, S_len]
  congr 2
  rcases Nat.lt_or_ge l.length a with h | h
  · rw [List.drop_eq_nil_of_le (by omega), List.drop_eq_nil_of_le (by omega), List.take_nil, List.take_nil]
  · rw [Nat.min_eq_left h]
    rcases Nat.lt_or_ge l.length b with h2 | h2
    · rw [Nat.min_eq_right (by omega), List.take_of_length_le (by rw [List.length_drop]; omega), List.take_of_length_le (by rw [List.length_drop]; omega)]
    · rw [Nat.min_eq_left h2]
theorem le_one (c d : Nat) : (!decide ([d] < [c])) = decide (c ≤ d) := by
  have : ([d] < [c]) ↔ d < c := by simp [List.cons_lt_cons_iff]
  by_cases h : d < c
  · rw [decide_eq_true (this.mpr h), decide_eq_false (by omega)]; rfl
  · rw [decide_eq_false (fun z => h (this.mp z)), decide_eq_true (by omega)]; rfl
/-- the first sign c at a or behind it -/
theorem occ_first (l : List Nat) (c : Nat) : ∀ (n a : Nat), a + n = l.length + 1 → ∀ free, free ≤ a → (forIn (m := Id) (List.range' a n) ((#[] : Array Nat), free) (StrLaws.occBody (S l) (S [c]) l.length 1)).run.fst.toList = if c ∈ l.drop a then [a + ((l.drop a).takeWhile (fun d => d != c)).length] else []
  | 0, a, h, free, hf => by
    rw [List.drop_eq_nil_of_le (by omega)]
    simp
  | n + 1, a, h, free, hf => by
    rw [List.range'_succ, List.forIn_cons]
    have key := StrLaws.subAt_one (S l) c a
    by_cases hc : l[a]? = some c
    · have hk := key.mpr hc
      have c1 : ((((#[] : Array Nat), free).fst.size < 1 ∧ ((#[] : Array Nat), free).snd ≤ a) ∧ a + (S [c]).length ≤ l.length) ∧ Builtin.Str.subAt (S l) (S [c]) a = true := ⟨⟨⟨by simp, hf⟩, hk.1⟩, hk.2⟩
      obtain ⟨ha, hv⟩ := List.getElem?_eq_some_iff.mp hc
      have e : l.drop a = c :: l.drop (a + 1) := by rw [List.drop_eq_getElem_cons ha, hv]
      have rest : ∀ (m b : Nat) (st : Array Nat × Nat), st.1.size = 1 → (forIn (m := Id) (List.range' b m) st (StrLaws.occBody (S l) (S [c]) l.length 1)).run.fst = st.1 := by
        intro m
        induction m with
        | zero => intro b st _; rfl
        | succ m ih =>
          intro b st hs
          rw [List.range'_succ, List.forIn_cons]
          unfold StrLaws.occBody
          rw [if_neg (by rw [hs]; simp)]
          exact ih (b + 1) _ hs
      unfold StrLaws.occBody at rest ⊢
      rw [if_pos c1]
      show (forIn (m := Id) (List.range' (a + 1) n) ((#[] : Array Nat).push a, a + (S [c]).length) _).run.fst.toList = _
      rw [rest n (a + 1) ((#[] : Array Nat).push a, a + (S [c]).length) rfl, e]
      simp
    · have hn : ¬ (((((#[] : Array Nat), free).fst.size < 1 ∧ ((#[] : Array Nat), free).snd ≤ a) ∧ a + (S [c]).length ≤ l.length) ∧ Builtin.Str.subAt (S l) (S [c]) a = true) := fun h => hc (key.mp ⟨h.1.2, h.2⟩)
      have ih := occ_first l c n (a + 1) (by omega) free (by omega)
      unfold StrLaws.occBody at ih ⊢
      rw [if_neg hn]
      refine Eq.trans ih ?_
      by_cases ha : a < l.length
      · have e : l.drop a = l[a] :: l.drop (a + 1) := List.drop_eq_getElem_cons ha
        have ne : l[a] ≠ c := fun z => hc (by rw [List.getElem?_eq_getElem ha, z])
        have hb : (l[a] != c) = true := by simp [ne]
        rw [e, List.takeWhile_cons, if_pos hb]
        have mm : c ∈ l[a] :: l.drop (a + 1) ↔ c ∈ l.drop (a + 1) := by
          rw [List.mem_cons]
          exact ⟨fun z => z.elim (fun z => absurd z.symm ne) id, .inr⟩
        by_cases hm : c ∈ l.drop (a + 1)
        · rw [if_pos hm, if_pos (mm.mpr hm), List.length_cons]
          congr 1
          omega
        · rw [if_neg hm, if_neg (fun z => hm (mm.mp z))]
      · rw [List.drop_eq_nil_of_le (by omega), List.drop_eq_nil_of_le (by omega)]
        simp
theorem find_one (l : List Nat) (c a : Nat) (ha : a ≤ l.length) : Txt.find3 (S l) (S [c]) (a : Int) = if c ∈ l.drop a then ((a + ((l.drop a).takeWhile (fun d => d != c)).length : Nat) : Int) else -1 := by
  unfold Txt.find3
  have e : fromIndex (S l).length (a : Int) = a := by
    unfold fromIndex
    rw [if_neg (by omega)]
    omega
  rw [e, StrLaws.occ_eq]
  have := occ_first l c (l.length + 1 - a) a (by omega) a (Nat.le_refl _)
  rw [S_len, this]
  by_cases h : c ∈ l.drop a
  · rw [if_pos h, if_pos h]
  · rw [if_neg h, if_neg h]
def figs : List Nat → List Nat
  | 45 :: r => r
  | l => l
theorem rmp_eq (l : List Nat) : Txt.removeprefix (S l) (S [45]) = S (figs l) := by
  rw [StrLaws.removeprefix_eq, StrLaws.subAt_eq]
  match l with
  | [] => rfl
  | c :: r =>
    by_cases h : c = 45
    · subst h
      simp [S_len, S_list, Str.length, figs]
    · have e : figs (c :: r) = c :: r := by unfold figs; split <;> simp_all
      rw [e]
      simp [S_len, S_list, Str.length, h]
theorem join_eq : ∀ (p : List Nat) (r : List (List Nat)), Txt.join (S [44]) ((p :: r).map S) = S (p ++ (r.map fun x => 44 :: x).flatten) := by
  intro p r
  show (⟨(r.map S).foldl (fun acc p => acc ++ (S [44]).cps ++ p.cps) (S p).cps⟩ : Str) = _
  have : ∀ (r : List (List Nat)) (acc : Array Nat), ((r.map S).foldl (fun acc p => acc ++ (S [44]).cps ++ p.cps) acc) = (acc.toList ++ (r.map fun x => 44 :: x).flatten).toArray := by
    intro r
    induction r with
    | nil => intro acc; simp
    | cons x r ih =>
      intro acc
      rw [List.map_cons, List.foldl_cons, ih]
      simp
  rw [this]
theorem S_find {x : Str} {l : List Nat} (h : x.cps.toList = l) : x = S l := h ▸ S_of x
end K74
namespace K74
open PySem EN NumText
/-! comprehensions -/
theorem set_nob (ρ : EN.Env) (i : Nat) (x : D) : nobB (EN.Env.at (ρ.set i (.d x)) i) = true := by
  rw [at_set]
  split
  · rfl
  · rename_i h
    have : ¬ i < ρ.length := fun z => h ⟨rfl, z⟩
    unfold EN.Env.at
    rw [List.getD_eq_getElem?_getD, List.getElem?_eq_none (by omega)]
    rfl
theorem nobR_ok {α : Type} {ρ : EN.Env} {i : Nat} {x : D} {r : R α} : nobR i (ρ.set i (.d x)) r = r := by
  unfold nobR
  rw [set_nob]
theorem lcRun_ok {i : Nat} {c : EN.Env → R Bool} {f : EN.Env → R D} (g : D → D) (ρ : EN.Env) (hc : ∀ ρ, c ρ = .ok true ρ) : ∀ (xs : List D), (∀ x ∈ xs, f (ρ.set i (.d x)) = .ok (g x) (ρ.set i (.d x))) → ∀ s, ∃ s', lcRun i c f xs (ρ.set i s) = .ok (xs.map g) (ρ.set i s')
  | [], _, s => ⟨s, rfl⟩
  | x :: xs, hf, s => by
    obtain ⟨s', e⟩ := lcRun_ok g ρ hc xs (fun y hy => hf y (List.mem_cons_of_mem _ hy)) (.d x)
    refine ⟨s', ?_⟩
    unfold lcRun
    rw [hc]
    simp only [R.calm, R.bind]
    rw [List.set_set, hf x List.mem_cons_self]
    simp only [R.calm, R.bind, nobR_ok]
    rw [e]
    rfl
theorem ev_lc {T : Tb} {fn : Fn} {np : Nat} {elt : IE} {i : Nat} {it : IT} {c : IE} {ρ : EN.Env} {v : D} {xs : List D} (g : D → D) (hi : evI T fn np it ρ = .ok (.d v, xs) ρ) (h0 : ρ.at i = .un) (hs : ρ.set i .un = ρ)
    (hf : ∀ x ∈ xs, (ev T fn np elt (ρ.set i (.d x))).kept np = .ok (g x) (ρ.set i (.d x))) : ev T fn np (.lc elt i it false c) ρ = .ok (.fr (.lst (xs.map g))) ρ := by
  obtain ⟨s', e⟩ := lcRun_ok (i := i) (c := fun ρ => .ok true ρ) (f := fun ρ => (ev T fn np elt ρ).kept np) g ρ (fun _ => rfl) xs hf .un
  unfold ev
  rw [hi]
  simp only [R.bind, lend]
  have e2 : lcRun i (fun ρ => R.ok true ρ) (fun ρ => (ev T fn np elt ρ).kept np) xs (ρ.set i .un) = .ok (xs.map g) (ρ.set i s') := e
  have e3 : (lcRun i (fun ρ => R.ok true ρ) (fun ρ => (ev T fn np elt ρ).kept np) xs (ρ.set i .un)).lcEnd i (.d v) ρ = .ok (.fr (.lst (xs.map g))) ρ := by
    rw [e2]
    unfold R.lcEnd
    rw [h0]
    simp only [R.bind, unlend]
    rw [List.set_set, hs]
  exact e3
theorem bls_map {α : Type} (f : α → Bool) : ∀ xs : List α, bls? (xs.map fun x => D.bl (f x)) = some (xs.map f)
  | [] => rfl
  | x :: xs => by rw [List.map_cons, bls?, bls_map f xs]; rfl
theorem strs_map {α : Type} (f : α → Str) : ∀ xs : List α, strs? (xs.map fun x => D.str (f x)) = some (xs.map f)
  | [] => rfl
  | x :: xs => by rw [List.map_cons, strs?, strs_map f xs]; rfl
/-! numbers -/
def neg : List Nat → Bool
  | 45 :: _ => true
  | _ => false
def dig (c : Nat) : Bool := decide (48 ≤ c) && decide (c ≤ 57)
def pv : List Nat → Int
  | 45 :: r => -((digitsVal r : Nat) : Int)
  | l => ((digitsVal l : Nat) : Int)
theorem allD_of {l : List Nat} (h : l.all dig = true) : AllDigits l := fun c hc => by
  have := List.all_eq_true.mp h c hc
  unfold dig at this
  simpa using this
theorem digitsVal_lt : ∀ (l : List Nat), AllDigits l → digitsVal l < 10 ^ l.length := by
  have go : ∀ (l : List Nat) (a : Nat), AllDigits l → l.foldl (fun acc c => acc * 10 + (c - 48)) a < (a + 1) * 10 ^ l.length := by
    intro l
    induction l with
    | nil => intro a _; simp
    | cons c l ih =>
      intro a h
      have hc := h.head
      have := ih (a * 10 + (c - 48)) h.tail
      rw [List.foldl_cons, List.length_cons, Nat.pow_succ]
      refine Nat.lt_of_lt_of_le this ?_
      have : a * 10 + (c - 48) + 1 ≤ (a + 1) * 10 := by omega
      calc (a * 10 + (c - 48) + 1) * 10 ^ l.length ≤ ((a + 1) * 10) * 10 ^ l.length := Nat.mul_le_mul_right _ this
        _ = (a + 1) * (10 ^ l.length * 10) := by rw [Nat.mul_assoc, Nat.mul_comm 10]
  intro l h
  have := go l 0 h
  simpa [digitsVal] using this
theorem digs_12 {l : List Nat} (h : AllDigits l) (hl : l.length ≤ 12) : digitsVal l < 10 ^ 12 := Nat.lt_of_lt_of_le (digitsVal_lt l h) (Nat.pow_le_pow_right (by decide) hl)
theorem figs_45 {w : List Nat} : (∃ r, w = 45 :: r ∧ figs w = r ∧ neg w = true ∧ pv w = -((digitsVal r : Nat) : Int)) ∨ (w.head? ≠ some 45 ∧ figs w = w ∧ neg w = false ∧ pv w = ((digitsVal w : Nat) : Int)) := by
  match w with
  | [] => exact .inr ⟨by simp, rfl, rfl, rfl⟩
  | c :: r =>
    by_cases h : c = 45
    · subst h; exact .inl ⟨r, rfl, rfl, rfl, rfl⟩
    · refine .inr ⟨by simpa using h, ?_, ?_, ?_⟩
      · unfold figs; split <;> simp_all
      · unfold neg; split <;> simp_all
      · unfold pv; split <;> simp_all
theorem intT {w : List Nat} (h : (figs w).all dig = true) (h1 : 1 ≤ (figs w).length) (h2 : (figs w).length ≤ 12) : PySem.intText? (S w) = some (pv w) ∧ (pv w).natAbs < 10 ^ 12 ∧ w.length ≤ 13 := by
  have a := allD_of h
  have b := digs_12 a h2
  rcases figs_45 (w := w) with ⟨r, e1, e2, _, e3⟩ | ⟨_, e2, _, e3⟩
  · rw [e2] at a h1 h2 b
    subst e1
    refine ⟨?_, ?_, by simp; omega⟩
    · rw [e3]
      exact intText_neg rfl a (fun z => by rw [z] at h1; simp at h1) (by rw [S_len, List.length_cons]; omega)
    · rw [e3]; simpa using b
  · rw [e2] at a h1 h2 b
    refine ⟨?_, ?_, by omega⟩
    · rw [e3]
      exact intText_digits a (fun z => by have z : w = [] := z; rw [z] at h1; simp at h1) (by rw [S_len]; omega)
    · rw [e3]; simpa using b
theorem log_ok {i : Int} (h : i.natAbs < 10 ^ 12) : i.natAbs.log2 < 1920 := by
  by_cases z : i.natAbs = 0
  · rw [z]; decide
  · have : i.natAbs.log2 < 40 := (Nat.log2_lt z).mpr (Nat.lt_of_lt_of_le h (by decide))
    omega
theorem back_char {l : List Nat} (h : AllDigits l) : (l.map Char.ofNat).map Char.toNat = l := by
  rw [List.map_map]
  conv => rhs; rw [← List.map_id l]
  refine List.map_congr_left fun c hc => ?_
  have := h c hc
  show (Char.ofNat c).toNat = c
  have hv : c.isValidChar := Or.inl (by omega)
  rw [Char.ofNat, dif_pos hv]
  rfl
theorem text_nat (m : Nat) : Str.ofString (toString ((m : Nat) : Int)) = S ((Nat.toDigits 10 m).map Char.toNat) := PyProof.Rows.text_ofNat m
theorem text_neg (m : Nat) (h : 0 < m) : Str.ofString (toString (-((m : Nat) : Int))) = S (45 :: (Nat.toDigits 10 m).map Char.toNat) := by
  match m, h with
  | n + 1, _ =>
    show Str.ofString (toString (Int.negSucc n)) = _
    show Str.ofString ("-" ++ Nat.repr (n + 1)) = _
    rw [Str.ofString_eq_toList]
    simp [Nat.repr]
/-- the text of a number that is written without a needless 0 -/
theorem canonP {ds : List Nat} (h : AllDigits ds) (hne : ds ≠ []) : (Str.ofString (toString ((digitsVal ds : Nat) : Int)) = S ds) ↔ (ds.head? ≠ some 48 ∨ ds = [48]) := by
  rw [text_nat, S_eq, toDigits_all ds h]
  match ds, hne with
  | c :: r, _ =>
    by_cases hc : c = 48
    · subst hc
      have hlen : ∀ l : List Nat, (l.dropWhile (· == 48)).length ≤ l.length := fun l => by
        induction l with
        | nil => simp
        | cons a l ih =>
          rw [List.dropWhile_cons]
          split
          · simp; omega
          · simp
      have hr := hlen r
      have e0 : (48 :: r).dropWhile (· == 48) = r.dropWhile (· == 48) := by rw [List.dropWhile_cons]; rfl
      rw [e0]
      constructor
      · intro z
        right
        cases q : r.dropWhile (· == 48) with
        | nil => rw [q] at z; exact z.symm.trans rfl
        | cons a b =>
          rw [q] at z hr
          have := congrArg List.length z
          simp at this hr
          omega
      · rintro (z | z)
        · exact absurd rfl z
        · cases z; rfl
    · rw [List.dropWhile_cons, if_neg (by simpa using hc)]
      exact ⟨fun _ => .inl (by simpa using hc), fun _ => back_char h⟩
theorem canonN {ds : List Nat} (h : AllDigits ds) (hne : ds ≠ []) : (Str.ofString (toString (-((digitsVal ds : Nat) : Int))) = S (45 :: ds)) ↔ ds.head? ≠ some 48 := by
  by_cases hz : digitsVal ds = 0
  · rw [hz]
    constructor
    · intro z
      have z : Str.ofString (toString (0 : Int)) = S (45 :: ds) := z
      rw [show Str.ofString (toString (0 : Int)) = S [48] from by decide, S_eq] at z
      cases z
    · intro z
      exfalso
      match ds, hne with
      | c :: r, _ =>
        have hc := h.head
        have := digitsVal_pos (c := c) (cs := r) (by have : c ≠ 48 := by simpa using z
                                                     omega)
        omega
  · rw [text_neg _ (by omega), S_eq]
    have p := canonP h hne
    rw [text_nat, S_eq] at p
    constructor
    · intro z
      rcases p.mp (List.cons.inj z).2 with q | q
      · exact q
      · subst q; exact absurd rfl hz
    · intro z
      rw [p.mpr (.inl z)]
/-- is w a number as it is told? -/
def canon (w : List Nat) : Bool := decide (1 ≤ (figs w).length) && decide ((figs w).length ≤ 12) && (figs w).all dig && !(decide ((figs w).head? = some 48) && (decide (1 < (figs w).length) || neg w))
def readI (w : List Nat) : D := if canon w = true then .int (pv w) else .non
theorem str_eq {w : List Nat} (h : (figs w).all dig = true) (h1 : 1 ≤ (figs w).length) : (Str.ofString (toString (pv w)) = S w) ↔ ¬ ((figs w).head? = some 48 ∧ (1 < (figs w).length ∨ neg w = true)) := by
  have a := allD_of h
  rcases figs_45 (w := w) with ⟨r, e1, e2, e4, e3⟩ | ⟨_, e2, e4, e3⟩
  · rw [e2] at a h1 ⊢
    rw [e3, e4, e1, canonN a (fun z => by rw [z] at h1; simp at h1)]
    simp
  · rw [e2] at a h1 ⊢
    have hne : w ≠ [] := fun z => by rw [z] at h1; simp at h1
    rw [e3, e4, canonP a hne]
    match w, hne with
    | c :: r, _ =>
      by_cases hc : c = 48
      · subst hc
        cases r <;> simp
      · simp [hc]
theorem all_map (l : List Nat) : ((l.map fun c => D.str ⟨#[c]⟩).map fun x => D.bl (match x with
    | .str z => match z.cps.toList with
      | [c] => dig c
      | _ => false
    | _ => false)) = l.map fun c => D.bl (dig c) := by
  rw [List.map_map]
  exact List.map_congr_left fun c _ => rfl
theorem run_int (k : Nat) (w : List Nat) (hw : w.length ≤ 100000) : runF tb fds (k + 1) 0 [.d (.str (S w))] = .ok (.d (readI w)) [.un] := by
  have hf : (figs w).length ≤ 100000 := by
    rcases figs_45 (w := w) with ⟨r, e1, e2, _, _⟩ | ⟨_, e2, _, _⟩
    · rw [e2]; rw [e1] at hw; simp at hw; omega
    · rw [e2]; exact hw
  have rm : Txt.removeprefix (S w) (S [45]) = S (figs w) := rmp_eq w
  have hl1 : w.length ≤ line := by unfold line; omega
  have hl2 : (figs w).length ≤ line := by unfold line; omega
  have lc : ∀ (a : Slot), ev tb (runF tb fds k) 1 (.lc (.ch .le .le (.lit (.str "0")) (.var 2) (.lit (.str "9"))) 2 (.txt (.var 1)) false (.lit (.bl true))) [a, .d (.str (S (figs w))), .un, .un] = .ok (.fr (.lst ((figs w).map fun c => D.bl (dig c)))) [a, .d (.str (S (figs w))), .un, .un] := fun a => by
    rw [← all_map]
    refine ev_lc (v := .non) (fun x => D.bl (match x with
      | .str z => match z.cps.toList with
        | [c] => dig c
        | _ => false
      | _ => false)) ?_ rfl rfl fun x hx => ?_
    · simp [fds, exs, ex.eq_1, ex.eq_2, ex.eq_3, ex.eq_4, ex.eq_5, ex.eq_6, ex.eq_7, ex.eq_8, ex.eq_10, ex.eq_12, ex.eq_13, ex.eq_14, ex.eq_15, ev.eq_1, ev.eq_2, ev.eq_3, ev.eq_4, ev.eq_5, ev.eq_6, ev.eq_7, ev.eq_8, ev.eq_9, ev.eq_10, ev.eq_11, ev.eq_12, ev.eq_13, ev.eq_14, ev.eq_15, ev.eq_16, ev.eq_17, ev.eq_18, ev.eq_19, ev.eq_20, ev.eq_21, ev.eq_22, ev.eq_23, evA, evs, evI, O.then, R.to, R.bind, EN.store, EN.storeAll, kp, kpF, seen, vw, opB, opC, opF, opI, opS, truD, R.val, R.dat, R.bool, isOwn, isLst, Env.at, O.end, retO, mask, flatD, List.mapM_cons, List.mapM_nil, eqD, eqS, callR, prep, prepV, handAll, handed, slotsOf, backR, back, mdz, prtR, IE.nl, isiR, excAt, isTy, Tb.tok, Cn.toD, cnPut, gc0, gc1, gc2, gc3, nk4, ne2, efl, ln0, ln1, ln2, ln3, ln4, ln5, ln6, S_eq, S_list, S_len, S_lp, S_rp, S_cm, S_qt, S_none, S_e, S_ce, S_sp, S_mn, S_0, S_9, S_a, S_z, hl2]
    · obtain ⟨c, _, rfl⟩ := List.mem_map.mp hx
      by_cases h1 : 48 ≤ c
      · by_cases h2 : c ≤ 57
        · simp [fds, exs, ex.eq_1, ex.eq_2, ex.eq_3, ex.eq_4, ex.eq_5, ex.eq_6, ex.eq_7, ex.eq_8, ex.eq_10, ex.eq_12, ex.eq_13, ex.eq_14, ex.eq_15, ev.eq_1, ev.eq_2, ev.eq_3, ev.eq_4, ev.eq_5, ev.eq_6, ev.eq_7, ev.eq_8, ev.eq_9, ev.eq_10, ev.eq_11, ev.eq_12, ev.eq_13, ev.eq_14, ev.eq_15, ev.eq_16, ev.eq_17, ev.eq_18, ev.eq_19, ev.eq_20, ev.eq_21, ev.eq_22, ev.eq_23, evA, evs, evI, O.then, R.to, R.bind, EN.store, EN.storeAll, kp, kpF, seen, vw, opB, opC, opF, opI, opS, truD, R.val, R.dat, R.bool, isOwn, isLst, Env.at, O.end, retO, mask, flatD, List.mapM_cons, List.mapM_nil, eqD, eqS, callR, prep, prepV, handAll, handed, slotsOf, backR, back, mdz, prtR, IE.nl, isiR, excAt, isTy, Tb.tok, Cn.toD, cnPut, gc0, gc1, gc2, gc3, nk4, ne2, efl, ln0, ln1, ln2, ln3, ln4, ln5, ln6, S_eq, S_list, S_len, S_lp, S_rp, S_cm, S_qt, S_none, S_e, S_ce, S_sp, S_mn, S_0, S_9, S_a, S_z, le_one, h1, h2, dig]
        · simp [fds, exs, ex.eq_1, ex.eq_2, ex.eq_3, ex.eq_4, ex.eq_5, ex.eq_6, ex.eq_7, ex.eq_8, ex.eq_10, ex.eq_12, ex.eq_13, ex.eq_14, ex.eq_15, ev.eq_1, ev.eq_2, ev.eq_3, ev.eq_4, ev.eq_5, ev.eq_6, ev.eq_7, ev.eq_8, ev.eq_9, ev.eq_10, ev.eq_11, ev.eq_12, ev.eq_13, ev.eq_14, ev.eq_15, ev.eq_16, ev.eq_17, ev.eq_18, ev.eq_19, ev.eq_20, ev.eq_21, ev.eq_22, ev.eq_23, evA, evs, evI, O.then, R.to, R.bind, EN.store, EN.storeAll, kp, kpF, seen, vw, opB, opC, opF, opI, opS, truD, R.val, R.dat, R.bool, isOwn, isLst, Env.at, O.end, retO, mask, flatD, List.mapM_cons, List.mapM_nil, eqD, eqS, callR, prep, prepV, handAll, handed, slotsOf, backR, back, mdz, prtR, IE.nl, isiR, excAt, isTy, Tb.tok, Cn.toD, cnPut, gc0, gc1, gc2, gc3, nk4, ne2, efl, ln0, ln1, ln2, ln3, ln4, ln5, ln6, S_eq, S_list, S_len, S_lp, S_rp, S_cm, S_qt, S_none, S_e, S_ce, S_sp, S_mn, S_0, S_9, S_a, S_z, le_one, h1, h2, dig]
      · simp [fds, exs, ex.eq_1, ex.eq_2, ex.eq_3, ex.eq_4, ex.eq_5, ex.eq_6, ex.eq_7, ex.eq_8, ex.eq_10, ex.eq_12, ex.eq_13, ex.eq_14, ex.eq_15, ev.eq_1, ev.eq_2, ev.eq_3, ev.eq_4, ev.eq_5, ev.eq_6, ev.eq_7, ev.eq_8, ev.eq_9, ev.eq_10, ev.eq_11, ev.eq_12, ev.eq_13, ev.eq_14, ev.eq_15, ev.eq_16, ev.eq_17, ev.eq_18, ev.eq_19, ev.eq_20, ev.eq_21, ev.eq_22, ev.eq_23, evA, evs, evI, O.then, R.to, R.bind, EN.store, EN.storeAll, kp, kpF, seen, vw, opB, opC, opF, opI, opS, truD, R.val, R.dat, R.bool, isOwn, isLst, Env.at, O.end, retO, mask, flatD, List.mapM_cons, List.mapM_nil, eqD, eqS, callR, prep, prepV, handAll, handed, slotsOf, backR, back, mdz, prtR, IE.nl, isiR, excAt, isTy, Tb.tok, Cn.toD, cnPut, gc0, gc1, gc2, gc3, nk4, ne2, efl, ln0, ln1, ln2, ln3, ln4, ln5, ln6, S_eq, S_list, S_len, S_lp, S_rp, S_cm, S_qt, S_none, S_e, S_ce, S_sp, S_mn, S_0, S_9, S_a, S_z, le_one, h1, dig]
  simp only [S_0, S_9] at lc
  rw [runF]
  unfold readI canon
  by_cases h1 : 1 ≤ (figs w).length
  · have j1 : (1 : Int) ≤ ((figs w).length : Int) := by omega
    by_cases h2 : (figs w).length ≤ 12
    · have j2 : ((figs w).length : Int) ≤ 12 := by omega
      by_cases h3 : (figs w).all dig = true
      · obtain ⟨i1, i2, i3⟩ := intT h3 h1 h2
        have i4 := log_ok i2
        have i5 : w.length ≤ 640 := by omega
        have se := str_eq h3 h1
        by_cases h4 : Str.ofString (toString (pv w)) = S w
        · have nh := se.mp h4
          have h5 : Str.ofString (pv w).repr = S w := h4
          have nb : (!(decide ((figs w).head? = some 48) && (decide (1 < (figs w).length) || neg w))) = true := by
            rw [Bool.not_eq_true', Bool.and_eq_false_iff]
            by_cases q : (figs w).head? = some 48
            · right
              rw [Bool.or_eq_false_iff]
              exact ⟨decide_eq_false fun z => nh ⟨q, .inl z⟩, by
                cases e : neg w with
                | false => rfl
                | true => exact absurd ⟨q, .inr e⟩ nh⟩
            · exact .inl (decide_eq_false q)
          rw [h3, nb]
          simp [fds, exs, ex.eq_1, ex.eq_2, ex.eq_3, ex.eq_4, ex.eq_5, ex.eq_6, ex.eq_7, ex.eq_8, ex.eq_10, ex.eq_12, ex.eq_13, ex.eq_14, ex.eq_15, ev.eq_1, ev.eq_2, ev.eq_3, ev.eq_4, ev.eq_5, ev.eq_6, ev.eq_7, ev.eq_8, ev.eq_9, ev.eq_10, ev.eq_11, ev.eq_12, ev.eq_13, ev.eq_14, ev.eq_15, ev.eq_16, ev.eq_17, ev.eq_18, ev.eq_19, ev.eq_20, ev.eq_21, ev.eq_22, ev.eq_23, evA, evs, evI, O.then, R.to, R.bind, EN.store, EN.storeAll, kp, kpF, seen, vw, opB, opC, opF, opI, opS, truD, R.val, R.dat, R.bool, isOwn, isLst, Env.at, O.end, retO, mask, flatD, List.mapM_cons, List.mapM_nil, eqD, eqS, callR, prep, prepV, handAll, handed, slotsOf, backR, back, mdz, prtR, IE.nl, isiR, excAt, isTy, Tb.tok, Cn.toD, cnPut, gc0, gc1, gc2, gc3, nk4, ne2, efl, ln0, ln1, ln2, ln3, ln4, ln5, ln6, S_eq, S_list, S_len, S_lp, S_rp, S_cm, S_qt, S_none, S_e, S_ce, S_sp, S_mn, S_0, S_9, S_a, S_z, b_read_integer, opM, rm, hl1, hl2, h1, h2, j1, j2, lc, bls_map, h3, i1, i4, i5, h5]
        · have h5 : ¬ Str.ofString (pv w).repr = S w := h4
          have nb : (!(decide ((figs w).head? = some 48) && (decide (1 < (figs w).length) || neg w))) = false := by
            have := fun z => h4 (se.mpr z)
            have := Classical.not_not.mp this
            rw [decide_eq_true this.1]
            rcases this.2 with q | q
            · rw [decide_eq_true q]; rfl
            · rw [q]; simp
          rw [h3, nb]
          simp [fds, exs, ex.eq_1, ex.eq_2, ex.eq_3, ex.eq_4, ex.eq_5, ex.eq_6, ex.eq_7, ex.eq_8, ex.eq_10, ex.eq_12, ex.eq_13, ex.eq_14, ex.eq_15, ev.eq_1, ev.eq_2, ev.eq_3, ev.eq_4, ev.eq_5, ev.eq_6, ev.eq_7, ev.eq_8, ev.eq_9, ev.eq_10, ev.eq_11, ev.eq_12, ev.eq_13, ev.eq_14, ev.eq_15, ev.eq_16, ev.eq_17, ev.eq_18, ev.eq_19, ev.eq_20, ev.eq_21, ev.eq_22, ev.eq_23, evA, evs, evI, O.then, R.to, R.bind, EN.store, EN.storeAll, kp, kpF, seen, vw, opB, opC, opF, opI, opS, truD, R.val, R.dat, R.bool, isOwn, isLst, Env.at, O.end, retO, mask, flatD, List.mapM_cons, List.mapM_nil, eqD, eqS, callR, prep, prepV, handAll, handed, slotsOf, backR, back, mdz, prtR, IE.nl, isiR, excAt, isTy, Tb.tok, Cn.toD, cnPut, gc0, gc1, gc2, gc3, nk4, ne2, efl, ln0, ln1, ln2, ln3, ln4, ln5, ln6, S_eq, S_list, S_len, S_lp, S_rp, S_cm, S_qt, S_none, S_e, S_ce, S_sp, S_mn, S_0, S_9, S_a, S_z, b_read_integer, opM, rm, hl1, hl2, h1, h2, j1, j2, lc, bls_map, h3, i1, i4, i5, h5]
      · simp [fds, exs, ex.eq_1, ex.eq_2, ex.eq_3, ex.eq_4, ex.eq_5, ex.eq_6, ex.eq_7, ex.eq_8, ex.eq_10, ex.eq_12, ex.eq_13, ex.eq_14, ex.eq_15, ev.eq_1, ev.eq_2, ev.eq_3, ev.eq_4, ev.eq_5, ev.eq_6, ev.eq_7, ev.eq_8, ev.eq_9, ev.eq_10, ev.eq_11, ev.eq_12, ev.eq_13, ev.eq_14, ev.eq_15, ev.eq_16, ev.eq_17, ev.eq_18, ev.eq_19, ev.eq_20, ev.eq_21, ev.eq_22, ev.eq_23, evA, evs, evI, O.then, R.to, R.bind, EN.store, EN.storeAll, kp, kpF, seen, vw, opB, opC, opF, opI, opS, truD, R.val, R.dat, R.bool, isOwn, isLst, Env.at, O.end, retO, mask, flatD, List.mapM_cons, List.mapM_nil, eqD, eqS, callR, prep, prepV, handAll, handed, slotsOf, backR, back, mdz, prtR, IE.nl, isiR, excAt, isTy, Tb.tok, Cn.toD, cnPut, gc0, gc1, gc2, gc3, nk4, ne2, efl, ln0, ln1, ln2, ln3, ln4, ln5, ln6, S_eq, S_list, S_len, S_lp, S_rp, S_cm, S_qt, S_none, S_e, S_ce, S_sp, S_mn, S_0, S_9, S_a, S_z, b_read_integer, opM, rm, hl1, hl2, h1, h2, j1, j2, lc, bls_map, h3]
    · have j2 : ¬ ((figs w).length : Int) ≤ 12 := by omega
      simp [fds, exs, ex.eq_1, ex.eq_2, ex.eq_3, ex.eq_4, ex.eq_5, ex.eq_6, ex.eq_7, ex.eq_8, ex.eq_10, ex.eq_12, ex.eq_13, ex.eq_14, ex.eq_15, ev.eq_1, ev.eq_2, ev.eq_3, ev.eq_4, ev.eq_5, ev.eq_6, ev.eq_7, ev.eq_8, ev.eq_9, ev.eq_10, ev.eq_11, ev.eq_12, ev.eq_13, ev.eq_14, ev.eq_15, ev.eq_16, ev.eq_17, ev.eq_18, ev.eq_19, ev.eq_20, ev.eq_21, ev.eq_22, ev.eq_23, evA, evs, evI, O.then, R.to, R.bind, EN.store, EN.storeAll, kp, kpF, seen, vw, opB, opC, opF, opI, opS, truD, R.val, R.dat, R.bool, isOwn, isLst, Env.at, O.end, retO, mask, flatD, List.mapM_cons, List.mapM_nil, eqD, eqS, callR, prep, prepV, handAll, handed, slotsOf, backR, back, mdz, prtR, IE.nl, isiR, excAt, isTy, Tb.tok, Cn.toD, cnPut, gc0, gc1, gc2, gc3, nk4, ne2, efl, ln0, ln1, ln2, ln3, ln4, ln5, ln6, S_eq, S_list, S_len, S_lp, S_rp, S_cm, S_qt, S_none, S_e, S_ce, S_sp, S_mn, S_0, S_9, S_a, S_z, b_read_integer, opM, rm, hl1, hl2, h1, h2, j1, j2]
  · have j1 : ¬ (1 : Int) ≤ ((figs w).length : Int) := by omega
    simp [fds, exs, ex.eq_1, ex.eq_2, ex.eq_3, ex.eq_4, ex.eq_5, ex.eq_6, ex.eq_7, ex.eq_8, ex.eq_10, ex.eq_12, ex.eq_13, ex.eq_14, ex.eq_15, ev.eq_1, ev.eq_2, ev.eq_3, ev.eq_4, ev.eq_5, ev.eq_6, ev.eq_7, ev.eq_8, ev.eq_9, ev.eq_10, ev.eq_11, ev.eq_12, ev.eq_13, ev.eq_14, ev.eq_15, ev.eq_16, ev.eq_17, ev.eq_18, ev.eq_19, ev.eq_20, ev.eq_21, ev.eq_22, ev.eq_23, evA, evs, evI, O.then, R.to, R.bind, EN.store, EN.storeAll, kp, kpF, seen, vw, opB, opC, opF, opI, opS, truD, R.val, R.dat, R.bool, isOwn, isLst, Env.at, O.end, retO, mask, flatD, List.mapM_cons, List.mapM_nil, eqD, eqS, callR, prep, prepV, handAll, handed, slotsOf, backR, back, mdz, prtR, IE.nl, isiR, excAt, isTy, Tb.tok, Cn.toD, cnPut, gc0, gc1, gc2, gc3, nk4, ne2, efl, ln0, ln1, ln2, ln3, ln4, ln5, ln6, S_eq, S_list, S_len, S_lp, S_rp, S_cm, S_qt, S_none, S_e, S_ce, S_sp, S_mn, S_0, S_9, S_a, S_z, b_read_integer, opM, rm, hl1, hl2, h1, j1]
end K74
namespace K74
open PySem EN NumText
/-! the parser, pure -/
def isL (c : Nat) : Bool := c == 32 || (decide (97 ≤ c) && decide (c ≤ 122))
def wordP (r : List Nat) : Option (List Nat × List Nat) := if r.takeWhile isL = [] then none else if (r.dropWhile isL).head? = some 34 then some (r.takeWhile isL, (r.dropWhile isL).tail) else none
def delim (c : Nat) : Bool := c == 44 || c == 41
def okRest : List Nat → Bool
  | [] => true
  | c :: _ => delim c
/-- the sign and the figures ahead -/
def numT (l : List Nat) : List Nat := (if neg l = true then [45] else []) ++ (figs l).takeWhile dig
def numR (l : List Nat) : List Nat := (figs l).dropWhile dig
def intP (st : Bool) (l : List Nat) : Option (D × List Nat) := if (canon (numT l) && (!st || okRest (numR l))) = true then some (.int (pv (numT l)), numR l) else none
def leafP (st : Bool) (l : List Nat) : Option (D × List Nat) :=
  if l.head? = some 34 then (wordP l.tail).map fun p => (.str (S p.1), p.2) else if l.take 4 = [110, 111, 110, 101] then some (.non, l.drop 4) else intP st l
def aft (T : List D → List Nat → Option (D × List Nat)) (ps : List D) (r : List Nat) : Option (D × List Nat) :=
  if r.head? = some 41 then (if 1 < ps.length then some (.tup ps, r.tail) else none)
  else if r.take 2 = [44, 41] ∧ ps.length = 1 then some (.tup ps, r.drop 2)
  else if r.head? = some 44 then T ps r.tail else none
def T (f : List Nat → Option (D × List Nat)) : Nat → List D → List Nat → Option (D × List Nat)
  | 0, _, _ => none
  | n + 1, ps, r => match f r with
    | none => none
    | some p => aft (T f n) (ps ++ [p.1]) p.2
def V (st : Bool) : Nat → List Nat → Option (D × List Nat)
  | 0, l => if l.head? = some 40 then none else leafP st l
  | d + 1, l => if l.head? = some 40 then (if l.tail.head? = some 41 then some (.tup [], l.drop 2) else T (V st d) (l.tail.length + 1) [] l.tail) else leafP st l
/-! what is left is an end of what was there -/
theorem split_neg (l : List Nat) : l = (if neg l = true then [45] else []) ++ figs l := by
  rcases figs_45 (w := l) with ⟨r, e1, e2, e3, _⟩ | ⟨_, e2, e3, _⟩
  · rw [e2, e3, e1]; rfl
  · rw [e2, e3]; rfl
theorem num_split (l : List Nat) : l = numT l ++ numR l := by
  unfold numT numR
  rw [List.append_assoc, List.takeWhile_append_dropWhile]
  exact split_neg l
theorem canon_ne {l : List Nat} (h : canon l = true) : l ≠ [] := fun z => by subst z; cases h
theorem intP_suf {st : Bool} {l r : List Nat} {v : D} (h : intP st l = some (v, r)) : ∃ p, p ≠ [] ∧ l = p ++ r := by
  unfold intP at h
  split at h
  · rename_i c
    cases h
    exact ⟨numT l, canon_ne (and2 c).1, num_split l⟩
  · cases h
theorem wordP_suf {l w r : List Nat} (h : wordP l = some (w, r)) : w ≠ [] ∧ l = w ++ 34 :: r ∧ w.all isL = true := by
  unfold wordP at h
  split at h
  · cases h
  · rename_i ne
    split at h
    · rename_i hh
      cases h
      refine ⟨ne, ?_, List.all_takeWhile⟩
      cases e : l.dropWhile isL with
      | nil => rw [e] at hh; cases hh
      | cons c r =>
        rw [e] at hh
        have : c = 34 := by simpa using hh
        subst this
        show l = l.takeWhile isL ++ 34 :: r
        rw [← e, List.takeWhile_append_dropWhile]
    · cases h
theorem leafP_suf {st : Bool} {l r : List Nat} {v : D} (h : leafP st l = some (v, r)) : ∃ p, p ≠ [] ∧ l = p ++ r := by
  unfold leafP at h
  split at h
  · rename_i hh
    cases e : wordP l.tail with
    | none => rw [e] at h; cases h
    | some q =>
      rw [e] at h
      cases h
      obtain ⟨h1, h2, _⟩ := wordP_suf (w := q.1) (r := q.2) e
      match l, hh with
      | c :: l, hh =>
        refine ⟨c :: (q.1 ++ [34]), by simp, ?_⟩
        have h2 : l = q.1 ++ 34 :: q.2 := h2
        rw [h2]; simp
  · split at h
    · rename_i hh
      cases h
      exact ⟨[110, 111, 110, 101], by simp, by rw [← hh, List.take_append_drop]⟩
    · exact intP_suf h
def Eats (f : List Nat → Option (D × List Nat)) : Prop := ∀ l v r, f l = some (v, r) → ∃ p, p ≠ [] ∧ l = p ++ r
theorem aft_suf {g : List D → List Nat → Option (D × List Nat)} {ps : List D} {r r2 : List Nat} {v : D} (hg : ∀ l, g ps l = some (v, r2) → ∃ p, p ≠ [] ∧ l = p ++ r2) (h : aft g ps r = some (v, r2)) : ∃ p, p ≠ [] ∧ r = p ++ r2 := by
  unfold aft at h
  split at h
  · rename_i hh
    split at h
    · cases h
      match r, hh with
      | c :: r, _ => exact ⟨[c], by simp, rfl⟩
    · cases h
  · split at h
    · rename_i hh
      cases h
      exact ⟨[44, 41], by simp, by rw [← hh.1, List.take_append_drop]⟩
    · split at h
      · rename_i hh
        obtain ⟨p, h1, h2⟩ := hg _ h
        match r, hh with
        | c :: r, _ =>
          have h2 : r = p ++ r2 := h2
          exact ⟨c :: p, by simp, by rw [h2]; rfl⟩
      · cases h
theorem T_suf {f : List Nat → Option (D × List Nat)} (hf : Eats f) : ∀ (n : Nat) (ps : List D) (l : List Nat) (v : D) (r : List Nat), T f n ps l = some (v, r) → ∃ p, p ≠ [] ∧ l = p ++ r
  | 0, _, _, _, _, h => nomatch h
  | n + 1, ps, l, v, r, h => by
    unfold T at h
    split at h
    · cases h
    · rename_i q e
      obtain ⟨p, h1, h2⟩ := hf l q.1 q.2 e
      obtain ⟨p2, h3, h4⟩ := aft_suf (fun l h => T_suf hf n _ l v r h) h
      exact ⟨p ++ p2, by simp [h1], by rw [h2, h4, List.append_assoc]⟩
theorem V_suf (st : Bool) : ∀ d, Eats (V st d)
  | 0, l, v, r, h => by
    unfold V at h
    split at h
    · cases h
    · exact leafP_suf h
  | d + 1, l, v, r, h => by
    unfold V at h
    split at h
    · rename_i hh
      match l, hh with
      | c :: l, hh =>
        split at h
        · rename_i h2
          cases h
          match l, h2 with
          | c2 :: l, _ => exact ⟨[c, c2], by simp, rfl⟩
        · obtain ⟨p, h1, h2⟩ := T_suf (V_suf st d) _ _ _ _ _ h
          have h2 : l = p ++ r := h2
          exact ⟨c :: p, by simp, by rw [h2]; rfl⟩
    · exact leafP_suf h
/-- how far the loop may go doesn't matter -/
theorem T_fuel {f : List Nat → Option (D × List Nat)} (hf : Eats f) : ∀ (n m : Nat) (ps : List D) (l : List Nat), l.length < n → l.length < m → T f n ps l = T f m ps l
  | 0, _, _, _, h, _ => absurd h (by omega)
  | _, 0, _, _, _, h => absurd h (by omega)
  | n + 1, m + 1, ps, l, h1, h2 => by
    unfold T
    cases e : f l with
    | none => rfl
    | some q =>
      obtain ⟨p, h3, h4⟩ := hf l q.1 q.2 e
      have hl : q.2.length < l.length := by
        rw [h4, List.length_append]
        have : 0 < p.length := List.length_pos_iff.mpr h3
        omega
      show aft _ _ q.2 = aft _ _ q.2
      unfold aft
      rw [T_fuel hf n m (ps ++ [q.1]) q.2.tail (by rw [List.length_tail]; omega) (by rw [List.length_tail]; omega)]
/-! the program's reading of words and numbers -/
theorem tw_app {p : Nat → Bool} {a b : List Nat} (ha : a.all p = true) (hb : ∀ c, b.head? = some c → p c = false) : (a ++ b).takeWhile p = a ∧ (a ++ b).dropWhile p = b := by
  induction a with
  | nil =>
    cases b with
    | nil => exact ⟨rfl, rfl⟩
    | cons c b =>
      have := hb c rfl
      exact ⟨by rw [List.nil_append, List.takeWhile_cons, this]; rfl, by rw [List.nil_append, List.dropWhile_cons, this]; rfl⟩
  | cons c a ih =>
    rw [List.all_cons, Bool.and_eq_true] at ha
    obtain ⟨h1, h2⟩ := ih ha.2
    rw [List.cons_append, List.takeWhile_cons, List.dropWhile_cons, if_pos ha.1, if_pos ha.1, h1, h2]
    exact ⟨rfl, rfl⟩
theorem dw_head {p : Nat → Bool} {l : List Nat} {c : Nat} (h : (l.dropWhile p).head? = some c) : p c = false := by
  induction l with
  | nil => cases h
  | cons a l ih =>
    rw [List.dropWhile_cons] at h
    split at h
    · exact ih h
    · rename_i q
      cases h
      simpa using q
theorem word_find (r : List Nat) : if 34 ∈ r ∧ r.takeWhile (fun d => d != 34) ≠ [] ∧ (r.takeWhile (fun d => d != 34)).all isL = true then wordP r = some (r.takeWhile (fun d => d != 34), r.drop ((r.takeWhile (fun d => d != 34)).length + 1)) else wordP r = none := by
  generalize ht : r.takeWhile (fun d => d != 34) = t
  have hr : r = t ++ r.dropWhile (fun d => d != 34) := by rw [← ht, List.takeWhile_append_dropWhile]
  split
  · rename_i h
    obtain ⟨h1, h2, h3⟩ := h
    cases e : r.dropWhile (fun d => d != 34) with
    | nil =>
      rw [e, List.append_nil] at hr
      have hall : t.all (fun d => d != 34) = true := by rw [← ht]; exact List.all_takeWhile
      rw [hr] at h1
      have := List.all_eq_true.mp hall 34 h1
      simp at this
    | cons c r2 =>
      have hc : c = 34 := by
        have := dw_head (p := fun d => d != 34) (l := r) (c := c) (by rw [e]; rfl)
        simpa using this
      subst hc
      rw [e] at hr
      have := tw_app (p := isL) (a := t) (b := 34 :: r2) h3 (fun c z => by cases z; rfl)
      rw [← hr] at this
      unfold wordP
      rw [this.1, this.2, if_neg h2]
      show some (t, r2) = _
      congr 2
      rw [hr]
      simp
  · rename_i h
    cases e : wordP r with
    | none => rfl
    | some q =>
      exfalso
      obtain ⟨h1, h2, h3⟩ := wordP_suf (w := q.1) (r := q.2) e
      have hq : q.1.all (fun d => d != 34) = true := List.all_eq_true.mpr fun c hc => by
        have := List.all_eq_true.mp h3 c hc
        have ne : c ≠ 34 := fun z => by rw [z] at this; cases this
        simpa using ne
      have := tw_app (p := fun d => d != 34) (a := q.1) (b := 34 :: q.2) hq (fun c z => by cases z; rfl)
      rw [← h2, ht] at this
      exact h ⟨by rw [h2]; simp, by rw [this.1]; exact h1, by rw [this.1]; exact h3⟩
theorem int_tok (l : List Nat) : (canon (l.takeWhile fun c => !delim c) = true → intP true l = some (.int (pv (l.takeWhile fun c => !delim c)), l.dropWhile fun c => !delim c)) ∧ (canon (l.takeWhile fun c => !delim c) = false → intP true l = none) := by
  generalize ht : l.takeWhile (fun c => !delim c) = t
  have hl : l = t ++ l.dropWhile (fun c => !delim c) := by rw [← ht, List.takeWhile_append_dropWhile]
  generalize hr : l.dropWhile (fun c => !delim c) = r at hl ⊢
  have hrd : ∀ c, r.head? = some c → delim c = true := fun c z => by
    have := dw_head (p := fun c => !delim c) (l := l) (c := c) (by rw [hr]; exact z)
    simpa using this
  have okr : okRest r = true := by
    cases r with
    | nil => rfl
    | cons c r => exact hrd c rfl
  constructor
  · intro hc
    have hc2 := hc
    unfold canon at hc2
    obtain ⟨hc2, _⟩ := and2 hc2
    obtain ⟨hc2, c3⟩ := and2 hc2
    obtain ⟨c1, c2⟩ := and2 hc2
    have hne : figs t ≠ [] := fun z => by rw [z] at c1; cases c1
    have fe : figs l = figs t ++ r ∧ neg l = neg t := by
      rcases figs_45 (w := t) with ⟨q, e1, e2, e3, _⟩ | ⟨e1, e2, e3, _⟩
      · rw [hl, e2, e3, e1]; exact ⟨rfl, rfl⟩
      · rw [e2, e3]
        rw [e2] at hne
        cases t with
        | nil => exact absurd rfl hne
        | cons c t =>
          have hc45 : c ≠ 45 := by simpa using e1
          rcases figs_45 (w := l) with ⟨q, f1, _⟩ | ⟨_, f2, f3, _⟩
          · rw [hl] at f1; exact absurd (List.cons.inj f1).1 hc45
          · exact ⟨f2.trans hl, f3⟩
    have ndig : ∀ c, r.head? = some c → dig c = false := fun c z => by
      have := hrd c z
      unfold delim at this
      unfold dig
      rcases Bool.or_eq_true_iff.mp this with q | q
      · cases eq_of_beq q; rfl
      · cases eq_of_beq q; rfl
    have tw := tw_app (p := dig) (a := figs t) (b := r) c3 ndig
    have nT : numT l = t := by
      unfold numT
      rw [fe.1, fe.2, tw.1]
      exact (split_neg t).symm
    have nR : numR l = r := by unfold numR; rw [fe.1, tw.2]
    unfold intP
    rw [nT, nR, hc, okr]
    rfl
  · intro hc
    unfold intP
    by_cases q : (canon (numT l) && (!true || okRest (numR l))) = true
    · exfalso
      obtain ⟨q1, q2⟩ := and2 q
      have q2 : okRest (numR l) = true := q2
      have sp := num_split l
      have nd : (numT l).all (fun c => !delim c) = true := List.all_eq_true.mpr fun c hc => by
        unfold numT at hc
        have : dig c = true ∨ c = 45 := by
          rcases List.mem_append.mp hc with hc | hc
          · split at hc
            · right; simpa using hc
            · cases hc
          · left; exact List.all_eq_true.mp (List.all_takeWhile (p := dig) (l := figs l)) c hc
        rcases this with z | z
        · unfold dig at z
          have z : 48 ≤ c ∧ c ≤ 57 := by simpa using z
          unfold delim
          have a : c ≠ 44 := by omega
          have b : c ≠ 41 := by omega
          simp [a, b]
        · subst z; rfl
      have tw := tw_app (p := fun c => !delim c) (a := numT l) (b := numR l) nd (fun c z => by
        cases e : numR l with
        | nil => rw [e] at z; cases z
        | cons a b =>
          rw [e] at z q2
          cases z
          have q2 : delim c = true := q2
          simp [q2])
      rw [← sp, ht] at tw
      rw [tw.1, q1] at hc
      cases hc
    · rw [if_neg q]
end K74
namespace K74
open PySem EN NumText
/-- how a reading ends -/
def PRF (l : List Nat) (o : Option (D × List Nat)) (R : FR) : Prop := match o with
  | some q => ∃ ps, R = .ok (.d (.tup [q.1, .int ((l.length - q.2.length : Nat) : Int)])) ps
  | none => ∃ (p : Nat) (ps : EN.Env), p ≤ l.length ∧ R = .er 1 [.str (S l), .int p] ps
def sgn (f : Nat → Bool) (x : D) : D := .bl (match x with
  | .str z => match z.cps.toList with
    | [c] => f c
    | _ => false
  | _ => false)
theorem sgn_map (f : Nat → Bool) (l : List Nat) : (l.map fun c => D.str ⟨#[c]⟩).map (sgn f) = l.map fun c => D.bl (f c) := by
  rw [List.map_map]
  exact List.map_congr_left fun c _ => rfl
theorem run_word (k : Nat) (l : List Nat) (a : Nat) (hl : l.length ≤ 100000) (ha : a < l.length) : PRF l ((wordP (l.drop (a + 1))).map fun q => (.str (S q.1), q.2)) (runF tb fds (k + 1) 5 [.d (.str (S l)), .d (.int a)]) := by
  generalize hr : l.drop (a + 1) = r
  have hrl : r.length = l.length - (a + 1) := by rw [← hr, List.length_drop]
  have hf : Txt.find3 (S l) (S [34]) ((a : Int) + 1) = _ := find_one l 34 (a + 1) (by omega)
  rw [hr] at hf
  have wf := word_find r
  generalize ht : r.takeWhile (fun d => d != 34) = t at hf wf
  have htl : t.length ≤ r.length := by rw [← ht]; exact (List.takeWhile_sublist _).length_le
  have hl1 : l.length ≤ line := by unfold line; omega
  have tk : r.take t.length = t := by
    have hr : r = t ++ r.dropWhile (fun d => d != 34) := by rw [← ht, List.takeWhile_append_dropWhile]
    conv => lhs; rw [hr]
    exact List.take_left
  have ts : ∀ e : Int, e = ((a + 1 + t.length : Nat) : Int) → L2.cutS (S l) (some ((a : Int) + 1)) (some e) = S t := fun e he => by
    have := cut_of (l := l) (lo := (a : Int) + 1) (hi := e) (a + 1) (a + 1 + t.length) rfl he
    rw [this, hr, Nat.add_sub_cancel_left, tk]
  have hl2 : t.length ≤ line := by unfold line; omega
  have lc : ∀ (e : Int), e = ((a + 1 + t.length : Nat) : Int) → ev tb (runF tb fds k) 2 (.lc (.or (.cmp .eq (.var 3) (.lit (.str " "))) (.ch .le .le (.lit (.str "a")) (.var 3) (.lit (.str "z")))) 3 (.txt (.slc (.var 0) (.bin .add (.var 1) (.lit (.int 1))) (.var 2))) false (.lit (.bl true)))
      [.d (.str (S l)), .d (.int a), .d (.int e), .un] = .ok (.fr (.lst (t.map fun c => D.bl (isL c)))) [.d (.str (S l)), .d (.int a), .d (.int e), .un] := fun e he => by
    rw [← sgn_map]
    refine ev_lc (v := .non) (sgn isL) ?_ rfl rfl fun x hx => ?_
    · simp [fds, exs, ex.eq_1, ex.eq_2, ex.eq_3, ex.eq_4, ex.eq_5, ex.eq_6, ex.eq_7, ex.eq_8, ex.eq_10, ex.eq_12, ex.eq_13, ex.eq_14, ex.eq_15, ev.eq_1, ev.eq_2, ev.eq_3, ev.eq_4, ev.eq_5, ev.eq_6, ev.eq_7, ev.eq_8, ev.eq_9, ev.eq_10, ev.eq_11, ev.eq_12, ev.eq_13, ev.eq_14, ev.eq_15, ev.eq_16, ev.eq_17, ev.eq_18, ev.eq_19, ev.eq_20, ev.eq_21, ev.eq_22, ev.eq_23, evA, evs, evI, O.then, R.to, R.bind, EN.store, EN.storeAll, kp, kpF, seen, vw, opB, opC, opF, opI, opS, truD, R.val, R.dat, R.bool, isOwn, isLst, Env.at, O.end, retO, mask, flatD, List.mapM_cons, List.mapM_nil, eqD, eqS, callR, prep, prepV, handAll, handed, slotsOf, backR, back, mdz, prtR, IE.nl, isiR, excAt, isTy, Tb.tok, Cn.toD, cnPut, gc0, gc1, gc2, gc3, nk4, ne2, efl, ln0, ln1, ln2, ln3, ln4, ln5, ln6, S_eq, S_list, S_len, S_lp, S_rp, S_cm, S_qt, S_none, S_e, S_ce, S_sp, S_mn, S_0, S_9, S_a, S_z, hl1, hl2, ts e he]
    · obtain ⟨c, _, rfl⟩ := List.mem_map.mp hx
      by_cases h0 : c = 32
      · simp [fds, exs, ex.eq_1, ex.eq_2, ex.eq_3, ex.eq_4, ex.eq_5, ex.eq_6, ex.eq_7, ex.eq_8, ex.eq_10, ex.eq_12, ex.eq_13, ex.eq_14, ex.eq_15, ev.eq_1, ev.eq_2, ev.eq_3, ev.eq_4, ev.eq_5, ev.eq_6, ev.eq_7, ev.eq_8, ev.eq_9, ev.eq_10, ev.eq_11, ev.eq_12, ev.eq_13, ev.eq_14, ev.eq_15, ev.eq_16, ev.eq_17, ev.eq_18, ev.eq_19, ev.eq_20, ev.eq_21, ev.eq_22, ev.eq_23, evA, evs, evI, O.then, R.to, R.bind, EN.store, EN.storeAll, kp, kpF, seen, vw, opB, opC, opF, opI, opS, truD, R.val, R.dat, R.bool, isOwn, isLst, Env.at, O.end, retO, mask, flatD, List.mapM_cons, List.mapM_nil, eqD, eqS, callR, prep, prepV, handAll, handed, slotsOf, backR, back, mdz, prtR, IE.nl, isiR, excAt, isTy, Tb.tok, Cn.toD, cnPut, gc0, gc1, gc2, gc3, nk4, ne2, efl, ln0, ln1, ln2, ln3, ln4, ln5, ln6, S_eq, S_list, S_len, S_lp, S_rp, S_cm, S_qt, S_none, S_e, S_ce, S_sp, S_mn, S_0, S_9, S_a, S_z, h0, sgn, isL]
      · by_cases h1 : 97 ≤ c
        · by_cases h2 : c ≤ 122
          · simp [fds, exs, ex.eq_1, ex.eq_2, ex.eq_3, ex.eq_4, ex.eq_5, ex.eq_6, ex.eq_7, ex.eq_8, ex.eq_10, ex.eq_12, ex.eq_13, ex.eq_14, ex.eq_15, ev.eq_1, ev.eq_2, ev.eq_3, ev.eq_4, ev.eq_5, ev.eq_6, ev.eq_7, ev.eq_8, ev.eq_9, ev.eq_10, ev.eq_11, ev.eq_12, ev.eq_13, ev.eq_14, ev.eq_15, ev.eq_16, ev.eq_17, ev.eq_18, ev.eq_19, ev.eq_20, ev.eq_21, ev.eq_22, ev.eq_23, evA, evs, evI, O.then, R.to, R.bind, EN.store, EN.storeAll, kp, kpF, seen, vw, opB, opC, opF, opI, opS, truD, R.val, R.dat, R.bool, isOwn, isLst, Env.at, O.end, retO, mask, flatD, List.mapM_cons, List.mapM_nil, eqD, eqS, callR, prep, prepV, handAll, handed, slotsOf, backR, back, mdz, prtR, IE.nl, isiR, excAt, isTy, Tb.tok, Cn.toD, cnPut, gc0, gc1, gc2, gc3, nk4, ne2, efl, ln0, ln1, ln2, ln3, ln4, ln5, ln6, S_eq, S_list, S_len, S_lp, S_rp, S_cm, S_qt, S_none, S_e, S_ce, S_sp, S_mn, S_0, S_9, S_a, S_z, le_one, h0, h1, h2, sgn, isL]
          · simp [fds, exs, ex.eq_1, ex.eq_2, ex.eq_3, ex.eq_4, ex.eq_5, ex.eq_6, ex.eq_7, ex.eq_8, ex.eq_10, ex.eq_12, ex.eq_13, ex.eq_14, ex.eq_15, ev.eq_1, ev.eq_2, ev.eq_3, ev.eq_4, ev.eq_5, ev.eq_6, ev.eq_7, ev.eq_8, ev.eq_9, ev.eq_10, ev.eq_11, ev.eq_12, ev.eq_13, ev.eq_14, ev.eq_15, ev.eq_16, ev.eq_17, ev.eq_18, ev.eq_19, ev.eq_20, ev.eq_21, ev.eq_22, ev.eq_23, evA, evs, evI, O.then, R.to, R.bind, EN.store, EN.storeAll, kp, kpF, seen, vw, opB, opC, opF, opI, opS, truD, R.val, R.dat, R.bool, isOwn, isLst, Env.at, O.end, retO, mask, flatD, List.mapM_cons, List.mapM_nil, eqD, eqS, callR, prep, prepV, handAll, handed, slotsOf, backR, back, mdz, prtR, IE.nl, isiR, excAt, isTy, Tb.tok, Cn.toD, cnPut, gc0, gc1, gc2, gc3, nk4, ne2, efl, ln0, ln1, ln2, ln3, ln4, ln5, ln6, S_eq, S_list, S_len, S_lp, S_rp, S_cm, S_qt, S_none, S_e, S_ce, S_sp, S_mn, S_0, S_9, S_a, S_z, le_one, h0, h1, h2, sgn, isL]
        · simp [fds, exs, ex.eq_1, ex.eq_2, ex.eq_3, ex.eq_4, ex.eq_5, ex.eq_6, ex.eq_7, ex.eq_8, ex.eq_10, ex.eq_12, ex.eq_13, ex.eq_14, ex.eq_15, ev.eq_1, ev.eq_2, ev.eq_3, ev.eq_4, ev.eq_5, ev.eq_6, ev.eq_7, ev.eq_8, ev.eq_9, ev.eq_10, ev.eq_11, ev.eq_12, ev.eq_13, ev.eq_14, ev.eq_15, ev.eq_16, ev.eq_17, ev.eq_18, ev.eq_19, ev.eq_20, ev.eq_21, ev.eq_22, ev.eq_23, evA, evs, evI, O.then, R.to, R.bind, EN.store, EN.storeAll, kp, kpF, seen, vw, opB, opC, opF, opI, opS, truD, R.val, R.dat, R.bool, isOwn, isLst, Env.at, O.end, retO, mask, flatD, List.mapM_cons, List.mapM_nil, eqD, eqS, callR, prep, prepV, handAll, handed, slotsOf, backR, back, mdz, prtR, IE.nl, isiR, excAt, isTy, Tb.tok, Cn.toD, cnPut, gc0, gc1, gc2, gc3, nk4, ne2, efl, ln0, ln1, ln2, ln3, ln4, ln5, ln6, S_eq, S_list, S_len, S_lp, S_rp, S_cm, S_qt, S_none, S_e, S_ce, S_sp, S_mn, S_0, S_9, S_a, S_z, le_one, h0, h1, sgn, isL]
  simp only [S_sp, S_a, S_z] at lc
  rw [runF]
  by_cases h34 : 34 ∈ r
  · rw [if_pos h34] at hf
    by_cases h0 : t = []
    · rw [if_neg (fun z => z.2.1 h0)] at wf
      rw [wf]
      subst h0
      refine ⟨a, [.un, .un], by omega, ?_⟩
      simp [fds, exs, ex.eq_1, ex.eq_2, ex.eq_3, ex.eq_4, ex.eq_5, ex.eq_6, ex.eq_7, ex.eq_8, ex.eq_10, ex.eq_12, ex.eq_13, ex.eq_14, ex.eq_15, ev.eq_1, ev.eq_2, ev.eq_3, ev.eq_4, ev.eq_5, ev.eq_6, ev.eq_7, ev.eq_8, ev.eq_9, ev.eq_10, ev.eq_11, ev.eq_12, ev.eq_13, ev.eq_14, ev.eq_15, ev.eq_16, ev.eq_17, ev.eq_18, ev.eq_19, ev.eq_20, ev.eq_21, ev.eq_22, ev.eq_23, evA, evs, evI, O.then, R.to, R.bind, EN.store, EN.storeAll, kp, kpF, seen, vw, opB, opC, opF, opI, opS, truD, R.val, R.dat, R.bool, isOwn, isLst, Env.at, O.end, retO, mask, flatD, List.mapM_cons, List.mapM_nil, eqD, eqS, callR, prep, prepV, handAll, handed, slotsOf, backR, back, mdz, prtR, IE.nl, isiR, excAt, isTy, Tb.tok, Cn.toD, cnPut, gc0, gc1, gc2, gc3, nk4, ne2, efl, ln0, ln1, ln2, ln3, ln4, ln5, ln6, S_eq, S_list, S_len, S_lp, S_rp, S_cm, S_qt, S_none, S_e, S_ce, S_sp, S_mn, S_0, S_9, S_a, S_z, b__read_word, opM, hf]
    · have t1 : 0 < t.length := List.length_pos_iff.mpr h0
      have n1 : ¬ (((a + 1 + t.length : Nat) : Int) ≤ (a : Int) + 1) := by omega
      have hlc := lc _ rfl
      have hts := ts _ rfl
      by_cases h3 : t.all isL = true
      · rw [if_pos ⟨h34, h0, h3⟩] at wf
        rw [wf]
        refine ⟨[.un, .un], ?_⟩
        have e1 : l.length - (r.drop (t.length + 1)).length = a + 1 + t.length + 1 := by
          have : t.length + 1 ≤ r.length := by
            rcases Nat.lt_or_ge t.length r.length with z | z
            · omega
            · exfalso
              have e : r = t := by rw [← tk, List.take_of_length_le z]
              have := List.all_eq_true.mp h3 34 (by rw [← e]; exact h34)
              cases this
          rw [List.length_drop]
          omega
        show _ = FR.ok (.d (.tup [.str (S t), .int ((l.length - (r.drop (t.length + 1)).length : Nat) : Int)])) _
        rw [e1]
        simp only [b__read_word, fds]
        generalize he : ((a + 1 + t.length : Nat) : Int) = e at hf n1 hlc hts
        have he2 : ((a + 1 + t.length + 1 : Nat) : Int) = e + 1 := by omega
        rw [he2]
        simp [fds, exs, ex.eq_1, ex.eq_2, ex.eq_3, ex.eq_4, ex.eq_5, ex.eq_6, ex.eq_7, ex.eq_8, ex.eq_10, ex.eq_12, ex.eq_13, ex.eq_14, ex.eq_15, ev.eq_1, ev.eq_2, ev.eq_3, ev.eq_4, ev.eq_5, ev.eq_6, ev.eq_7, ev.eq_8, ev.eq_9, ev.eq_10, ev.eq_11, ev.eq_12, ev.eq_13, ev.eq_14, ev.eq_15, ev.eq_16, ev.eq_17, ev.eq_18, ev.eq_19, ev.eq_20, ev.eq_21, ev.eq_22, ev.eq_23, evA, evs, evI, O.then, R.to, R.bind, EN.store, EN.storeAll, kp, kpF, seen, vw, opB, opC, opF, opI, opS, truD, R.val, R.dat, R.bool, isOwn, isLst, Env.at, O.end, retO, mask, flatD, List.mapM_cons, List.mapM_nil, eqD, eqS, callR, prep, prepV, handAll, handed, slotsOf, backR, back, mdz, prtR, IE.nl, isiR, excAt, isTy, Tb.tok, Cn.toD, cnPut, gc0, gc1, gc2, gc3, nk4, ne2, efl, ln0, ln1, ln2, ln3, ln4, ln5, ln6, S_eq, S_list, S_len, S_lp, S_rp, S_cm, S_qt, S_none, S_e, S_ce, S_sp, S_mn, S_0, S_9, S_a, S_z, opM, hf, n1, hlc, hts, bls_map, h3, hl1]
      · rw [if_neg (fun z => h3 z.2.2)] at wf
        rw [wf]
        refine ⟨a, [.un, .un], by omega, ?_⟩
        have h3 : t.all isL = false := by simpa using h3
        simp only [b__read_word, fds]
        generalize he : ((a + 1 + t.length : Nat) : Int) = e at hf n1 hlc hts
        simp [fds, exs, ex.eq_1, ex.eq_2, ex.eq_3, ex.eq_4, ex.eq_5, ex.eq_6, ex.eq_7, ex.eq_8, ex.eq_10, ex.eq_12, ex.eq_13, ex.eq_14, ex.eq_15, ev.eq_1, ev.eq_2, ev.eq_3, ev.eq_4, ev.eq_5, ev.eq_6, ev.eq_7, ev.eq_8, ev.eq_9, ev.eq_10, ev.eq_11, ev.eq_12, ev.eq_13, ev.eq_14, ev.eq_15, ev.eq_16, ev.eq_17, ev.eq_18, ev.eq_19, ev.eq_20, ev.eq_21, ev.eq_22, ev.eq_23, evA, evs, evI, O.then, R.to, R.bind, EN.store, EN.storeAll, kp, kpF, seen, vw, opB, opC, opF, opI, opS, truD, R.val, R.dat, R.bool, isOwn, isLst, Env.at, O.end, retO, mask, flatD, List.mapM_cons, List.mapM_nil, eqD, eqS, callR, prep, prepV, handAll, handed, slotsOf, backR, back, mdz, prtR, IE.nl, isiR, excAt, isTy, Tb.tok, Cn.toD, cnPut, gc0, gc1, gc2, gc3, nk4, ne2, efl, ln0, ln1, ln2, ln3, ln4, ln5, ln6, S_eq, S_list, S_len, S_lp, S_rp, S_cm, S_qt, S_none, S_e, S_ce, S_sp, S_mn, S_0, S_9, S_a, S_z, opM, hf, n1, hlc, hts, bls_map, h3, hl1]
  · rw [if_neg h34] at hf
    rw [if_neg (fun z => h34 z.1)] at wf
    rw [wf]
    refine ⟨a, [.un, .un], by omega, ?_⟩
    have n1 : (-1 : Int) ≤ (a : Int) + 1 := by omega
    simp [fds, exs, ex.eq_1, ex.eq_2, ex.eq_3, ex.eq_4, ex.eq_5, ex.eq_6, ex.eq_7, ex.eq_8, ex.eq_10, ex.eq_12, ex.eq_13, ex.eq_14, ex.eq_15, ev.eq_1, ev.eq_2, ev.eq_3, ev.eq_4, ev.eq_5, ev.eq_6, ev.eq_7, ev.eq_8, ev.eq_9, ev.eq_10, ev.eq_11, ev.eq_12, ev.eq_13, ev.eq_14, ev.eq_15, ev.eq_16, ev.eq_17, ev.eq_18, ev.eq_19, ev.eq_20, ev.eq_21, ev.eq_22, ev.eq_23, evA, evs, evI, O.then, R.to, R.bind, EN.store, EN.storeAll, kp, kpF, seen, vw, opB, opC, opF, opI, opS, truD, R.val, R.dat, R.bool, isOwn, isLst, Env.at, O.end, retO, mask, flatD, List.mapM_cons, List.mapM_nil, eqD, eqS, callR, prep, prepV, handAll, handed, slotsOf, backR, back, mdz, prtR, IE.nl, isiR, excAt, isTy, Tb.tok, Cn.toD, cnPut, gc0, gc1, gc2, gc3, nk4, ne2, efl, ln0, ln1, ln2, ln3, ln4, ln5, ln6, S_eq, S_list, S_len, S_lp, S_rp, S_cm, S_qt, S_none, S_e, S_ce, S_sp, S_mn, S_0, S_9, S_a, S_z, b__read_word, opM, hf, n1]
end K74
namespace K74
open PySem EN NumText
theorem S_beq (a b : List Nat) : (S a == S b) = decide (a = b) := by
  by_cases h : a = b
  · subst h; simp
  · rw [decide_eq_false h]
    exact beq_eq_false_iff_ne.mpr fun z => h ((S_eq a b).mp z)
/-- text[e:e+1], text[e:e+2], text[e:e+4] -/
theorem cut1 (l : List Nat) (e : Nat) : L2.cutS (S l) (some (e : Int)) (some ((e : Int) + 1)) = S ((l.drop e).take 1) := by
  have := cut_of (l := l) (lo := (e : Int)) (hi := (e : Int) + 1) e (e + 1) rfl rfl
  rw [this, Nat.add_sub_cancel_left]
theorem cut2 (l : List Nat) (e : Nat) : L2.cutS (S l) (some (e : Int)) (some ((e : Int) + 2)) = S ((l.drop e).take 2) := by
  have := cut_of (l := l) (lo := (e : Int)) (hi := (e : Int) + 2) e (e + 2) rfl rfl
  rw [this, Nat.add_sub_cancel_left]
theorem cut4 (l : List Nat) (e : Nat) : L2.cutS (S l) (some (e : Int)) (some ((e : Int) + 4)) = S ((l.drop e).take 4) := by
  have := cut_of (l := l) (lo := (e : Int)) (hi := (e : Int) + 4) e (e + 4) rfl rfl
  rw [this, Nat.add_sub_cancel_left]
theorem cut12 (l : List Nat) (e : Nat) : L2.cutS (S l) (some ((e : Int) + 1)) (some ((e : Int) + 2)) = S ((l.drop (e + 1)).take 1) := by
  have := cut_of (l := l) (lo := (e : Int) + 1) (hi := (e : Int) + 2) (e + 1) (e + 2) rfl rfl
  rw [this, show e + 2 - (e + 1) = 1 by omega]
theorem wh_next {c : EN.Env → R Bool} {b : EN.Env → O} {n : Nat} {ρ ρ1 ρ2 : EN.Env} (hc : c ρ = .ok true ρ1) (hb : b ρ1 = .nx ρ2) : whRun c b (n + 1) ρ = whRun c b n ρ2 := by
  conv => lhs; unfold whRun
  simp only [hc, R.to, hb]
theorem wh_stop {c : EN.Env → R Bool} {b : EN.Env → O} {n : Nat} {ρ ρ1 : EN.Env} (hc : c ρ = .ok false ρ1) : whRun c b (n + 1) ρ = .nx ρ1 := by
  conv => lhs; unfold whRun
  simp only [hc, R.to]
theorem wh_rt {c : EN.Env → R Bool} {b : EN.Env → O} {n : Nat} {v : IV} {ρ ρ1 ρ2 : EN.Env} (hc : c ρ = .ok true ρ1) (hb : b ρ1 = .rt v ρ2) : whRun c b (n + 1) ρ = .rt v ρ2 := by
  conv => lhs; unfold whRun
  simp only [hc, R.to, hb]
theorem wh_er {c : EN.Env → R Bool} {b : EN.Env → O} {n k : Nat} {fs : List D} {ρ ρ1 ρ2 : EN.Env} (hc : c ρ = .ok true ρ1) (hb : b ρ1 = .er k fs ρ2) : whRun c b (n + 1) ρ = .er k fs ρ2 := by
  conv => lhs; unfold whRun
  simp only [hc, R.to, hb]
theorem scan (fn : Fn) (l : List Nat) (a : Nat) (hl : l.length ≤ line) (s : Slot) : ∀ (n e : Nat), e ≤ l.length → l.length - e < n →
    whRun (fun ρ => (ev tb fn 2 (.cmp .notin (.slc (.var 0) (.var 2) (.bin .add (.var 2) (.lit (.int 1)))) (.tup (.cons (.lit (.str "")) (.cons (.lit (.str ",")) (.cons (.lit (.str ")")) .nil))))) ρ).tru) (fun ρ => exs tb fn 2 (.cons (.aug 2 .add (.lit (.int 1))) .nil) ρ) n
      [.d (.str (S l)), .d (.int a), .d (.int e), s] = .nx [.d (.str (S l)), .d (.int a), .d (.int ((e + ((l.drop e).takeWhile fun c => !delim c).length : Nat) : Int)), s]
  | 0, e, _, h => absurd h (by omega)
  | n + 1, e, he, h => by
    cases hd : l.drop e with
    | nil => exact wh_stop (by simp [fds, exs, ex.eq_1, ex.eq_2, ex.eq_3, ex.eq_4, ex.eq_5, ex.eq_6, ex.eq_7, ex.eq_8, ex.eq_10, ex.eq_12, ex.eq_13, ex.eq_14, ex.eq_15, ev.eq_1, ev.eq_2, ev.eq_3, ev.eq_4, ev.eq_5, ev.eq_6, ev.eq_7, ev.eq_8, ev.eq_9, ev.eq_10, ev.eq_11, ev.eq_12, ev.eq_13, ev.eq_14, ev.eq_15, ev.eq_16, ev.eq_17, ev.eq_18, ev.eq_19, ev.eq_20, ev.eq_21, ev.eq_22, ev.eq_23, evA, evs, evI, O.then, R.to, R.bind, EN.store, EN.storeAll, kp, kpF, seen, vw, opB, opC, opF, opI, opS, truD, R.val, R.dat, R.bool, isOwn, isLst, Env.at, O.end, retO, mask, flatD, List.mapM_cons, List.mapM_nil, eqD, eqS, callR, prep, prepV, handAll, handed, slotsOf, backR, back, mdz, prtR, IE.nl, isiR, excAt, isTy, Tb.tok, Cn.toD, cnPut, gc0, gc1, gc2, gc3, nk4, ne2, efl, ln0, ln1, ln2, ln3, ln4, ln5, ln6, S_eq, S_list, S_len, S_lp, S_rp, S_cm, S_qt, S_none, S_e, S_ce, S_sp, S_mn, S_0, S_9, S_a, S_z, cut1, hd, hl, inD, eqF, S_beq])
    | cons c r =>
      have h1 : e < l.length := by
        rcases Nat.lt_or_ge e l.length with z | z
        · exact z
        · rw [List.drop_eq_nil_of_le z] at hd; cases hd
      have hr : l.drop (e + 1) = r := by
        rw [List.drop_eq_getElem_cons h1] at hd
        exact (List.cons.inj hd).2
      by_cases hc : delim c = true
      · have z : c = 44 ∨ c = 41 := by unfold delim at hc; simpa using hc
        rcases z with z | z
        · subst z; exact wh_stop (by simp [fds, exs, ex.eq_1, ex.eq_2, ex.eq_3, ex.eq_4, ex.eq_5, ex.eq_6, ex.eq_7, ex.eq_8, ex.eq_10, ex.eq_12, ex.eq_13, ex.eq_14, ex.eq_15, ev.eq_1, ev.eq_2, ev.eq_3, ev.eq_4, ev.eq_5, ev.eq_6, ev.eq_7, ev.eq_8, ev.eq_9, ev.eq_10, ev.eq_11, ev.eq_12, ev.eq_13, ev.eq_14, ev.eq_15, ev.eq_16, ev.eq_17, ev.eq_18, ev.eq_19, ev.eq_20, ev.eq_21, ev.eq_22, ev.eq_23, evA, evs, evI, O.then, R.to, R.bind, EN.store, EN.storeAll, kp, kpF, seen, vw, opB, opC, opF, opI, opS, truD, R.val, R.dat, R.bool, isOwn, isLst, Env.at, O.end, retO, mask, flatD, List.mapM_cons, List.mapM_nil, eqD, eqS, callR, prep, prepV, handAll, handed, slotsOf, backR, back, mdz, prtR, IE.nl, isiR, excAt, isTy, Tb.tok, Cn.toD, cnPut, gc0, gc1, gc2, gc3, nk4, ne2, efl, ln0, ln1, ln2, ln3, ln4, ln5, ln6, S_eq, S_list, S_len, S_lp, S_rp, S_cm, S_qt, S_none, S_e, S_ce, S_sp, S_mn, S_0, S_9, S_a, S_z, cut1, hd, hl, inD, eqF, S_beq, delim])
        · subst z; exact wh_stop (by simp [fds, exs, ex.eq_1, ex.eq_2, ex.eq_3, ex.eq_4, ex.eq_5, ex.eq_6, ex.eq_7, ex.eq_8, ex.eq_10, ex.eq_12, ex.eq_13, ex.eq_14, ex.eq_15, ev.eq_1, ev.eq_2, ev.eq_3, ev.eq_4, ev.eq_5, ev.eq_6, ev.eq_7, ev.eq_8, ev.eq_9, ev.eq_10, ev.eq_11, ev.eq_12, ev.eq_13, ev.eq_14, ev.eq_15, ev.eq_16, ev.eq_17, ev.eq_18, ev.eq_19, ev.eq_20, ev.eq_21, ev.eq_22, ev.eq_23, evA, evs, evI, O.then, R.to, R.bind, EN.store, EN.storeAll, kp, kpF, seen, vw, opB, opC, opF, opI, opS, truD, R.val, R.dat, R.bool, isOwn, isLst, Env.at, O.end, retO, mask, flatD, List.mapM_cons, List.mapM_nil, eqD, eqS, callR, prep, prepV, handAll, handed, slotsOf, backR, back, mdz, prtR, IE.nl, isiR, excAt, isTy, Tb.tok, Cn.toD, cnPut, gc0, gc1, gc2, gc3, nk4, ne2, efl, ln0, ln1, ln2, ln3, ln4, ln5, ln6, S_eq, S_list, S_len, S_lp, S_rp, S_cm, S_qt, S_none, S_e, S_ce, S_sp, S_mn, S_0, S_9, S_a, S_z, cut1, hd, hl, inD, eqF, S_beq, delim])
      · have hc : delim c = false := by simpa using hc
        have z : ¬ c = 44 ∧ ¬ c = 41 := by
          unfold delim at hc
          rw [Bool.or_eq_false_iff] at hc
          exact ⟨by simpa using hc.1, by simpa using hc.2⟩
        have z1 : ¬ 44 = c := fun q => z.1 q.symm
        have z2 : ¬ 41 = c := fun q => z.2 q.symm
        have ih := scan fn l a hl s n (e + 1) (by omega) (by omega)
        rw [hr] at ih
        have e2 : (e + ((c :: r).takeWhile fun c => !delim c).length) = e + 1 + (r.takeWhile fun c => !delim c).length := by
          rw [List.takeWhile_cons, hc]
          simp
          omega
        rw [e2]
        exact (wh_next (ρ1 := [.d (.str (S l)), .d (.int a), .d (.int e), s]) (ρ2 := [.d (.str (S l)), .d (.int a), .d (.int ((e + 1 : Nat) : Int)), s]) (by simp [fds, exs, ex.eq_1, ex.eq_2, ex.eq_3, ex.eq_4, ex.eq_5, ex.eq_6, ex.eq_7, ex.eq_8, ex.eq_10, ex.eq_12, ex.eq_13, ex.eq_14, ex.eq_15, ev.eq_1, ev.eq_2, ev.eq_3, ev.eq_4, ev.eq_5, ev.eq_6, ev.eq_7, ev.eq_8, ev.eq_9, ev.eq_10, ev.eq_11, ev.eq_12, ev.eq_13, ev.eq_14, ev.eq_15, ev.eq_16, ev.eq_17, ev.eq_18, ev.eq_19, ev.eq_20, ev.eq_21, ev.eq_22, ev.eq_23, evA, evs, evI, O.then, R.to, R.bind, EN.store, EN.storeAll, kp, kpF, seen, vw, opB, opC, opF, opI, opS, truD, R.val, R.dat, R.bool, isOwn, isLst, Env.at, O.end, retO, mask, flatD, List.mapM_cons, List.mapM_nil, eqD, eqS, callR, prep, prepV, handAll, handed, slotsOf, backR, back, mdz, prtR, IE.nl, isiR, excAt, isTy, Tb.tok, Cn.toD, cnPut, gc0, gc1, gc2, gc3, nk4, ne2, efl, ln0, ln1, ln2, ln3, ln4, ln5, ln6, S_eq, S_list, S_len, S_lp, S_rp, S_cm, S_qt, S_none, S_e, S_ce, S_sp, S_mn, S_0, S_9, S_a, S_z, cut1, hd, hl, inD, eqF, S_beq, z1, z2]) (by simp [fds, exs, ex.eq_1, ex.eq_2, ex.eq_3, ex.eq_4, ex.eq_5, ex.eq_6, ex.eq_7, ex.eq_8, ex.eq_10, ex.eq_12, ex.eq_13, ex.eq_14, ex.eq_15, ev.eq_1, ev.eq_2, ev.eq_3, ev.eq_4, ev.eq_5, ev.eq_6, ev.eq_7, ev.eq_8, ev.eq_9, ev.eq_10, ev.eq_11, ev.eq_12, ev.eq_13, ev.eq_14, ev.eq_15, ev.eq_16, ev.eq_17, ev.eq_18, ev.eq_19, ev.eq_20, ev.eq_21, ev.eq_22, ev.eq_23, evA, evs, evI, O.then, R.to, R.bind, EN.store, EN.storeAll, kp, kpF, seen, vw, opB, opC, opF, opI, opS, truD, R.val, R.dat, R.bool, isOwn, isLst, Env.at, O.end, retO, mask, flatD, List.mapM_cons, List.mapM_nil, eqD, eqS, callR, prep, prepV, handAll, handed, slotsOf, backR, back, mdz, prtR, IE.nl, isiR, excAt, isTy, Tb.tok, Cn.toD, cnPut, gc0, gc1, gc2, gc3, nk4, ne2, efl, ln0, ln1, ln2, ln3, ln4, ln5, ln6, S_eq, S_list, S_len, S_lp, S_rp, S_cm, S_qt, S_none, S_e, S_ce, S_sp, S_mn, S_0, S_9, S_a, S_z, augD])).trans ih
theorem run_num (k : Nat) (l : List Nat) (a : Nat) (hl : l.length ≤ 100000) (ha : a ≤ l.length) : PRF l (intP true (l.drop a)) (runF tb fds (k + 2) 6 [.d (.str (S l)), .d (.int a)]) := by
  have hl1 : l.length ≤ line := by unfold line; omega
  have sc := (ex.eq_11 _ _ _ _ _ _).trans (scan (runF tb fds (k + 1)) l a hl1 .un line a ha (by unfold line; omega))
  simp only [S_e, S_cm, S_rp] at sc
  obtain ⟨t1, t2⟩ := int_tok (l.drop a)
  generalize hr : l.drop a = r at t1 t2 sc ⊢
  have hrl : r.length = l.length - a := by rw [← hr, List.length_drop]
  have hspl : r = (r.takeWhile fun c => !delim c) ++ (r.dropWhile fun c => !delim c) := List.takeWhile_append_dropWhile.symm
  generalize ht : (r.takeWhile fun c => !delim c) = t at t1 t2 sc hspl
  generalize hq : (r.dropWhile fun c => !delim c) = q at t1 t2 hspl
  have htl : t.length + q.length = r.length := by rw [hspl, List.length_append]
  have hts : L2.cutS (S l) (some (a : Int)) (some ((a + t.length : Nat) : Int)) = S t := by
    rw [cut_of a (a + t.length) rfl rfl, hr, Nat.add_sub_cancel_left, hspl, List.take_left]
  have ri := run_int k t (by omega)
  rw [runF]
  simp only [b__read_integer, fds]
  generalize he : ((a + t.length : Nat) : Int) = e at sc hts
  by_cases hc : canon t = true
  · rw [t1 hc]
    refine ⟨[.un, .un], ?_⟩
    have e1 : l.length - q.length = a + t.length := by omega
    show _ = FR.ok (.d (.tup [.int (pv t), .int ((l.length - q.length : Nat) : Int)])) _
    rw [e1, he]
    simp only [readI, if_pos hc] at ri
    simp [fds, exs, ex.eq_1, ex.eq_2, ex.eq_3, ex.eq_4, ex.eq_5, ex.eq_6, ex.eq_7, ex.eq_8, ex.eq_10, ex.eq_12, ex.eq_13, ex.eq_14, ex.eq_15, ev.eq_1, ev.eq_2, ev.eq_3, ev.eq_4, ev.eq_5, ev.eq_6, ev.eq_7, ev.eq_8, ev.eq_9, ev.eq_10, ev.eq_11, ev.eq_12, ev.eq_13, ev.eq_14, ev.eq_15, ev.eq_16, ev.eq_17, ev.eq_18, ev.eq_19, ev.eq_20, ev.eq_21, ev.eq_22, ev.eq_23, evA, evs, evI, O.then, R.to, R.bind, EN.store, EN.storeAll, kp, kpF, seen, vw, opB, opC, opF, opI, opS, truD, R.val, R.dat, R.bool, isOwn, isLst, Env.at, O.end, retO, mask, flatD, List.mapM_cons, List.mapM_nil, eqD, eqS, callR, prep, prepV, handAll, handed, slotsOf, backR, back, mdz, prtR, IE.nl, isiR, excAt, isTy, Tb.tok, Cn.toD, cnPut, gc0, gc1, gc2, gc3, nk4, ne2, efl, ln0, ln1, ln2, ln3, ln4, ln5, ln6, S_eq, S_list, S_len, S_lp, S_rp, S_cm, S_qt, S_none, S_e, S_ce, S_sp, S_mn, S_0, S_9, S_a, S_z, sc, hts, hl1, ri]
  · rw [t2 (by simpa using hc)]
    refine ⟨a, [.un, .un], by omega, ?_⟩
    simp only [readI, if_neg hc] at ri
    simp [fds, exs, ex.eq_1, ex.eq_2, ex.eq_3, ex.eq_4, ex.eq_5, ex.eq_6, ex.eq_7, ex.eq_8, ex.eq_10, ex.eq_12, ex.eq_13, ex.eq_14, ex.eq_15, ev.eq_1, ev.eq_2, ev.eq_3, ev.eq_4, ev.eq_5, ev.eq_6, ev.eq_7, ev.eq_8, ev.eq_9, ev.eq_10, ev.eq_11, ev.eq_12, ev.eq_13, ev.eq_14, ev.eq_15, ev.eq_16, ev.eq_17, ev.eq_18, ev.eq_19, ev.eq_20, ev.eq_21, ev.eq_22, ev.eq_23, evA, evs, evI, O.then, R.to, R.bind, EN.store, EN.storeAll, kp, kpF, seen, vw, opB, opC, opF, opI, opS, truD, R.val, R.dat, R.bool, isOwn, isLst, Env.at, O.end, retO, mask, flatD, List.mapM_cons, List.mapM_nil, eqD, eqS, callR, prep, prepV, handAll, handed, slotsOf, backR, back, mdz, prtR, IE.nl, isiR, excAt, isTy, Tb.tok, Cn.toD, cnPut, gc0, gc1, gc2, gc3, nk4, ne2, efl, ln0, ln1, ln2, ln3, ln4, ln5, ln6, S_eq, S_list, S_len, S_lp, S_rp, S_cm, S_qt, S_none, S_e, S_ce, S_sp, S_mn, S_0, S_9, S_a, S_z, sc, hts, hl1, ri]
end K74
namespace K74
open PySem EN NumText
def PRO (l : List Nat) (o : Option (D × List Nat)) (R : O) : Prop := match o with
  | some q => ∃ ρ, R = .rt (.d (.tup [q.1, .int ((l.length - q.2.length : Nat) : Int)])) ρ
  | none => ∃ (p : Nat) (ρ : EN.Env), p ≤ l.length ∧ R = .er 1 [.str (S l), .int p] ρ
def tC : IE := .cmp .ne (.slc (.var 0) (.var 4) (.bin .add (.var 4) (.lit (.int 1)))) (.lit (.str ")"))
def tB1 : IS := .asgT [5, 4] (.call 3 (.cons (.var 0) (.cons (.bin .add (.var 4) (.lit (.int 1))) (.cons (.bin .sub (.var 2) (.lit (.int 1))) .nil))))
def tB2 : ISs := .cons (.ifS (.and (.cmp .eq (.bi .len (.cons (.var 3) .nil)) (.lit (.int 1))) (.cmp .eq (.slc (.var 0) (.var 4) (.bin .add (.var 4) (.lit (.int 2)))) (.lit (.str ",)")))) (.cons (.ret (.tup (.cons (.tup (.cons (.var 5) .nil)) (.cons (.bin .add (.var 4) (.lit (.int 2))) .nil)))) .nil) .nil)
  (.cons (.ifS (.cmp .notin (.slc (.var 0) (.var 4) (.bin .add (.var 4) (.lit (.int 1)))) (.tup (.cons (.lit (.str ",")) (.cons (.lit (.str ")")) .nil)))) (.cons (.raise 1 (.cons (.var 0) (.cons (.var 4) .nil))) .nil) .nil) .nil)
def tBody : ISs := .cons tB1 (.cons (.app 3 (.var 5)) tB2)
def tEnd : ISs := .cons (.ifS (.cmp .eq (.bi .len (.cons (.var 3) .nil)) (.lit (.int 1))) (.cons (.raise 1 (.cons (.var 0) (.cons (.var 4) .nil))) .nil) .nil)
  (.cons (.ret (.tup (.cons (.bi .tuple (.cons (.var 3) .nil)) (.cons (.bin .add (.var 4) (.lit (.int 1))) .nil)))) .nil)
theorem b_tuple : b__read_tuple = .cons (.ifS (.cmp .eq (.var 2) (.lit (.int 0))) (.cons (.raise 1 (.cons (.var 0) (.cons (.var 1) .nil))) .nil) .nil)
    (.cons (.ifS (.cmp .eq (.slc (.var 0) (.bin .add (.var 1) (.lit (.int 1))) (.bin .add (.var 1) (.lit (.int 2)))) (.lit (.str ")"))) (.cons (.ret (.tup (.cons (.tup .nil) (.cons (.bin .add (.var 1) (.lit (.int 2))) .nil)))) .nil) .nil)
    (.cons (.asg 3 (.lst .nil)) (.cons (.asg 4 (.var 1)) (.cons (.whl tC tBody) tEnd)))) := rfl
section
variable (fn : Fn) (l : List Nat) (a d : Nat) (hl : l.length ≤ line)
/-- the loop's slots -/
def tE (l : List Nat) (a d : Nat) (ps : List D) (e : Nat) (s : EN.Slot) : EN.Env := [.d (.str (S l)), .d (.int a), .d (.int ((d : Int) + 1)), .own (.lst ps), .d (.int e), s]
include hl
theorem t_cond (ps : List D) (e : Nat) (s : EN.Slot) : (ev tb fn 3 tC (tE l a d ps e s)).tru = .ok (!decide ((l.drop e).take 1 = [41])) (tE l a d ps e s) := by
  unfold tC tE
  simp [fds, exs, ex.eq_1, ex.eq_2, ex.eq_3, ex.eq_4, ex.eq_5, ex.eq_6, ex.eq_7, ex.eq_8, ex.eq_10, ex.eq_12, ex.eq_13, ex.eq_14, ex.eq_15, ev.eq_1, ev.eq_2, ev.eq_3, ev.eq_4, ev.eq_5, ev.eq_6, ev.eq_7, ev.eq_8, ev.eq_9, ev.eq_10, ev.eq_11, ev.eq_12, ev.eq_13, ev.eq_14, ev.eq_15, ev.eq_16, ev.eq_17, ev.eq_18, ev.eq_19, ev.eq_20, ev.eq_21, ev.eq_22, ev.eq_23, evA, evs, evI, O.then, R.to, R.bind, EN.store, EN.storeAll, kp, kpF, seen, vw, opB, opC, opF, opI, opS, truD, R.val, R.dat, R.bool, isOwn, isLst, Env.at, O.end, retO, mask, flatD, List.mapM_cons, List.mapM_nil, eqD, eqS, callR, prep, prepV, handAll, handed, slotsOf, backR, back, mdz, prtR, IE.nl, isiR, excAt, isTy, Tb.tok, Cn.toD, cnPut, gc0, gc1, gc2, gc3, nk4, ne2, efl, ln0, ln1, ln2, ln3, ln4, ln5, ln6, S_eq, S_list, S_len, S_lp, S_rp, S_cm, S_qt, S_none, S_e, S_ce, S_sp, S_mn, S_0, S_9, S_a, S_z, cut1, hl]
theorem t_tail (qs : List D) (v : D) (e : Nat) (he : e ≤ l.length) :
    ((l.drop e).head? = some 41 → exs tb fn 3 tB2 (tE l a d qs e (.d v)) = .nx (tE l a d qs e (.d v))) ∧
    ((l.drop e).take 2 = [44, 41] → qs.length = 1 → exs tb fn 3 tB2 (tE l a d qs e (.d v)) = .rt (.d (.tup [.tup [v], .int ((e + 2 : Nat) : Int)])) (tE l a d qs e (.d v))) ∧
    ((l.drop e).head? = some 44 → ¬ ((l.drop e).take 2 = [44, 41] ∧ qs.length = 1) → exs tb fn 3 tB2 (tE l a d qs e (.d v)) = .nx (tE l a d qs e (.d v))) ∧
    ((l.drop e).head? ≠ some 41 → (l.drop e).head? ≠ some 44 → exs tb fn 3 tB2 (tE l a d qs e (.d v)) = .er 1 [.str (S l), .int e] (tE l a d qs e (.d v))) := by
  unfold tB2 tE
  by_cases hq : qs.length = 1
  · have hq2 : (qs.length : Int) = 1 := by omega
    cases hd : l.drop e with
    | nil =>
      refine ⟨(fun z => nomatch z), fun z => by simp at z, (fun z => nomatch z), fun _ _ => ?_⟩
      simp [fds, exs, ex.eq_1, ex.eq_2, ex.eq_3, ex.eq_4, ex.eq_5, ex.eq_6, ex.eq_7, ex.eq_8, ex.eq_10, ex.eq_12, ex.eq_13, ex.eq_14, ex.eq_15, ev.eq_1, ev.eq_2, ev.eq_3, ev.eq_4, ev.eq_5, ev.eq_6, ev.eq_7, ev.eq_8, ev.eq_9, ev.eq_10, ev.eq_11, ev.eq_12, ev.eq_13, ev.eq_14, ev.eq_15, ev.eq_16, ev.eq_17, ev.eq_18, ev.eq_19, ev.eq_20, ev.eq_21, ev.eq_22, ev.eq_23, evA, evs, evI, O.then, R.to, R.bind, EN.store, EN.storeAll, kp, kpF, seen, vw, opB, opC, opF, opI, opS, truD, R.val, R.dat, R.bool, isOwn, isLst, Env.at, O.end, retO, mask, flatD, List.mapM_cons, List.mapM_nil, eqD, eqS, callR, prep, prepV, handAll, handed, slotsOf, backR, back, mdz, prtR, IE.nl, isiR, excAt, isTy, Tb.tok, Cn.toD, cnPut, gc0, gc1, gc2, gc3, nk4, ne2, efl, ln0, ln1, ln2, ln3, ln4, ln5, ln6, S_eq, S_list, S_len, S_lp, S_rp, S_cm, S_qt, S_none, S_e, S_ce, S_sp, S_mn, S_0, S_9, S_a, S_z, cut1, cut2, hd, hl, hq, hq2, inD, eqF, S_beq]
    | cons c r =>
      by_cases h1 : c = 41
      · subst h1
        refine ⟨fun _ => ?_, fun z => by simp at z, fun z => by simp at z, fun z => absurd rfl z⟩
        simp [fds, exs, ex.eq_1, ex.eq_2, ex.eq_3, ex.eq_4, ex.eq_5, ex.eq_6, ex.eq_7, ex.eq_8, ex.eq_10, ex.eq_12, ex.eq_13, ex.eq_14, ex.eq_15, ev.eq_1, ev.eq_2, ev.eq_3, ev.eq_4, ev.eq_5, ev.eq_6, ev.eq_7, ev.eq_8, ev.eq_9, ev.eq_10, ev.eq_11, ev.eq_12, ev.eq_13, ev.eq_14, ev.eq_15, ev.eq_16, ev.eq_17, ev.eq_18, ev.eq_19, ev.eq_20, ev.eq_21, ev.eq_22, ev.eq_23, evA, evs, evI, O.then, R.to, R.bind, EN.store, EN.storeAll, kp, kpF, seen, vw, opB, opC, opF, opI, opS, truD, R.val, R.dat, R.bool, isOwn, isLst, Env.at, O.end, retO, mask, flatD, List.mapM_cons, List.mapM_nil, eqD, eqS, callR, prep, prepV, handAll, handed, slotsOf, backR, back, mdz, prtR, IE.nl, isiR, excAt, isTy, Tb.tok, Cn.toD, cnPut, gc0, gc1, gc2, gc3, nk4, ne2, efl, ln0, ln1, ln2, ln3, ln4, ln5, ln6, S_eq, S_list, S_len, S_lp, S_rp, S_cm, S_qt, S_none, S_e, S_ce, S_sp, S_mn, S_0, S_9, S_a, S_z, cut1, cut2, hd, hl, hq, hq2, inD, eqF, S_beq]
      · by_cases h2 : c = 44
        · subst h2
          by_cases h3 : r.take 1 = [41]
          · have h4 : (44 :: r).take 2 = [44, 41] := by rw [List.take_succ_cons, h3]
            refine ⟨fun z => by simp at z, fun _ _ => ?_, fun _ z => absurd ⟨h4, hq⟩ z, fun _ z => absurd rfl z⟩
            simp [fds, exs, ex.eq_1, ex.eq_2, ex.eq_3, ex.eq_4, ex.eq_5, ex.eq_6, ex.eq_7, ex.eq_8, ex.eq_10, ex.eq_12, ex.eq_13, ex.eq_14, ex.eq_15, ev.eq_1, ev.eq_2, ev.eq_3, ev.eq_4, ev.eq_5, ev.eq_6, ev.eq_7, ev.eq_8, ev.eq_9, ev.eq_10, ev.eq_11, ev.eq_12, ev.eq_13, ev.eq_14, ev.eq_15, ev.eq_16, ev.eq_17, ev.eq_18, ev.eq_19, ev.eq_20, ev.eq_21, ev.eq_22, ev.eq_23, evA, evs, evI, O.then, R.to, R.bind, EN.store, EN.storeAll, kp, kpF, seen, vw, opB, opC, opF, opI, opS, truD, R.val, R.dat, R.bool, isOwn, isLst, Env.at, O.end, retO, mask, flatD, List.mapM_cons, List.mapM_nil, eqD, eqS, callR, prep, prepV, handAll, handed, slotsOf, backR, back, mdz, prtR, IE.nl, isiR, excAt, isTy, Tb.tok, Cn.toD, cnPut, gc0, gc1, gc2, gc3, nk4, ne2, efl, ln0, ln1, ln2, ln3, ln4, ln5, ln6, S_eq, S_list, S_len, S_lp, S_rp, S_cm, S_qt, S_none, S_e, S_ce, S_sp, S_mn, S_0, S_9, S_a, S_z, cut1, cut2, hd, hl, hq, hq2, inD, eqF, S_beq, h3]
          · have h4 : ¬ (44 :: r).take 2 = [44, 41] := by rw [List.take_succ_cons]; simpa using h3
            refine ⟨fun z => by simp at z, fun z => absurd z h4, fun _ _ => ?_, fun _ z => absurd rfl z⟩
            simp [fds, exs, ex.eq_1, ex.eq_2, ex.eq_3, ex.eq_4, ex.eq_5, ex.eq_6, ex.eq_7, ex.eq_8, ex.eq_10, ex.eq_12, ex.eq_13, ex.eq_14, ex.eq_15, ev.eq_1, ev.eq_2, ev.eq_3, ev.eq_4, ev.eq_5, ev.eq_6, ev.eq_7, ev.eq_8, ev.eq_9, ev.eq_10, ev.eq_11, ev.eq_12, ev.eq_13, ev.eq_14, ev.eq_15, ev.eq_16, ev.eq_17, ev.eq_18, ev.eq_19, ev.eq_20, ev.eq_21, ev.eq_22, ev.eq_23, evA, evs, evI, O.then, R.to, R.bind, EN.store, EN.storeAll, kp, kpF, seen, vw, opB, opC, opF, opI, opS, truD, R.val, R.dat, R.bool, isOwn, isLst, Env.at, O.end, retO, mask, flatD, List.mapM_cons, List.mapM_nil, eqD, eqS, callR, prep, prepV, handAll, handed, slotsOf, backR, back, mdz, prtR, IE.nl, isiR, excAt, isTy, Tb.tok, Cn.toD, cnPut, gc0, gc1, gc2, gc3, nk4, ne2, efl, ln0, ln1, ln2, ln3, ln4, ln5, ln6, S_eq, S_list, S_len, S_lp, S_rp, S_cm, S_qt, S_none, S_e, S_ce, S_sp, S_mn, S_0, S_9, S_a, S_z, cut1, cut2, hd, hl, hq, hq2, inD, eqF, S_beq, h3]
        · have h5 : ¬ 44 = c := fun z => h2 z.symm
          have h6 : ¬ 41 = c := fun z => h1 z.symm
          refine ⟨fun z => absurd (Option.some.inj z) h1, fun z => absurd (List.cons.inj z).1 h2, fun z => absurd (Option.some.inj z) h2, fun _ _ => ?_⟩
          simp [fds, exs, ex.eq_1, ex.eq_2, ex.eq_3, ex.eq_4, ex.eq_5, ex.eq_6, ex.eq_7, ex.eq_8, ex.eq_10, ex.eq_12, ex.eq_13, ex.eq_14, ex.eq_15, ev.eq_1, ev.eq_2, ev.eq_3, ev.eq_4, ev.eq_5, ev.eq_6, ev.eq_7, ev.eq_8, ev.eq_9, ev.eq_10, ev.eq_11, ev.eq_12, ev.eq_13, ev.eq_14, ev.eq_15, ev.eq_16, ev.eq_17, ev.eq_18, ev.eq_19, ev.eq_20, ev.eq_21, ev.eq_22, ev.eq_23, evA, evs, evI, O.then, R.to, R.bind, EN.store, EN.storeAll, kp, kpF, seen, vw, opB, opC, opF, opI, opS, truD, R.val, R.dat, R.bool, isOwn, isLst, Env.at, O.end, retO, mask, flatD, List.mapM_cons, List.mapM_nil, eqD, eqS, callR, prep, prepV, handAll, handed, slotsOf, backR, back, mdz, prtR, IE.nl, isiR, excAt, isTy, Tb.tok, Cn.toD, cnPut, gc0, gc1, gc2, gc3, nk4, ne2, efl, ln0, ln1, ln2, ln3, ln4, ln5, ln6, S_eq, S_list, S_len, S_lp, S_rp, S_cm, S_qt, S_none, S_e, S_ce, S_sp, S_mn, S_0, S_9, S_a, S_z, cut1, cut2, hd, hl, hq, hq2, inD, eqF, S_beq, h1, h2, h5, h6]
  · have hq2 : ¬ (qs.length : Int) = 1 := by omega
    cases hd : l.drop e with
    | nil =>
      refine ⟨(fun z => nomatch z), fun z => by simp at z, (fun z => nomatch z), fun _ _ => ?_⟩
      simp [fds, exs, ex.eq_1, ex.eq_2, ex.eq_3, ex.eq_4, ex.eq_5, ex.eq_6, ex.eq_7, ex.eq_8, ex.eq_10, ex.eq_12, ex.eq_13, ex.eq_14, ex.eq_15, ev.eq_1, ev.eq_2, ev.eq_3, ev.eq_4, ev.eq_5, ev.eq_6, ev.eq_7, ev.eq_8, ev.eq_9, ev.eq_10, ev.eq_11, ev.eq_12, ev.eq_13, ev.eq_14, ev.eq_15, ev.eq_16, ev.eq_17, ev.eq_18, ev.eq_19, ev.eq_20, ev.eq_21, ev.eq_22, ev.eq_23, evA, evs, evI, O.then, R.to, R.bind, EN.store, EN.storeAll, kp, kpF, seen, vw, opB, opC, opF, opI, opS, truD, R.val, R.dat, R.bool, isOwn, isLst, Env.at, O.end, retO, mask, flatD, List.mapM_cons, List.mapM_nil, eqD, eqS, callR, prep, prepV, handAll, handed, slotsOf, backR, back, mdz, prtR, IE.nl, isiR, excAt, isTy, Tb.tok, Cn.toD, cnPut, gc0, gc1, gc2, gc3, nk4, ne2, efl, ln0, ln1, ln2, ln3, ln4, ln5, ln6, S_eq, S_list, S_len, S_lp, S_rp, S_cm, S_qt, S_none, S_e, S_ce, S_sp, S_mn, S_0, S_9, S_a, S_z, cut1, cut2, hd, hl, hq, hq2, inD, eqF, S_beq]
    | cons c r =>
      by_cases h1 : c = 41
      · subst h1
        refine ⟨fun _ => ?_, fun z => by simp at z, fun z => by simp at z, fun z => absurd rfl z⟩
        simp [fds, exs, ex.eq_1, ex.eq_2, ex.eq_3, ex.eq_4, ex.eq_5, ex.eq_6, ex.eq_7, ex.eq_8, ex.eq_10, ex.eq_12, ex.eq_13, ex.eq_14, ex.eq_15, ev.eq_1, ev.eq_2, ev.eq_3, ev.eq_4, ev.eq_5, ev.eq_6, ev.eq_7, ev.eq_8, ev.eq_9, ev.eq_10, ev.eq_11, ev.eq_12, ev.eq_13, ev.eq_14, ev.eq_15, ev.eq_16, ev.eq_17, ev.eq_18, ev.eq_19, ev.eq_20, ev.eq_21, ev.eq_22, ev.eq_23, evA, evs, evI, O.then, R.to, R.bind, EN.store, EN.storeAll, kp, kpF, seen, vw, opB, opC, opF, opI, opS, truD, R.val, R.dat, R.bool, isOwn, isLst, Env.at, O.end, retO, mask, flatD, List.mapM_cons, List.mapM_nil, eqD, eqS, callR, prep, prepV, handAll, handed, slotsOf, backR, back, mdz, prtR, IE.nl, isiR, excAt, isTy, Tb.tok, Cn.toD, cnPut, gc0, gc1, gc2, gc3, nk4, ne2, efl, ln0, ln1, ln2, ln3, ln4, ln5, ln6, S_eq, S_list, S_len, S_lp, S_rp, S_cm, S_qt, S_none, S_e, S_ce, S_sp, S_mn, S_0, S_9, S_a, S_z, cut1, cut2, hd, hl, hq, hq2, inD, eqF, S_beq]
      · by_cases h2 : c = 44
        · subst h2
          refine ⟨fun z => by simp at z, fun _ z => absurd z hq, fun _ _ => ?_, fun _ z => absurd rfl z⟩
          simp [fds, exs, ex.eq_1, ex.eq_2, ex.eq_3, ex.eq_4, ex.eq_5, ex.eq_6, ex.eq_7, ex.eq_8, ex.eq_10, ex.eq_12, ex.eq_13, ex.eq_14, ex.eq_15, ev.eq_1, ev.eq_2, ev.eq_3, ev.eq_4, ev.eq_5, ev.eq_6, ev.eq_7, ev.eq_8, ev.eq_9, ev.eq_10, ev.eq_11, ev.eq_12, ev.eq_13, ev.eq_14, ev.eq_15, ev.eq_16, ev.eq_17, ev.eq_18, ev.eq_19, ev.eq_20, ev.eq_21, ev.eq_22, ev.eq_23, evA, evs, evI, O.then, R.to, R.bind, EN.store, EN.storeAll, kp, kpF, seen, vw, opB, opC, opF, opI, opS, truD, R.val, R.dat, R.bool, isOwn, isLst, Env.at, O.end, retO, mask, flatD, List.mapM_cons, List.mapM_nil, eqD, eqS, callR, prep, prepV, handAll, handed, slotsOf, backR, back, mdz, prtR, IE.nl, isiR, excAt, isTy, Tb.tok, Cn.toD, cnPut, gc0, gc1, gc2, gc3, nk4, ne2, efl, ln0, ln1, ln2, ln3, ln4, ln5, ln6, S_eq, S_list, S_len, S_lp, S_rp, S_cm, S_qt, S_none, S_e, S_ce, S_sp, S_mn, S_0, S_9, S_a, S_z, cut1, cut2, hd, hl, hq, hq2, inD, eqF, S_beq]
        · have h5 : ¬ 44 = c := fun z => h2 z.symm
          have h6 : ¬ 41 = c := fun z => h1 z.symm
          refine ⟨fun z => absurd (Option.some.inj z) h1, fun z => absurd (List.cons.inj z).1 h2, fun z => absurd (Option.some.inj z) h2, fun _ _ => ?_⟩
          simp [fds, exs, ex.eq_1, ex.eq_2, ex.eq_3, ex.eq_4, ex.eq_5, ex.eq_6, ex.eq_7, ex.eq_8, ex.eq_10, ex.eq_12, ex.eq_13, ex.eq_14, ex.eq_15, ev.eq_1, ev.eq_2, ev.eq_3, ev.eq_4, ev.eq_5, ev.eq_6, ev.eq_7, ev.eq_8, ev.eq_9, ev.eq_10, ev.eq_11, ev.eq_12, ev.eq_13, ev.eq_14, ev.eq_15, ev.eq_16, ev.eq_17, ev.eq_18, ev.eq_19, ev.eq_20, ev.eq_21, ev.eq_22, ev.eq_23, evA, evs, evI, O.then, R.to, R.bind, EN.store, EN.storeAll, kp, kpF, seen, vw, opB, opC, opF, opI, opS, truD, R.val, R.dat, R.bool, isOwn, isLst, Env.at, O.end, retO, mask, flatD, List.mapM_cons, List.mapM_nil, eqD, eqS, callR, prep, prepV, handAll, handed, slotsOf, backR, back, mdz, prtR, IE.nl, isiR, excAt, isTy, Tb.tok, Cn.toD, cnPut, gc0, gc1, gc2, gc3, nk4, ne2, efl, ln0, ln1, ln2, ln3, ln4, ln5, ln6, S_eq, S_list, S_len, S_lp, S_rp, S_cm, S_qt, S_none, S_e, S_ce, S_sp, S_mn, S_0, S_9, S_a, S_z, cut1, cut2, hd, hl, hq, hq2, inD, eqF, S_beq, h1, h2, h5, h6]
theorem t_end (qs : List D) (s : EN.Slot) (e : Nat) : (qs.length = 1 → exs tb fn 3 tEnd (tE l a d qs e s) = .er 1 [.str (S l), .int e] (tE l a d qs e s)) ∧ (qs.length ≠ 1 → exs tb fn 3 tEnd (tE l a d qs e s) = .rt (.d (.tup [.tup qs, .int ((e + 1 : Nat) : Int)])) (tE l a d qs e s)) := by
  unfold tEnd tE
  refine ⟨fun hq => ?_, fun hq => ?_⟩
  · have hq2 : (qs.length : Int) = 1 := by omega
    simp [fds, exs, ex.eq_1, ex.eq_2, ex.eq_3, ex.eq_4, ex.eq_5, ex.eq_6, ex.eq_7, ex.eq_8, ex.eq_10, ex.eq_12, ex.eq_13, ex.eq_14, ex.eq_15, ev.eq_1, ev.eq_2, ev.eq_3, ev.eq_4, ev.eq_5, ev.eq_6, ev.eq_7, ev.eq_8, ev.eq_9, ev.eq_10, ev.eq_11, ev.eq_12, ev.eq_13, ev.eq_14, ev.eq_15, ev.eq_16, ev.eq_17, ev.eq_18, ev.eq_19, ev.eq_20, ev.eq_21, ev.eq_22, ev.eq_23, evA, evs, evI, O.then, R.to, R.bind, EN.store, EN.storeAll, kp, kpF, seen, vw, opB, opC, opF, opI, opS, truD, R.val, R.dat, R.bool, isOwn, isLst, Env.at, O.end, retO, mask, flatD, List.mapM_cons, List.mapM_nil, eqD, eqS, callR, prep, prepV, handAll, handed, slotsOf, backR, back, mdz, prtR, IE.nl, isiR, excAt, isTy, Tb.tok, Cn.toD, cnPut, gc0, gc1, gc2, gc3, nk4, ne2, efl, ln0, ln1, ln2, ln3, ln4, ln5, ln6, S_eq, S_list, S_len, S_lp, S_rp, S_cm, S_qt, S_none, S_e, S_ce, S_sp, S_mn, S_0, S_9, S_a, S_z, hq, hq2]
  · have hq2 : ¬ (qs.length : Int) = 1 := by omega
    simp [fds, exs, ex.eq_1, ex.eq_2, ex.eq_3, ex.eq_4, ex.eq_5, ex.eq_6, ex.eq_7, ex.eq_8, ex.eq_10, ex.eq_12, ex.eq_13, ex.eq_14, ex.eq_15, ev.eq_1, ev.eq_2, ev.eq_3, ev.eq_4, ev.eq_5, ev.eq_6, ev.eq_7, ev.eq_8, ev.eq_9, ev.eq_10, ev.eq_11, ev.eq_12, ev.eq_13, ev.eq_14, ev.eq_15, ev.eq_16, ev.eq_17, ev.eq_18, ev.eq_19, ev.eq_20, ev.eq_21, ev.eq_22, ev.eq_23, evA, evs, evI, O.then, R.to, R.bind, EN.store, EN.storeAll, kp, kpF, seen, vw, opB, opC, opF, opI, opS, truD, R.val, R.dat, R.bool, isOwn, isLst, Env.at, O.end, retO, mask, flatD, List.mapM_cons, List.mapM_nil, eqD, eqS, callR, prep, prepV, handAll, handed, slotsOf, backR, back, mdz, prtR, IE.nl, isiR, excAt, isTy, Tb.tok, Cn.toD, cnPut, gc0, gc1, gc2, gc3, nk4, ne2, efl, ln0, ln1, ln2, ln3, ln4, ln5, ln6, S_eq, S_list, S_len, S_lp, S_rp, S_cm, S_qt, S_none, S_e, S_ce, S_sp, S_mn, S_0, S_9, S_a, S_z, hq, hq2]
end
end K74
namespace K74
open PySem EN NumText
section
variable (fn : Fn) (l : List Nat) (a d : Nat) (hl : l.length ≤ line)
theorem t_b1_ok (ps : List D) (e e' : Nat) (s : EN.Slot) (v : D) (px : EN.Env) (h : fn 3 [.d (.str (S l)), .d (.int ((e : Int) + 1)), .d (.int d)] = .ok (.d (.tup [v, .int ((e' : Nat) : Int)])) px) :
    ex tb fn 3 tB1 (tE l a d ps e s) = .nx (tE l a d ps e' (.d v)) := by
  unfold tB1 tE
  simp [fds, exs, ex.eq_1, ex.eq_2, ex.eq_3, ex.eq_4, ex.eq_5, ex.eq_6, ex.eq_7, ex.eq_8, ex.eq_10, ex.eq_12, ex.eq_13, ex.eq_14, ex.eq_15, ev.eq_1, ev.eq_2, ev.eq_3, ev.eq_4, ev.eq_5, ev.eq_6, ev.eq_7, ev.eq_8, ev.eq_9, ev.eq_10, ev.eq_11, ev.eq_12, ev.eq_13, ev.eq_14, ev.eq_15, ev.eq_16, ev.eq_17, ev.eq_18, ev.eq_19, ev.eq_20, ev.eq_21, ev.eq_22, ev.eq_23, evA, evs, evI, O.then, R.to, R.bind, EN.store, EN.storeAll, kp, kpF, seen, vw, opB, opC, opF, opI, opS, truD, R.val, R.dat, R.bool, isOwn, isLst, Env.at, O.end, retO, mask, flatD, List.mapM_cons, List.mapM_nil, eqD, eqS, callR, prep, prepV, handAll, handed, slotsOf, backR, back, mdz, prtR, IE.nl, isiR, excAt, isTy, Tb.tok, Cn.toD, cnPut, gc0, gc1, gc2, gc3, nk4, ne2, efl, ln0, ln1, ln2, ln3, ln4, ln5, ln6, S_eq, S_list, S_len, S_lp, S_rp, S_cm, S_qt, S_none, S_e, S_ce, S_sp, S_mn, S_0, S_9, S_a, S_z, h]
theorem t_b1_er (ps : List D) (e : Nat) (p : Int) (s : EN.Slot) (px : EN.Env) (h : fn 3 [.d (.str (S l)), .d (.int ((e : Int) + 1)), .d (.int d)] = .er 1 [.str (S l), .int p] px) :
    ex tb fn 3 tB1 (tE l a d ps e s) = .er 1 [.str (S l), .int p] (tE l a d ps e s) := by
  unfold tB1 tE
  simp [fds, exs, ex.eq_1, ex.eq_2, ex.eq_3, ex.eq_4, ex.eq_5, ex.eq_6, ex.eq_7, ex.eq_8, ex.eq_10, ex.eq_12, ex.eq_13, ex.eq_14, ex.eq_15, ev.eq_1, ev.eq_2, ev.eq_3, ev.eq_4, ev.eq_5, ev.eq_6, ev.eq_7, ev.eq_8, ev.eq_9, ev.eq_10, ev.eq_11, ev.eq_12, ev.eq_13, ev.eq_14, ev.eq_15, ev.eq_16, ev.eq_17, ev.eq_18, ev.eq_19, ev.eq_20, ev.eq_21, ev.eq_22, ev.eq_23, evA, evs, evI, O.then, R.to, R.bind, EN.store, EN.storeAll, kp, kpF, seen, vw, opB, opC, opF, opI, opS, truD, R.val, R.dat, R.bool, isOwn, isLst, Env.at, O.end, retO, mask, flatD, List.mapM_cons, List.mapM_nil, eqD, eqS, callR, prep, prepV, handAll, handed, slotsOf, backR, back, mdz, prtR, IE.nl, isiR, excAt, isTy, Tb.tok, Cn.toD, cnPut, gc0, gc1, gc2, gc3, nk4, ne2, efl, ln0, ln1, ln2, ln3, ln4, ln5, ln6, S_eq, S_list, S_len, S_lp, S_rp, S_cm, S_qt, S_none, S_e, S_ce, S_sp, S_mn, S_0, S_9, S_a, S_z, h]
theorem t_app (ps : List D) (e : Nat) (v : D) (h : ps.length < line) : ex tb fn 3 (.app 3 (.var 5)) (tE l a d ps e (.d v)) = .nx (tE l a d (ps ++ [v]) e (.d v)) := by
  unfold tE
  simp [fds, exs, ex.eq_1, ex.eq_2, ex.eq_3, ex.eq_4, ex.eq_5, ex.eq_6, ex.eq_7, ex.eq_8, ex.eq_10, ex.eq_12, ex.eq_13, ex.eq_14, ex.eq_15, ev.eq_1, ev.eq_2, ev.eq_3, ev.eq_4, ev.eq_5, ev.eq_6, ev.eq_7, ev.eq_8, ev.eq_9, ev.eq_10, ev.eq_11, ev.eq_12, ev.eq_13, ev.eq_14, ev.eq_15, ev.eq_16, ev.eq_17, ev.eq_18, ev.eq_19, ev.eq_20, ev.eq_21, ev.eq_22, ev.eq_23, evA, evs, evI, O.then, R.to, R.bind, EN.store, EN.storeAll, kp, kpF, seen, vw, opB, opC, opF, opI, opS, truD, R.val, R.dat, R.bool, isOwn, isLst, Env.at, O.end, retO, mask, flatD, List.mapM_cons, List.mapM_nil, eqD, eqS, callR, prep, prepV, handAll, handed, slotsOf, backR, back, mdz, prtR, IE.nl, isiR, excAt, isTy, Tb.tok, Cn.toD, cnPut, gc0, gc1, gc2, gc3, nk4, ne2, efl, ln0, ln1, ln2, ln3, ln4, ln5, ln6, S_eq, S_list, S_len, S_lp, S_rp, S_cm, S_qt, S_none, S_e, S_ce, S_sp, S_mn, S_0, S_9, S_a, S_z, h]
theorem t_body (ps : List D) (e e' : Nat) (s : EN.Slot) (v : D) (px : EN.Env) (h1 : ps.length < line) (h : fn 3 [.d (.str (S l)), .d (.int ((e : Int) + 1)), .d (.int d)] = .ok (.d (.tup [v, .int ((e' : Nat) : Int)])) px) :
    exs tb fn 3 tBody (tE l a d ps e s) = exs tb fn 3 tB2 (tE l a d (ps ++ [v]) e' (.d v)) := by
  unfold tBody
  rw [exs, t_b1_ok fn l a d ps e e' s v px h]
  simp only [O.then]
  rw [exs, t_app fn l a d ps e' v h1]
theorem t_body_er (ps : List D) (e : Nat) (p : Int) (s : EN.Slot) (px : EN.Env) (h : fn 3 [.d (.str (S l)), .d (.int ((e : Int) + 1)), .d (.int d)] = .er 1 [.str (S l), .int p] px) :
    exs tb fn 3 tBody (tE l a d ps e s) = .er 1 [.str (S l), .int p] (tE l a d ps e s) := by
  unfold tBody
  rw [exs, t_b1_er fn l a d ps e p s px h]
include hl
theorem t_loop (hV : ∀ e, e ≤ l.length → PRF l (V true d (l.drop e)) (fn 3 [.d (.str (S l)), .d (.int e), .d (.int d)])) : ∀ (n m : Nat) (ps : List D) (e : Nat) (s : EN.Slot), e < l.length → (l.drop e).head? ≠ some 41 → l.length - (e + 1) < n → l.length - (e + 1) < m → ps.length ≤ e →
    PRO l (T (V true d) m ps (l.drop (e + 1))) ((whRun (fun ρ => (ev tb fn 3 tC ρ).tru) (fun ρ => exs tb fn 3 tBody ρ) n (tE l a d ps e s)).then fun ρ => exs tb fn 3 tEnd ρ)
  | 0, _, _, _, _, _, _, h, _, _ => absurd h (by omega)
  | _, 0, _, _, _, _, _, _, h, _ => absurd h (by omega)
  | n + 1, m + 1, ps, e, s, he, hne, hn, hm, hps => by
    have c1 : (ev tb fn 3 tC (tE l a d ps e s)).tru = .ok true (tE l a d ps e s) := by
      rw [t_cond fn l a d hl]
      have : ¬ (l.drop e).take 1 = [41] := fun z => hne (by
        cases q : l.drop e with
        | nil => rw [q] at z; cases z
        | cons c r => rw [q] at z; cases z; rfl)
      rw [decide_eq_false this]; rfl
    have q := hV (e + 1) (by omega)
    have cast : ((e + 1 : Nat) : Int) = (e : Int) + 1 := rfl
    rw [cast] at q
    unfold T
    cases hv : V true d (l.drop (e + 1)) with
    | none =>
      rw [hv] at q
      obtain ⟨p, px, hp, hq⟩ := q
      have hb := t_body_er fn l a d ps e p s px hq
      rw [wh_er (ρ1 := tE l a d ps e s) c1 hb]
      exact ⟨p, tE l a d ps e s, hp, rfl⟩
    | some y =>
      rw [hv] at q
      obtain ⟨px, hq⟩ := q
      obtain ⟨pr, h1, h2⟩ := V_suf true d _ y.1 y.2 hv
      have plen : 0 < pr.length := List.length_pos_iff.mpr h1
      have hlen : l.length - (e + 1) = pr.length + y.2.length := by
        have := congrArg List.length h2
        rw [List.length_drop, List.length_append] at this
        exact this
      generalize he' : l.length - y.2.length = e' at hq
      have he2 : e' = e + 1 + pr.length := by omega
      have hd : l.drop e' = y.2 := by
        rw [he2, ← List.drop_drop, h2, List.drop_left]
      have hb := t_body fn l a d ps e e' s y.1 px (by unfold line at hl ⊢; omega) hq
      have tt := t_tail fn l a d hl (ps ++ [y.1]) y.1 e' (by omega)
      have te := fun s => t_end fn l a d hl (ps ++ [y.1]) s e'
      have hql : (ps ++ [y.1]).length = ps.length + 1 := by simp
      generalize hqs : ps ++ [y.1] = qs at hb tt te hql
      rw [hd] at tt
      show PRO l (aft (T (V true d) m) (ps ++ [y.1]) y.2) _
      rw [hqs]
      unfold aft
      by_cases g1 : y.2.head? = some 41
      · have hb2 := hb.trans (tt.1 g1)
        rw [wh_next (ρ1 := tE l a d ps e s) c1 hb2, if_pos g1]
        have ly : 0 < y.2.length := by
          cases hy : y.2 with
          | nil => rw [hy] at g1; cases g1
          | cons c r => simp
        have c2 : (ev tb fn 3 tC (tE l a d qs e' (.d y.1))).tru = .ok false (tE l a d qs e' (.d y.1)) := by
          rw [t_cond fn l a d hl, hd]
          have : y.2.take 1 = [41] := by
            cases hy : y.2 with
            | nil => rw [hy] at g1; cases g1
            | cons c r => rw [hy] at g1; cases g1; rfl
          rw [decide_eq_true this]; rfl
        match n, hn with
        | 0, hn => exact absurd hn (by omega)
        | n + 1, hn =>
          rw [wh_stop c2]
          by_cases g2 : 1 < qs.length
          · rw [if_pos g2]
            refine ⟨tE l a d qs e' (.d y.1), ((te (.d y.1)).2 (by omega)).trans ?_⟩
            have : l.length - y.2.tail.length = e' + 1 := by rw [List.length_tail]; omega
            show O.rt _ _ = O.rt (.d (.tup [.tup qs, .int ((l.length - y.2.tail.length : Nat) : Int)])) _
            rw [this]
          · rw [if_neg g2]
            exact ⟨e', tE l a d qs e' (.d y.1), by omega, (te (.d y.1)).1 (by omega)⟩
      · rw [if_neg g1]
        by_cases g2 : y.2.take 2 = [44, 41] ∧ qs.length = 1
        · rw [if_pos g2]
          have hb2 := hb.trans (tt.2.1 g2.1 g2.2)
          rw [wh_rt (ρ1 := tE l a d ps e s) c1 hb2]
          refine ⟨tE l a d qs e' (.d y.1), ?_⟩
          have ly : 2 ≤ y.2.length := by
            have := congrArg List.length g2.1
            rw [List.length_take] at this
            have this : min 2 y.2.length = 2 := this
            omega
          have : l.length - (y.2.drop 2).length = e' + 2 := by rw [List.length_drop]; omega
          have e1 : qs = [y.1] := by
            have : ps = [] := List.eq_nil_of_length_eq_zero (by have := g2.2; omega)
            rw [← hqs, this]; rfl
          show O.rt _ _ = O.rt (.d (.tup [.tup qs, .int ((l.length - (y.2.drop 2).length : Nat) : Int)])) _
          rw [this, e1]
        · rw [if_neg g2]
          by_cases g3 : y.2.head? = some 44
          · rw [if_pos g3]
            have hb2 := hb.trans (tt.2.2.1 g3 g2)
            rw [wh_next (ρ1 := tE l a d ps e s) c1 hb2]
            have ly : 0 < y.2.length := by
              cases hy : y.2 with
              | nil => rw [hy] at g3; cases g3
              | cons c r => simp
            have et : y.2.tail = l.drop (e' + 1) := by
              rw [← hd, List.tail_drop]
            rw [et]
            exact t_loop hV n m qs e' (.d y.1) (by omega) (by rw [hd]; exact g1) (by omega) (by omega) (by omega)
          · rw [if_neg g3]
            have hb2 := hb.trans (tt.2.2.2 g1 g3)
            rw [wh_er (ρ1 := tE l a d ps e s) c1 hb2]
            exact ⟨e', tE l a d qs e' (.d y.1), by omega, rfl⟩
end
end K74
namespace K74
open PySem EN NumText
theorem prf_of {l : List Nat} {o : Option (D × List Nat)} {R R' : FR} (h : PRF l o R) (h1 : ∀ x ps, R = .ok (.d x) ps → ∃ ps', R' = .ok (.d x) ps') (h2 : ∀ c fs ps, R = .er c fs ps → ∃ ps', R' = .er c fs ps') : PRF l o R' := by
  cases o with
  | none =>
    obtain ⟨p, ps, hp, e⟩ := h
    obtain ⟨ps', e'⟩ := h2 _ _ _ e
    exact ⟨p, ps', hp, e'⟩
  | some q =>
    obtain ⟨ps, e⟩ := h
    obtain ⟨ps', e'⟩ := h1 _ _ e
    exact ⟨ps', e'⟩
theorem drop1 {l : List Nat} {a c : Nat} {r : List Nat} (h : l.drop a = c :: r) : a < l.length ∧ l.drop (a + 1) = r ∧ l.length - (a + 1) = r.length := by
  have h1 : a < l.length := by
    rcases Nat.lt_or_ge a l.length with z | z
    · exact z
    · rw [List.drop_eq_nil_of_le z] at h; cases h
  have h2 : l.drop (a + 1) = r := by
    rw [List.drop_eq_getElem_cons h1] at h
    exact (List.cons.inj h).2
  exact ⟨h1, h2, by rw [← h2, List.length_drop]⟩
theorem run_tuple (d k : Nat) (l : List Nat) (hl : l.length ≤ 100000) (hV : ∀ e, e ≤ l.length → PRF l (V true d (l.drop e)) (runF tb fds k 3 [.d (.str (S l)), .d (.int e), .d (.int d)])) (a : Nat) (r : List Nat) (hd : l.drop a = 40 :: r) :
    PRF l (V true (d + 1) (40 :: r)) (runF tb fds (k + 1) 4 [.d (.str (S l)), .d (.int a), .d (.int ((d : Int) + 1))]) := by
  have hl1 : l.length ≤ line := by unfold line; omega
  obtain ⟨ha, hr, hlr⟩ := drop1 hd
  have nd : ¬ ((d : Int) + 1 = 0) := by omega
  have ev1 : V true (d + 1) (40 :: r) = if r.head? = some 41 then some (.tup [], r.drop 1) else T (V true d) (r.length + 1) [] r := rfl
  rw [ev1, runF]
  simp only [fds, b_tuple]
  by_cases h1 : r.head? = some 41
  · rw [if_pos h1]
    have h2 : r.take 1 = [41] := by
      cases r with
      | nil => cases h1
      | cons c r => cases h1; rfl
    have lr : 0 < r.length := by
      cases r with
      | nil => cases h1
      | cons c r => simp
    refine ⟨[.un, .un, .un], ?_⟩
    have e1 : l.length - (r.drop 1).length = a + 2 := by rw [List.length_drop]; omega
    show _ = FR.ok (.d (.tup [.tup [], .int ((l.length - (r.drop 1).length : Nat) : Int)])) _
    rw [e1]
    simp [fds, exs, ex.eq_1, ex.eq_2, ex.eq_3, ex.eq_4, ex.eq_5, ex.eq_6, ex.eq_7, ex.eq_8, ex.eq_10, ex.eq_12, ex.eq_13, ex.eq_14, ex.eq_15, ev.eq_1, ev.eq_2, ev.eq_3, ev.eq_4, ev.eq_5, ev.eq_6, ev.eq_7, ev.eq_8, ev.eq_9, ev.eq_10, ev.eq_11, ev.eq_12, ev.eq_13, ev.eq_14, ev.eq_15, ev.eq_16, ev.eq_17, ev.eq_18, ev.eq_19, ev.eq_20, ev.eq_21, ev.eq_22, ev.eq_23, evA, evs, evI, O.then, R.to, R.bind, EN.store, EN.storeAll, kp, kpF, seen, vw, opB, opC, opF, opI, opS, truD, R.val, R.dat, R.bool, isOwn, isLst, Env.at, O.end, retO, mask, flatD, List.mapM_cons, List.mapM_nil, eqD, eqS, callR, prep, prepV, handAll, handed, slotsOf, backR, back, mdz, prtR, IE.nl, isiR, excAt, isTy, Tb.tok, Cn.toD, cnPut, gc0, gc1, gc2, gc3, nk4, ne2, efl, ln0, ln1, ln2, ln3, ln4, ln5, ln6, S_eq, S_list, S_len, S_lp, S_rp, S_cm, S_qt, S_none, S_e, S_ce, S_sp, S_mn, S_0, S_9, S_a, S_z, cut12, hr, hl1, h2, nd]
  · rw [if_neg h1]
    have h2 : ¬ r.take 1 = [41] := fun z => h1 (by
      cases r with
      | nil => cases z
      | cons c r => cases z; rfl)
    have lp := t_loop (runF tb fds k) l a d hl1 hV line (r.length + 1) [] a .un ha (by rw [hd]; simp) (by unfold line; omega) (by omega) (Nat.zero_le _)
    rw [hr] at lp
    have lp : PRO l (T (V true d) (r.length + 1) [] r) (exs tb (runF tb fds k) 3 (.cons (.whl tC tBody) tEnd) (tE l a d [] a .un)) := by
      rw [exs, ex.eq_11]; exact lp
    generalize hw : ISs.cons (.whl tC tBody) tEnd = W at lp ⊢
    cases ho : T (V true d) (r.length + 1) [] r with
    | none =>
      rw [ho] at lp
      obtain ⟨p, ρ, hp, e⟩ := lp
      unfold tE at e
      refine ⟨p, mask [.d (.str (S l)), .d (.int a), .d (.int ((d : Int) + 1))] ρ, hp, ?_⟩
      simp [fds, exs, ex.eq_1, ex.eq_2, ex.eq_3, ex.eq_4, ex.eq_5, ex.eq_6, ex.eq_7, ex.eq_8, ex.eq_10, ex.eq_12, ex.eq_13, ex.eq_14, ex.eq_15, ev.eq_1, ev.eq_2, ev.eq_3, ev.eq_4, ev.eq_5, ev.eq_6, ev.eq_7, ev.eq_8, ev.eq_9, ev.eq_10, ev.eq_11, ev.eq_12, ev.eq_13, ev.eq_14, ev.eq_15, ev.eq_16, ev.eq_17, ev.eq_18, ev.eq_19, ev.eq_20, ev.eq_21, ev.eq_22, ev.eq_23, evA, evs, evI, O.then, R.to, R.bind, EN.store, EN.storeAll, kp, kpF, seen, vw, opB, opC, opF, opI, opS, truD, R.val, R.dat, R.bool, isOwn, isLst, Env.at, O.end, retO, mask, flatD, List.mapM_cons, List.mapM_nil, eqD, eqS, callR, prep, prepV, handAll, handed, slotsOf, backR, back, mdz, prtR, IE.nl, isiR, excAt, isTy, Tb.tok, Cn.toD, cnPut, gc0, gc1, gc2, gc3, nk4, ne2, efl, ln0, ln1, ln2, ln3, ln4, ln5, ln6, S_eq, S_list, S_len, S_lp, S_rp, S_cm, S_qt, S_none, S_e, S_ce, S_sp, S_mn, S_0, S_9, S_a, S_z, cut12, hr, hl1, h2, nd, e]
    | some q =>
      rw [ho] at lp
      obtain ⟨ρ, e⟩ := lp
      unfold tE at e
      refine ⟨mask [.d (.str (S l)), .d (.int a), .d (.int ((d : Int) + 1))] ρ, ?_⟩
      simp [fds, exs, ex.eq_1, ex.eq_2, ex.eq_3, ex.eq_4, ex.eq_5, ex.eq_6, ex.eq_7, ex.eq_8, ex.eq_10, ex.eq_12, ex.eq_13, ex.eq_14, ex.eq_15, ev.eq_1, ev.eq_2, ev.eq_3, ev.eq_4, ev.eq_5, ev.eq_6, ev.eq_7, ev.eq_8, ev.eq_9, ev.eq_10, ev.eq_11, ev.eq_12, ev.eq_13, ev.eq_14, ev.eq_15, ev.eq_16, ev.eq_17, ev.eq_18, ev.eq_19, ev.eq_20, ev.eq_21, ev.eq_22, ev.eq_23, evA, evs, evI, O.then, R.to, R.bind, EN.store, EN.storeAll, kp, kpF, seen, vw, opB, opC, opF, opI, opS, truD, R.val, R.dat, R.bool, isOwn, isLst, Env.at, O.end, retO, mask, flatD, List.mapM_cons, List.mapM_nil, eqD, eqS, callR, prep, prepV, handAll, handed, slotsOf, backR, back, mdz, prtR, IE.nl, isiR, excAt, isTy, Tb.tok, Cn.toD, cnPut, gc0, gc1, gc2, gc3, nk4, ne2, efl, ln0, ln1, ln2, ln3, ln4, ln5, ln6, S_eq, S_list, S_len, S_lp, S_rp, S_cm, S_qt, S_none, S_e, S_ce, S_sp, S_mn, S_0, S_9, S_a, S_z, cut12, hr, hl1, h2, nd, e]
theorem run_tuple0 (k : Nat) (l : List Nat) (a : Nat) (ha : a ≤ l.length) : PRF l none (runF tb fds (k + 1) 4 [.d (.str (S l)), .d (.int a), .d (.int 0)]) := by
  rw [runF]
  simp only [fds, b_tuple]
  refine ⟨a, [.un, .un, .un], ha, ?_⟩
  simp [fds, exs, ex.eq_1, ex.eq_2, ex.eq_3, ex.eq_4, ex.eq_5, ex.eq_6, ex.eq_7, ex.eq_8, ex.eq_10, ex.eq_12, ex.eq_13, ex.eq_14, ex.eq_15, ev.eq_1, ev.eq_2, ev.eq_3, ev.eq_4, ev.eq_5, ev.eq_6, ev.eq_7, ev.eq_8, ev.eq_9, ev.eq_10, ev.eq_11, ev.eq_12, ev.eq_13, ev.eq_14, ev.eq_15, ev.eq_16, ev.eq_17, ev.eq_18, ev.eq_19, ev.eq_20, ev.eq_21, ev.eq_22, ev.eq_23, evA, evs, evI, O.then, R.to, R.bind, EN.store, EN.storeAll, kp, kpF, seen, vw, opB, opC, opF, opI, opS, truD, R.val, R.dat, R.bool, isOwn, isLst, Env.at, O.end, retO, mask, flatD, List.mapM_cons, List.mapM_nil, eqD, eqS, callR, prep, prepV, handAll, handed, slotsOf, backR, back, mdz, prtR, IE.nl, isiR, excAt, isTy, Tb.tok, Cn.toD, cnPut, gc0, gc1, gc2, gc3, nk4, ne2, efl, ln0, ln1, ln2, ln3, ln4, ln5, ln6, S_eq, S_list, S_len, S_lp, S_rp, S_cm, S_qt, S_none, S_e, S_ce, S_sp, S_mn, S_0, S_9, S_a, S_z]
theorem run_value : ∀ (d k : Nat) (l : List Nat), l.length ≤ 100000 → ∀ a, a ≤ l.length → PRF l (V true d (l.drop a)) (runF tb fds (2 * d + 3 + k) 3 [.d (.str (S l)), .d (.int a), .d (.int d)]) := by
  intro d
  have leaf : ∀ (k n : Nat) (l : List Nat), l.length ≤ 100000 → ∀ a, a ≤ l.length → (l.drop a).head? ≠ some 40 → PRF l (leafP true (l.drop a)) (runF tb fds (k + 3) 3 [.d (.str (S l)), .d (.int a), .d (.int n)]) := by
    intro k n l hl a ha hne
    have hl1 : l.length ≤ line := by unfold line; omega
    have n40 : ¬ (l.drop a).take 1 = [40] := fun z => hne (by
      cases q : l.drop a with
      | nil => rw [q] at z; cases z
      | cons c r => rw [q] at z; cases z; rfl)
    unfold leafP
    rw [runF]
    simp only [fds, b__read_value]
    by_cases h1 : (l.drop a).head? = some 34
    · rw [if_pos h1]
      have t1 : (l.drop a).take 1 = [34] := by
        cases q : l.drop a with
        | nil => rw [q] at h1; cases h1
        | cons c r => rw [q] at h1; cases h1; rfl
      have hlt : a < l.length := by
        rcases Nat.lt_or_ge a l.length with z | z
        · exact z
        · rw [List.drop_eq_nil_of_le z] at h1; cases h1
      have w := run_word (k + 1) l a hl hlt
      rw [List.tail_drop]
      refine prf_of w (fun x ps e => ⟨[.un, .un, .un], ?_⟩) (fun c fs ps e => ⟨[.un, .un, .un], ?_⟩)
      · simp [fds, exs, ex.eq_1, ex.eq_2, ex.eq_3, ex.eq_4, ex.eq_5, ex.eq_6, ex.eq_7, ex.eq_8, ex.eq_10, ex.eq_12, ex.eq_13, ex.eq_14, ex.eq_15, ev.eq_1, ev.eq_2, ev.eq_3, ev.eq_4, ev.eq_5, ev.eq_6, ev.eq_7, ev.eq_8, ev.eq_9, ev.eq_10, ev.eq_11, ev.eq_12, ev.eq_13, ev.eq_14, ev.eq_15, ev.eq_16, ev.eq_17, ev.eq_18, ev.eq_19, ev.eq_20, ev.eq_21, ev.eq_22, ev.eq_23, evA, evs, evI, O.then, R.to, R.bind, EN.store, EN.storeAll, kp, kpF, seen, vw, opB, opC, opF, opI, opS, truD, R.val, R.dat, R.bool, isOwn, isLst, Env.at, O.end, retO, mask, flatD, List.mapM_cons, List.mapM_nil, eqD, eqS, callR, prep, prepV, handAll, handed, slotsOf, backR, back, mdz, prtR, IE.nl, isiR, excAt, isTy, Tb.tok, Cn.toD, cnPut, gc0, gc1, gc2, gc3, nk4, ne2, efl, ln0, ln1, ln2, ln3, ln4, ln5, ln6, S_eq, S_list, S_len, S_lp, S_rp, S_cm, S_qt, S_none, S_e, S_ce, S_sp, S_mn, S_0, S_9, S_a, S_z, cut1, hl1, n40, t1, e]
      · simp [fds, exs, ex.eq_1, ex.eq_2, ex.eq_3, ex.eq_4, ex.eq_5, ex.eq_6, ex.eq_7, ex.eq_8, ex.eq_10, ex.eq_12, ex.eq_13, ex.eq_14, ex.eq_15, ev.eq_1, ev.eq_2, ev.eq_3, ev.eq_4, ev.eq_5, ev.eq_6, ev.eq_7, ev.eq_8, ev.eq_9, ev.eq_10, ev.eq_11, ev.eq_12, ev.eq_13, ev.eq_14, ev.eq_15, ev.eq_16, ev.eq_17, ev.eq_18, ev.eq_19, ev.eq_20, ev.eq_21, ev.eq_22, ev.eq_23, evA, evs, evI, O.then, R.to, R.bind, EN.store, EN.storeAll, kp, kpF, seen, vw, opB, opC, opF, opI, opS, truD, R.val, R.dat, R.bool, isOwn, isLst, Env.at, O.end, retO, mask, flatD, List.mapM_cons, List.mapM_nil, eqD, eqS, callR, prep, prepV, handAll, handed, slotsOf, backR, back, mdz, prtR, IE.nl, isiR, excAt, isTy, Tb.tok, Cn.toD, cnPut, gc0, gc1, gc2, gc3, nk4, ne2, efl, ln0, ln1, ln2, ln3, ln4, ln5, ln6, S_eq, S_list, S_len, S_lp, S_rp, S_cm, S_qt, S_none, S_e, S_ce, S_sp, S_mn, S_0, S_9, S_a, S_z, cut1, hl1, n40, t1, e]
    · rw [if_neg h1]
      have n34 : ¬ (l.drop a).take 1 = [34] := fun z => h1 (by
        cases q : l.drop a with
        | nil => rw [q] at z; cases z
        | cons c r => rw [q] at z; cases z; rfl)
      by_cases h2 : (l.drop a).take 4 = [110, 111, 110, 101]
      · rw [if_pos h2]
        refine ⟨[.un, .un, .un], ?_⟩
        have ll : 4 ≤ (l.drop a).length := by
          have := congrArg List.length h2
          rw [List.length_take] at this
          have this : min 4 (l.drop a).length = 4 := this
          omega
        rw [List.length_drop] at ll
        have e1 : l.length - ((l.drop a).drop 4).length = a + 4 := by rw [List.length_drop, List.length_drop]; omega
        show _ = FR.ok (.d (.tup [.non, .int ((l.length - ((l.drop a).drop 4).length : Nat) : Int)])) _
        rw [e1]
        simp [fds, exs, ex.eq_1, ex.eq_2, ex.eq_3, ex.eq_4, ex.eq_5, ex.eq_6, ex.eq_7, ex.eq_8, ex.eq_10, ex.eq_12, ex.eq_13, ex.eq_14, ex.eq_15, ev.eq_1, ev.eq_2, ev.eq_3, ev.eq_4, ev.eq_5, ev.eq_6, ev.eq_7, ev.eq_8, ev.eq_9, ev.eq_10, ev.eq_11, ev.eq_12, ev.eq_13, ev.eq_14, ev.eq_15, ev.eq_16, ev.eq_17, ev.eq_18, ev.eq_19, ev.eq_20, ev.eq_21, ev.eq_22, ev.eq_23, evA, evs, evI, O.then, R.to, R.bind, EN.store, EN.storeAll, kp, kpF, seen, vw, opB, opC, opF, opI, opS, truD, R.val, R.dat, R.bool, isOwn, isLst, Env.at, O.end, retO, mask, flatD, List.mapM_cons, List.mapM_nil, eqD, eqS, callR, prep, prepV, handAll, handed, slotsOf, backR, back, mdz, prtR, IE.nl, isiR, excAt, isTy, Tb.tok, Cn.toD, cnPut, gc0, gc1, gc2, gc3, nk4, ne2, efl, ln0, ln1, ln2, ln3, ln4, ln5, ln6, S_eq, S_list, S_len, S_lp, S_rp, S_cm, S_qt, S_none, S_e, S_ce, S_sp, S_mn, S_0, S_9, S_a, S_z, cut1, cut4, hl1, n40, n34, h2]
      · rw [if_neg h2]
        have w := run_num k l a hl ha
        refine prf_of w (fun x ps e => ⟨[.un, .un, .un], ?_⟩) (fun c fs ps e => ⟨[.un, .un, .un], ?_⟩)
        · simp [fds, exs, ex.eq_1, ex.eq_2, ex.eq_3, ex.eq_4, ex.eq_5, ex.eq_6, ex.eq_7, ex.eq_8, ex.eq_10, ex.eq_12, ex.eq_13, ex.eq_14, ex.eq_15, ev.eq_1, ev.eq_2, ev.eq_3, ev.eq_4, ev.eq_5, ev.eq_6, ev.eq_7, ev.eq_8, ev.eq_9, ev.eq_10, ev.eq_11, ev.eq_12, ev.eq_13, ev.eq_14, ev.eq_15, ev.eq_16, ev.eq_17, ev.eq_18, ev.eq_19, ev.eq_20, ev.eq_21, ev.eq_22, ev.eq_23, evA, evs, evI, O.then, R.to, R.bind, EN.store, EN.storeAll, kp, kpF, seen, vw, opB, opC, opF, opI, opS, truD, R.val, R.dat, R.bool, isOwn, isLst, Env.at, O.end, retO, mask, flatD, List.mapM_cons, List.mapM_nil, eqD, eqS, callR, prep, prepV, handAll, handed, slotsOf, backR, back, mdz, prtR, IE.nl, isiR, excAt, isTy, Tb.tok, Cn.toD, cnPut, gc0, gc1, gc2, gc3, nk4, ne2, efl, ln0, ln1, ln2, ln3, ln4, ln5, ln6, S_eq, S_list, S_len, S_lp, S_rp, S_cm, S_qt, S_none, S_e, S_ce, S_sp, S_mn, S_0, S_9, S_a, S_z, cut1, cut4, hl1, n40, n34, h2, e]
        · simp [fds, exs, ex.eq_1, ex.eq_2, ex.eq_3, ex.eq_4, ex.eq_5, ex.eq_6, ex.eq_7, ex.eq_8, ex.eq_10, ex.eq_12, ex.eq_13, ex.eq_14, ex.eq_15, ev.eq_1, ev.eq_2, ev.eq_3, ev.eq_4, ev.eq_5, ev.eq_6, ev.eq_7, ev.eq_8, ev.eq_9, ev.eq_10, ev.eq_11, ev.eq_12, ev.eq_13, ev.eq_14, ev.eq_15, ev.eq_16, ev.eq_17, ev.eq_18, ev.eq_19, ev.eq_20, ev.eq_21, ev.eq_22, ev.eq_23, evA, evs, evI, O.then, R.to, R.bind, EN.store, EN.storeAll, kp, kpF, seen, vw, opB, opC, opF, opI, opS, truD, R.val, R.dat, R.bool, isOwn, isLst, Env.at, O.end, retO, mask, flatD, List.mapM_cons, List.mapM_nil, eqD, eqS, callR, prep, prepV, handAll, handed, slotsOf, backR, back, mdz, prtR, IE.nl, isiR, excAt, isTy, Tb.tok, Cn.toD, cnPut, gc0, gc1, gc2, gc3, nk4, ne2, efl, ln0, ln1, ln2, ln3, ln4, ln5, ln6, S_eq, S_list, S_len, S_lp, S_rp, S_cm, S_qt, S_none, S_e, S_ce, S_sp, S_mn, S_0, S_9, S_a, S_z, cut1, cut4, hl1, n40, n34, h2, e]
  induction d with
  | zero =>
    intro k l hl a ha
    unfold V
    by_cases h : (l.drop a).head? = some 40
    · rw [if_pos h]
      have hl1 : l.length ≤ line := by unfold line; omega
      have t1 : (l.drop a).take 1 = [40] := by
        cases q : l.drop a with
        | nil => rw [q] at h; cases h
        | cons c r => rw [q] at h; cases h; rfl
      have w := run_tuple0 (1 + k) l a ha
      rw [show 2 * 0 + 3 + k = (1 + k + 1) + 1 by omega, runF]
      simp only [fds, b__read_value]
      refine prf_of w (fun x ps e => ⟨[.un, .un, .un], ?_⟩) (fun c fs ps e => ⟨[.un, .un, .un], ?_⟩)
      · simp [fds, exs, ex.eq_1, ex.eq_2, ex.eq_3, ex.eq_4, ex.eq_5, ex.eq_6, ex.eq_7, ex.eq_8, ex.eq_10, ex.eq_12, ex.eq_13, ex.eq_14, ex.eq_15, ev.eq_1, ev.eq_2, ev.eq_3, ev.eq_4, ev.eq_5, ev.eq_6, ev.eq_7, ev.eq_8, ev.eq_9, ev.eq_10, ev.eq_11, ev.eq_12, ev.eq_13, ev.eq_14, ev.eq_15, ev.eq_16, ev.eq_17, ev.eq_18, ev.eq_19, ev.eq_20, ev.eq_21, ev.eq_22, ev.eq_23, evA, evs, evI, O.then, R.to, R.bind, EN.store, EN.storeAll, kp, kpF, seen, vw, opB, opC, opF, opI, opS, truD, R.val, R.dat, R.bool, isOwn, isLst, Env.at, O.end, retO, mask, flatD, List.mapM_cons, List.mapM_nil, eqD, eqS, callR, prep, prepV, handAll, handed, slotsOf, backR, back, mdz, prtR, IE.nl, isiR, excAt, isTy, Tb.tok, Cn.toD, cnPut, gc0, gc1, gc2, gc3, nk4, ne2, efl, ln0, ln1, ln2, ln3, ln4, ln5, ln6, S_eq, S_list, S_len, S_lp, S_rp, S_cm, S_qt, S_none, S_e, S_ce, S_sp, S_mn, S_0, S_9, S_a, S_z, cut1, hl1, t1, e]
      · simp [fds, exs, ex.eq_1, ex.eq_2, ex.eq_3, ex.eq_4, ex.eq_5, ex.eq_6, ex.eq_7, ex.eq_8, ex.eq_10, ex.eq_12, ex.eq_13, ex.eq_14, ex.eq_15, ev.eq_1, ev.eq_2, ev.eq_3, ev.eq_4, ev.eq_5, ev.eq_6, ev.eq_7, ev.eq_8, ev.eq_9, ev.eq_10, ev.eq_11, ev.eq_12, ev.eq_13, ev.eq_14, ev.eq_15, ev.eq_16, ev.eq_17, ev.eq_18, ev.eq_19, ev.eq_20, ev.eq_21, ev.eq_22, ev.eq_23, evA, evs, evI, O.then, R.to, R.bind, EN.store, EN.storeAll, kp, kpF, seen, vw, opB, opC, opF, opI, opS, truD, R.val, R.dat, R.bool, isOwn, isLst, Env.at, O.end, retO, mask, flatD, List.mapM_cons, List.mapM_nil, eqD, eqS, callR, prep, prepV, handAll, handed, slotsOf, backR, back, mdz, prtR, IE.nl, isiR, excAt, isTy, Tb.tok, Cn.toD, cnPut, gc0, gc1, gc2, gc3, nk4, ne2, efl, ln0, ln1, ln2, ln3, ln4, ln5, ln6, S_eq, S_list, S_len, S_lp, S_rp, S_cm, S_qt, S_none, S_e, S_ce, S_sp, S_mn, S_0, S_9, S_a, S_z, cut1, hl1, t1, e]
    · rw [if_neg h]
      have := leaf k 0 l hl a ha h
      rw [show 2 * 0 + 3 + k = k + 3 by omega]
      exact this
  | succ d ih =>
    intro k l hl a ha
    by_cases h : (l.drop a).head? = some 40
    · have hl1 : l.length ≤ line := by unfold line; omega
      cases q : l.drop a with
      | nil => rw [q] at h; cases h
      | cons c r =>
        rw [q] at h
        cases h
        have w := run_tuple d (2 * d + 3 + k) l hl (fun e he => ih k l hl e he) a r q
        rw [show 2 * (d + 1) + 3 + k = (2 * d + 3 + k + 1) + 1 by omega, runF]
        simp only [fds, b__read_value]
        refine prf_of w (fun x ps e => ⟨[.un, .un, .un], ?_⟩) (fun c fs ps e => ⟨[.un, .un, .un], ?_⟩)
        · simp [fds, exs, ex.eq_1, ex.eq_2, ex.eq_3, ex.eq_4, ex.eq_5, ex.eq_6, ex.eq_7, ex.eq_8, ex.eq_10, ex.eq_12, ex.eq_13, ex.eq_14, ex.eq_15, ev.eq_1, ev.eq_2, ev.eq_3, ev.eq_4, ev.eq_5, ev.eq_6, ev.eq_7, ev.eq_8, ev.eq_9, ev.eq_10, ev.eq_11, ev.eq_12, ev.eq_13, ev.eq_14, ev.eq_15, ev.eq_16, ev.eq_17, ev.eq_18, ev.eq_19, ev.eq_20, ev.eq_21, ev.eq_22, ev.eq_23, evA, evs, evI, O.then, R.to, R.bind, EN.store, EN.storeAll, kp, kpF, seen, vw, opB, opC, opF, opI, opS, truD, R.val, R.dat, R.bool, isOwn, isLst, Env.at, O.end, retO, mask, flatD, List.mapM_cons, List.mapM_nil, eqD, eqS, callR, prep, prepV, handAll, handed, slotsOf, backR, back, mdz, prtR, IE.nl, isiR, excAt, isTy, Tb.tok, Cn.toD, cnPut, gc0, gc1, gc2, gc3, nk4, ne2, efl, ln0, ln1, ln2, ln3, ln4, ln5, ln6, S_eq, S_list, S_len, S_lp, S_rp, S_cm, S_qt, S_none, S_e, S_ce, S_sp, S_mn, S_0, S_9, S_a, S_z, cut1, hl1, q, e]
        · simp [fds, exs, ex.eq_1, ex.eq_2, ex.eq_3, ex.eq_4, ex.eq_5, ex.eq_6, ex.eq_7, ex.eq_8, ex.eq_10, ex.eq_12, ex.eq_13, ex.eq_14, ex.eq_15, ev.eq_1, ev.eq_2, ev.eq_3, ev.eq_4, ev.eq_5, ev.eq_6, ev.eq_7, ev.eq_8, ev.eq_9, ev.eq_10, ev.eq_11, ev.eq_12, ev.eq_13, ev.eq_14, ev.eq_15, ev.eq_16, ev.eq_17, ev.eq_18, ev.eq_19, ev.eq_20, ev.eq_21, ev.eq_22, ev.eq_23, evA, evs, evI, O.then, R.to, R.bind, EN.store, EN.storeAll, kp, kpF, seen, vw, opB, opC, opF, opI, opS, truD, R.val, R.dat, R.bool, isOwn, isLst, Env.at, O.end, retO, mask, flatD, List.mapM_cons, List.mapM_nil, eqD, eqS, callR, prep, prepV, handAll, handed, slotsOf, backR, back, mdz, prtR, IE.nl, isiR, excAt, isTy, Tb.tok, Cn.toD, cnPut, gc0, gc1, gc2, gc3, nk4, ne2, efl, ln0, ln1, ln2, ln3, ln4, ln5, ln6, S_eq, S_list, S_len, S_lp, S_rp, S_cm, S_qt, S_none, S_e, S_ce, S_sp, S_mn, S_0, S_9, S_a, S_z, cut1, hl1, q, e]
    · have ev1 : V true (d + 1) (l.drop a) = leafP true (l.drop a) := by unfold V; rw [if_neg h]
      rw [ev1]
      have := leaf (2 * (d + 1) + k) (d + 1) l hl a ha h
      rw [show 2 * (d + 1) + 3 + k = 2 * (d + 1) + k + 3 by omega]
      exact this
end K74
namespace K74
open PySem EN NumText
theorem run_untold (k : Nat) (l : List Nat) (hl : l.length ≤ 100000) : (∀ v, V true 20 l = some (v, []) → ∃ ps, runF tb fds (44 + k) 2 [.d (.str (S l))] = .ok (.d v) ps) ∧
    ((∀ v, V true 20 l ≠ some (v, [])) → ∃ (p : Nat) (ps : EN.Env), p ≤ l.length ∧ runF tb fds (44 + k) 2 [.d (.str (S l))] = .er 1 [.str (S l), .int p] ps) := by
  have hl1 : l.length ≤ line := by unfold line; omega
  have w := run_value 20 k l hl 0 (Nat.zero_le _)
  rw [List.drop_zero, show 2 * 20 + 3 + k = 43 + k by omega] at w
  have c0 : ((0 : Nat) : Int) = 0 := rfl
  have c20 : ((20 : Nat) : Int) = 20 := rfl
  rw [c0, c20] at w
  rw [show 44 + k = (43 + k) + 1 by omega, runF]
  simp only [fds, b_untold]
  constructor
  · intro v hv
    rw [hv] at w
    obtain ⟨ps, e⟩ := w
    refine ⟨[.un], ?_⟩
    have e : runF tb fds (43 + k) 3 [.d (.str (S l)), .d (.int 0), .d (.int 20)] = .ok (.d (.tup [v, .int (l.length : Int)])) ps := e
    simp [fds, exs, ex.eq_1, ex.eq_2, ex.eq_3, ex.eq_4, ex.eq_5, ex.eq_6, ex.eq_7, ex.eq_8, ex.eq_10, ex.eq_12, ex.eq_13, ex.eq_14, ex.eq_15, ev.eq_1, ev.eq_2, ev.eq_3, ev.eq_4, ev.eq_5, ev.eq_6, ev.eq_7, ev.eq_8, ev.eq_9, ev.eq_10, ev.eq_11, ev.eq_12, ev.eq_13, ev.eq_14, ev.eq_15, ev.eq_16, ev.eq_17, ev.eq_18, ev.eq_19, ev.eq_20, ev.eq_21, ev.eq_22, ev.eq_23, evA, evs, evI, O.then, R.to, R.bind, EN.store, EN.storeAll, kp, kpF, seen, vw, opB, opC, opF, opI, opS, truD, R.val, R.dat, R.bool, isOwn, isLst, Env.at, O.end, retO, mask, flatD, List.mapM_cons, List.mapM_nil, eqD, eqS, callR, prep, prepV, handAll, handed, slotsOf, backR, back, mdz, prtR, IE.nl, isiR, excAt, isTy, Tb.tok, Cn.toD, cnPut, gc0, gc1, gc2, gc3, nk4, ne2, efl, ln0, ln1, ln2, ln3, ln4, ln5, ln6, S_eq, S_list, S_len, S_lp, S_rp, S_cm, S_qt, S_none, S_e, S_ce, S_sp, S_mn, S_0, S_9, S_a, S_z, hl1, e]
  · intro hv
    cases ho : V true 20 l with
    | none =>
      rw [ho] at w
      obtain ⟨p, ps, hp, e⟩ := w
      refine ⟨p, [.un], hp, ?_⟩
      simp [fds, exs, ex.eq_1, ex.eq_2, ex.eq_3, ex.eq_4, ex.eq_5, ex.eq_6, ex.eq_7, ex.eq_8, ex.eq_10, ex.eq_12, ex.eq_13, ex.eq_14, ex.eq_15, ev.eq_1, ev.eq_2, ev.eq_3, ev.eq_4, ev.eq_5, ev.eq_6, ev.eq_7, ev.eq_8, ev.eq_9, ev.eq_10, ev.eq_11, ev.eq_12, ev.eq_13, ev.eq_14, ev.eq_15, ev.eq_16, ev.eq_17, ev.eq_18, ev.eq_19, ev.eq_20, ev.eq_21, ev.eq_22, ev.eq_23, evA, evs, evI, O.then, R.to, R.bind, EN.store, EN.storeAll, kp, kpF, seen, vw, opB, opC, opF, opI, opS, truD, R.val, R.dat, R.bool, isOwn, isLst, Env.at, O.end, retO, mask, flatD, List.mapM_cons, List.mapM_nil, eqD, eqS, callR, prep, prepV, handAll, handed, slotsOf, backR, back, mdz, prtR, IE.nl, isiR, excAt, isTy, Tb.tok, Cn.toD, cnPut, gc0, gc1, gc2, gc3, nk4, ne2, efl, ln0, ln1, ln2, ln3, ln4, ln5, ln6, S_eq, S_list, S_len, S_lp, S_rp, S_cm, S_qt, S_none, S_e, S_ce, S_sp, S_mn, S_0, S_9, S_a, S_z, hl1, e]
    | some q =>
      rw [ho] at w
      obtain ⟨ps, e⟩ := w
      have hq : q.2 ≠ [] := fun z => hv q.1 (by rw [ho, ← z])
      have : 0 < q.2.length := List.length_pos_iff.mpr hq
      obtain ⟨pr, h1, h2⟩ := V_suf true 20 _ q.1 q.2 ho
      have h3 := congrArg List.length h2
      rw [List.length_append] at h3
      have h4 : ((l.length - q.2.length : Nat) : Int) < (l.length : Int) := by omega
      generalize hx : l.length - q.2.length = x at e h4
      refine ⟨x, [.un], by omega, ?_⟩
      simp [fds, exs, ex.eq_1, ex.eq_2, ex.eq_3, ex.eq_4, ex.eq_5, ex.eq_6, ex.eq_7, ex.eq_8, ex.eq_10, ex.eq_12, ex.eq_13, ex.eq_14, ex.eq_15, ev.eq_1, ev.eq_2, ev.eq_3, ev.eq_4, ev.eq_5, ev.eq_6, ev.eq_7, ev.eq_8, ev.eq_9, ev.eq_10, ev.eq_11, ev.eq_12, ev.eq_13, ev.eq_14, ev.eq_15, ev.eq_16, ev.eq_17, ev.eq_18, ev.eq_19, ev.eq_20, ev.eq_21, ev.eq_22, ev.eq_23, evA, evs, evI, O.then, R.to, R.bind, EN.store, EN.storeAll, kp, kpF, seen, vw, opB, opC, opF, opI, opS, truD, R.val, R.dat, R.bool, isOwn, isLst, Env.at, O.end, retO, mask, flatD, List.mapM_cons, List.mapM_nil, eqD, eqS, callR, prep, prepV, handAll, handed, slotsOf, backR, back, mdz, prtR, IE.nl, isiR, excAt, isTy, Tb.tok, Cn.toD, cnPut, gc0, gc1, gc2, gc3, nk4, ne2, efl, ln0, ln1, ln2, ln3, ln4, ln5, ln6, S_eq, S_list, S_len, S_lp, S_rp, S_cm, S_qt, S_none, S_e, S_ce, S_sp, S_mn, S_0, S_9, S_a, S_z, hl1, e, h4]
/-! the law's own reading -/
def PRL (l : List Nat) (o : Option (D × List Nat)) (R : FR) : Prop := match o with
  | some q => ∃ ps, R = .ok (.d (.tup [.int ((l.length - q.2.length : Nat) : Int), q.1])) ps
  | none => ∃ ps, R = .ok (.d (.tup [.int (-1), .non])) ps
theorem prl_of {l : List Nat} {o : Option (D × List Nat)} {R R' : FR} (h : PRL l o R) (h1 : ∀ x ps, R = .ok (.d x) ps → ∃ ps', R' = .ok (.d x) ps') : PRL l o R' := by
  cases o with
  | none =>
    obtain ⟨ps, e⟩ := h
    exact h1 _ _ e
  | some q =>
    obtain ⟨ps, e⟩ := h
    exact h1 _ _ e
theorem memL (c : Nat) : decide (c ∈ (Str.ofString "abcdefghijklmnopqrstuvwxyz ").cps.toList) = isL c := by
  rw [show (Str.ofString "abcdefghijklmnopqrstuvwxyz ").cps.toList = [97, 98, 99, 100, 101, 102, 103, 104, 105, 106, 107, 108, 109, 110, 111, 112, 113, 114, 115, 116, 117, 118, 119, 120, 121, 122, 32] by decide]
  unfold isL
  by_cases h : c = 32
  · subst h; decide
  · by_cases h2 : 97 ≤ c ∧ c ≤ 122
    · obtain ⟨h2, h3⟩ := h2
      have : ∀ c : Nat, c ≤ 122 → 97 ≤ c → decide (c ∈ [97, 98, 99, 100, 101, 102, 103, 104, 105, 106, 107, 108, 109, 110, 111, 112, 113, 114, 115, 116, 117, 118, 119, 120, 121, 122, 32]) = true := by decide
      rw [this c h3 h2, decide_eq_true h2, decide_eq_true h3]
      simp
    · rw [decide_eq_false, show (c == 32) = false by simpa using h]
      · simp only [Bool.false_or]
        refine Eq.symm (Bool.and_eq_false_iff.mpr ?_)
        by_cases h3 : 97 ≤ c
        · right; exact decide_eq_false fun z => h2 ⟨h3, z⟩
        · left; exact decide_eq_false h3
      · simp only [List.mem_cons, List.not_mem_nil, or_false]
        omega
theorem memD (c : Nat) : decide (c ∈ (Str.ofString "0123456789").cps.toList) = dig c := by
  rw [show (Str.ofString "0123456789").cps.toList = [48, 49, 50, 51, 52, 53, 54, 55, 56, 57] by decide]
  unfold dig
  by_cases h2 : 48 ≤ c ∧ c ≤ 57
  · obtain ⟨h2, h3⟩ := h2
    have : ∀ c : Nat, c ≤ 57 → 48 ≤ c → decide (c ∈ [48, 49, 50, 51, 52, 53, 54, 55, 56, 57]) = true := by decide
    rw [this c h3 h2, decide_eq_true h2, decide_eq_true h3]
    rfl
  · rw [decide_eq_false]
    · refine Eq.symm (Bool.and_eq_false_iff.mpr ?_)
      by_cases h3 : 48 ≤ c
      · right; exact decide_eq_false fun z => h2 ⟨h3, z⟩
      · left; exact decide_eq_false h3
    · simp only [List.mem_cons, List.not_mem_nil, or_false]
      omega
theorem at_nat {l : List Nat} {e c : Nat} {r : List Nat} (h : l.drop e = c :: r) : L2.atI l (e : Int) = some c := by
  obtain ⟨h1, _, _⟩ := drop1 h
  have : l[e] = c := by
    rw [List.drop_eq_getElem_cons h1] at h
    exact (List.cons.inj h).1
  unfold L2.atI L2.ixN
  simp [h1, this]
def sc2 (z : Str) : IE := .and (.cmp .lt (.var 2) (.bi .len (.cons (.var 0) .nil))) (.cmp .isin (.ix (.var 0) (.var 2)) (.lit (.str z)))
def sb2 : ISs := .cons (.asg 2 (.bin .add (.var 2) (.lit (.int 1)))) .nil
theorem scan2 (fn : Fn) (l : List Nat) (a : Nat) (hl : l.length ≤ line) (z : Str) (p : Nat → Bool) (hz : ∀ c, decide (c ∈ z.cps.toList) = p c) : ∀ (n e : Nat), e ≤ l.length → l.length - e < n →
    whRun (fun ρ => (ev tb fn 2 (sc2 z) ρ).tru) (fun ρ => exs tb fn 2 sb2 ρ) n [.d (.str (S l)), .d (.int a), .d (.int e)] = .nx [.d (.str (S l)), .d (.int a), .d (.int ((e + ((l.drop e).takeWhile p).length : Nat) : Int))]
  | 0, e, _, h => absurd h (by omega)
  | n + 1, e, he, h => by
    cases hd : l.drop e with
    | nil =>
      have h1 : ¬ (e : Int) < (l.length : Int) := by
        have := congrArg List.length hd
        rw [List.length_drop] at this
        have this : l.length - e = 0 := this
        omega
      exact wh_stop (by simp [fds, exs, ex.eq_1, ex.eq_2, ex.eq_3, ex.eq_4, ex.eq_5, ex.eq_6, ex.eq_7, ex.eq_8, ex.eq_10, ex.eq_12, ex.eq_13, ex.eq_14, ex.eq_15, ev.eq_1, ev.eq_2, ev.eq_3, ev.eq_4, ev.eq_5, ev.eq_6, ev.eq_7, ev.eq_8, ev.eq_9, ev.eq_10, ev.eq_11, ev.eq_12, ev.eq_13, ev.eq_14, ev.eq_15, ev.eq_16, ev.eq_17, ev.eq_18, ev.eq_19, ev.eq_20, ev.eq_21, ev.eq_22, ev.eq_23, evA, evs, evI, O.then, R.to, R.bind, EN.store, EN.storeAll, kp, kpF, seen, vw, opB, opC, opF, opI, opS, truD, R.val, R.dat, R.bool, isOwn, isLst, Env.at, O.end, retO, mask, flatD, List.mapM_cons, List.mapM_nil, eqD, eqS, callR, prep, prepV, handAll, handed, slotsOf, backR, back, mdz, prtR, IE.nl, isiR, excAt, isTy, Tb.tok, Cn.toD, cnPut, gc0, gc1, gc2, gc3, nk4, ne2, efl, ln0, ln1, ln2, ln3, ln4, ln5, ln6, S_eq, S_list, S_len, S_lp, S_rp, S_cm, S_qt, S_none, S_e, S_ce, S_sp, S_mn, S_0, S_9, S_a, S_z, sc2, hl, h1])
    | cons c r =>
      obtain ⟨h1, hr, _⟩ := drop1 hd
      have h1' : (e : Int) < (l.length : Int) := by omega
      have hat := at_nat hd
      have hzc := hz c
      by_cases hc : p c = true
      · rw [hc] at hzc
        have ih := scan2 fn l a hl z p hz n (e + 1) (by omega) (by omega)
        rw [hr] at ih
        have e2 : (e + ((c :: r).takeWhile p).length) = e + 1 + (r.takeWhile p).length := by
          rw [List.takeWhile_cons, if_pos hc]
          simp
          omega
        rw [e2]
        have hzc : c ∈ z.cps.toList := of_decide_eq_true hzc
        exact (wh_next (ρ1 := [.d (.str (S l)), .d (.int a), .d (.int e)]) (ρ2 := [.d (.str (S l)), .d (.int a), .d (.int ((e + 1 : Nat) : Int))]) (by simp [fds, exs, ex.eq_1, ex.eq_2, ex.eq_3, ex.eq_4, ex.eq_5, ex.eq_6, ex.eq_7, ex.eq_8, ex.eq_10, ex.eq_12, ex.eq_13, ex.eq_14, ex.eq_15, ev.eq_1, ev.eq_2, ev.eq_3, ev.eq_4, ev.eq_5, ev.eq_6, ev.eq_7, ev.eq_8, ev.eq_9, ev.eq_10, ev.eq_11, ev.eq_12, ev.eq_13, ev.eq_14, ev.eq_15, ev.eq_16, ev.eq_17, ev.eq_18, ev.eq_19, ev.eq_20, ev.eq_21, ev.eq_22, ev.eq_23, evA, evs, evI, O.then, R.to, R.bind, EN.store, EN.storeAll, kp, kpF, seen, vw, opB, opC, opF, opI, opS, truD, R.val, R.dat, R.bool, isOwn, isLst, Env.at, O.end, retO, mask, flatD, List.mapM_cons, List.mapM_nil, eqD, eqS, callR, prep, prepV, handAll, handed, slotsOf, backR, back, mdz, prtR, IE.nl, isiR, excAt, isTy, Tb.tok, Cn.toD, cnPut, gc0, gc1, gc2, gc3, nk4, ne2, efl, ln0, ln1, ln2, ln3, ln4, ln5, ln6, S_eq, S_list, S_len, S_lp, S_rp, S_cm, S_qt, S_none, S_e, S_ce, S_sp, S_mn, S_0, S_9, S_a, S_z, sc2, hl, h1, hat]; simpa using hzc) (by simp [fds, exs, ex.eq_1, ex.eq_2, ex.eq_3, ex.eq_4, ex.eq_5, ex.eq_6, ex.eq_7, ex.eq_8, ex.eq_10, ex.eq_12, ex.eq_13, ex.eq_14, ex.eq_15, ev.eq_1, ev.eq_2, ev.eq_3, ev.eq_4, ev.eq_5, ev.eq_6, ev.eq_7, ev.eq_8, ev.eq_9, ev.eq_10, ev.eq_11, ev.eq_12, ev.eq_13, ev.eq_14, ev.eq_15, ev.eq_16, ev.eq_17, ev.eq_18, ev.eq_19, ev.eq_20, ev.eq_21, ev.eq_22, ev.eq_23, evA, evs, evI, O.then, R.to, R.bind, EN.store, EN.storeAll, kp, kpF, seen, vw, opB, opC, opF, opI, opS, truD, R.val, R.dat, R.bool, isOwn, isLst, Env.at, O.end, retO, mask, flatD, List.mapM_cons, List.mapM_nil, eqD, eqS, callR, prep, prepV, handAll, handed, slotsOf, backR, back, mdz, prtR, IE.nl, isiR, excAt, isTy, Tb.tok, Cn.toD, cnPut, gc0, gc1, gc2, gc3, nk4, ne2, efl, ln0, ln1, ln2, ln3, ln4, ln5, ln6, S_eq, S_list, S_len, S_lp, S_rp, S_cm, S_qt, S_none, S_e, S_ce, S_sp, S_mn, S_0, S_9, S_a, S_z, sb2])).trans ih
      · have hc : p c = false := by simpa using hc
        rw [hc] at hzc
        have hzc : ¬ c ∈ z.cps.toList := of_decide_eq_false hzc
        have e2 : (e + ((c :: r).takeWhile p).length) = e := by
          rw [List.takeWhile_cons, hc]; rfl
        rw [e2]
        exact wh_stop (by simp [fds, exs, ex.eq_1, ex.eq_2, ex.eq_3, ex.eq_4, ex.eq_5, ex.eq_6, ex.eq_7, ex.eq_8, ex.eq_10, ex.eq_12, ex.eq_13, ex.eq_14, ex.eq_15, ev.eq_1, ev.eq_2, ev.eq_3, ev.eq_4, ev.eq_5, ev.eq_6, ev.eq_7, ev.eq_8, ev.eq_9, ev.eq_10, ev.eq_11, ev.eq_12, ev.eq_13, ev.eq_14, ev.eq_15, ev.eq_16, ev.eq_17, ev.eq_18, ev.eq_19, ev.eq_20, ev.eq_21, ev.eq_22, ev.eq_23, evA, evs, evI, O.then, R.to, R.bind, EN.store, EN.storeAll, kp, kpF, seen, vw, opB, opC, opF, opI, opS, truD, R.val, R.dat, R.bool, isOwn, isLst, Env.at, O.end, retO, mask, flatD, List.mapM_cons, List.mapM_nil, eqD, eqS, callR, prep, prepV, handAll, handed, slotsOf, backR, back, mdz, prtR, IE.nl, isiR, excAt, isTy, Tb.tok, Cn.toD, cnPut, gc0, gc1, gc2, gc3, nk4, ne2, efl, ln0, ln1, ln2, ln3, ln4, ln5, ln6, S_eq, S_list, S_len, S_lp, S_rp, S_cm, S_qt, S_none, S_e, S_ce, S_sp, S_mn, S_0, S_9, S_a, S_z, sc2, hl, h1, hat]; simpa using hzc)
theorem run_lword (k : Nat) (l : List Nat) (a : Nat) (hl : l.length ≤ 100000) (ha : a < l.length) : PRL l ((wordP (l.drop (a + 1))).map fun q => (.str (S q.1), q.2)) (runF tb fds (k + 1) 14 [.d (.str (S l)), .d (.int a)]) := by
  have hl1 : l.length ≤ line := by unfold line; omega
  have sc := (ex.eq_11 _ _ _ _ _ _).trans (scan2 (runF tb fds k) l a hl1 (Str.ofString "abcdefghijklmnopqrstuvwxyz ") isL memL line (a + 1) (by omega) (by unfold line; omega))
  unfold sc2 sb2 at sc
  generalize hr : l.drop (a + 1) = r at sc ⊢
  have hrl : r.length = l.length - (a + 1) := by rw [← hr, List.length_drop]
  have hspl : r = r.takeWhile isL ++ r.dropWhile isL := List.takeWhile_append_dropWhile.symm
  unfold wordP
  generalize ht : r.takeWhile isL = t at sc hspl ⊢
  generalize hq : r.dropWhile isL = q at hspl ⊢
  have htl : t.length + q.length = r.length := by rw [hspl, List.length_append]
  have cast : ((a + 1 : Nat) : Int) = (a : Int) + 1 := rfl
  rw [cast] at sc
  have hts : L2.cutS (S l) (some ((a : Int) + 1)) (some ((a + 1 + t.length : Nat) : Int)) = S t := by
    have := cut_of (l := l) (lo := (a : Int) + 1) (hi := ((a + 1 + t.length : Nat) : Int)) (a + 1) (a + 1 + t.length) rfl rfl
    rw [this, hr, Nat.add_sub_cancel_left, hspl, List.take_left]
  have hd : l.drop (a + 1 + t.length) = q := by
    rw [← List.drop_drop, hr, hspl, List.drop_left]
  have c1 := cut1 l (a + 1 + t.length)
  rw [hd] at c1
  rw [runF]
  simp only [b__law_read_word, fds]
  by_cases h0 : t = []
  · subst h0
    rw [if_pos rfl]
    refine ⟨[.un, .un], ?_⟩
    have e0 : ((a + 1 + ([] : List Nat).length : Nat) : Int) = (a : Int) + 1 := rfl
    rw [e0] at sc
    simp [fds, exs, ex.eq_1, ex.eq_2, ex.eq_3, ex.eq_4, ex.eq_5, ex.eq_6, ex.eq_7, ex.eq_8, ex.eq_10, ex.eq_12, ex.eq_13, ex.eq_14, ex.eq_15, ev.eq_1, ev.eq_2, ev.eq_3, ev.eq_4, ev.eq_5, ev.eq_6, ev.eq_7, ev.eq_8, ev.eq_9, ev.eq_10, ev.eq_11, ev.eq_12, ev.eq_13, ev.eq_14, ev.eq_15, ev.eq_16, ev.eq_17, ev.eq_18, ev.eq_19, ev.eq_20, ev.eq_21, ev.eq_22, ev.eq_23, evA, evs, evI, O.then, R.to, R.bind, EN.store, EN.storeAll, kp, kpF, seen, vw, opB, opC, opF, opI, opS, truD, R.val, R.dat, R.bool, isOwn, isLst, Env.at, O.end, retO, mask, flatD, List.mapM_cons, List.mapM_nil, eqD, eqS, callR, prep, prepV, handAll, handed, slotsOf, backR, back, mdz, prtR, IE.nl, isiR, excAt, isTy, Tb.tok, Cn.toD, cnPut, gc0, gc1, gc2, gc3, nk4, ne2, efl, ln0, ln1, ln2, ln3, ln4, ln5, ln6, S_eq, S_list, S_len, S_lp, S_rp, S_cm, S_qt, S_none, S_e, S_ce, S_sp, S_mn, S_0, S_9, S_a, S_z, sc]
  · rw [if_neg h0]
    have t1 : 0 < t.length := List.length_pos_iff.mpr h0
    have n1 : ¬ (((a + 1 + t.length : Nat) : Int) = (a : Int) + 1) := by omega
    by_cases h1 : q.head? = some 34
    · rw [if_pos h1]
      have h2 : q.take 1 = [34] := by
        cases q with
        | nil => cases h1
        | cons c q => cases h1; rfl
      have lq : 0 < q.length := by
        cases q with
        | nil => cases h1
        | cons c q => simp
      refine ⟨[.un, .un], ?_⟩
      have e1 : l.length - q.tail.length = a + 1 + t.length + 1 := by rw [List.length_tail]; omega
      show _ = FR.ok (.d (.tup [.int ((l.length - q.tail.length : Nat) : Int), .str (S t)])) _
      rw [e1]
      generalize he : ((a + 1 + t.length : Nat) : Int) = e at sc hts n1 c1
      have he2 : ((a + 1 + t.length + 1 : Nat) : Int) = e + 1 := by omega
      rw [he2]
      simp [fds, exs, ex.eq_1, ex.eq_2, ex.eq_3, ex.eq_4, ex.eq_5, ex.eq_6, ex.eq_7, ex.eq_8, ex.eq_10, ex.eq_12, ex.eq_13, ex.eq_14, ex.eq_15, ev.eq_1, ev.eq_2, ev.eq_3, ev.eq_4, ev.eq_5, ev.eq_6, ev.eq_7, ev.eq_8, ev.eq_9, ev.eq_10, ev.eq_11, ev.eq_12, ev.eq_13, ev.eq_14, ev.eq_15, ev.eq_16, ev.eq_17, ev.eq_18, ev.eq_19, ev.eq_20, ev.eq_21, ev.eq_22, ev.eq_23, evA, evs, evI, O.then, R.to, R.bind, EN.store, EN.storeAll, kp, kpF, seen, vw, opB, opC, opF, opI, opS, truD, R.val, R.dat, R.bool, isOwn, isLst, Env.at, O.end, retO, mask, flatD, List.mapM_cons, List.mapM_nil, eqD, eqS, callR, prep, prepV, handAll, handed, slotsOf, backR, back, mdz, prtR, IE.nl, isiR, excAt, isTy, Tb.tok, Cn.toD, cnPut, gc0, gc1, gc2, gc3, nk4, ne2, efl, ln0, ln1, ln2, ln3, ln4, ln5, ln6, S_eq, S_list, S_len, S_lp, S_rp, S_cm, S_qt, S_none, S_e, S_ce, S_sp, S_mn, S_0, S_9, S_a, S_z, sc, hts, n1, c1, h2, hl1]
    · rw [if_neg h1]
      have h2 : ¬ q.take 1 = [34] := fun z => h1 (by
        cases q with
        | nil => cases z
        | cons c q => cases z; rfl)
      refine ⟨[.un, .un], ?_⟩
      generalize he : ((a + 1 + t.length : Nat) : Int) = e at sc hts n1 c1
      simp [fds, exs, ex.eq_1, ex.eq_2, ex.eq_3, ex.eq_4, ex.eq_5, ex.eq_6, ex.eq_7, ex.eq_8, ex.eq_10, ex.eq_12, ex.eq_13, ex.eq_14, ex.eq_15, ev.eq_1, ev.eq_2, ev.eq_3, ev.eq_4, ev.eq_5, ev.eq_6, ev.eq_7, ev.eq_8, ev.eq_9, ev.eq_10, ev.eq_11, ev.eq_12, ev.eq_13, ev.eq_14, ev.eq_15, ev.eq_16, ev.eq_17, ev.eq_18, ev.eq_19, ev.eq_20, ev.eq_21, ev.eq_22, ev.eq_23, evA, evs, evI, O.then, R.to, R.bind, EN.store, EN.storeAll, kp, kpF, seen, vw, opB, opC, opF, opI, opS, truD, R.val, R.dat, R.bool, isOwn, isLst, Env.at, O.end, retO, mask, flatD, List.mapM_cons, List.mapM_nil, eqD, eqS, callR, prep, prepV, handAll, handed, slotsOf, backR, back, mdz, prtR, IE.nl, isiR, excAt, isTy, Tb.tok, Cn.toD, cnPut, gc0, gc1, gc2, gc3, nk4, ne2, efl, ln0, ln1, ln2, ln3, ln4, ln5, ln6, S_eq, S_list, S_len, S_lp, S_rp, S_cm, S_qt, S_none, S_e, S_ce, S_sp, S_mn, S_0, S_9, S_a, S_z, sc, hts, n1, c1, h2, hl1]
end K74
namespace K74
open PySem EN NumText
def sc3 (z : Str) : IE := .and (.cmp .lt (.var 3) (.bi .len (.cons (.var 0) .nil))) (.cmp .isin (.ix (.var 0) (.var 3)) (.lit (.str z)))
def sb3 : ISs := .cons (.asg 3 (.bin .add (.var 3) (.lit (.int 1)))) .nil
theorem scan3 (fn : Fn) (l : List Nat) (a s2 : EN.Slot) (s4 : EN.Slot) (hl : l.length ≤ line) (z : Str) (p : Nat → Bool) (hz : ∀ c, decide (c ∈ z.cps.toList) = p c) : ∀ (n e : Nat), e ≤ l.length → l.length - e < n →
    whRun (fun ρ => (ev tb fn 2 (sc3 z) ρ).tru) (fun ρ => exs tb fn 2 sb3 ρ) n [.d (.str (S l)), a, s2, .d (.int e), s4] = .nx [.d (.str (S l)), a, s2, .d (.int ((e + ((l.drop e).takeWhile p).length : Nat) : Int)), s4]
  | 0, e, _, h => absurd h (by omega)
  | n + 1, e, he, h => by
    cases hd : l.drop e with
    | nil =>
      have h1 : ¬ (e : Int) < (l.length : Int) := by
        have := congrArg List.length hd
        rw [List.length_drop] at this
        have this : l.length - e = 0 := this
        omega
      exact wh_stop (by simp [fds, exs, ex.eq_1, ex.eq_2, ex.eq_3, ex.eq_4, ex.eq_5, ex.eq_6, ex.eq_7, ex.eq_8, ex.eq_10, ex.eq_12, ex.eq_13, ex.eq_14, ex.eq_15, ev.eq_1, ev.eq_2, ev.eq_3, ev.eq_4, ev.eq_5, ev.eq_6, ev.eq_7, ev.eq_8, ev.eq_9, ev.eq_10, ev.eq_11, ev.eq_12, ev.eq_13, ev.eq_14, ev.eq_15, ev.eq_16, ev.eq_17, ev.eq_18, ev.eq_19, ev.eq_20, ev.eq_21, ev.eq_22, ev.eq_23, evA, evs, evI, O.then, R.to, R.bind, EN.store, EN.storeAll, kp, kpF, seen, vw, opB, opC, opF, opI, opS, truD, R.val, R.dat, R.bool, isOwn, isLst, Env.at, O.end, retO, mask, flatD, List.mapM_cons, List.mapM_nil, eqD, eqS, callR, prep, prepV, handAll, handed, slotsOf, backR, back, mdz, prtR, IE.nl, isiR, excAt, isTy, Tb.tok, Cn.toD, cnPut, gc0, gc1, gc2, gc3, nk4, ne2, efl, ln0, ln1, ln2, ln3, ln4, ln5, ln6, S_eq, S_list, S_len, S_lp, S_rp, S_cm, S_qt, S_none, S_e, S_ce, S_sp, S_mn, S_0, S_9, S_a, S_z, sc3, hl, h1])
    | cons c r =>
      obtain ⟨h1, hr, _⟩ := drop1 hd
      have h1' : (e : Int) < (l.length : Int) := by omega
      have hat := at_nat hd
      have hzc := hz c
      by_cases hc : p c = true
      · rw [hc] at hzc
        have ih := scan3 fn l a s2 s4 hl z p hz n (e + 1) (by omega) (by omega)
        rw [hr] at ih
        have e2 : (e + ((c :: r).takeWhile p).length) = e + 1 + (r.takeWhile p).length := by
          rw [List.takeWhile_cons, if_pos hc]
          simp
          omega
        rw [e2]
        have hzc : c ∈ z.cps.toList := of_decide_eq_true hzc
        exact (wh_next (ρ1 := [.d (.str (S l)), a, s2, .d (.int e), s4]) (ρ2 := [.d (.str (S l)), a, s2, .d (.int ((e + 1 : Nat) : Int)), s4]) (by simp [fds, exs, ex.eq_1, ex.eq_2, ex.eq_3, ex.eq_4, ex.eq_5, ex.eq_6, ex.eq_7, ex.eq_8, ex.eq_10, ex.eq_12, ex.eq_13, ex.eq_14, ex.eq_15, ev.eq_1, ev.eq_2, ev.eq_3, ev.eq_4, ev.eq_5, ev.eq_6, ev.eq_7, ev.eq_8, ev.eq_9, ev.eq_10, ev.eq_11, ev.eq_12, ev.eq_13, ev.eq_14, ev.eq_15, ev.eq_16, ev.eq_17, ev.eq_18, ev.eq_19, ev.eq_20, ev.eq_21, ev.eq_22, ev.eq_23, evA, evs, evI, O.then, R.to, R.bind, EN.store, EN.storeAll, kp, kpF, seen, vw, opB, opC, opF, opI, opS, truD, R.val, R.dat, R.bool, isOwn, isLst, Env.at, O.end, retO, mask, flatD, List.mapM_cons, List.mapM_nil, eqD, eqS, callR, prep, prepV, handAll, handed, slotsOf, backR, back, mdz, prtR, IE.nl, isiR, excAt, isTy, Tb.tok, Cn.toD, cnPut, gc0, gc1, gc2, gc3, nk4, ne2, efl, ln0, ln1, ln2, ln3, ln4, ln5, ln6, S_eq, S_list, S_len, S_lp, S_rp, S_cm, S_qt, S_none, S_e, S_ce, S_sp, S_mn, S_0, S_9, S_a, S_z, sc3, hl, h1, hat]; simpa using hzc) (by simp [fds, exs, ex.eq_1, ex.eq_2, ex.eq_3, ex.eq_4, ex.eq_5, ex.eq_6, ex.eq_7, ex.eq_8, ex.eq_10, ex.eq_12, ex.eq_13, ex.eq_14, ex.eq_15, ev.eq_1, ev.eq_2, ev.eq_3, ev.eq_4, ev.eq_5, ev.eq_6, ev.eq_7, ev.eq_8, ev.eq_9, ev.eq_10, ev.eq_11, ev.eq_12, ev.eq_13, ev.eq_14, ev.eq_15, ev.eq_16, ev.eq_17, ev.eq_18, ev.eq_19, ev.eq_20, ev.eq_21, ev.eq_22, ev.eq_23, evA, evs, evI, O.then, R.to, R.bind, EN.store, EN.storeAll, kp, kpF, seen, vw, opB, opC, opF, opI, opS, truD, R.val, R.dat, R.bool, isOwn, isLst, Env.at, O.end, retO, mask, flatD, List.mapM_cons, List.mapM_nil, eqD, eqS, callR, prep, prepV, handAll, handed, slotsOf, backR, back, mdz, prtR, IE.nl, isiR, excAt, isTy, Tb.tok, Cn.toD, cnPut, gc0, gc1, gc2, gc3, nk4, ne2, efl, ln0, ln1, ln2, ln3, ln4, ln5, ln6, S_eq, S_list, S_len, S_lp, S_rp, S_cm, S_qt, S_none, S_e, S_ce, S_sp, S_mn, S_0, S_9, S_a, S_z, sb3])).trans ih
      · have hc : p c = false := by simpa using hc
        rw [hc] at hzc
        have hzc : ¬ c ∈ z.cps.toList := of_decide_eq_false hzc
        have e2 : (e + ((c :: r).takeWhile p).length) = e := by
          rw [List.takeWhile_cons, hc]; rfl
        rw [e2]
        exact wh_stop (by simp [fds, exs, ex.eq_1, ex.eq_2, ex.eq_3, ex.eq_4, ex.eq_5, ex.eq_6, ex.eq_7, ex.eq_8, ex.eq_10, ex.eq_12, ex.eq_13, ex.eq_14, ex.eq_15, ev.eq_1, ev.eq_2, ev.eq_3, ev.eq_4, ev.eq_5, ev.eq_6, ev.eq_7, ev.eq_8, ev.eq_9, ev.eq_10, ev.eq_11, ev.eq_12, ev.eq_13, ev.eq_14, ev.eq_15, ev.eq_16, ev.eq_17, ev.eq_18, ev.eq_19, ev.eq_20, ev.eq_21, ev.eq_22, ev.eq_23, evA, evs, evI, O.then, R.to, R.bind, EN.store, EN.storeAll, kp, kpF, seen, vw, opB, opC, opF, opI, opS, truD, R.val, R.dat, R.bool, isOwn, isLst, Env.at, O.end, retO, mask, flatD, List.mapM_cons, List.mapM_nil, eqD, eqS, callR, prep, prepV, handAll, handed, slotsOf, backR, back, mdz, prtR, IE.nl, isiR, excAt, isTy, Tb.tok, Cn.toD, cnPut, gc0, gc1, gc2, gc3, nk4, ne2, efl, ln0, ln1, ln2, ln3, ln4, ln5, ln6, S_eq, S_list, S_len, S_lp, S_rp, S_cm, S_qt, S_none, S_e, S_ce, S_sp, S_mn, S_0, S_9, S_a, S_z, sc3, hl, h1, hat]; simpa using hzc)
theorem figs_num (r : List Nat) : figs (numT r) = (figs r).takeWhile dig ∧ neg (numT r) = neg r := by
  unfold numT
  cases hn : neg r with
  | true => exact ⟨rfl, rfl⟩
  | false =>
    have : ∀ t : List Nat, t.all dig = true → figs t = t ∧ neg t = false := fun t ht => by
      rcases figs_45 (w := t) with ⟨q, e1, _⟩ | ⟨_, e2, e3, _⟩
      · rw [e1] at ht; cases ht
      · exact ⟨e2, e3⟩
    exact this _ List.all_takeWhile
theorem run_lnum (k : Nat) (l : List Nat) (a : Nat) (hl : l.length ≤ 100000) (ha : a ≤ l.length) : PRL l (intP false (l.drop a)) (runF tb fds (k + 1) 15 [.d (.str (S l)), .d (.int a)]) := by
  have hl1 : l.length ≤ line := by unfold line; omega
  generalize hr : l.drop a = r
  have hrl : r.length = l.length - a := by rw [← hr, List.length_drop]
  obtain ⟨st, hst, hsn⟩ : ∃ st : Nat, l.drop st = figs r ∧ ((neg r = true ∧ st = a + 1 ∧ r.take 1 = [45] ∧ a < l.length) ∨ (neg r = false ∧ st = a ∧ r.take 1 ≠ [45])) := by
    rcases figs_45 (w := r) with ⟨q, e1, e2, e3, _⟩ | ⟨e1, e2, e3, _⟩
    · refine ⟨a + 1, ?_, .inl ⟨e3, rfl, by rw [e1]; rfl, ?_⟩⟩
      · rw [e2]; exact (drop1 (hr.trans e1)).2.1
      · exact (drop1 (hr.trans e1)).1
    · refine ⟨a, by rw [e2, hr], .inr ⟨e3, rfl, fun z => e1 ?_⟩⟩
      cases r with
      | nil => cases z
      | cons c r => cases z; rfl
  have hstl : st ≤ l.length := by rcases hsn with ⟨_, z, _, z2⟩ | ⟨_, z, _⟩ <;> omega
  have sc := fun (s2 : EN.Slot) => (ex.eq_11 _ _ _ _ _ _).trans (scan3 (runF tb fds k) l (.d (.int a)) s2 .un hl1 (Str.ofString "0123456789") dig memD line st hstl (by unfold line; omega))
  unfold sc3 sb3 at sc
  rw [hst] at sc
  obtain ⟨fn1, fn2⟩ := figs_num r
  have tall : ((figs r).takeWhile dig).all dig = true := List.all_takeWhile
  have hsp := num_split r
  unfold intP
  have hfl : (figs r).length = l.length - st := by rw [← hst, List.length_drop]
  have hspl : figs r = (figs r).takeWhile dig ++ numR r := List.takeWhile_append_dropWhile.symm
  generalize ht : (figs r).takeWhile dig = t at sc fn1 tall hspl
  have htl : t.length + (numR r).length = l.length - st := by rw [← hfl, hspl, List.length_append]
  have hts : L2.cutS (S l) (some (st : Int)) (some ((st + t.length : Nat) : Int)) = S t := by
    rw [cut_of st (st + t.length) rfl rfl, hst, Nat.add_sub_cancel_left, hspl, List.take_left]
  have hnl : (numT r).length = st + t.length - a := by
    unfold numT
    rw [ht, List.length_append]
    rcases hsn with ⟨z, z1, _⟩ | ⟨z, z1, _⟩
    · rw [z, z1]; simp; omega
    · rw [z, z1]; simp
  have hsta : a ≤ st + t.length := by rcases hsn with ⟨_, z1, _⟩ | ⟨_, z1, _⟩ <;> omega
  have htn : L2.cutS (S l) (some (a : Int)) (some ((st + t.length : Nat) : Int)) = S (numT r) := by
    rw [cut_of a (st + t.length) rfl rfl, hr]
    conv => lhs; rw [hsp]
    rw [← hnl, List.take_left]
  have c1 := cut1 l a
  rw [hr] at c1
  have e1 : l.length - (numR r).length = st + t.length := by omega
  have cc1 : canon (numT r) = (decide (1 ≤ t.length) && decide (t.length ≤ 12) && !(decide (t.head? = some 48) && (decide (1 < t.length) || neg r))) := by
    unfold canon
    rw [fn1, fn2, tall, Bool.and_true]
  have iT := fun h1 h2 => intT (w := numT r) (by rw [fn1]; exact tall) (by rw [fn1]; exact h1) (by rw [fn1]; exact h2)
  have hgt : ((st : Int) > (a : Int)) = (neg r = true) := by
    rcases hsn with ⟨z, z1, _⟩ | ⟨z, z1, _⟩
    · rw [z, z1]; simp; omega
    · rw [z, z1]; simp
  rw [runF]
  simp only [b__law_read_integer, fds]
  have fin : ∀ ρ : EN.Env, ρ = [.d (.str (S l)), .d (.int a), .d (.int st), .d (.int st), .un] → PRL l (if (canon (numT r) && (!false || okRest (numR r))) = true then some (D.int (pv (numT r)), numR r) else none)
    ((exs tb (runF tb fds k) 2 (.cons (.whl (.and (.cmp .lt (.var 3) (.bi .len (.cons (.var 0) .nil))) (.cmp .isin (.ix (.var 0) (.var 3)) (.lit (.str "0123456789")))) (.cons (.asg 3 (.bin .add (.var 3) (.lit (.int 1)))) .nil))
      (.cons (.asg 4 (.slc (.var 0) (.var 2) (.var 3)))
      (.cons (.ifS (.or (.cmp .lt (.bi .len (.cons (.var 4) .nil)) (.lit (.int 1))) (.or (.cmp .gt (.bi .len (.cons (.var 4) .nil)) (.lit (.int 12))) (.and (.cmp .eq (.ix (.var 4) (.lit (.int 0))) (.lit (.str "0"))) (.or (.cmp .gt (.bi .len (.cons (.var 4) .nil)) (.lit (.int 1))) (.cmp .gt (.var 2) (.var 1)))))) (.cons (.ret (.tup (.cons (.neg (.lit (.int 1))) (.cons (.lit .non) .nil)))) .nil) .nil)
      (.cons (.ret (.tup (.cons (.var 3) (.cons (.bi .int (.cons (.slc (.var 0) (.var 1) (.var 3)) .nil)) .nil)))) .nil)))) ρ).end [.d (.str (S l)), .d (.int a)]) := by
    intro ρ hρ
    subst hρ
    have scS := sc (.d (.int st))
    clear sc
    have l1 : t.length ≤ line := by omega
    have l2 : (numT r).length ≤ line := by rw [hnl]; unfold line; omega
    have l3 : t.length ≤ line := l1
    rw [cc1]
    generalize he : ((st + t.length : Nat) : Int) = e at scS hts htn
    by_cases h1 : 1 ≤ t.length
    · have j1 : ¬ (t.length : Int) < 1 := by omega
      by_cases h2 : t.length ≤ 12
      · have j2 : ¬ (12 : Int) < (t.length : Int) := by omega
        obtain ⟨i1, _, i3⟩ := iT h1 h2
        have i4 : (numT r).length ≤ 640 := by omega
        obtain ⟨c, t', rfl⟩ : ∃ c t', t = c :: t' := by
          cases t with
          | nil => cases h1
          | cons c t' => exact ⟨c, t', rfl⟩
        have hat : L2.atI (c :: t') (0 : Int) = some c := at_nat (l := c :: t') (e := 0) rfl
        rw [decide_eq_true h1, decide_eq_true h2]
        by_cases h3 : c = 48
        · subst h3
          by_cases h4 : 1 < (48 :: t').length
          · have j4 : (1 : Int) < ((48 :: t').length : Int) := by omega
            rw [decide_eq_true h4]
            refine ⟨[.un, .un], ?_⟩
            generalize hlen : (48 :: t').length = m at *
            simp [fds, exs, ex.eq_1, ex.eq_2, ex.eq_3, ex.eq_4, ex.eq_5, ex.eq_6, ex.eq_7, ex.eq_8, ex.eq_10, ex.eq_12, ex.eq_13, ex.eq_14, ex.eq_15, ev.eq_1, ev.eq_2, ev.eq_3, ev.eq_4, ev.eq_5, ev.eq_6, ev.eq_7, ev.eq_8, ev.eq_9, ev.eq_10, ev.eq_11, ev.eq_12, ev.eq_13, ev.eq_14, ev.eq_15, ev.eq_16, ev.eq_17, ev.eq_18, ev.eq_19, ev.eq_20, ev.eq_21, ev.eq_22, ev.eq_23, evA, evs, evI, O.then, R.to, R.bind, EN.store, EN.storeAll, kp, kpF, seen, vw, opB, opC, opF, opI, opS, truD, R.val, R.dat, R.bool, isOwn, isLst, Env.at, O.end, retO, mask, flatD, List.mapM_cons, List.mapM_nil, eqD, eqS, callR, prep, prepV, handAll, handed, slotsOf, backR, back, mdz, prtR, IE.nl, isiR, excAt, isTy, Tb.tok, Cn.toD, cnPut, gc0, gc1, gc2, gc3, nk4, ne2, efl, ln0, ln1, ln2, ln3, ln4, ln5, ln6, S_eq, S_list, S_len, S_lp, S_rp, S_cm, S_qt, S_none, S_e, S_ce, S_sp, S_mn, S_0, S_9, S_a, S_z, scS, hts, j1, j2, hl1, hat, l1, j4, hlen]
          · have j4 : ¬ (1 : Int) < ((48 :: t').length : Int) := by omega
            rw [decide_eq_false h4]
            cases hn : neg r with
            | true =>
              refine ⟨[.un, .un], ?_⟩
              rw [hn] at hgt
              have j5 : (a : Int) < (st : Int) := by have : (st : Int) > (a : Int) := hgt ▸ rfl
                                                     exact this
              have j6 : a < st := by omega
              generalize hlen : (48 :: t').length = m at *
              simp [fds, exs, ex.eq_1, ex.eq_2, ex.eq_3, ex.eq_4, ex.eq_5, ex.eq_6, ex.eq_7, ex.eq_8, ex.eq_10, ex.eq_12, ex.eq_13, ex.eq_14, ex.eq_15, ev.eq_1, ev.eq_2, ev.eq_3, ev.eq_4, ev.eq_5, ev.eq_6, ev.eq_7, ev.eq_8, ev.eq_9, ev.eq_10, ev.eq_11, ev.eq_12, ev.eq_13, ev.eq_14, ev.eq_15, ev.eq_16, ev.eq_17, ev.eq_18, ev.eq_19, ev.eq_20, ev.eq_21, ev.eq_22, ev.eq_23, evA, evs, evI, O.then, R.to, R.bind, EN.store, EN.storeAll, kp, kpF, seen, vw, opB, opC, opF, opI, opS, truD, R.val, R.dat, R.bool, isOwn, isLst, Env.at, O.end, retO, mask, flatD, List.mapM_cons, List.mapM_nil, eqD, eqS, callR, prep, prepV, handAll, handed, slotsOf, backR, back, mdz, prtR, IE.nl, isiR, excAt, isTy, Tb.tok, Cn.toD, cnPut, gc0, gc1, gc2, gc3, nk4, ne2, efl, ln0, ln1, ln2, ln3, ln4, ln5, ln6, S_eq, S_list, S_len, S_lp, S_rp, S_cm, S_qt, S_none, S_e, S_ce, S_sp, S_mn, S_0, S_9, S_a, S_z, scS, hts, j1, j2, hl1, hat, l1, j4, j5, j6, hlen]
            | false =>
              refine ⟨[.un, .un], ?_⟩
              rw [hn] at hgt
              have j5 : ¬ (a : Int) < (st : Int) := fun z => by have : (false = true) := hgt ▸ (show (st : Int) > (a : Int) from z)
                                                                cases this
              have j6 : ¬ a < st := by omega
              show _ = FR.ok (.d (.tup [.int ((l.length - (numR r).length : Nat) : Int), .int (pv (numT r))])) _
              rw [e1, he]
              generalize hlen : (48 :: t').length = m at *
              simp [fds, exs, ex.eq_1, ex.eq_2, ex.eq_3, ex.eq_4, ex.eq_5, ex.eq_6, ex.eq_7, ex.eq_8, ex.eq_10, ex.eq_12, ex.eq_13, ex.eq_14, ex.eq_15, ev.eq_1, ev.eq_2, ev.eq_3, ev.eq_4, ev.eq_5, ev.eq_6, ev.eq_7, ev.eq_8, ev.eq_9, ev.eq_10, ev.eq_11, ev.eq_12, ev.eq_13, ev.eq_14, ev.eq_15, ev.eq_16, ev.eq_17, ev.eq_18, ev.eq_19, ev.eq_20, ev.eq_21, ev.eq_22, ev.eq_23, evA, evs, evI, O.then, R.to, R.bind, EN.store, EN.storeAll, kp, kpF, seen, vw, opB, opC, opF, opI, opS, truD, R.val, R.dat, R.bool, isOwn, isLst, Env.at, O.end, retO, mask, flatD, List.mapM_cons, List.mapM_nil, eqD, eqS, callR, prep, prepV, handAll, handed, slotsOf, backR, back, mdz, prtR, IE.nl, isiR, excAt, isTy, Tb.tok, Cn.toD, cnPut, gc0, gc1, gc2, gc3, nk4, ne2, efl, ln0, ln1, ln2, ln3, ln4, ln5, ln6, S_eq, S_list, S_len, S_lp, S_rp, S_cm, S_qt, S_none, S_e, S_ce, S_sp, S_mn, S_0, S_9, S_a, S_z, scS, hts, htn, j1, j2, hl1, hat, l1, j4, j5, j6, hlen, i1, i4]
        · have h3' : ¬ 48 = c := fun z => h3 z.symm
          have hh : ((c :: t').head? = some 48) ↔ False := by simp [h3]
          rw [decide_eq_false (fun z => hh.mp z)]
          refine ⟨[.un, .un], ?_⟩
          show _ = FR.ok (.d (.tup [.int ((l.length - (numR r).length : Nat) : Int), .int (pv (numT r))])) _
          rw [e1, he]
          generalize hlen : (c :: t').length = m at *
          simp [fds, exs, ex.eq_1, ex.eq_2, ex.eq_3, ex.eq_4, ex.eq_5, ex.eq_6, ex.eq_7, ex.eq_8, ex.eq_10, ex.eq_12, ex.eq_13, ex.eq_14, ex.eq_15, ev.eq_1, ev.eq_2, ev.eq_3, ev.eq_4, ev.eq_5, ev.eq_6, ev.eq_7, ev.eq_8, ev.eq_9, ev.eq_10, ev.eq_11, ev.eq_12, ev.eq_13, ev.eq_14, ev.eq_15, ev.eq_16, ev.eq_17, ev.eq_18, ev.eq_19, ev.eq_20, ev.eq_21, ev.eq_22, ev.eq_23, evA, evs, evI, O.then, R.to, R.bind, EN.store, EN.storeAll, kp, kpF, seen, vw, opB, opC, opF, opI, opS, truD, R.val, R.dat, R.bool, isOwn, isLst, Env.at, O.end, retO, mask, flatD, List.mapM_cons, List.mapM_nil, eqD, eqS, callR, prep, prepV, handAll, handed, slotsOf, backR, back, mdz, prtR, IE.nl, isiR, excAt, isTy, Tb.tok, Cn.toD, cnPut, gc0, gc1, gc2, gc3, nk4, ne2, efl, ln0, ln1, ln2, ln3, ln4, ln5, ln6, S_eq, S_list, S_len, S_lp, S_rp, S_cm, S_qt, S_none, S_e, S_ce, S_sp, S_mn, S_0, S_9, S_a, S_z, scS, hts, htn, j1, j2, hl1, hat, l1, h3, hlen, i1, i4]
      · have j2 : (12 : Int) < (t.length : Int) := by omega
        rw [decide_eq_false h2, Bool.and_false]
        refine ⟨[.un, .un], ?_⟩
        simp [fds, exs, ex.eq_1, ex.eq_2, ex.eq_3, ex.eq_4, ex.eq_5, ex.eq_6, ex.eq_7, ex.eq_8, ex.eq_10, ex.eq_12, ex.eq_13, ex.eq_14, ex.eq_15, ev.eq_1, ev.eq_2, ev.eq_3, ev.eq_4, ev.eq_5, ev.eq_6, ev.eq_7, ev.eq_8, ev.eq_9, ev.eq_10, ev.eq_11, ev.eq_12, ev.eq_13, ev.eq_14, ev.eq_15, ev.eq_16, ev.eq_17, ev.eq_18, ev.eq_19, ev.eq_20, ev.eq_21, ev.eq_22, ev.eq_23, evA, evs, evI, O.then, R.to, R.bind, EN.store, EN.storeAll, kp, kpF, seen, vw, opB, opC, opF, opI, opS, truD, R.val, R.dat, R.bool, isOwn, isLst, Env.at, O.end, retO, mask, flatD, List.mapM_cons, List.mapM_nil, eqD, eqS, callR, prep, prepV, handAll, handed, slotsOf, backR, back, mdz, prtR, IE.nl, isiR, excAt, isTy, Tb.tok, Cn.toD, cnPut, gc0, gc1, gc2, gc3, nk4, ne2, efl, ln0, ln1, ln2, ln3, ln4, ln5, ln6, S_eq, S_list, S_len, S_lp, S_rp, S_cm, S_qt, S_none, S_e, S_ce, S_sp, S_mn, S_0, S_9, S_a, S_z, scS, hts, j1, j2, hl1, l1]
    · have j1 : (t.length : Int) < 1 := by omega
      rw [decide_eq_false h1]
      refine ⟨[.un, .un], ?_⟩
      have h1' : t.length = 0 := by omega
      simp [fds, exs, ex.eq_1, ex.eq_2, ex.eq_3, ex.eq_4, ex.eq_5, ex.eq_6, ex.eq_7, ex.eq_8, ex.eq_10, ex.eq_12, ex.eq_13, ex.eq_14, ex.eq_15, ev.eq_1, ev.eq_2, ev.eq_3, ev.eq_4, ev.eq_5, ev.eq_6, ev.eq_7, ev.eq_8, ev.eq_9, ev.eq_10, ev.eq_11, ev.eq_12, ev.eq_13, ev.eq_14, ev.eq_15, ev.eq_16, ev.eq_17, ev.eq_18, ev.eq_19, ev.eq_20, ev.eq_21, ev.eq_22, ev.eq_23, evA, evs, evI, O.then, R.to, R.bind, EN.store, EN.storeAll, kp, kpF, seen, vw, opB, opC, opF, opI, opS, truD, R.val, R.dat, R.bool, isOwn, isLst, Env.at, O.end, retO, mask, flatD, List.mapM_cons, List.mapM_nil, eqD, eqS, callR, prep, prepV, handAll, handed, slotsOf, backR, back, mdz, prtR, IE.nl, isiR, excAt, isTy, Tb.tok, Cn.toD, cnPut, gc0, gc1, gc2, gc3, nk4, ne2, efl, ln0, ln1, ln2, ln3, ln4, ln5, ln6, S_eq, S_list, S_len, S_lp, S_rp, S_cm, S_qt, S_none, S_e, S_ce, S_sp, S_mn, S_0, S_9, S_a, S_z, scS, hts, j1, hl1, l1]
  generalize hT : (ISs.cons (.whl (.and (.cmp .lt (.var 3) (.bi .len (.cons (.var 0) .nil))) (.cmp .isin (.ix (.var 0) (.var 3)) (.lit (.str "0123456789")))) (.cons (.asg 3 (.bin .add (.var 3) (.lit (.int 1)))) .nil))
      (.cons (.asg 4 (.slc (.var 0) (.var 2) (.var 3)))
      (.cons (.ifS (.or (.cmp .lt (.bi .len (.cons (.var 4) .nil)) (.lit (.int 1))) (.or (.cmp .gt (.bi .len (.cons (.var 4) .nil)) (.lit (.int 12))) (.and (.cmp .eq (.ix (.var 4) (.lit (.int 0))) (.lit (.str "0"))) (.or (.cmp .gt (.bi .len (.cons (.var 4) .nil)) (.lit (.int 1))) (.cmp .gt (.var 2) (.var 1)))))) (.cons (.ret (.tup (.cons (.neg (.lit (.int 1))) (.cons (.lit .non) .nil)))) .nil) .nil)
      (.cons (.ret (.tup (.cons (.var 3) (.cons (.bi .int (.cons (.slc (.var 0) (.var 1) (.var 3)) .nil)) .nil)))) .nil)))) = W at fin ⊢
  have fin := fin _ rfl
  rcases hsn with ⟨z, z1, z2, _⟩ | ⟨z, z1, z2⟩
  · subst z1
    have fin2 : PRL l _ (O.end [.d (.str (S l)), .d (.int a)] (exs tb (runF tb fds k) 2 W [.d (.str (S l)), .d (.int a), .d (.int ((a : Int) + 1)), .d (.int ((a : Int) + 1)), .un])) := fin
    simpa [fds, exs, ex.eq_1, ex.eq_2, ex.eq_3, ex.eq_4, ex.eq_5, ex.eq_6, ex.eq_7, ex.eq_8, ex.eq_10, ex.eq_12, ex.eq_13, ex.eq_14, ex.eq_15, ev.eq_1, ev.eq_2, ev.eq_3, ev.eq_4, ev.eq_5, ev.eq_6, ev.eq_7, ev.eq_8, ev.eq_9, ev.eq_10, ev.eq_11, ev.eq_12, ev.eq_13, ev.eq_14, ev.eq_15, ev.eq_16, ev.eq_17, ev.eq_18, ev.eq_19, ev.eq_20, ev.eq_21, ev.eq_22, ev.eq_23, evA, evs, evI, O.then, R.to, R.bind, EN.store, EN.storeAll, kp, kpF, seen, vw, opB, opC, opF, opI, opS, truD, R.val, R.dat, R.bool, isOwn, isLst, Env.at, O.end, retO, mask, flatD, List.mapM_cons, List.mapM_nil, eqD, eqS, callR, prep, prepV, handAll, handed, slotsOf, backR, back, mdz, prtR, IE.nl, isiR, excAt, isTy, Tb.tok, Cn.toD, cnPut, gc0, gc1, gc2, gc3, nk4, ne2, efl, ln0, ln1, ln2, ln3, ln4, ln5, ln6, S_eq, S_list, S_len, S_lp, S_rp, S_cm, S_qt, S_none, S_e, S_ce, S_sp, S_mn, S_0, S_9, S_a, S_z, c1, z2, hl1] using fin2
  · subst z1
    simpa [fds, exs, ex.eq_1, ex.eq_2, ex.eq_3, ex.eq_4, ex.eq_5, ex.eq_6, ex.eq_7, ex.eq_8, ex.eq_10, ex.eq_12, ex.eq_13, ex.eq_14, ex.eq_15, ev.eq_1, ev.eq_2, ev.eq_3, ev.eq_4, ev.eq_5, ev.eq_6, ev.eq_7, ev.eq_8, ev.eq_9, ev.eq_10, ev.eq_11, ev.eq_12, ev.eq_13, ev.eq_14, ev.eq_15, ev.eq_16, ev.eq_17, ev.eq_18, ev.eq_19, ev.eq_20, ev.eq_21, ev.eq_22, ev.eq_23, evA, evs, evI, O.then, R.to, R.bind, EN.store, EN.storeAll, kp, kpF, seen, vw, opB, opC, opF, opI, opS, truD, R.val, R.dat, R.bool, isOwn, isLst, Env.at, O.end, retO, mask, flatD, List.mapM_cons, List.mapM_nil, eqD, eqS, callR, prep, prepV, handAll, handed, slotsOf, backR, back, mdz, prtR, IE.nl, isiR, excAt, isTy, Tb.tok, Cn.toD, cnPut, gc0, gc1, gc2, gc3, nk4, ne2, efl, ln0, ln1, ln2, ln3, ln4, ln5, ln6, S_eq, S_list, S_len, S_lp, S_rp, S_cm, S_qt, S_none, S_e, S_ce, S_sp, S_mn, S_0, S_9, S_a, S_z, c1, z2, hl1] using fin
end K74
namespace K74
open PySem EN NumText
def PLO (l : List Nat) (o : Option (D × List Nat)) (R : O) : Prop := match o with
  | some q => ∃ ρ, R = .rt (.d (.tup [.int ((l.length - q.2.length : Nat) : Int), q.1])) ρ
  | none => ∃ ρ, R = .rt (.d (.tup [.int (-1), .non])) ρ
def lF1 : IS := .asg 6 (.call 16 (.cons (.var 0) (.cons (.var 4) (.cons (.bin .add (.var 2) (.lit (.int 1))) .nil))))
def lF2 : IS := .ifS (.cmp .lt (.ix (.var 6) (.lit (.int 0))) (.lit (.int 0))) (.cons (.ret (.tup (.cons (.neg (.lit (.int 1))) (.cons (.lit .non) .nil)))) .nil) .nil
def lF3 : IS := .app 3 (.ix (.var 6) (.lit (.int 1)))
def lF4 : IS := .asg 4 (.ix (.var 6) (.lit (.int 0)))
def lT : ISs := (.cons (.ifS (.and (.cmp .eq (.slc (.var 0) (.var 4) (.bin .add (.var 4) (.lit (.int 1)))) (.lit (.str ")"))) (.cmp .gt (.bi .len (.cons (.var 3) .nil)) (.lit (.int 1)))) (.cons (.ret (.tup (.cons (.bin .add (.var 4) (.lit (.int 1))) (.cons (.bi .tuple (.cons (.var 3) .nil)) .nil)))) .nil) .nil)
 (.cons (.ifS (.and (.cmp .eq (.slc (.var 0) (.var 4) (.bin .add (.var 4) (.lit (.int 2)))) (.lit (.str ",)"))) (.cmp .eq (.bi .len (.cons (.var 3) .nil)) (.lit (.int 1)))) (.cons (.ret (.tup (.cons (.bin .add (.var 4) (.lit (.int 2))) (.cons (.bi .tuple (.cons (.var 3) .nil)) .nil)))) .nil) .nil)
 (.cons (.ifS (.cmp .ne (.slc (.var 0) (.var 4) (.bin .add (.var 4) (.lit (.int 1)))) (.lit (.str ","))) (.cons (.ret (.tup (.cons (.neg (.lit (.int 1))) (.cons (.lit .non) .nil)))) .nil) .nil)
 (.cons (.asg 4 (.bin .add (.var 4) (.lit (.int 1)))) .nil))))
def lB : ISs := .cons lF1 (.cons lF2 (.cons lF3 (.cons lF4 lT)))
def lFor : IS := .forS 5 (.rng (.bi .len (.cons (.var 0) .nil))) lB
def lEnd : ISs := .cons (.ret (.tup (.cons (.neg (.lit (.int 1))) (.cons (.lit .non) .nil)))) .nil
theorem b_lread : b__law_read = (.cons (.ifS (.cmp .eq (.slc (.var 0) (.var 1) (.bin .add (.var 1) (.lit (.int 4)))) (.lit (.str "none"))) (.cons (.ret (.tup (.cons (.bin .add (.var 1) (.lit (.int 4))) (.cons (.lit .non) .nil)))) .nil) .nil)
 (.cons (.ifS (.cmp .eq (.slc (.var 0) (.var 1) (.bin .add (.var 1) (.lit (.int 1)))) (.lit (.str "\""))) (.cons (.ret (.call 14 (.cons (.var 0) (.cons (.var 1) .nil)))) .nil) .nil)
 (.cons (.ifS (.cmp .ne (.slc (.var 0) (.var 1) (.bin .add (.var 1) (.lit (.int 1)))) (.lit (.str "("))) (.cons (.ret (.call 15 (.cons (.var 0) (.cons (.var 1) .nil)))) .nil) .nil)
 (.cons (.ifS (.cmp .gt (.var 2) (.lit (.int 19))) (.cons (.ret (.tup (.cons (.neg (.lit (.int 1))) (.cons (.lit .non) .nil)))) .nil) .nil)
 (.cons (.ifS (.cmp .eq (.slc (.var 0) (.bin .add (.var 1) (.lit (.int 1))) (.bin .add (.var 1) (.lit (.int 2)))) (.lit (.str ")"))) (.cons (.ret (.tup (.cons (.bin .add (.var 1) (.lit (.int 2))) (.cons (.tup .nil) .nil)))) .nil) .nil)
 (.cons (.asg 3 (.lst .nil))
 (.cons (.asg 4 (.bin .add (.var 1) (.lit (.int 1))))
 (.cons lFor lEnd)))))))) := rfl
section
variable (fn : Fn) (l : List Nat) (a deep : Nat) (hl : l.length ≤ line)
def lE (l : List Nat) (a deep : Nat) (ps : List D) (e : Nat) (s5 s6 : EN.Slot) : EN.Env := [.d (.str (S l)), .d (.int a), .d (.int deep), .own (.lst ps), .d (.int e), s5, s6]
theorem l_f1 (ps : List D) (e : Nat) (s5 s6 : EN.Slot) (v : D) (px : EN.Env) (h : fn 16 [.d (.str (S l)), .d (.int e), .d (.int ((deep : Int) + 1))] = .ok (.d v) px) : ex tb fn 3 lF1 (lE l a deep ps e s5 s6) = .nx (lE l a deep ps e s5 (.d v)) := by
  unfold lF1 lE
  simp [fds, exs, ex.eq_1, ex.eq_2, ex.eq_3, ex.eq_4, ex.eq_5, ex.eq_6, ex.eq_7, ex.eq_8, ex.eq_10, ex.eq_12, ex.eq_13, ex.eq_14, ex.eq_15, ev.eq_1, ev.eq_2, ev.eq_3, ev.eq_4, ev.eq_5, ev.eq_6, ev.eq_7, ev.eq_8, ev.eq_9, ev.eq_10, ev.eq_11, ev.eq_12, ev.eq_13, ev.eq_14, ev.eq_15, ev.eq_16, ev.eq_17, ev.eq_18, ev.eq_19, ev.eq_20, ev.eq_21, ev.eq_22, ev.eq_23, evA, evs, evI, O.then, R.to, R.bind, EN.store, EN.storeAll, kp, kpF, seen, vw, opB, opC, opF, opI, opS, truD, R.val, R.dat, R.bool, isOwn, isLst, Env.at, O.end, retO, mask, flatD, List.mapM_cons, List.mapM_nil, eqD, eqS, callR, prep, prepV, handAll, handed, slotsOf, backR, back, mdz, prtR, IE.nl, isiR, excAt, isTy, Tb.tok, Cn.toD, cnPut, gc0, gc1, gc2, gc3, nk4, ne2, efl, ln0, ln1, ln2, ln3, ln4, ln5, ln6, S_eq, S_list, S_len, S_lp, S_rp, S_cm, S_qt, S_none, S_e, S_ce, S_sp, S_mn, S_0, S_9, S_a, S_z, h]
theorem l_f2_no (ps : List D) (e : Nat) (s5 : EN.Slot) : ex tb fn 3 lF2 (lE l a deep ps e s5 (.d (.tup [.int (-1), .non]))) = .rt (.d (.tup [.int (-1), .non])) (lE l a deep ps e s5 (.d (.tup [.int (-1), .non]))) := by
  have h : L2.atI [D.int (-1), D.non] (0 : Int) = some (.int (-1)) := rfl
  unfold lF2 lE
  simp [fds, exs, ex.eq_1, ex.eq_2, ex.eq_3, ex.eq_4, ex.eq_5, ex.eq_6, ex.eq_7, ex.eq_8, ex.eq_10, ex.eq_12, ex.eq_13, ex.eq_14, ex.eq_15, ev.eq_1, ev.eq_2, ev.eq_3, ev.eq_4, ev.eq_5, ev.eq_6, ev.eq_7, ev.eq_8, ev.eq_9, ev.eq_10, ev.eq_11, ev.eq_12, ev.eq_13, ev.eq_14, ev.eq_15, ev.eq_16, ev.eq_17, ev.eq_18, ev.eq_19, ev.eq_20, ev.eq_21, ev.eq_22, ev.eq_23, evA, evs, evI, O.then, R.to, R.bind, EN.store, EN.storeAll, kp, kpF, seen, vw, opB, opC, opF, opI, opS, truD, R.val, R.dat, R.bool, isOwn, isLst, Env.at, O.end, retO, mask, flatD, List.mapM_cons, List.mapM_nil, eqD, eqS, callR, prep, prepV, handAll, handed, slotsOf, backR, back, mdz, prtR, IE.nl, isiR, excAt, isTy, Tb.tok, Cn.toD, cnPut, gc0, gc1, gc2, gc3, nk4, ne2, efl, ln0, ln1, ln2, ln3, ln4, ln5, ln6, S_eq, S_list, S_len, S_lp, S_rp, S_cm, S_qt, S_none, S_e, S_ce, S_sp, S_mn, S_0, S_9, S_a, S_z, h]
theorem l_f2 (ps : List D) (e e' : Nat) (s5 : EN.Slot) (v : D) : ex tb fn 3 lF2 (lE l a deep ps e s5 (.d (.tup [.int (e' : Int), v]))) = .nx (lE l a deep ps e s5 (.d (.tup [.int (e' : Int), v]))) := by
  have h : L2.atI [D.int (e' : Int), v] (0 : Int) = some (.int (e' : Int)) := rfl
  have h2 : ¬ (e' : Int) < 0 := by omega
  unfold lF2 lE
  simp [fds, exs, ex.eq_1, ex.eq_2, ex.eq_3, ex.eq_4, ex.eq_5, ex.eq_6, ex.eq_7, ex.eq_8, ex.eq_10, ex.eq_12, ex.eq_13, ex.eq_14, ex.eq_15, ev.eq_1, ev.eq_2, ev.eq_3, ev.eq_4, ev.eq_5, ev.eq_6, ev.eq_7, ev.eq_8, ev.eq_9, ev.eq_10, ev.eq_11, ev.eq_12, ev.eq_13, ev.eq_14, ev.eq_15, ev.eq_16, ev.eq_17, ev.eq_18, ev.eq_19, ev.eq_20, ev.eq_21, ev.eq_22, ev.eq_23, evA, evs, evI, O.then, R.to, R.bind, EN.store, EN.storeAll, kp, kpF, seen, vw, opB, opC, opF, opI, opS, truD, R.val, R.dat, R.bool, isOwn, isLst, Env.at, O.end, retO, mask, flatD, List.mapM_cons, List.mapM_nil, eqD, eqS, callR, prep, prepV, handAll, handed, slotsOf, backR, back, mdz, prtR, IE.nl, isiR, excAt, isTy, Tb.tok, Cn.toD, cnPut, gc0, gc1, gc2, gc3, nk4, ne2, efl, ln0, ln1, ln2, ln3, ln4, ln5, ln6, S_eq, S_list, S_len, S_lp, S_rp, S_cm, S_qt, S_none, S_e, S_ce, S_sp, S_mn, S_0, S_9, S_a, S_z, h, h2]
theorem l_f34 (ps : List D) (e e' : Nat) (s5 : EN.Slot) (v : D) (hp : ps.length < line) (W : ISs) : exs tb fn 3 (.cons lF3 (.cons lF4 W)) (lE l a deep ps e s5 (.d (.tup [.int (e' : Int), v]))) = exs tb fn 3 W (lE l a deep (ps ++ [v]) e' s5 (.d (.tup [.int (e' : Int), v]))) := by
  have h : L2.atI [D.int (e' : Int), v] (0 : Int) = some (.int (e' : Int)) := rfl
  have h1 : L2.atI [D.int (e' : Int), v] (1 : Int) = some v := rfl
  have e1 : ex tb fn 3 lF3 (lE l a deep ps e s5 (.d (.tup [.int (e' : Int), v]))) = .nx (lE l a deep (ps ++ [v]) e s5 (.d (.tup [.int (e' : Int), v]))) := by
    unfold lF3 lE
    simp [fds, exs, ex.eq_1, ex.eq_2, ex.eq_3, ex.eq_4, ex.eq_5, ex.eq_6, ex.eq_7, ex.eq_8, ex.eq_10, ex.eq_12, ex.eq_13, ex.eq_14, ex.eq_15, ev.eq_1, ev.eq_2, ev.eq_3, ev.eq_4, ev.eq_5, ev.eq_6, ev.eq_7, ev.eq_8, ev.eq_9, ev.eq_10, ev.eq_11, ev.eq_12, ev.eq_13, ev.eq_14, ev.eq_15, ev.eq_16, ev.eq_17, ev.eq_18, ev.eq_19, ev.eq_20, ev.eq_21, ev.eq_22, ev.eq_23, evA, evs, evI, O.then, R.to, R.bind, EN.store, EN.storeAll, kp, kpF, seen, vw, opB, opC, opF, opI, opS, truD, R.val, R.dat, R.bool, isOwn, isLst, Env.at, O.end, retO, mask, flatD, List.mapM_cons, List.mapM_nil, eqD, eqS, callR, prep, prepV, handAll, handed, slotsOf, backR, back, mdz, prtR, IE.nl, isiR, excAt, isTy, Tb.tok, Cn.toD, cnPut, gc0, gc1, gc2, gc3, nk4, ne2, efl, ln0, ln1, ln2, ln3, ln4, ln5, ln6, S_eq, S_list, S_len, S_lp, S_rp, S_cm, S_qt, S_none, S_e, S_ce, S_sp, S_mn, S_0, S_9, S_a, S_z, h1, hp]
  have e2 : ex tb fn 3 lF4 (lE l a deep (ps ++ [v]) e s5 (.d (.tup [.int (e' : Int), v]))) = .nx (lE l a deep (ps ++ [v]) e' s5 (.d (.tup [.int (e' : Int), v]))) := by
    unfold lF4 lE
    simp [fds, exs, ex.eq_1, ex.eq_2, ex.eq_3, ex.eq_4, ex.eq_5, ex.eq_6, ex.eq_7, ex.eq_8, ex.eq_10, ex.eq_12, ex.eq_13, ex.eq_14, ex.eq_15, ev.eq_1, ev.eq_2, ev.eq_3, ev.eq_4, ev.eq_5, ev.eq_6, ev.eq_7, ev.eq_8, ev.eq_9, ev.eq_10, ev.eq_11, ev.eq_12, ev.eq_13, ev.eq_14, ev.eq_15, ev.eq_16, ev.eq_17, ev.eq_18, ev.eq_19, ev.eq_20, ev.eq_21, ev.eq_22, ev.eq_23, evA, evs, evI, O.then, R.to, R.bind, EN.store, EN.storeAll, kp, kpF, seen, vw, opB, opC, opF, opI, opS, truD, R.val, R.dat, R.bool, isOwn, isLst, Env.at, O.end, retO, mask, flatD, List.mapM_cons, List.mapM_nil, eqD, eqS, callR, prep, prepV, handAll, handed, slotsOf, backR, back, mdz, prtR, IE.nl, isiR, excAt, isTy, Tb.tok, Cn.toD, cnPut, gc0, gc1, gc2, gc3, nk4, ne2, efl, ln0, ln1, ln2, ln3, ln4, ln5, ln6, S_eq, S_list, S_len, S_lp, S_rp, S_cm, S_qt, S_none, S_e, S_ce, S_sp, S_mn, S_0, S_9, S_a, S_z, h]
  rw [exs, e1]
  simp only [O.then]
  rw [exs, e2]
include hl
theorem l_tail (qs : List D) (e : Nat) (s5 s6 : EN.Slot) (q1 : 1 ≤ qs.length) :
    ((l.drop e).head? = some 41 → 1 < qs.length → exs tb fn 3 lT (lE l a deep qs e s5 s6) = .rt (.d (.tup [.int ((e + 1 : Nat) : Int), .tup qs])) (lE l a deep qs e s5 s6)) ∧
    ((l.drop e).head? = some 41 → ¬ 1 < qs.length → exs tb fn 3 lT (lE l a deep qs e s5 s6) = .rt (.d (.tup [.int (-1), .non])) (lE l a deep qs e s5 s6)) ∧
    ((l.drop e).take 2 = [44, 41] → qs.length = 1 → exs tb fn 3 lT (lE l a deep qs e s5 s6) = .rt (.d (.tup [.int ((e + 2 : Nat) : Int), .tup qs])) (lE l a deep qs e s5 s6)) ∧
    ((l.drop e).head? = some 44 → ¬ ((l.drop e).take 2 = [44, 41] ∧ qs.length = 1) → exs tb fn 3 lT (lE l a deep qs e s5 s6) = .nx (lE l a deep qs (e + 1) s5 s6)) ∧
    ((l.drop e).head? ≠ some 41 → (l.drop e).head? ≠ some 44 → exs tb fn 3 lT (lE l a deep qs e s5 s6) = .rt (.d (.tup [.int (-1), .non])) (lE l a deep qs e s5 s6)) := by
  unfold lT lE
  by_cases hq : qs.length = 1
  · have hq2 : (qs.length : Int) = 1 := by omega
    have hq3 : ¬ (1 : Int) < (qs.length : Int) := by omega
    have hq4 : ¬ 1 < qs.length := by omega
    cases hd : l.drop e with
    | nil =>
      refine ⟨(fun z => nomatch z), (fun z => nomatch z), fun z => by simp at z, (fun z => nomatch z), fun _ _ => ?_⟩
      simp [fds, exs, ex.eq_1, ex.eq_2, ex.eq_3, ex.eq_4, ex.eq_5, ex.eq_6, ex.eq_7, ex.eq_8, ex.eq_10, ex.eq_12, ex.eq_13, ex.eq_14, ex.eq_15, ev.eq_1, ev.eq_2, ev.eq_3, ev.eq_4, ev.eq_5, ev.eq_6, ev.eq_7, ev.eq_8, ev.eq_9, ev.eq_10, ev.eq_11, ev.eq_12, ev.eq_13, ev.eq_14, ev.eq_15, ev.eq_16, ev.eq_17, ev.eq_18, ev.eq_19, ev.eq_20, ev.eq_21, ev.eq_22, ev.eq_23, evA, evs, evI, O.then, R.to, R.bind, EN.store, EN.storeAll, kp, kpF, seen, vw, opB, opC, opF, opI, opS, truD, R.val, R.dat, R.bool, isOwn, isLst, Env.at, O.end, retO, mask, flatD, List.mapM_cons, List.mapM_nil, eqD, eqS, callR, prep, prepV, handAll, handed, slotsOf, backR, back, mdz, prtR, IE.nl, isiR, excAt, isTy, Tb.tok, Cn.toD, cnPut, gc0, gc1, gc2, gc3, nk4, ne2, efl, ln0, ln1, ln2, ln3, ln4, ln5, ln6, S_eq, S_list, S_len, S_lp, S_rp, S_cm, S_qt, S_none, S_e, S_ce, S_sp, S_mn, S_0, S_9, S_a, S_z, cut1, cut2, hd, hl, hq, hq2, hq3]
    | cons c r =>
      by_cases h1 : c = 41
      · subst h1
        refine ⟨fun _ z => absurd z hq4, fun _ _ => ?_, fun z => by simp at z, fun z => by simp at z, fun z => absurd rfl z⟩
        simp [fds, exs, ex.eq_1, ex.eq_2, ex.eq_3, ex.eq_4, ex.eq_5, ex.eq_6, ex.eq_7, ex.eq_8, ex.eq_10, ex.eq_12, ex.eq_13, ex.eq_14, ex.eq_15, ev.eq_1, ev.eq_2, ev.eq_3, ev.eq_4, ev.eq_5, ev.eq_6, ev.eq_7, ev.eq_8, ev.eq_9, ev.eq_10, ev.eq_11, ev.eq_12, ev.eq_13, ev.eq_14, ev.eq_15, ev.eq_16, ev.eq_17, ev.eq_18, ev.eq_19, ev.eq_20, ev.eq_21, ev.eq_22, ev.eq_23, evA, evs, evI, O.then, R.to, R.bind, EN.store, EN.storeAll, kp, kpF, seen, vw, opB, opC, opF, opI, opS, truD, R.val, R.dat, R.bool, isOwn, isLst, Env.at, O.end, retO, mask, flatD, List.mapM_cons, List.mapM_nil, eqD, eqS, callR, prep, prepV, handAll, handed, slotsOf, backR, back, mdz, prtR, IE.nl, isiR, excAt, isTy, Tb.tok, Cn.toD, cnPut, gc0, gc1, gc2, gc3, nk4, ne2, efl, ln0, ln1, ln2, ln3, ln4, ln5, ln6, S_eq, S_list, S_len, S_lp, S_rp, S_cm, S_qt, S_none, S_e, S_ce, S_sp, S_mn, S_0, S_9, S_a, S_z, cut1, cut2, hd, hl, hq, hq2, hq3]
      · by_cases h2 : c = 44
        · subst h2
          by_cases h3 : r.take 1 = [41]
          · have h4 : (44 :: r).take 2 = [44, 41] := by rw [List.take_succ_cons, h3]
            refine ⟨fun z => by simp at z, fun z => by simp at z, fun _ _ => ?_, fun _ z => absurd ⟨h4, hq⟩ z, fun _ z => absurd rfl z⟩
            simp [fds, exs, ex.eq_1, ex.eq_2, ex.eq_3, ex.eq_4, ex.eq_5, ex.eq_6, ex.eq_7, ex.eq_8, ex.eq_10, ex.eq_12, ex.eq_13, ex.eq_14, ex.eq_15, ev.eq_1, ev.eq_2, ev.eq_3, ev.eq_4, ev.eq_5, ev.eq_6, ev.eq_7, ev.eq_8, ev.eq_9, ev.eq_10, ev.eq_11, ev.eq_12, ev.eq_13, ev.eq_14, ev.eq_15, ev.eq_16, ev.eq_17, ev.eq_18, ev.eq_19, ev.eq_20, ev.eq_21, ev.eq_22, ev.eq_23, evA, evs, evI, O.then, R.to, R.bind, EN.store, EN.storeAll, kp, kpF, seen, vw, opB, opC, opF, opI, opS, truD, R.val, R.dat, R.bool, isOwn, isLst, Env.at, O.end, retO, mask, flatD, List.mapM_cons, List.mapM_nil, eqD, eqS, callR, prep, prepV, handAll, handed, slotsOf, backR, back, mdz, prtR, IE.nl, isiR, excAt, isTy, Tb.tok, Cn.toD, cnPut, gc0, gc1, gc2, gc3, nk4, ne2, efl, ln0, ln1, ln2, ln3, ln4, ln5, ln6, S_eq, S_list, S_len, S_lp, S_rp, S_cm, S_qt, S_none, S_e, S_ce, S_sp, S_mn, S_0, S_9, S_a, S_z, cut1, cut2, hd, hl, hq, hq2, hq3, h3]
          · have h4 : ¬ (44 :: r).take 2 = [44, 41] := by rw [List.take_succ_cons]; simpa using h3
            refine ⟨fun z => by simp at z, fun z => by simp at z, fun z => absurd z h4, fun _ _ => ?_, fun _ z => absurd rfl z⟩
            simp [fds, exs, ex.eq_1, ex.eq_2, ex.eq_3, ex.eq_4, ex.eq_5, ex.eq_6, ex.eq_7, ex.eq_8, ex.eq_10, ex.eq_12, ex.eq_13, ex.eq_14, ex.eq_15, ev.eq_1, ev.eq_2, ev.eq_3, ev.eq_4, ev.eq_5, ev.eq_6, ev.eq_7, ev.eq_8, ev.eq_9, ev.eq_10, ev.eq_11, ev.eq_12, ev.eq_13, ev.eq_14, ev.eq_15, ev.eq_16, ev.eq_17, ev.eq_18, ev.eq_19, ev.eq_20, ev.eq_21, ev.eq_22, ev.eq_23, evA, evs, evI, O.then, R.to, R.bind, EN.store, EN.storeAll, kp, kpF, seen, vw, opB, opC, opF, opI, opS, truD, R.val, R.dat, R.bool, isOwn, isLst, Env.at, O.end, retO, mask, flatD, List.mapM_cons, List.mapM_nil, eqD, eqS, callR, prep, prepV, handAll, handed, slotsOf, backR, back, mdz, prtR, IE.nl, isiR, excAt, isTy, Tb.tok, Cn.toD, cnPut, gc0, gc1, gc2, gc3, nk4, ne2, efl, ln0, ln1, ln2, ln3, ln4, ln5, ln6, S_eq, S_list, S_len, S_lp, S_rp, S_cm, S_qt, S_none, S_e, S_ce, S_sp, S_mn, S_0, S_9, S_a, S_z, cut1, cut2, hd, hl, hq, hq2, hq3, h3]
        · refine ⟨fun z => absurd (Option.some.inj z) h1, fun z => absurd (Option.some.inj z) h1, fun z => absurd (List.cons.inj z).1 h2, fun z => absurd (Option.some.inj z) h2, fun _ _ => ?_⟩
          simp [fds, exs, ex.eq_1, ex.eq_2, ex.eq_3, ex.eq_4, ex.eq_5, ex.eq_6, ex.eq_7, ex.eq_8, ex.eq_10, ex.eq_12, ex.eq_13, ex.eq_14, ex.eq_15, ev.eq_1, ev.eq_2, ev.eq_3, ev.eq_4, ev.eq_5, ev.eq_6, ev.eq_7, ev.eq_8, ev.eq_9, ev.eq_10, ev.eq_11, ev.eq_12, ev.eq_13, ev.eq_14, ev.eq_15, ev.eq_16, ev.eq_17, ev.eq_18, ev.eq_19, ev.eq_20, ev.eq_21, ev.eq_22, ev.eq_23, evA, evs, evI, O.then, R.to, R.bind, EN.store, EN.storeAll, kp, kpF, seen, vw, opB, opC, opF, opI, opS, truD, R.val, R.dat, R.bool, isOwn, isLst, Env.at, O.end, retO, mask, flatD, List.mapM_cons, List.mapM_nil, eqD, eqS, callR, prep, prepV, handAll, handed, slotsOf, backR, back, mdz, prtR, IE.nl, isiR, excAt, isTy, Tb.tok, Cn.toD, cnPut, gc0, gc1, gc2, gc3, nk4, ne2, efl, ln0, ln1, ln2, ln3, ln4, ln5, ln6, S_eq, S_list, S_len, S_lp, S_rp, S_cm, S_qt, S_none, S_e, S_ce, S_sp, S_mn, S_0, S_9, S_a, S_z, cut1, cut2, hd, hl, hq, hq2, hq3, h1, h2]
  · have hq2 : ¬ (qs.length : Int) = 1 := by omega
    have hq3 : (1 : Int) < (qs.length : Int) := by omega
    have hq4 : 1 < qs.length := by omega
    cases hd : l.drop e with
    | nil =>
      refine ⟨(fun z => nomatch z), (fun z => nomatch z), fun z => by simp at z, (fun z => nomatch z), fun _ _ => ?_⟩
      simp [fds, exs, ex.eq_1, ex.eq_2, ex.eq_3, ex.eq_4, ex.eq_5, ex.eq_6, ex.eq_7, ex.eq_8, ex.eq_10, ex.eq_12, ex.eq_13, ex.eq_14, ex.eq_15, ev.eq_1, ev.eq_2, ev.eq_3, ev.eq_4, ev.eq_5, ev.eq_6, ev.eq_7, ev.eq_8, ev.eq_9, ev.eq_10, ev.eq_11, ev.eq_12, ev.eq_13, ev.eq_14, ev.eq_15, ev.eq_16, ev.eq_17, ev.eq_18, ev.eq_19, ev.eq_20, ev.eq_21, ev.eq_22, ev.eq_23, evA, evs, evI, O.then, R.to, R.bind, EN.store, EN.storeAll, kp, kpF, seen, vw, opB, opC, opF, opI, opS, truD, R.val, R.dat, R.bool, isOwn, isLst, Env.at, O.end, retO, mask, flatD, List.mapM_cons, List.mapM_nil, eqD, eqS, callR, prep, prepV, handAll, handed, slotsOf, backR, back, mdz, prtR, IE.nl, isiR, excAt, isTy, Tb.tok, Cn.toD, cnPut, gc0, gc1, gc2, gc3, nk4, ne2, efl, ln0, ln1, ln2, ln3, ln4, ln5, ln6, S_eq, S_list, S_len, S_lp, S_rp, S_cm, S_qt, S_none, S_e, S_ce, S_sp, S_mn, S_0, S_9, S_a, S_z, cut1, cut2, hd, hl, hq, hq2, hq3]
    | cons c r =>
      by_cases h1 : c = 41
      · subst h1
        refine ⟨fun _ _ => ?_, fun _ z => absurd hq4 z, fun z => by simp at z, fun z => by simp at z, fun z => absurd rfl z⟩
        simp [fds, exs, ex.eq_1, ex.eq_2, ex.eq_3, ex.eq_4, ex.eq_5, ex.eq_6, ex.eq_7, ex.eq_8, ex.eq_10, ex.eq_12, ex.eq_13, ex.eq_14, ex.eq_15, ev.eq_1, ev.eq_2, ev.eq_3, ev.eq_4, ev.eq_5, ev.eq_6, ev.eq_7, ev.eq_8, ev.eq_9, ev.eq_10, ev.eq_11, ev.eq_12, ev.eq_13, ev.eq_14, ev.eq_15, ev.eq_16, ev.eq_17, ev.eq_18, ev.eq_19, ev.eq_20, ev.eq_21, ev.eq_22, ev.eq_23, evA, evs, evI, O.then, R.to, R.bind, EN.store, EN.storeAll, kp, kpF, seen, vw, opB, opC, opF, opI, opS, truD, R.val, R.dat, R.bool, isOwn, isLst, Env.at, O.end, retO, mask, flatD, List.mapM_cons, List.mapM_nil, eqD, eqS, callR, prep, prepV, handAll, handed, slotsOf, backR, back, mdz, prtR, IE.nl, isiR, excAt, isTy, Tb.tok, Cn.toD, cnPut, gc0, gc1, gc2, gc3, nk4, ne2, efl, ln0, ln1, ln2, ln3, ln4, ln5, ln6, S_eq, S_list, S_len, S_lp, S_rp, S_cm, S_qt, S_none, S_e, S_ce, S_sp, S_mn, S_0, S_9, S_a, S_z, cut1, cut2, hd, hl, hq, hq2, hq3, hq4]
      · by_cases h2 : c = 44
        · subst h2
          refine ⟨fun z => by simp at z, fun z => by simp at z, fun _ z => absurd z hq, fun _ _ => ?_, fun _ z => absurd rfl z⟩
          by_cases h3 : r.take 1 = [41]
          · simp [fds, exs, ex.eq_1, ex.eq_2, ex.eq_3, ex.eq_4, ex.eq_5, ex.eq_6, ex.eq_7, ex.eq_8, ex.eq_10, ex.eq_12, ex.eq_13, ex.eq_14, ex.eq_15, ev.eq_1, ev.eq_2, ev.eq_3, ev.eq_4, ev.eq_5, ev.eq_6, ev.eq_7, ev.eq_8, ev.eq_9, ev.eq_10, ev.eq_11, ev.eq_12, ev.eq_13, ev.eq_14, ev.eq_15, ev.eq_16, ev.eq_17, ev.eq_18, ev.eq_19, ev.eq_20, ev.eq_21, ev.eq_22, ev.eq_23, evA, evs, evI, O.then, R.to, R.bind, EN.store, EN.storeAll, kp, kpF, seen, vw, opB, opC, opF, opI, opS, truD, R.val, R.dat, R.bool, isOwn, isLst, Env.at, O.end, retO, mask, flatD, List.mapM_cons, List.mapM_nil, eqD, eqS, callR, prep, prepV, handAll, handed, slotsOf, backR, back, mdz, prtR, IE.nl, isiR, excAt, isTy, Tb.tok, Cn.toD, cnPut, gc0, gc1, gc2, gc3, nk4, ne2, efl, ln0, ln1, ln2, ln3, ln4, ln5, ln6, S_eq, S_list, S_len, S_lp, S_rp, S_cm, S_qt, S_none, S_e, S_ce, S_sp, S_mn, S_0, S_9, S_a, S_z, cut1, cut2, hd, hl, hq, hq2, hq3, h3]
          · simp [fds, exs, ex.eq_1, ex.eq_2, ex.eq_3, ex.eq_4, ex.eq_5, ex.eq_6, ex.eq_7, ex.eq_8, ex.eq_10, ex.eq_12, ex.eq_13, ex.eq_14, ex.eq_15, ev.eq_1, ev.eq_2, ev.eq_3, ev.eq_4, ev.eq_5, ev.eq_6, ev.eq_7, ev.eq_8, ev.eq_9, ev.eq_10, ev.eq_11, ev.eq_12, ev.eq_13, ev.eq_14, ev.eq_15, ev.eq_16, ev.eq_17, ev.eq_18, ev.eq_19, ev.eq_20, ev.eq_21, ev.eq_22, ev.eq_23, evA, evs, evI, O.then, R.to, R.bind, EN.store, EN.storeAll, kp, kpF, seen, vw, opB, opC, opF, opI, opS, truD, R.val, R.dat, R.bool, isOwn, isLst, Env.at, O.end, retO, mask, flatD, List.mapM_cons, List.mapM_nil, eqD, eqS, callR, prep, prepV, handAll, handed, slotsOf, backR, back, mdz, prtR, IE.nl, isiR, excAt, isTy, Tb.tok, Cn.toD, cnPut, gc0, gc1, gc2, gc3, nk4, ne2, efl, ln0, ln1, ln2, ln3, ln4, ln5, ln6, S_eq, S_list, S_len, S_lp, S_rp, S_cm, S_qt, S_none, S_e, S_ce, S_sp, S_mn, S_0, S_9, S_a, S_z, cut1, cut2, hd, hl, hq, hq2, hq3, h3]
        · refine ⟨fun z => absurd (Option.some.inj z) h1, fun z => absurd (Option.some.inj z) h1, fun z => absurd (List.cons.inj z).1 h2, fun z => absurd (Option.some.inj z) h2, fun _ _ => ?_⟩
          simp [fds, exs, ex.eq_1, ex.eq_2, ex.eq_3, ex.eq_4, ex.eq_5, ex.eq_6, ex.eq_7, ex.eq_8, ex.eq_10, ex.eq_12, ex.eq_13, ex.eq_14, ex.eq_15, ev.eq_1, ev.eq_2, ev.eq_3, ev.eq_4, ev.eq_5, ev.eq_6, ev.eq_7, ev.eq_8, ev.eq_9, ev.eq_10, ev.eq_11, ev.eq_12, ev.eq_13, ev.eq_14, ev.eq_15, ev.eq_16, ev.eq_17, ev.eq_18, ev.eq_19, ev.eq_20, ev.eq_21, ev.eq_22, ev.eq_23, evA, evs, evI, O.then, R.to, R.bind, EN.store, EN.storeAll, kp, kpF, seen, vw, opB, opC, opF, opI, opS, truD, R.val, R.dat, R.bool, isOwn, isLst, Env.at, O.end, retO, mask, flatD, List.mapM_cons, List.mapM_nil, eqD, eqS, callR, prep, prepV, handAll, handed, slotsOf, backR, back, mdz, prtR, IE.nl, isiR, excAt, isTy, Tb.tok, Cn.toD, cnPut, gc0, gc1, gc2, gc3, nk4, ne2, efl, ln0, ln1, ln2, ln3, ln4, ln5, ln6, S_eq, S_list, S_len, S_lp, S_rp, S_cm, S_qt, S_none, S_e, S_ce, S_sp, S_mn, S_0, S_9, S_a, S_z, cut1, cut2, hd, hl, hq, hq2, hq3, h1, h2]
theorem l_body (ps : List D) (e e' : Nat) (s5 s6 : EN.Slot) (v : D) (px : EN.Env) (hp : ps.length < line) (h : fn 16 [.d (.str (S l)), .d (.int e), .d (.int ((deep : Int) + 1))] = .ok (.d (.tup [.int (e' : Int), v])) px) :
    exs tb fn 3 lB (lE l a deep ps e s5 s6) = exs tb fn 3 lT (lE l a deep (ps ++ [v]) e' s5 (.d (.tup [.int (e' : Int), v]))) := by
  unfold lB
  rw [exs, l_f1 fn l a deep ps e s5 s6 _ px h]
  simp only [O.then]
  rw [exs, l_f2 fn l a deep ps e e' s5 v]
  simp only [O.then]
  exact l_f34 fn l a deep ps e e' s5 v hp lT
theorem l_body_no (ps : List D) (e : Nat) (s5 s6 : EN.Slot) (px : EN.Env) (h : fn 16 [.d (.str (S l)), .d (.int e), .d (.int ((deep : Int) + 1))] = .ok (.d (.tup [.int (-1), .non])) px) :
    exs tb fn 3 lB (lE l a deep ps e s5 s6) = .rt (.d (.tup [.int (-1), .non])) (lE l a deep ps e s5 (.d (.tup [.int (-1), .non]))) := by
  unfold lB
  rw [exs, l_f1 fn l a deep ps e s5 s6 _ px h]
  simp only [O.then]
  rw [exs, l_f2_no fn l a deep ps e s5]
omit hl in
theorem fr_rt {np i : Nat} {b : EN.Env → O} {x : D} {xs : List D} {ρ ρ1 ρ2 : EN.Env} {v : IV} (hs : EN.store np i ρ (.d x) = .ok () ρ1) (hb : b ρ1 = .rt v ρ2) : forRun np i b (x :: xs) ρ = .rt v ρ2 := by
  conv => lhs; unfold forRun
  simp only [hs, R.to, hb]
omit hl in
theorem fr_nx {np i : Nat} {b : EN.Env → O} {x : D} {xs : List D} {ρ ρ1 ρ2 : EN.Env} (hs : EN.store np i ρ (.d x) = .ok () ρ1) (hb : b ρ1 = .nx ρ2) : forRun np i b (x :: xs) ρ = forRun np i b xs ρ2 := by
  conv => lhs; unfold forRun
  simp only [hs, R.to, hb]
theorem l_loop (d : Nat) (hV : ∀ e, e ≤ l.length → PRL l (V false d (l.drop e)) (fn 16 [.d (.str (S l)), .d (.int e), .d (.int ((deep : Int) + 1))])) : ∀ (xs : List D) (m : Nat) (ps : List D) (e : Nat) (s5 s6 : EN.Slot), e ≤ l.length → l.length - e < xs.length → l.length - e < m → ps.length ≤ e →
    PLO l (T (V false d) m ps (l.drop e)) (forRun 3 5 (fun ρ => exs tb fn 3 lB ρ) xs (lE l a deep ps e s5 s6))
  | [], _, _, _, _, _, _, h, _, _ => absurd h (by simp)
  | _, 0, _, _, _, _, _, _, h, _ => absurd h (by omega)
  | x :: xs, m + 1, ps, e, s5, s6, he, hn, hm, hps => by
    have st : EN.store 3 5 (lE l a deep ps e s5 s6) (.d x) = .ok () (lE l a deep ps e (.d x) s6) := by
      unfold lE
      simp [EN.store, kp, R.bind]
    have q := hV e he
    unfold T
    cases hv : V false d (l.drop e) with
    | none =>
      rw [hv] at q
      obtain ⟨px, hq⟩ := q
      rw [fr_rt st (l_body_no fn l a deep hl ps e (.d x) s6 px hq)]
      exact ⟨lE l a deep ps e (.d x) (.d (.tup [.int (-1), .non])), rfl⟩
    | some y =>
      rw [hv] at q
      obtain ⟨px, hq⟩ := q
      obtain ⟨pr, h1, h2⟩ := V_suf false d _ y.1 y.2 hv
      have plen : 0 < pr.length := List.length_pos_iff.mpr h1
      have hlen : l.length - e = pr.length + y.2.length := by
        have := congrArg List.length h2
        rw [List.length_drop, List.length_append] at this
        exact this
      generalize he' : l.length - y.2.length = e' at hq
      have he2 : e' = e + pr.length := by omega
      have hd : l.drop e' = y.2 := by
        rw [he2, ← List.drop_drop, h2, List.drop_left]
      have hb := l_body fn l a deep hl ps e e' (.d x) s6 y.1 px (by unfold line at hl ⊢; omega) hq
      have hql : (ps ++ [y.1]).length = ps.length + 1 := by simp
      have tt := l_tail fn l a deep hl (ps ++ [y.1]) e' (.d x) (.d (.tup [.int (e' : Int), y.1])) (by rw [hql]; omega)
      show PLO l (aft (T (V false d) m) (ps ++ [y.1]) y.2) _
      generalize hqs : ps ++ [y.1] = qs at hb tt hql ⊢
      rw [hd] at tt
      have hxs : xs.length + 1 = (x :: xs).length := rfl
      unfold aft
      by_cases g1 : y.2.head? = some 41
      · rw [if_pos g1]
        by_cases g2 : 1 < qs.length
        · rw [if_pos g2, fr_rt st (hb.trans (tt.1 g1 g2))]
          refine ⟨lE l a deep qs e' (.d x) (.d (.tup [.int (e' : Int), y.1])), ?_⟩
          have ly : 0 < y.2.length := by
            cases hy : y.2 with
            | nil => rw [hy] at g1; cases g1
            | cons c r => simp
          have : l.length - y.2.tail.length = e' + 1 := by rw [List.length_tail]; omega
          show O.rt _ _ = O.rt (.d (.tup [.int ((l.length - y.2.tail.length : Nat) : Int), .tup qs])) _
          rw [this]
        · rw [if_neg g2, fr_rt st (hb.trans (tt.2.1 g1 g2))]
          exact ⟨lE l a deep qs e' (.d x) (.d (.tup [.int (e' : Int), y.1])), rfl⟩
      · rw [if_neg g1]
        by_cases g2 : y.2.take 2 = [44, 41] ∧ qs.length = 1
        · rw [if_pos g2, fr_rt st (hb.trans (tt.2.2.1 g2.1 g2.2))]
          refine ⟨lE l a deep qs e' (.d x) (.d (.tup [.int (e' : Int), y.1])), ?_⟩
          have ly : 2 ≤ y.2.length := by
            have := congrArg List.length g2.1
            rw [List.length_take] at this
            have this : min 2 y.2.length = 2 := this
            omega
          have : l.length - (y.2.drop 2).length = e' + 2 := by rw [List.length_drop]; omega
          show O.rt _ _ = O.rt (.d (.tup [.int ((l.length - (y.2.drop 2).length : Nat) : Int), .tup qs])) _
          rw [this]
        · rw [if_neg g2]
          by_cases g3 : y.2.head? = some 44
          · rw [if_pos g3, fr_nx st (hb.trans (tt.2.2.2.1 g3 g2))]
            have ly : 0 < y.2.length := by
              cases hy : y.2 with
              | nil => rw [hy] at g3; cases g3
              | cons c r => simp
            have et : y.2.tail = l.drop (e' + 1) := by
              rw [← hd, List.tail_drop]
            rw [et]
            exact l_loop d hV xs m qs (e' + 1) _ _ (by omega) (by omega) (by omega) (by omega)
          · rw [if_neg g3, fr_rt st (hb.trans (tt.2.2.2.2 g1 g3))]
            exact ⟨lE l a deep qs e' (.d x) (.d (.tup [.int (e' : Int), y.1])), rfl⟩
end
end K74
namespace K74
open PySem EN NumText
theorem rng_ok {n : Nat} (h : n ≤ line) : rngOk 0 (n : Int) = true := by
  unfold rngOk
  unfold line at h ⊢
  exact decide_eq_true (by omega)
theorem rng_len (n : Nat) : (rngD 0 (n : Int)).length = n := by
  unfold rngD
  rw [List.length_map, List.length_range]
  omega
theorem l_for (fn : Fn) (l : List Nat) (a deep : Nat) (hl : l.length ≤ line) (d : Nat) (hV : ∀ e, e ≤ l.length → PRL l (V false d (l.drop e)) (fn 16 [.d (.str (S l)), .d (.int e), .d (.int ((deep : Int) + 1))])) (ha : a < l.length) (m : Nat) (hm : l.length - (a + 1) < m) :
    PLO l (T (V false d) m [] (l.drop (a + 1))) (exs tb fn 3 (.cons lFor lEnd) (lE l a deep [] (a + 1) .un .un)) := by
  have lp := l_loop fn l a deep hl d hV (rngD 0 (l.length : Int)) m [] (a + 1) .un .un (by omega) (by rw [rng_len]; omega) hm (Nat.zero_le _)
  have ei : evI tb fn 3 (.rng (.bi .len (.cons (.var 0) .nil))) (lE l a deep [] (a + 1) .un .un) = .ok (.d .non, rngD 0 (l.length : Int)) (lE l a deep [] (a + 1) .un .un) := by
    unfold lE
    simp [fds, exs, ex.eq_1, ex.eq_2, ex.eq_3, ex.eq_4, ex.eq_5, ex.eq_6, ex.eq_7, ex.eq_8, ex.eq_10, ex.eq_12, ex.eq_13, ex.eq_14, ex.eq_15, ev.eq_1, ev.eq_2, ev.eq_3, ev.eq_4, ev.eq_5, ev.eq_6, ev.eq_7, ev.eq_8, ev.eq_9, ev.eq_10, ev.eq_11, ev.eq_12, ev.eq_13, ev.eq_14, ev.eq_15, ev.eq_16, ev.eq_17, ev.eq_18, ev.eq_19, ev.eq_20, ev.eq_21, ev.eq_22, ev.eq_23, evA, evs, evI, O.then, R.to, R.bind, EN.store, EN.storeAll, kp, kpF, seen, vw, opB, opC, opF, opI, opS, truD, R.val, R.dat, R.bool, isOwn, isLst, Env.at, O.end, retO, mask, flatD, List.mapM_cons, List.mapM_nil, eqD, eqS, callR, prep, prepV, handAll, handed, slotsOf, backR, back, mdz, prtR, IE.nl, isiR, excAt, isTy, Tb.tok, Cn.toD, cnPut, gc0, gc1, gc2, gc3, nk4, ne2, efl, ln0, ln1, ln2, ln3, ln4, ln5, ln6, S_eq, S_list, S_len, S_lp, S_rp, S_cm, S_qt, S_none, S_e, S_ce, S_sp, S_mn, S_0, S_9, S_a, S_z, hl, rng_ok hl]
  have key : ∀ v ρ', forRun 3 5 (fun ρ => exs tb fn 3 lB ρ) (rngD 0 (l.length : Int)) (lE l a deep [] (a + 1) .un .un) = .rt v ρ' → exs tb fn 3 (.cons lFor lEnd) (lE l a deep [] (a + 1) .un .un) = .rt v ρ' := by
    intro v ρ' e
    unfold lFor
    rw [exs, ex.eq_9, ei]
    simp only [R.to, lend]
    rw [e]
    simp only [O.back, unlend, O.then]
  cases ho : T (V false d) m [] (l.drop (a + 1)) with
  | none =>
    rw [ho] at lp
    obtain ⟨ρ, e⟩ := lp
    exact ⟨ρ, key _ _ e⟩
  | some q =>
    rw [ho] at lp
    obtain ⟨ρ, e⟩ := lp
    exact ⟨ρ, key _ _ e⟩
theorem run_lread : ∀ (d k : Nat) (l : List Nat), l.length ≤ 100000 → ∀ (a deep : Nat), a ≤ l.length → deep + d = 20 → PRL l (V false d (l.drop a)) (runF tb fds (d + 2 + k) 16 [.d (.str (S l)), .d (.int a), .d (.int deep)]) := by
  intro d
  have leaf : ∀ (k n : Nat) (l : List Nat), l.length ≤ 100000 → ∀ a, a ≤ l.length → (l.drop a).head? ≠ some 40 → PRL l (leafP false (l.drop a)) (runF tb fds (k + 2) 16 [.d (.str (S l)), .d (.int a), .d (.int n)]) := by
    intro k n l hl a ha hne
    have hl1 : l.length ≤ line := by unfold line; omega
    have n40 : ¬ (l.drop a).take 1 = [40] := fun z => hne (by
      cases q : l.drop a with
      | nil => rw [q] at z; cases z
      | cons c r => rw [q] at z; cases z; rfl)
    unfold leafP
    rw [runF]
    simp only [fds, b_lread]
    by_cases h1 : (l.drop a).head? = some 34
    · rw [if_pos h1]
      have t1 : (l.drop a).take 1 = [34] := by
        cases q : l.drop a with
        | nil => rw [q] at h1; cases h1
        | cons c r => rw [q] at h1; cases h1; rfl
      have t4 : ¬ (l.drop a).take 4 = [110, 111, 110, 101] := by
        cases q : l.drop a with
        | nil => rw [q] at h1; cases h1
        | cons c r => rw [q] at h1; cases h1; simp
      have hlt : a < l.length := by
        rcases Nat.lt_or_ge a l.length with z | z
        · exact z
        · rw [List.drop_eq_nil_of_le z] at h1; cases h1
      have w := run_lword k l a hl hlt
      rw [List.tail_drop]
      refine prl_of w (fun x ps e => ⟨[.un, .un, .un], ?_⟩)
      simp [fds, exs, ex.eq_1, ex.eq_2, ex.eq_3, ex.eq_4, ex.eq_5, ex.eq_6, ex.eq_7, ex.eq_8, ex.eq_10, ex.eq_12, ex.eq_13, ex.eq_14, ex.eq_15, ev.eq_1, ev.eq_2, ev.eq_3, ev.eq_4, ev.eq_5, ev.eq_6, ev.eq_7, ev.eq_8, ev.eq_9, ev.eq_10, ev.eq_11, ev.eq_12, ev.eq_13, ev.eq_14, ev.eq_15, ev.eq_16, ev.eq_17, ev.eq_18, ev.eq_19, ev.eq_20, ev.eq_21, ev.eq_22, ev.eq_23, evA, evs, evI, O.then, R.to, R.bind, EN.store, EN.storeAll, kp, kpF, seen, vw, opB, opC, opF, opI, opS, truD, R.val, R.dat, R.bool, isOwn, isLst, Env.at, O.end, retO, mask, flatD, List.mapM_cons, List.mapM_nil, eqD, eqS, callR, prep, prepV, handAll, handed, slotsOf, backR, back, mdz, prtR, IE.nl, isiR, excAt, isTy, Tb.tok, Cn.toD, cnPut, gc0, gc1, gc2, gc3, nk4, ne2, efl, ln0, ln1, ln2, ln3, ln4, ln5, ln6, S_eq, S_list, S_len, S_lp, S_rp, S_cm, S_qt, S_none, S_e, S_ce, S_sp, S_mn, S_0, S_9, S_a, S_z, cut1, cut4, hl1, n40, t1, t4, e]
    · rw [if_neg h1]
      have n34 : ¬ (l.drop a).take 1 = [34] := fun z => h1 (by
        cases q : l.drop a with
        | nil => rw [q] at z; cases z
        | cons c r => rw [q] at z; cases z; rfl)
      by_cases h2 : (l.drop a).take 4 = [110, 111, 110, 101]
      · rw [if_pos h2]
        refine ⟨[.un, .un, .un], ?_⟩
        have ll : 4 ≤ (l.drop a).length := by
          have := congrArg List.length h2
          rw [List.length_take] at this
          have this : min 4 (l.drop a).length = 4 := this
          omega
        rw [List.length_drop] at ll
        have e1 : l.length - ((l.drop a).drop 4).length = a + 4 := by rw [List.length_drop, List.length_drop]; omega
        show _ = FR.ok (.d (.tup [.int ((l.length - ((l.drop a).drop 4).length : Nat) : Int), .non])) _
        rw [e1]
        simp [fds, exs, ex.eq_1, ex.eq_2, ex.eq_3, ex.eq_4, ex.eq_5, ex.eq_6, ex.eq_7, ex.eq_8, ex.eq_10, ex.eq_12, ex.eq_13, ex.eq_14, ex.eq_15, ev.eq_1, ev.eq_2, ev.eq_3, ev.eq_4, ev.eq_5, ev.eq_6, ev.eq_7, ev.eq_8, ev.eq_9, ev.eq_10, ev.eq_11, ev.eq_12, ev.eq_13, ev.eq_14, ev.eq_15, ev.eq_16, ev.eq_17, ev.eq_18, ev.eq_19, ev.eq_20, ev.eq_21, ev.eq_22, ev.eq_23, evA, evs, evI, O.then, R.to, R.bind, EN.store, EN.storeAll, kp, kpF, seen, vw, opB, opC, opF, opI, opS, truD, R.val, R.dat, R.bool, isOwn, isLst, Env.at, O.end, retO, mask, flatD, List.mapM_cons, List.mapM_nil, eqD, eqS, callR, prep, prepV, handAll, handed, slotsOf, backR, back, mdz, prtR, IE.nl, isiR, excAt, isTy, Tb.tok, Cn.toD, cnPut, gc0, gc1, gc2, gc3, nk4, ne2, efl, ln0, ln1, ln2, ln3, ln4, ln5, ln6, S_eq, S_list, S_len, S_lp, S_rp, S_cm, S_qt, S_none, S_e, S_ce, S_sp, S_mn, S_0, S_9, S_a, S_z, cut1, cut4, hl1, n40, n34, h2]
      · rw [if_neg h2]
        have w := run_lnum k l a hl ha
        refine prl_of w (fun x ps e => ⟨[.un, .un, .un], ?_⟩)
        simp [fds, exs, ex.eq_1, ex.eq_2, ex.eq_3, ex.eq_4, ex.eq_5, ex.eq_6, ex.eq_7, ex.eq_8, ex.eq_10, ex.eq_12, ex.eq_13, ex.eq_14, ex.eq_15, ev.eq_1, ev.eq_2, ev.eq_3, ev.eq_4, ev.eq_5, ev.eq_6, ev.eq_7, ev.eq_8, ev.eq_9, ev.eq_10, ev.eq_11, ev.eq_12, ev.eq_13, ev.eq_14, ev.eq_15, ev.eq_16, ev.eq_17, ev.eq_18, ev.eq_19, ev.eq_20, ev.eq_21, ev.eq_22, ev.eq_23, evA, evs, evI, O.then, R.to, R.bind, EN.store, EN.storeAll, kp, kpF, seen, vw, opB, opC, opF, opI, opS, truD, R.val, R.dat, R.bool, isOwn, isLst, Env.at, O.end, retO, mask, flatD, List.mapM_cons, List.mapM_nil, eqD, eqS, callR, prep, prepV, handAll, handed, slotsOf, backR, back, mdz, prtR, IE.nl, isiR, excAt, isTy, Tb.tok, Cn.toD, cnPut, gc0, gc1, gc2, gc3, nk4, ne2, efl, ln0, ln1, ln2, ln3, ln4, ln5, ln6, S_eq, S_list, S_len, S_lp, S_rp, S_cm, S_qt, S_none, S_e, S_ce, S_sp, S_mn, S_0, S_9, S_a, S_z, cut1, cut4, hl1, n40, n34, h2, e]
  induction d with
  | zero =>
    intro k l hl a deep ha hdd
    unfold V
    by_cases h : (l.drop a).head? = some 40
    · rw [if_pos h]
      have hl1 : l.length ≤ line := by unfold line; omega
      have hdeep : deep = 20 := by omega
      subst hdeep
      cases q : l.drop a with
      | nil => rw [q] at h; cases h
      | cons c r =>
        rw [q] at h
        cases h
        rw [show 0 + 2 + k = (1 + k) + 1 by omega, runF]
        simp only [fds, b_lread]
        refine ⟨[.un, .un, .un], ?_⟩
        simp [fds, exs, ex.eq_1, ex.eq_2, ex.eq_3, ex.eq_4, ex.eq_5, ex.eq_6, ex.eq_7, ex.eq_8, ex.eq_10, ex.eq_12, ex.eq_13, ex.eq_14, ex.eq_15, ev.eq_1, ev.eq_2, ev.eq_3, ev.eq_4, ev.eq_5, ev.eq_6, ev.eq_7, ev.eq_8, ev.eq_9, ev.eq_10, ev.eq_11, ev.eq_12, ev.eq_13, ev.eq_14, ev.eq_15, ev.eq_16, ev.eq_17, ev.eq_18, ev.eq_19, ev.eq_20, ev.eq_21, ev.eq_22, ev.eq_23, evA, evs, evI, O.then, R.to, R.bind, EN.store, EN.storeAll, kp, kpF, seen, vw, opB, opC, opF, opI, opS, truD, R.val, R.dat, R.bool, isOwn, isLst, Env.at, O.end, retO, mask, flatD, List.mapM_cons, List.mapM_nil, eqD, eqS, callR, prep, prepV, handAll, handed, slotsOf, backR, back, mdz, prtR, IE.nl, isiR, excAt, isTy, Tb.tok, Cn.toD, cnPut, gc0, gc1, gc2, gc3, nk4, ne2, efl, ln0, ln1, ln2, ln3, ln4, ln5, ln6, S_eq, S_list, S_len, S_lp, S_rp, S_cm, S_qt, S_none, S_e, S_ce, S_sp, S_mn, S_0, S_9, S_a, S_z, cut1, cut4, hl1, q]
    · rw [if_neg h]
      have := leaf k deep l hl a ha h
      rw [show 0 + 2 + k = k + 2 by omega]
      exact this
  | succ d ih =>
    intro k l hl a deep ha hdd
    by_cases h : (l.drop a).head? = some 40
    · have hl1 : l.length ≤ line := by unfold line; omega
      cases q : l.drop a with
      | nil => rw [q] at h; cases h
      | cons c r =>
        rw [q] at h
        cases h
        obtain ⟨hlt, hr, hlr⟩ := drop1 q
        have nd : ¬ (19 : Int) < (deep : Int) := by omega
        have ev1 : V false (d + 1) (40 :: r) = if r.head? = some 41 then some (.tup [], r.drop 1) else T (V false d) (r.length + 1) [] r := rfl
        rw [ev1, show d + 1 + 2 + k = (d + 2 + k) + 1 by omega, runF]
        simp only [fds, b_lread]
        by_cases h1 : r.head? = some 41
        · rw [if_pos h1]
          have h2 : r.take 1 = [41] := by
            cases r with
            | nil => cases h1
            | cons c r => cases h1; rfl
          have lr : 0 < r.length := by
            cases r with
            | nil => cases h1
            | cons c r => simp
          refine ⟨[.un, .un, .un], ?_⟩
          have e1 : l.length - (r.drop 1).length = a + 2 := by rw [List.length_drop]; omega
          show _ = FR.ok (.d (.tup [.int ((l.length - (r.drop 1).length : Nat) : Int), .tup []])) _
          rw [e1]
          simp [fds, exs, ex.eq_1, ex.eq_2, ex.eq_3, ex.eq_4, ex.eq_5, ex.eq_6, ex.eq_7, ex.eq_8, ex.eq_10, ex.eq_12, ex.eq_13, ex.eq_14, ex.eq_15, ev.eq_1, ev.eq_2, ev.eq_3, ev.eq_4, ev.eq_5, ev.eq_6, ev.eq_7, ev.eq_8, ev.eq_9, ev.eq_10, ev.eq_11, ev.eq_12, ev.eq_13, ev.eq_14, ev.eq_15, ev.eq_16, ev.eq_17, ev.eq_18, ev.eq_19, ev.eq_20, ev.eq_21, ev.eq_22, ev.eq_23, evA, evs, evI, O.then, R.to, R.bind, EN.store, EN.storeAll, kp, kpF, seen, vw, opB, opC, opF, opI, opS, truD, R.val, R.dat, R.bool, isOwn, isLst, Env.at, O.end, retO, mask, flatD, List.mapM_cons, List.mapM_nil, eqD, eqS, callR, prep, prepV, handAll, handed, slotsOf, backR, back, mdz, prtR, IE.nl, isiR, excAt, isTy, Tb.tok, Cn.toD, cnPut, gc0, gc1, gc2, gc3, nk4, ne2, efl, ln0, ln1, ln2, ln3, ln4, ln5, ln6, S_eq, S_list, S_len, S_lp, S_rp, S_cm, S_qt, S_none, S_e, S_ce, S_sp, S_mn, S_0, S_9, S_a, S_z, cut1, cut4, cut12, hr, hl1, h2, nd, q]
        · rw [if_neg h1]
          have h2 : ¬ r.take 1 = [41] := fun z => h1 (by
            cases r with
            | nil => cases z
            | cons c r => cases z; rfl)
          have lf := l_for (runF tb fds (d + 2 + k)) l a deep hl1 d (fun e he => ih k l hl e (deep + 1) he (by omega)) hlt (r.length + 1) (by omega)
          rw [hr] at lf
          generalize hw : ISs.cons lFor lEnd = W at lf ⊢
          have cast : ((a + 1 : Nat) : Int) = (a : Int) + 1 := rfl
          unfold lE at lf
          rw [cast] at lf
          cases ho : T (V false d) (r.length + 1) [] r with
          | none =>
            rw [ho] at lf
            obtain ⟨ρ, e⟩ := lf
            refine ⟨mask [.d (.str (S l)), .d (.int a), .d (.int deep)] ρ, ?_⟩
            simp [fds, exs, ex.eq_1, ex.eq_2, ex.eq_3, ex.eq_4, ex.eq_5, ex.eq_6, ex.eq_7, ex.eq_8, ex.eq_10, ex.eq_12, ex.eq_13, ex.eq_14, ex.eq_15, ev.eq_1, ev.eq_2, ev.eq_3, ev.eq_4, ev.eq_5, ev.eq_6, ev.eq_7, ev.eq_8, ev.eq_9, ev.eq_10, ev.eq_11, ev.eq_12, ev.eq_13, ev.eq_14, ev.eq_15, ev.eq_16, ev.eq_17, ev.eq_18, ev.eq_19, ev.eq_20, ev.eq_21, ev.eq_22, ev.eq_23, evA, evs, evI, O.then, R.to, R.bind, EN.store, EN.storeAll, kp, kpF, seen, vw, opB, opC, opF, opI, opS, truD, R.val, R.dat, R.bool, isOwn, isLst, Env.at, O.end, retO, mask, flatD, List.mapM_cons, List.mapM_nil, eqD, eqS, callR, prep, prepV, handAll, handed, slotsOf, backR, back, mdz, prtR, IE.nl, isiR, excAt, isTy, Tb.tok, Cn.toD, cnPut, gc0, gc1, gc2, gc3, nk4, ne2, efl, ln0, ln1, ln2, ln3, ln4, ln5, ln6, S_eq, S_list, S_len, S_lp, S_rp, S_cm, S_qt, S_none, S_e, S_ce, S_sp, S_mn, S_0, S_9, S_a, S_z, cut1, cut4, cut12, hr, hl1, h2, nd, q, e]
          | some y =>
            rw [ho] at lf
            obtain ⟨ρ, e⟩ := lf
            refine ⟨mask [.d (.str (S l)), .d (.int a), .d (.int deep)] ρ, ?_⟩
            simp [fds, exs, ex.eq_1, ex.eq_2, ex.eq_3, ex.eq_4, ex.eq_5, ex.eq_6, ex.eq_7, ex.eq_8, ex.eq_10, ex.eq_12, ex.eq_13, ex.eq_14, ex.eq_15, ev.eq_1, ev.eq_2, ev.eq_3, ev.eq_4, ev.eq_5, ev.eq_6, ev.eq_7, ev.eq_8, ev.eq_9, ev.eq_10, ev.eq_11, ev.eq_12, ev.eq_13, ev.eq_14, ev.eq_15, ev.eq_16, ev.eq_17, ev.eq_18, ev.eq_19, ev.eq_20, ev.eq_21, ev.eq_22, ev.eq_23, evA, evs, evI, O.then, R.to, R.bind, EN.store, EN.storeAll, kp, kpF, seen, vw, opB, opC, opF, opI, opS, truD, R.val, R.dat, R.bool, isOwn, isLst, Env.at, O.end, retO, mask, flatD, List.mapM_cons, List.mapM_nil, eqD, eqS, callR, prep, prepV, handAll, handed, slotsOf, backR, back, mdz, prtR, IE.nl, isiR, excAt, isTy, Tb.tok, Cn.toD, cnPut, gc0, gc1, gc2, gc3, nk4, ne2, efl, ln0, ln1, ln2, ln3, ln4, ln5, ln6, S_eq, S_list, S_len, S_lp, S_rp, S_cm, S_qt, S_none, S_e, S_ce, S_sp, S_mn, S_0, S_9, S_a, S_z, cut1, cut4, cut12, hr, hl1, h2, nd, q, e]
    · have ev1 : V false (d + 1) (l.drop a) = leafP false (l.drop a) := by unfold V; rw [if_neg h]
      rw [ev1]
      have := leaf (d + 1 + k) deep l hl a ha h
      rw [show d + 1 + 2 + k = d + 1 + k + 2 by omega]
      exact this
end K74
namespace K74
open PySem EN NumText
/-! the two readings agree -/
theorem aft_mono {A B : List D → List Nat → Option (D × List Nat)} {ps : List D} {r : List Nat} {q : D × List Nat} (h : ∀ l, A ps l = some q → B ps l = some q) (e : aft A ps r = some q) : aft B ps r = some q := by
  unfold aft at e ⊢
  by_cases g1 : r.head? = some 41
  · rw [if_pos g1] at e ⊢; exact e
  · rw [if_neg g1] at e ⊢
    by_cases g2 : r.take 2 = [44, 41] ∧ ps.length = 1
    · rw [if_pos g2] at e ⊢; exact e
    · rw [if_neg g2] at e ⊢
      by_cases g3 : r.head? = some 44
      · rw [if_pos g3] at e ⊢; exact h _ e
      · rw [if_neg g3] at e; cases e
theorem aft_ok {A : List D → List Nat → Option (D × List Nat)} {ps : List D} {r : List Nat} {q : D × List Nat} (e : aft A ps r = some q) : okRest r = true := by
  unfold aft at e
  by_cases g1 : r.head? = some 41
  · cases r with
    | nil => rfl
    | cons c r => cases g1; rfl
  · rw [if_neg g1] at e
    by_cases g2 : r.take 2 = [44, 41] ∧ ps.length = 1
    · cases r with
      | nil => rfl
      | cons c r =>
        have := (List.cons.inj g2.1).1
        have this : c = 44 := this
        subst this; rfl
    · rw [if_neg g2] at e
      by_cases g3 : r.head? = some 44
      · cases r with
        | nil => rfl
        | cons c r => cases g3; rfl
      · rw [if_neg g3] at e; cases e
theorem T_mono {f g : List Nat → Option (D × List Nat)} (h : ∀ l q, f l = some q → okRest q.2 = true → g l = some q) : ∀ (n : Nat) (ps : List D) (l : List Nat) (q : D × List Nat), T f n ps l = some q → T g n ps l = some q
  | 0, _, _, _, e => nomatch e
  | n + 1, ps, l, q, e => by
    unfold T at e ⊢
    cases hf : f l with
    | none => rw [hf] at e; cases e
    | some y =>
      rw [hf] at e
      have e : aft (T f n) (ps ++ [y.1]) y.2 = some q := e
      rw [h l y hf (aft_ok e)]
      exact aft_mono (fun l z => T_mono h n _ l q z) e
theorem leaf_tf {l : List Nat} {q : D × List Nat} (e : leafP true l = some q) : leafP false l = some q := by
  unfold leafP at e ⊢
  split
  · rename_i g; rw [if_pos g] at e; exact e
  · rename_i g
    rw [if_neg g] at e
    split
    · rename_i g2; rw [if_pos g2] at e; exact e
    · rename_i g2
      rw [if_neg g2] at e
      unfold intP at e ⊢
      split at e
      · rename_i c
        rw [if_pos (by rw [(and2 c).1]; rfl)]
        exact e
      · cases e
theorem leaf_ft {l : List Nat} {q : D × List Nat} (e : leafP false l = some q) (ok : okRest q.2 = true) : leafP true l = some q := by
  unfold leafP at e ⊢
  split
  · rename_i g; rw [if_pos g] at e; exact e
  · rename_i g
    rw [if_neg g] at e
    split
    · rename_i g2; rw [if_pos g2] at e; exact e
    · rename_i g2
      rw [if_neg g2] at e
      unfold intP at e ⊢
      split at e
      · rename_i c
        cases e
        have ok : okRest (numR l) = true := ok
        rw [if_pos (by rw [(and2 c).1, ok]; rfl)]
      · cases e
theorem V_tf : ∀ (d : Nat) (l : List Nat) (q : D × List Nat), V true d l = some q → V false d l = some q
  | 0, l, q, e => by
    unfold V at e ⊢
    split
    · rename_i g; rw [if_pos g] at e; exact e
    · rename_i g; rw [if_neg g] at e; exact leaf_tf e
  | d + 1, l, q, e => by
    unfold V at e ⊢
    split
    · rename_i g
      rw [if_pos g] at e
      split
      · rename_i g2; rw [if_pos g2] at e; exact e
      · rename_i g2
        rw [if_neg g2] at e
        exact T_mono (fun l q z _ => V_tf d l q z) _ _ _ _ e
    · rename_i g; rw [if_neg g] at e; exact leaf_tf e
theorem V_ft : ∀ (d : Nat) (l : List Nat) (q : D × List Nat), V false d l = some q → okRest q.2 = true → V true d l = some q
  | 0, l, q, e, ok => by
    unfold V at e ⊢
    split
    · rename_i g; rw [if_pos g] at e; exact e
    · rename_i g; rw [if_neg g] at e; exact leaf_ft e ok
  | d + 1, l, q, e, ok => by
    unfold V at e ⊢
    split
    · rename_i g
      rw [if_pos g] at e
      split
      · rename_i g2; rw [if_pos g2] at e; exact e
      · rename_i g2
        rw [if_neg g2] at e
        exact T_mono (fun l q z ok => V_ft d l q z ok) _ _ _ _ e
    · rename_i g; rw [if_neg g] at e; exact leaf_ft e ok
/-! values that are read -/
def leafV (v : D) : Prop := v = .non ∨ (∃ b, v = .bl b) ∨ (∃ i, v = .int i) ∨ ∃ x, v = .str x
def fineV : Nat → D → Prop
  | 0, v => leafV v
  | d + 1, v => leafV v ∨ ∃ vs, v = .tup vs ∧ vs.length ≤ 100000 ∧ ∀ x ∈ vs, fineV d x
theorem fine_up : ∀ (d : Nat) (v : D), fineV d v → fineV (d + 1) v
  | 0, v, h => .inl h
  | d + 1, v, h => h.imp_right fun ⟨vs, e, l, a⟩ => ⟨vs, e, l, fun x hx => fine_up d x (a x hx)⟩
theorem leafP_leaf {st : Bool} {l : List Nat} {q : D × List Nat} (e : leafP st l = some q) : leafV q.1 := by
  unfold leafP at e
  split at e
  · cases h : wordP l.tail with
    | none => rw [h] at e; cases e
    | some y => rw [h] at e; cases e; exact .inr (.inr (.inr ⟨_, rfl⟩))
  · split at e
    · cases e; exact .inl rfl
    · unfold intP at e
      split at e
      · cases e; exact .inr (.inr (.inl ⟨_, rfl⟩))
      · cases e
theorem T_fine {f : List Nat → Option (D × List Nat)} (hf : Eats f) {P : D → Prop} (hP : ∀ l q, f l = some q → P q.1) : ∀ (n : Nat) (ps : List D) (l : List Nat) (q : D × List Nat), (∀ x ∈ ps, P x) → T f n ps l = some q → ∃ vs, q.1 = .tup vs ∧ vs.length ≤ ps.length + l.length ∧ ∀ x ∈ vs, P x
  | 0, _, _, _, _, e => nomatch e
  | n + 1, ps, l, q, h, e => by
    unfold T at e
    cases hv : f l with
    | none => rw [hv] at e; cases e
    | some y =>
      rw [hv] at e
      have e : aft (T f n) (ps ++ [y.1]) y.2 = some q := e
      obtain ⟨pr, h1, h2⟩ := hf l y.1 y.2 hv
      have plen : 0 < pr.length := List.length_pos_iff.mpr h1
      have hl := congrArg List.length h2
      rw [List.length_append] at hl
      have hall : ∀ x ∈ ps ++ [y.1], P x := fun x hx => by
        rcases List.mem_append.mp hx with z | z
        · exact h x z
        · rw [List.mem_singleton.mp z]; exact hP l y hv
      have hql : (ps ++ [y.1]).length = ps.length + 1 := by simp
      unfold aft at e
      split at e
      · split at e
        · cases e; exact ⟨_, rfl, by omega, hall⟩
        · cases e
      · split at e
        · cases e; exact ⟨_, rfl, by omega, hall⟩
        · split at e
          · obtain ⟨vs, a, b, c⟩ := T_fine hf hP n _ _ q hall e
            exact ⟨vs, a, by rw [List.length_tail] at b; omega, c⟩
          · cases e
theorem V_fine (st : Bool) : ∀ (d : Nat) (l : List Nat) (q : D × List Nat), l.length ≤ 100000 → V st d l = some q → fineV d q.1
  | 0, l, q, _, e => by
    unfold V at e
    split at e
    · cases e
    · exact leafP_leaf e
  | d + 1, l, q, hl, e => by
    unfold V at e
    split at e
    · split at e
      · cases e; exact .inr ⟨[], rfl, by simp, by simp⟩
      · have hlt : l.tail.length ≤ 100000 := by rw [List.length_tail]; omega
        -- each part is read from an end of the text
        have hP : ∀ (l' : List Nat) (q : D × List Nat), (fun l' => if l'.length ≤ 100000 then V st d l' else none) l' = some q → fineV d q.1 := fun l' q z => by
          dsimp only at z
          split at z
          · rename_i g; exact V_fine st d l' q g z
          · cases z
        have hE : Eats (fun l' => if l'.length ≤ 100000 then V st d l' else none) := fun l' v r z => by
          dsimp only at z
          split at z
          · exact V_suf st d l' v r z
          · cases z
        have same : ∀ (n : Nat) (ps : List D) (l' : List Nat) (q : D × List Nat), l'.length ≤ 100000 → T (V st d) n ps l' = some q → T (fun l' => if l'.length ≤ 100000 then V st d l' else none) n ps l' = some q := by
          intro n
          induction n with
          | zero => intro ps l' q _ z; cases z
          | succ n ih =>
            intro ps l' q hl' z
            unfold T at z ⊢
            rw [if_pos hl']
            cases hv : V st d l' with
            | none => rw [hv] at z; cases z
            | some y =>
              rw [hv] at z
              have z : aft (T (V st d) n) (ps ++ [y.1]) y.2 = some q := z
              show aft _ _ _ = _
              obtain ⟨pr, h1, h2⟩ := V_suf st d l' y.1 y.2 hv
              have hy : y.2.length ≤ 100000 := by
                have := congrArg List.length h2
                rw [List.length_append] at this
                omega
              unfold aft at z ⊢
              by_cases g1 : y.2.head? = some 41
              · rw [if_pos g1] at z ⊢; exact z
              · rw [if_neg g1] at z ⊢
                by_cases g2 : y.2.take 2 = [44, 41] ∧ (ps ++ [y.1]).length = 1
                · rw [if_pos g2] at z ⊢; exact z
                · rw [if_neg g2] at z ⊢
                  by_cases g3 : y.2.head? = some 44
                  · rw [if_pos g3] at z ⊢
                    exact ih _ _ q (by rw [List.length_tail]; omega) z
                  · rw [if_neg g3] at z; cases z
        obtain ⟨vs, a, b, c⟩ := T_fine hE hP _ _ _ q (by simp) (same _ _ _ q hlt e)
        exact .inr ⟨vs, a, by simp at b; rw [List.length_tail] at hlt; omega, c⟩
    · exact .inl (leafP_leaf e)
theorem ev_or_f {T : Tb} {fn : Fn} {np : Nat} {a b : IE} {ρ : EN.Env} (h : ev T fn np a ρ = .ok (.d (.bl false)) ρ) : ev T fn np (.or a b) ρ = ev T fn np b ρ := by
  rw [ev.eq_15, h]
  rfl
theorem ev_or_t {T : Tb} {fn : Fn} {np : Nat} {a b : IE} {ρ : EN.Env} (h : ev T fn np a ρ = .ok (.d (.bl true)) ρ) : ev T fn np (.or a b) ρ = .ok (.d (.bl true)) ρ := by
  rw [ev.eq_15, h]
  rfl
theorem ev_and_t {T : Tb} {fn : Fn} {np : Nat} {a b : IE} {ρ : EN.Env} (h : ev T fn np a ρ = .ok (.d (.bl true)) ρ) : ev T fn np (.and a b) ρ = ev T fn np b ρ := by
  rw [ev.eq_14, h]
  rfl
theorem ex_if_f {T : Tb} {fn : Fn} {np : Nat} {c : IE} {a b : ISs} {ρ : EN.Env} (h : ev T fn np c ρ = .ok (.d (.bl false)) ρ) : ex T fn np (.ifS c a b) ρ = exs T fn np b ρ := by
  rw [ex.eq_8, h]
  rfl
theorem ex_if_t {T : Tb} {fn : Fn} {np : Nat} {c : IE} {a b : ISs} {ρ : EN.Env} (h : ev T fn np c ρ = .ok (.d (.bl true)) ρ) : ex T fn np (.ifS c a b) ρ = exs T fn np a ρ := by
  rw [ex.eq_8, h]
  rfl
theorem exs_nil {T : Tb} {fn : Fn} {np : Nat} {ρ : EN.Env} : exs T fn np .nil ρ = .nx ρ := by rw [exs]
theorem exs_cons {T : Tb} {fn : Fn} {np : Nat} {s : IS} {ss : ISs} {ρ ρ1 : EN.Env} (h : ex T fn np s ρ = .nx ρ1) : exs T fn np (.cons s ss) ρ = exs T fn np ss ρ1 := by rw [exs, h]
theorem exs_rt {T : Tb} {fn : Fn} {np : Nat} {s : IS} {ss : ISs} {ρ ρ1 : EN.Env} {v : IV} (h : ex T fn np s ρ = .rt v ρ1) : exs T fn np (.cons s ss) ρ = .rt v ρ1 := by rw [exs, h]
theorem ev_not {T : Tb} {fn : Fn} {np : Nat} {a : IE} {ρ : EN.Env} {b : Bool} (h : ev T fn np a ρ = .ok (.d (.bl b)) ρ) : ev T fn np (.not a) ρ = .ok (.d (.bl (!b))) ρ := by
  rw [ev.eq_16, h]
  rfl
theorem ev_isi {T : Tb} {fn : Fn} {np : Nat} {a : IE} {t : TY} {ρ : EN.Env} {x : D} (ht : T.tok t = true) (h : ev T fn np a ρ = .ok (.d x) ρ) : ev T fn np (.isi a t) ρ = .ok (.d (.bl (isTy x t))) ρ := by
  rw [ev.eq_22, h]
  simp only [R.bind, kpF, isiR, ht, excAt, seen, vw, if_true]
theorem evI_rng {T : Tb} {fn : Fn} {np : Nat} {a : IE} {ρ : EN.Env} {n : Int} (h : ev T fn np a ρ = .ok (.d (.int n)) ρ) (hr : rngOk 0 n = true) : evI T fn np (.rng a) ρ = .ok (.d .non, rngD 0 n) ρ := by
  unfold evI
  rw [h]
  show (if rngOk 0 n = true then _ else _) = _
  rw [if_pos hr]
theorem ex_for_nx {T : Tb} {fn : Fn} {np i : Nat} {it : IT} {b : ISs} {ρ ρ1 : EN.Env} {v : D} {xs : List D} (hi : evI T fn np it ρ = .ok (.d v, xs) ρ) (h : forRun np i (fun ρ => exs T fn np b ρ) xs ρ = .nx ρ1) : ex T fn np (.forS i it b) ρ = .nx ρ1 := by
  rw [ex.eq_9, hi]
  simp only [R.to, lend]
  rw [h]
  simp only [O.back, unlend]
/-! == of the law -/
theorem atI_lt {α : Type} {xs : List α} {j : Nat} (h : j < xs.length) : L2.atI xs (j : Int) = some xs[j] := by
  unfold L2.atI L2.ixN
  simp [h]
theorem rng_mem {n : Nat} {x : D} (h : x ∈ rngD 0 (n : Int)) : ∃ j : Nat, j < n ∧ x = .int (j : Int) := by
  unfold rngD at h
  obtain ⟨j, h1, h2⟩ := List.mem_map.mp h
  have := List.mem_range.mp h1
  exact ⟨j, by omega, by rw [← h2, Int.zero_add]⟩
def eqB : ISs := .cons (.ifS (.not (.call 8 (.cons (.ix (.var 0) (.var 2)) (.cons (.ix (.var 1) (.var 2)) .nil)))) (.cons (.ret (.lit (.bl false))) .nil) .nil) .nil
theorem eq_loop (fn : Fn) (vs : List D) (h : ∀ x ∈ vs, ∃ ps, fn 8 [.d x, .d x] = .ok (.d (.bl true)) ps) : ∀ (xs : List D) (s : EN.Slot), (∀ x ∈ xs, ∃ j : Nat, j < vs.length ∧ x = .int (j : Int)) →
    ∃ s', forRun 2 2 (fun ρ => exs tb fn 2 eqB ρ) xs [.d (.tup vs), .d (.tup vs), s] = .nx [.d (.tup vs), .d (.tup vs), s']
  | [], s, _ => ⟨s, rfl⟩
  | x :: xs, s, hx => by
    obtain ⟨j, hj, rfl⟩ := hx x List.mem_cons_self
    obtain ⟨s', ih⟩ := eq_loop fn vs h xs (.d (.int (j : Int))) fun y hy => hx y (List.mem_cons_of_mem _ hy)
    refine ⟨s', ?_⟩
    obtain ⟨ps, e⟩ := h vs[j] (List.getElem_mem hj)
    have hat := atI_lt hj
    have st : EN.store 2 2 [.d (.tup vs), .d (.tup vs), s] (.d (.int (j : Int))) = .ok () [.d (.tup vs), .d (.tup vs), .d (.int (j : Int))] := by
      simp [EN.store, kp, R.bind]
    have hb : exs tb fn 2 eqB [.d (.tup vs), .d (.tup vs), .d (.int (j : Int))] = .nx [.d (.tup vs), .d (.tup vs), .d (.int (j : Int))] := by
      unfold eqB
      simp [fds, exs, ex.eq_1, ex.eq_2, ex.eq_3, ex.eq_4, ex.eq_5, ex.eq_6, ex.eq_7, ex.eq_8, ex.eq_10, ex.eq_12, ex.eq_13, ex.eq_14, ex.eq_15, ev.eq_1, ev.eq_2, ev.eq_3, ev.eq_4, ev.eq_5, ev.eq_6, ev.eq_7, ev.eq_8, ev.eq_9, ev.eq_10, ev.eq_11, ev.eq_12, ev.eq_13, ev.eq_14, ev.eq_15, ev.eq_16, ev.eq_17, ev.eq_18, ev.eq_19, ev.eq_20, ev.eq_21, ev.eq_22, ev.eq_23, evA, evs, evI, O.then, R.to, R.bind, EN.store, EN.storeAll, kp, kpF, seen, vw, opB, opC, opF, opI, opS, truD, R.val, R.dat, R.bool, isOwn, isLst, Env.at, O.end, retO, mask, flatD, List.mapM_cons, List.mapM_nil, eqD, eqS, callR, prep, prepV, handAll, handed, slotsOf, backR, back, mdz, prtR, IE.nl, isiR, excAt, isTy, Tb.tok, Cn.toD, cnPut, gc0, gc1, gc2, gc3, nk4, ne2, efl, ln0, ln1, ln2, ln3, ln4, ln5, ln6, S_eq, S_list, S_len, S_lp, S_rp, S_cm, S_qt, S_none, S_e, S_ce, S_sp, S_mn, S_0, S_9, S_a, S_z, hat, e]
    rw [fr_nx st hb]
    exact ih
theorem eq_leaf (k : Nat) (v : D) (h : leafV v) : ∃ ps, runF tb fds (k + 1) 8 [.d v, .d v] = .ok (.d (.bl true)) ps := by
  refine ⟨[.un, .un], ?_⟩
  rw [runF]
  simp only [fds, b__law_equal]
  rcases h with rfl | ⟨b, rfl⟩ | ⟨i, rfl⟩ | ⟨x, rfl⟩
  · simp [fds, exs, ex.eq_1, ex.eq_2, ex.eq_3, ex.eq_4, ex.eq_5, ex.eq_6, ex.eq_7, ex.eq_8, ex.eq_10, ex.eq_12, ex.eq_13, ex.eq_14, ex.eq_15, ev.eq_1, ev.eq_2, ev.eq_3, ev.eq_4, ev.eq_5, ev.eq_6, ev.eq_7, ev.eq_8, ev.eq_9, ev.eq_10, ev.eq_11, ev.eq_12, ev.eq_13, ev.eq_14, ev.eq_15, ev.eq_16, ev.eq_17, ev.eq_18, ev.eq_19, ev.eq_20, ev.eq_21, ev.eq_22, ev.eq_23, evA, evs, evI, O.then, R.to, R.bind, EN.store, EN.storeAll, kp, kpF, seen, vw, opB, opC, opF, opI, opS, truD, R.val, R.dat, R.bool, isOwn, isLst, Env.at, O.end, retO, mask, flatD, List.mapM_cons, List.mapM_nil, eqD, eqS, callR, prep, prepV, handAll, handed, slotsOf, backR, back, mdz, prtR, IE.nl, isiR, excAt, isTy, Tb.tok, Cn.toD, cnPut, gc0, gc1, gc2, gc3, nk4, ne2, efl, ln0, ln1, ln2, ln3, ln4, ln5, ln6, S_eq, S_list, S_len, S_lp, S_rp, S_cm, S_qt, S_none, S_e, S_ce, S_sp, S_mn, S_0, S_9, S_a, S_z]
  · simp [fds, exs, ex.eq_1, ex.eq_2, ex.eq_3, ex.eq_4, ex.eq_5, ex.eq_6, ex.eq_7, ex.eq_8, ex.eq_10, ex.eq_12, ex.eq_13, ex.eq_14, ex.eq_15, ev.eq_1, ev.eq_2, ev.eq_3, ev.eq_4, ev.eq_5, ev.eq_6, ev.eq_7, ev.eq_8, ev.eq_9, ev.eq_10, ev.eq_11, ev.eq_12, ev.eq_13, ev.eq_14, ev.eq_15, ev.eq_16, ev.eq_17, ev.eq_18, ev.eq_19, ev.eq_20, ev.eq_21, ev.eq_22, ev.eq_23, evA, evs, evI, O.then, R.to, R.bind, EN.store, EN.storeAll, kp, kpF, seen, vw, opB, opC, opF, opI, opS, truD, R.val, R.dat, R.bool, isOwn, isLst, Env.at, O.end, retO, mask, flatD, List.mapM_cons, List.mapM_nil, eqD, eqS, callR, prep, prepV, handAll, handed, slotsOf, backR, back, mdz, prtR, IE.nl, isiR, excAt, isTy, Tb.tok, Cn.toD, cnPut, gc0, gc1, gc2, gc3, nk4, ne2, efl, ln0, ln1, ln2, ln3, ln4, ln5, ln6, S_eq, S_list, S_len, S_lp, S_rp, S_cm, S_qt, S_none, S_e, S_ce, S_sp, S_mn, S_0, S_9, S_a, S_z]
  · simp [fds, exs, ex.eq_1, ex.eq_2, ex.eq_3, ex.eq_4, ex.eq_5, ex.eq_6, ex.eq_7, ex.eq_8, ex.eq_10, ex.eq_12, ex.eq_13, ex.eq_14, ex.eq_15, ev.eq_1, ev.eq_2, ev.eq_3, ev.eq_4, ev.eq_5, ev.eq_6, ev.eq_7, ev.eq_8, ev.eq_9, ev.eq_10, ev.eq_11, ev.eq_12, ev.eq_13, ev.eq_14, ev.eq_15, ev.eq_16, ev.eq_17, ev.eq_18, ev.eq_19, ev.eq_20, ev.eq_21, ev.eq_22, ev.eq_23, evA, evs, evI, O.then, R.to, R.bind, EN.store, EN.storeAll, kp, kpF, seen, vw, opB, opC, opF, opI, opS, truD, R.val, R.dat, R.bool, isOwn, isLst, Env.at, O.end, retO, mask, flatD, List.mapM_cons, List.mapM_nil, eqD, eqS, callR, prep, prepV, handAll, handed, slotsOf, backR, back, mdz, prtR, IE.nl, isiR, excAt, isTy, Tb.tok, Cn.toD, cnPut, gc0, gc1, gc2, gc3, nk4, ne2, efl, ln0, ln1, ln2, ln3, ln4, ln5, ln6, S_eq, S_list, S_len, S_lp, S_rp, S_cm, S_qt, S_none, S_e, S_ce, S_sp, S_mn, S_0, S_9, S_a, S_z]
  · simp [fds, exs, ex.eq_1, ex.eq_2, ex.eq_3, ex.eq_4, ex.eq_5, ex.eq_6, ex.eq_7, ex.eq_8, ex.eq_10, ex.eq_12, ex.eq_13, ex.eq_14, ex.eq_15, ev.eq_1, ev.eq_2, ev.eq_3, ev.eq_4, ev.eq_5, ev.eq_6, ev.eq_7, ev.eq_8, ev.eq_9, ev.eq_10, ev.eq_11, ev.eq_12, ev.eq_13, ev.eq_14, ev.eq_15, ev.eq_16, ev.eq_17, ev.eq_18, ev.eq_19, ev.eq_20, ev.eq_21, ev.eq_22, ev.eq_23, evA, evs, evI, O.then, R.to, R.bind, EN.store, EN.storeAll, kp, kpF, seen, vw, opB, opC, opF, opI, opS, truD, R.val, R.dat, R.bool, isOwn, isLst, Env.at, O.end, retO, mask, flatD, List.mapM_cons, List.mapM_nil, eqD, eqS, callR, prep, prepV, handAll, handed, slotsOf, backR, back, mdz, prtR, IE.nl, isiR, excAt, isTy, Tb.tok, Cn.toD, cnPut, gc0, gc1, gc2, gc3, nk4, ne2, efl, ln0, ln1, ln2, ln3, ln4, ln5, ln6, S_eq, S_list, S_len, S_lp, S_rp, S_cm, S_qt, S_none, S_e, S_ce, S_sp, S_mn, S_0, S_9, S_a, S_z]
def eqA : IS := .ifS (.or (.not (.isi (.var 0) .tuple)) (.cmp .ne (.bi .len (.cons (.var 0) .nil)) (.bi .len (.cons (.var 1) .nil)))) (.cons (.ret (.lit (.bl false))) .nil) .nil
theorem eq_len (fn : Fn) (vs : List D) : ev tb fn 2 (.cmp .ne (.bi .len (.cons (.var 0) .nil)) (.bi .len (.cons (.var 1) .nil))) [.d (.tup vs), .d (.tup vs), .un] = .ok (.d (.bl false)) [.d (.tup vs), .d (.tup vs), .un] := by
  simp [fds, exs, ex.eq_1, ex.eq_2, ex.eq_3, ex.eq_4, ex.eq_5, ex.eq_6, ex.eq_7, ex.eq_8, ex.eq_10, ex.eq_12, ex.eq_13, ex.eq_14, ex.eq_15, ev.eq_1, ev.eq_2, ev.eq_3, ev.eq_4, ev.eq_5, ev.eq_6, ev.eq_7, ev.eq_8, ev.eq_9, ev.eq_10, ev.eq_11, ev.eq_12, ev.eq_13, ev.eq_14, ev.eq_15, ev.eq_16, ev.eq_17, ev.eq_18, ev.eq_19, ev.eq_20, ev.eq_21, ev.eq_22, ev.eq_23, evA, evs, evI, O.then, R.to, R.bind, EN.store, EN.storeAll, kp, kpF, seen, vw, opB, opC, opF, opI, opS, truD, R.val, R.dat, R.bool, isOwn, isLst, Env.at, O.end, retO, mask, flatD, List.mapM_cons, List.mapM_nil, eqD, eqS, callR, prep, prepV, handAll, handed, slotsOf, backR, back, mdz, prtR, IE.nl, isiR, excAt, isTy, Tb.tok, Cn.toD, cnPut, gc0, gc1, gc2, gc3, nk4, ne2, efl, ln0, ln1, ln2, ln3, ln4, ln5, ln6, S_eq, S_list, S_len, S_lp, S_rp, S_cm, S_qt, S_none, S_e, S_ce, S_sp, S_mn, S_0, S_9, S_a, S_z]
theorem eq_a (fn : Fn) (vs : List D) : ex tb fn 2 eqA [.d (.tup vs), .d (.tup vs), .un] = .nx [.d (.tup vs), .d (.tup vs), .un] := by
  unfold eqA
  exact (ex_if_f ((ev_or_f (ev_not (b := true) (ev_isi (x := .tup vs) rfl (by simp [fds, exs, ex.eq_1, ex.eq_2, ex.eq_3, ex.eq_4, ex.eq_5, ex.eq_6, ex.eq_7, ex.eq_8, ex.eq_10, ex.eq_12, ex.eq_13, ex.eq_14, ex.eq_15, ev.eq_1, ev.eq_2, ev.eq_3, ev.eq_4, ev.eq_5, ev.eq_6, ev.eq_7, ev.eq_8, ev.eq_9, ev.eq_10, ev.eq_11, ev.eq_12, ev.eq_13, ev.eq_14, ev.eq_15, ev.eq_16, ev.eq_17, ev.eq_18, ev.eq_19, ev.eq_20, ev.eq_21, ev.eq_22, ev.eq_23, evA, evs, evI, O.then, R.to, R.bind, EN.store, EN.storeAll, kp, kpF, seen, vw, opB, opC, opF, opI, opS, truD, R.val, R.dat, R.bool, isOwn, isLst, Env.at, O.end, retO, mask, flatD, List.mapM_cons, List.mapM_nil, eqD, eqS, callR, prep, prepV, handAll, handed, slotsOf, backR, back, mdz, prtR, IE.nl, isiR, excAt, isTy, Tb.tok, Cn.toD, cnPut, gc0, gc1, gc2, gc3, nk4, ne2, efl, ln0, ln1, ln2, ln3, ln4, ln5, ln6, S_eq, S_list, S_len, S_lp, S_rp, S_cm, S_qt, S_none, S_e, S_ce, S_sp, S_mn, S_0, S_9, S_a, S_z])))).trans (eq_len fn vs))).trans exs_nil
theorem eq_tup (k : Nat) (vs : List D) (hl : vs.length ≤ line) (h : ∀ x ∈ vs, ∃ ps, runF tb fds k 8 [.d x, .d x] = .ok (.d (.bl true)) ps) : ∃ ps, runF tb fds (k + 1) 8 [.d (.tup vs), .d (.tup vs)] = .ok (.d (.bl true)) ps := by
  obtain ⟨s', e⟩ := eq_loop (runF tb fds k) vs h (rngD 0 (vs.length : Int)) .un (fun x hx => rng_mem hx)
  have ef := ex_for_nx (it := .rng (.bi .len (.cons (.var 1) .nil))) (evI_rng (by simp [fds, exs, ex.eq_1, ex.eq_2, ex.eq_3, ex.eq_4, ex.eq_5, ex.eq_6, ex.eq_7, ex.eq_8, ex.eq_10, ex.eq_12, ex.eq_13, ex.eq_14, ex.eq_15, ev.eq_1, ev.eq_2, ev.eq_3, ev.eq_4, ev.eq_5, ev.eq_6, ev.eq_7, ev.eq_8, ev.eq_9, ev.eq_10, ev.eq_11, ev.eq_12, ev.eq_13, ev.eq_14, ev.eq_15, ev.eq_16, ev.eq_17, ev.eq_18, ev.eq_19, ev.eq_20, ev.eq_21, ev.eq_22, ev.eq_23, evA, evs, evI, O.then, R.to, R.bind, EN.store, EN.storeAll, kp, kpF, seen, vw, opB, opC, opF, opI, opS, truD, R.val, R.dat, R.bool, isOwn, isLst, Env.at, O.end, retO, mask, flatD, List.mapM_cons, List.mapM_nil, eqD, eqS, callR, prep, prepV, handAll, handed, slotsOf, backR, back, mdz, prtR, IE.nl, isiR, excAt, isTy, Tb.tok, Cn.toD, cnPut, gc0, gc1, gc2, gc3, nk4, ne2, efl, ln0, ln1, ln2, ln3, ln4, ln5, ln6, S_eq, S_list, S_len, S_lp, S_rp, S_cm, S_qt, S_none, S_e, S_ce, S_sp, S_mn, S_0, S_9, S_a, S_z]) (rng_ok hl)) e
  have ew : exs tb (runF tb fds k) 2 (.cons (.forS 2 (.rng (.bi .len (.cons (.var 1) .nil))) eqB) (.cons (.ret (.lit (.bl true))) .nil)) [.d (.tup vs), .d (.tup vs), .un] = .rt (.d (.bl true)) [.d (.tup vs), .d (.tup vs), s'] := by
    rw [exs_cons ef]
    simp [fds, exs, ex.eq_1, ex.eq_2, ex.eq_3, ex.eq_4, ex.eq_5, ex.eq_6, ex.eq_7, ex.eq_8, ex.eq_10, ex.eq_12, ex.eq_13, ex.eq_14, ex.eq_15, ev.eq_1, ev.eq_2, ev.eq_3, ev.eq_4, ev.eq_5, ev.eq_6, ev.eq_7, ev.eq_8, ev.eq_9, ev.eq_10, ev.eq_11, ev.eq_12, ev.eq_13, ev.eq_14, ev.eq_15, ev.eq_16, ev.eq_17, ev.eq_18, ev.eq_19, ev.eq_20, ev.eq_21, ev.eq_22, ev.eq_23, evA, evs, evI, O.then, R.to, R.bind, EN.store, EN.storeAll, kp, kpF, seen, vw, opB, opC, opF, opI, opS, truD, R.val, R.dat, R.bool, isOwn, isLst, Env.at, O.end, retO, mask, flatD, List.mapM_cons, List.mapM_nil, eqD, eqS, callR, prep, prepV, handAll, handed, slotsOf, backR, back, mdz, prtR, IE.nl, isiR, excAt, isTy, Tb.tok, Cn.toD, cnPut, gc0, gc1, gc2, gc3, nk4, ne2, efl, ln0, ln1, ln2, ln3, ln4, ln5, ln6, S_eq, S_list, S_len, S_lp, S_rp, S_cm, S_qt, S_none, S_e, S_ce, S_sp, S_mn, S_0, S_9, S_a, S_z]
  refine ⟨[.un, .un], ?_⟩
  rw [runF]
  have eb : b__law_equal = .cons (.ifS (.isN (.var 1)) (.cons (.ret (.isN (.var 0))) .nil) .nil) (.cons (.ifS (.isi (.var 1) .bool) (.cons (.ret (.and (.isi (.var 0) .bool) (.cmp .eq (.var 0) (.var 1)))) .nil) .nil)
    (.cons (.ifS (.isi (.var 1) .int) (.cons (.ret (.and (.isi (.var 0) .int) (.and (.not (.isi (.var 0) .bool)) (.cmp .eq (.var 0) (.var 1))))) .nil) .nil) (.cons (.ifS (.isi (.var 1) .str) (.cons (.ret (.and (.isi (.var 0) .str) (.cmp .eq (.var 0) (.var 1)))) .nil) .nil) (.cons eqA
      (.cons (.forS 2 (.rng (.bi .len (.cons (.var 1) .nil))) eqB) (.cons (.ret (.lit (.bl true))) .nil)))))) := rfl
  simp only [fds, eb]
  have t := eq_a (runF tb fds k) vs
  generalize (ISs.cons (.forS 2 (.rng (.bi .len (.cons (.var 1) .nil))) eqB) (.cons (.ret (.lit (.bl true))) .nil)) = W at ew ⊢
  generalize eqA = A at t ⊢
  simp [fds, exs, ex.eq_1, ex.eq_2, ex.eq_3, ex.eq_4, ex.eq_5, ex.eq_6, ex.eq_7, ex.eq_8, ex.eq_10, ex.eq_12, ex.eq_13, ex.eq_14, ex.eq_15, ev.eq_1, ev.eq_2, ev.eq_3, ev.eq_4, ev.eq_5, ev.eq_6, ev.eq_7, ev.eq_8, ev.eq_9, ev.eq_10, ev.eq_11, ev.eq_12, ev.eq_13, ev.eq_14, ev.eq_15, ev.eq_16, ev.eq_17, ev.eq_18, ev.eq_19, ev.eq_20, ev.eq_21, ev.eq_22, ev.eq_23, evA, evs, evI, O.then, R.to, R.bind, EN.store, EN.storeAll, kp, kpF, seen, vw, opB, opC, opF, opI, opS, truD, R.val, R.dat, R.bool, isOwn, isLst, Env.at, O.end, retO, mask, flatD, List.mapM_cons, List.mapM_nil, eqD, eqS, callR, prep, prepV, handAll, handed, slotsOf, backR, back, mdz, prtR, IE.nl, isiR, excAt, isTy, Tb.tok, Cn.toD, cnPut, gc0, gc1, gc2, gc3, nk4, ne2, efl, ln0, ln1, ln2, ln3, ln4, ln5, ln6, S_eq, S_list, S_len, S_lp, S_rp, S_cm, S_qt, S_none, S_e, S_ce, S_sp, S_mn, S_0, S_9, S_a, S_z, ew, t]
theorem run_equal : ∀ (d k : Nat) (v : D), fineV d v → ∃ ps, runF tb fds (d + 1 + k) 8 [.d v, .d v] = .ok (.d (.bl true)) ps
  | 0, k, v, h => by
    rw [show 0 + 1 + k = k + 1 by omega]
    exact eq_leaf k v h
  | d + 1, k, v, h => by
    rw [show d + 1 + 1 + k = (d + 1 + k) + 1 by omega]
    rcases h with h | ⟨vs, rfl, hl, ha⟩
    · exact eq_leaf _ v h
    · exact eq_tup _ vs (by unfold line; omega) fun x hx => run_equal d k x (ha x hx)
end K74
namespace K74
open PySem EN NumText
theorem ex_try_rt {T : Tb} {fn : Fn} {np : Nat} {b : ISs} {hs : IHs} {ρ ρ1 : EN.Env} {v : IV} (h : exs T fn np b ρ = .rt v ρ1) : ex T fn np (.tryS b hs) ρ = .rt v ρ1 := by rw [ex.eq_16, h]
theorem ex_try_er {T : Tb} {fn : Fn} {np : Nat} {b : ISs} {hs : IHs} {ρ ρ1 : EN.Env} {c : Nat} {fs : List D} (h : exs T fn np b ρ = .er c fs ρ1) : ex T fn np (.tryS b hs) ρ = exh T fn np hs c fs ρ1 := by rw [ex.eq_16, h]
theorem fe_text (a b : D) : fieldE tb 1 [a, b] (Str.ofString "text") = some a := by
  have e : tb.ef 1 = [Str.ofString "text", Str.ofString "at"] := rfl
  unfold fieldE
  rw [e]
  have h : (Str.ofString "text" == Str.ofString "text") = true := by decide
  simp [List.lookup]
theorem fe_at (a b : D) : fieldE tb 1 [a, b] (Str.ofString "at") = some b := by
  have e : tb.ef 1 = [Str.ofString "text", Str.ofString "at"] := rfl
  unfold fieldE
  rw [e]
  have h : (Str.ofString "at" == Str.ofString "text") = false := by decide
  simp [List.lookup, h]
def tdS : ISs := (.cons (.asg 2 (.fld (.var 1) "at")) (.cons (.asg 3 (.and (.isi (.var 2) .int) (.and (.not (.isi (.var 2) .bool)) (.ch .le .le (.lit (.int 0)) (.var 2) (.bi .len (.cons (.var 0) .nil))))))
 (.cons (.ret (.tup (.cons (.lit (.str "text")) (.cons (.fld (.var 1) "text") (.cons (.var 3) .nil))))) .nil)))
theorem tdS_run (fn : Fn) (l : List Nat) (p : Nat) (hl : l.length ≤ line) (hp : p ≤ l.length) : ∃ ρ, exs tb fn 1 tdS [.d (.str (S l)), .exc 1 [.str (S l), .int (p : Int)], .un, .un] = .rt (.d (.tup [.str (Str.ofString "text"), .str (S l), .bl true])) ρ := by
  have h1 : (0 : Int) ≤ (p : Int) := by omega
  have h2 : (p : Int) ≤ (l.length : Int) := by omega
  refine ⟨[.d (.str (S l)), .exc 1 [.str (S l), .int (p : Int)], .d (.int p), .d (.bl true)], ?_⟩
  unfold tdS
  simp [fds, exs, ex.eq_1, ex.eq_2, ex.eq_3, ex.eq_4, ex.eq_5, ex.eq_6, ex.eq_7, ex.eq_8, ex.eq_10, ex.eq_12, ex.eq_13, ex.eq_14, ex.eq_15, ev.eq_1, ev.eq_2, ev.eq_3, ev.eq_4, ev.eq_5, ev.eq_6, ev.eq_7, ev.eq_8, ev.eq_9, ev.eq_10, ev.eq_11, ev.eq_12, ev.eq_13, ev.eq_14, ev.eq_15, ev.eq_16, ev.eq_17, ev.eq_18, ev.eq_19, ev.eq_20, ev.eq_21, ev.eq_22, ev.eq_23, evA, evs, evI, O.then, R.to, R.bind, EN.store, EN.storeAll, kp, kpF, seen, vw, opB, opC, opF, opI, opS, truD, R.val, R.dat, R.bool, isOwn, isLst, Env.at, O.end, retO, mask, flatD, List.mapM_cons, List.mapM_nil, eqD, eqS, callR, prep, prepV, handAll, handed, slotsOf, backR, back, mdz, prtR, IE.nl, isiR, excAt, isTy, Tb.tok, Cn.toD, cnPut, gc0, gc1, gc2, gc3, nk4, ne2, efl, ln0, ln1, ln2, ln3, ln4, ln5, ln6, S_eq, S_list, S_len, S_lp, S_rp, S_cm, S_qt, S_none, S_e, S_ce, S_sp, S_mn, S_0, S_9, S_a, S_z, fldR, fe_text, fe_at, h1, h2, hl]
theorem run_ltold (k : Nat) (l : List Nat) (hl : l.length ≤ 100000) : (∀ v, V true 20 l = some (v, []) → ∃ ps, runF tb fds (45 + k) 19 [.d (.str (S l))] = .ok (.d (.tup [.str (Str.ofString "value"), v])) ps) ∧
    ((∀ v, V true 20 l ≠ some (v, [])) → ∃ ps, runF tb fds (45 + k) 19 [.d (.str (S l))] = .ok (.d (.tup [.str (Str.ofString "text"), .str (S l), .bl true])) ps) := by
  have hl1 : l.length ≤ line := by unfold line; omega
  obtain ⟨u1, u2⟩ := run_untold k l hl
  have eb : b__law_told = .cons (.tryS (.cons (.ret (.tup (.cons (.lit (.str "value")) (.cons (.call 2 (.cons (.var 0) .nil)) .nil)))) .nil) (.cons 1 1 tdS .nil)) .nil := rfl
  rw [show 45 + k = (44 + k) + 1 by omega, runF]
  simp only [fds, eb]
  constructor
  · intro v hv
    obtain ⟨ps, e⟩ := u1 v hv
    have h : exs tb (runF tb fds (44 + k)) 1 (.cons (.ret (.tup (.cons (.lit (.str "value")) (.cons (.call 2 (.cons (.var 0) .nil)) .nil)))) .nil) [.d (.str (S l)), .un, .un, .un] = .rt (.d (.tup [.str (Str.ofString "value"), v])) [.d (.str (S l)), .un, .un, .un] := by
      simp [fds, exs, ex.eq_1, ex.eq_2, ex.eq_3, ex.eq_4, ex.eq_5, ex.eq_6, ex.eq_7, ex.eq_8, ex.eq_10, ex.eq_12, ex.eq_13, ex.eq_14, ex.eq_15, ev.eq_1, ev.eq_2, ev.eq_3, ev.eq_4, ev.eq_5, ev.eq_6, ev.eq_7, ev.eq_8, ev.eq_9, ev.eq_10, ev.eq_11, ev.eq_12, ev.eq_13, ev.eq_14, ev.eq_15, ev.eq_16, ev.eq_17, ev.eq_18, ev.eq_19, ev.eq_20, ev.eq_21, ev.eq_22, ev.eq_23, evA, evs, evI, O.then, R.to, R.bind, EN.store, EN.storeAll, kp, kpF, seen, vw, opB, opC, opF, opI, opS, truD, R.val, R.dat, R.bool, isOwn, isLst, Env.at, O.end, retO, mask, flatD, List.mapM_cons, List.mapM_nil, eqD, eqS, callR, prep, prepV, handAll, handed, slotsOf, backR, back, mdz, prtR, IE.nl, isiR, excAt, isTy, Tb.tok, Cn.toD, cnPut, gc0, gc1, gc2, gc3, nk4, ne2, efl, ln0, ln1, ln2, ln3, ln4, ln5, ln6, S_eq, S_list, S_len, S_lp, S_rp, S_cm, S_qt, S_none, S_e, S_ce, S_sp, S_mn, S_0, S_9, S_a, S_z, e]
    have h2 := exs_rt (ss := .nil) (ex_try_rt (hs := .cons 1 1 tdS .nil) h)
    refine ⟨[.un], ?_⟩
    show O.end _ (exs tb (runF tb fds (44 + k)) 1 _ [.d (.str (S l)), .un, .un, .un]) = _
    rw [h2]
    rfl
  · intro hv
    obtain ⟨p, ps, hp, e⟩ := u2 hv
    have h : exs tb (runF tb fds (44 + k)) 1 (.cons (.ret (.tup (.cons (.lit (.str "value")) (.cons (.call 2 (.cons (.var 0) .nil)) .nil)))) .nil) [.d (.str (S l)), .un, .un, .un] = .er 1 [.str (S l), .int (p : Int)] [.d (.str (S l)), .un, .un, .un] := by
      simp [fds, exs, ex.eq_1, ex.eq_2, ex.eq_3, ex.eq_4, ex.eq_5, ex.eq_6, ex.eq_7, ex.eq_8, ex.eq_10, ex.eq_12, ex.eq_13, ex.eq_14, ex.eq_15, ev.eq_1, ev.eq_2, ev.eq_3, ev.eq_4, ev.eq_5, ev.eq_6, ev.eq_7, ev.eq_8, ev.eq_9, ev.eq_10, ev.eq_11, ev.eq_12, ev.eq_13, ev.eq_14, ev.eq_15, ev.eq_16, ev.eq_17, ev.eq_18, ev.eq_19, ev.eq_20, ev.eq_21, ev.eq_22, ev.eq_23, evA, evs, evI, O.then, R.to, R.bind, EN.store, EN.storeAll, kp, kpF, seen, vw, opB, opC, opF, opI, opS, truD, R.val, R.dat, R.bool, isOwn, isLst, Env.at, O.end, retO, mask, flatD, List.mapM_cons, List.mapM_nil, eqD, eqS, callR, prep, prepV, handAll, handed, slotsOf, backR, back, mdz, prtR, IE.nl, isiR, excAt, isTy, Tb.tok, Cn.toD, cnPut, gc0, gc1, gc2, gc3, nk4, ne2, efl, ln0, ln1, ln2, ln3, ln4, ln5, ln6, S_eq, S_list, S_len, S_lp, S_rp, S_cm, S_qt, S_none, S_e, S_ce, S_sp, S_mn, S_0, S_9, S_a, S_z, e]
    obtain ⟨ρ, hs⟩ := tdS_run (runF tb fds (44 + k)) l p hl1 hp
    have h3 : exh tb (runF tb fds (44 + k)) 1 (.cons 1 1 tdS .nil) 1 [.str (S l), .int (p : Int)] [.d (.str (S l)), .un, .un, .un] = .rt (.d (.tup [.str (Str.ofString "text"), .str (S l), .bl true])) (goneE 1 ρ) := by
      rw [exh]
      rw [if_pos ⟨by decide, by decide⟩]
      show gone 1 (exs tb (runF tb fds (44 + k)) 1 tdS [.d (.str (S l)), .exc 1 [.str (S l), .int (p : Int)], .un, .un]) = _
      rw [hs]
      rfl
    have h2 := exs_rt (ss := .nil) ((ex_try_er (hs := .cons 1 1 tdS .nil) h).trans h3)
    refine ⟨mask [.d (.str (S l))] (goneE 1 ρ), ?_⟩
    show O.end _ (exs tb (runF tb fds (44 + k)) 1 _ [.d (.str (S l)), .un, .un, .un]) = _
    rw [h2]
    rfl
theorem fine_pair {d : Nat} {x : Str} {v : D} (h : fineV d v) : fineV (d + 1) (.tup [.str x, v]) := by
  refine .inr ⟨_, rfl, by simp, fun y hy => ?_⟩
  rcases List.mem_cons.mp hy with rfl | hy
  · cases d with
    | zero => exact .inr (.inr (.inr ⟨_, rfl⟩))
    | succ d => exact .inl (.inr (.inr (.inr ⟨_, rfl⟩)))
  · rw [List.mem_singleton.mp hy]; exact h
theorem fine_text (x y : Str) (b : Bool) : fineV 1 (.tup [.str x, .str y, .bl b]) := by
  refine .inr ⟨_, rfl, by simp, fun z hz => ?_⟩
  simp only [List.mem_cons, List.not_mem_nil, or_false] at hz
  rcases hz with rfl | rfl | rfl
  · exact .inr (.inr (.inr ⟨_, rfl⟩))
  · exact .inr (.inr (.inr ⟨_, rfl⟩))
  · exact .inr (.inl ⟨_, rfl⟩)
/-- a text is read as the law reads it -/
theorem run_right (k : Nat) (l : List Nat) (hl : l.length ≤ 100000) : ∃ ps, runF tb fds (46 + k) 20 [.d (.str (S l))] = .ok (.d (.bl true)) ps := by
  have hl1 : l.length ≤ line := by unfold line; omega
  have rd := run_lread 20 (23 + k) l hl 0 0 (Nat.zero_le _) rfl
  rw [List.drop_zero, show 20 + 2 + (23 + k) = 45 + k by omega] at rd
  have c0 : ((0 : Nat) : Int) = 0 := rfl
  rw [c0] at rd
  obtain ⟨t1, t2⟩ := run_ltold k l hl
  refine ⟨[.un], ?_⟩
  rw [show 46 + k = (45 + k) + 1 by omega, runF]
  simp only [fds, b__law_is_right]
  cases ho : V false 20 l with
  | none =>
    rw [ho] at rd
    obtain ⟨ps, e⟩ := rd
    obtain ⟨ps2, e2⟩ := t2 fun v z => by rw [V_tf _ _ _ z] at ho; cases ho
    obtain ⟨ps3, e3⟩ := run_equal 1 (43 + k) _ (fine_text (Str.ofString "text") (S l) true)
    rw [show 1 + 1 + (43 + k) = 45 + k by omega] at e3
    have hat : L2.atI [D.int (-1), D.non] (0 : Int) = some (.int (-1)) := rfl
    have ne : ¬ (-1 : Int) = (l.length : Int) := by omega
    simp [fds, exs, ex.eq_1, ex.eq_2, ex.eq_3, ex.eq_4, ex.eq_5, ex.eq_6, ex.eq_7, ex.eq_8, ex.eq_10, ex.eq_12, ex.eq_13, ex.eq_14, ex.eq_15, ev.eq_1, ev.eq_2, ev.eq_3, ev.eq_4, ev.eq_5, ev.eq_6, ev.eq_7, ev.eq_8, ev.eq_9, ev.eq_10, ev.eq_11, ev.eq_12, ev.eq_13, ev.eq_14, ev.eq_15, ev.eq_16, ev.eq_17, ev.eq_18, ev.eq_19, ev.eq_20, ev.eq_21, ev.eq_22, ev.eq_23, evA, evs, evI, O.then, R.to, R.bind, EN.store, EN.storeAll, kp, kpF, seen, vw, opB, opC, opF, opI, opS, truD, R.val, R.dat, R.bool, isOwn, isLst, Env.at, O.end, retO, mask, flatD, List.mapM_cons, List.mapM_nil, eqD, eqS, callR, prep, prepV, handAll, handed, slotsOf, backR, back, mdz, prtR, IE.nl, isiR, excAt, isTy, Tb.tok, Cn.toD, cnPut, gc0, gc1, gc2, gc3, nk4, ne2, efl, ln0, ln1, ln2, ln3, ln4, ln5, ln6, S_eq, S_list, S_len, S_lp, S_rp, S_cm, S_qt, S_none, S_e, S_ce, S_sp, S_mn, S_0, S_9, S_a, S_z, e, e2, e3, hat, ne, hl1]
  | some q =>
    rw [ho] at rd
    obtain ⟨ps, e⟩ := rd
    by_cases hq : q.2 = []
    · have hv : V true 20 l = some (q.1, []) := by
        rw [← hq]
        exact V_ft _ _ _ ho (by rw [hq]; rfl)
      obtain ⟨ps2, e2⟩ := t1 _ hv
      have fv := V_fine true 20 l _ hl hv
      obtain ⟨ps3, e3⟩ := run_equal 21 (23 + k) _ (fine_pair (x := Str.ofString "value") fv)
      rw [show 21 + 1 + (23 + k) = 45 + k by omega] at e3
      have e : runF tb fds (45 + k) 16 [.d (.str (S l)), .d (.int 0), .d (.int 0)] = .ok (.d (.tup [.int (l.length : Int), q.1])) ps := by
        rw [e, hq]; rfl
      have hat : L2.atI [D.int (l.length : Int), q.1] (0 : Int) = some (.int (l.length : Int)) := rfl
      have hat1 : L2.atI [D.int (l.length : Int), q.1] (1 : Int) = some q.1 := rfl
      simp [fds, exs, ex.eq_1, ex.eq_2, ex.eq_3, ex.eq_4, ex.eq_5, ex.eq_6, ex.eq_7, ex.eq_8, ex.eq_10, ex.eq_12, ex.eq_13, ex.eq_14, ex.eq_15, ev.eq_1, ev.eq_2, ev.eq_3, ev.eq_4, ev.eq_5, ev.eq_6, ev.eq_7, ev.eq_8, ev.eq_9, ev.eq_10, ev.eq_11, ev.eq_12, ev.eq_13, ev.eq_14, ev.eq_15, ev.eq_16, ev.eq_17, ev.eq_18, ev.eq_19, ev.eq_20, ev.eq_21, ev.eq_22, ev.eq_23, evA, evs, evI, O.then, R.to, R.bind, EN.store, EN.storeAll, kp, kpF, seen, vw, opB, opC, opF, opI, opS, truD, R.val, R.dat, R.bool, isOwn, isLst, Env.at, O.end, retO, mask, flatD, List.mapM_cons, List.mapM_nil, eqD, eqS, callR, prep, prepV, handAll, handed, slotsOf, backR, back, mdz, prtR, IE.nl, isiR, excAt, isTy, Tb.tok, Cn.toD, cnPut, gc0, gc1, gc2, gc3, nk4, ne2, efl, ln0, ln1, ln2, ln3, ln4, ln5, ln6, S_eq, S_list, S_len, S_lp, S_rp, S_cm, S_qt, S_none, S_e, S_ce, S_sp, S_mn, S_0, S_9, S_a, S_z, e, e2, e3, hat, hat1, hl1]
    · have hlen : 0 < q.2.length := List.length_pos_iff.mpr hq
      obtain ⟨pr, h1, h2⟩ := V_suf false 20 _ q.1 q.2 ho
      have h3 := congrArg List.length h2
      rw [List.length_append] at h3
      obtain ⟨ps2, e2⟩ := t2 fun v z => hq (by
        have := V_tf _ _ _ z
        rw [ho] at this
        cases this; rfl)
      obtain ⟨ps3, e3⟩ := run_equal 1 (43 + k) _ (fine_text (Str.ofString "text") (S l) true)
      rw [show 1 + 1 + (43 + k) = 45 + k by omega] at e3
      have ne : ¬ ((l.length - q.2.length : Nat) : Int) = (l.length : Int) := by omega
      generalize hx : ((l.length - q.2.length : Nat) : Int) = x at e ne
      have hat : L2.atI [D.int x, q.1] (0 : Int) = some (.int x) := rfl
      simp [fds, exs, ex.eq_1, ex.eq_2, ex.eq_3, ex.eq_4, ex.eq_5, ex.eq_6, ex.eq_7, ex.eq_8, ex.eq_10, ex.eq_12, ex.eq_13, ex.eq_14, ex.eq_15, ev.eq_1, ev.eq_2, ev.eq_3, ev.eq_4, ev.eq_5, ev.eq_6, ev.eq_7, ev.eq_8, ev.eq_9, ev.eq_10, ev.eq_11, ev.eq_12, ev.eq_13, ev.eq_14, ev.eq_15, ev.eq_16, ev.eq_17, ev.eq_18, ev.eq_19, ev.eq_20, ev.eq_21, ev.eq_22, ev.eq_23, evA, evs, evI, O.then, R.to, R.bind, EN.store, EN.storeAll, kp, kpF, seen, vw, opB, opC, opF, opI, opS, truD, R.val, R.dat, R.bool, isOwn, isLst, Env.at, O.end, retO, mask, flatD, List.mapM_cons, List.mapM_nil, eqD, eqS, callR, prep, prepV, handAll, handed, slotsOf, backR, back, mdz, prtR, IE.nl, isiR, excAt, isTy, Tb.tok, Cn.toD, cnPut, gc0, gc1, gc2, gc3, nk4, ne2, efl, ln0, ln1, ln2, ln3, ln4, ln5, ln6, S_eq, S_list, S_len, S_lp, S_rp, S_cm, S_qt, S_none, S_e, S_ce, S_sp, S_mn, S_0, S_9, S_a, S_z, e, e2, e3, hat, ne, hl1]
end K74
namespace K74
open PySem EN NumText
/-! values and their texts -/
def joinT : List (List Nat) → List Nat
  | [] => []
  | p :: r => p ++ (r.map fun x => 44 :: x).flatten
mutual
def tT : D → List Nat
  | .non => [110, 111, 110, 101]
  | .bl _ => []
  | .int i => (Str.ofString (toString i)).cps.toList
  | .str x => 34 :: (x.cps.toList ++ [34])
  | .tup ds => 40 :: (joinT (tTs ds) ++ (if ds.length = 1 then [44, 41] else [41]))
  | .lst _ => []
  | .scr _ => []
  | .dK _ _ => []
  | .dT _ _ => []
  | .obj _ _ => []
def tTs : List D → List (List Nat)
  | [] => []
  | d :: ds => tT d :: tTs ds
end
theorem tTs_map : ∀ ds, tTs ds = ds.map tT
  | [] => by simp [tTs]
  | d :: ds => by simp [tTs, tTs_map ds]
def gl (v : D) : Prop := v = .non ∨ (∃ i : Int, v = .int i ∧ i.natAbs < 10 ^ 12) ∨ ∃ w : List Nat, v = .str (S w) ∧ w ≠ [] ∧ w.all isL = true ∧ w.length ≤ 13
def gv : Nat → D → Prop
  | 0, v => gl v
  | d + 1, v => gl v ∨ ∃ vs, v = .tup vs ∧ vs.length ≤ 6 ∧ ∀ x ∈ vs, gv d x
theorem gv_up : ∀ (d : Nat) (v : D), gv d v → gv (d + 1) v
  | 0, v, h => .inl h
  | d + 1, v, h => h.imp_right fun ⟨vs, e, l, a⟩ => ⟨vs, e, l, fun x hx => gv_up d x (a x hx)⟩
theorem gv_fine : ∀ (d : Nat) (v : D), gv d v → fineV d v
  | 0, v, h => by
    rcases h with h | ⟨i, h, _⟩ | ⟨w, h, _⟩
    · exact .inl h
    · exact .inr (.inr (.inl ⟨i, h⟩))
    · exact .inr (.inr (.inr ⟨_, h⟩))
  | d + 1, v, h => by
    rcases h with h | ⟨vs, e, l, a⟩
    · rcases h with h | ⟨i, h, _⟩ | ⟨w, h, _⟩
      · exact .inl (.inl h)
      · exact .inl (.inr (.inr (.inl ⟨i, h⟩)))
      · exact .inl (.inr (.inr (.inr ⟨_, h⟩)))
    · exact .inr ⟨vs, e, by omega, fun x hx => gv_fine d x (a x hx)⟩
/-- a number's text -/
theorem digs_all (m : Nat) : AllDigits ((Nat.toDigits 10 m).map Char.toNat) := fun c hc => by
  obtain ⟨ch, hch, e⟩ := List.mem_map.mp hc
  rw [← e]
  exact PyProof.Rows.digit_range (Nat.isDigit_of_mem_toDigits (by decide) (by decide) hch)
theorem digs_ne (m : Nat) : (Nat.toDigits 10 m).map Char.toNat ≠ [] := fun h => by
  have := PyProof.Rows.tDigits_len_ge 10 m
  have h := congrArg List.length h
  rw [List.length_map] at h
  simp only [List.length_nil] at h
  omega
theorem num_rt (i : Int) (h : i.natAbs < 10 ^ 12) : canon (tT (.int i)) = true ∧ pv (tT (.int i)) = i ∧ (tT (.int i)).all (fun c => !delim c) = true ∧ (tT (.int i)).length ≤ 13 ∧ ∃ c r, tT (.int i) = c :: r ∧ (c = 45 ∨ (48 ≤ c ∧ c ≤ 57)) := by
  have nd : ∀ l, AllDigits l → l.all (fun c => !delim c) = true := fun l hl => List.all_eq_true.mpr fun c hc => by
    have := hl c hc
    unfold delim
    have a : c ≠ 44 := by omega
    have b : c ≠ 41 := by omega
    simp [a, b]
  have dg : ∀ l, AllDigits l → l.all dig = true := fun l hl => List.all_eq_true.mpr fun c hc => by
    have := hl c hc
    unfold dig
    simpa using this
  rcases Int.eq_nat_or_neg i with ⟨m, hm | hm⟩
  · subst hm
    have hm : m < 10 ^ 12 := by simpa using h
    have e : tT (.int (m : Int)) = (Nat.toDigits 10 m).map Char.toNat := by
      rw [tT, text_nat]
    have a := digs_all m
    have ne := digs_ne m
    have len : ((Nat.toDigits 10 m).map Char.toNat).length ≤ 12 := by
      rw [List.length_map]
      exact PyProof.Rows.digits10_le (by decide) hm
    have val : digitsVal ((Nat.toDigits 10 m).map Char.toNat) = m := PySem.W.KIN.val_back m
    have cp := canonP a ne
    rw [val, text_nat] at cp
    have cp := cp.mp rfl
    rw [e]
    generalize (Nat.toDigits 10 m).map Char.toNat = w at a ne len val cp
    obtain ⟨c, r, rfl⟩ : ∃ c r, w = c :: r := by
      cases w with
      | nil => exact absurd rfl ne
      | cons c r => exact ⟨c, r, rfl⟩
    have hc := a.head
    have h45 : c ≠ 45 := by omega
    rcases figs_45 (w := c :: r) with ⟨q, e1, _⟩ | ⟨_, e2, e3, e4⟩
    · exact absurd (List.cons.inj e1).1 h45
    · refine ⟨?_, by rw [e4, val], nd _ a, by omega, c, r, rfl, .inr hc⟩
      unfold canon
      rw [e2, e3, dg _ a, decide_eq_true (by simp : 1 ≤ (c :: r).length), decide_eq_true len]
      rcases cp with cp | cp
      · rw [decide_eq_false (fun z => cp z)]; rfl
      · rw [cp]; rfl
  · subst hm
    have hm : m < 10 ^ 12 := by simpa using h
    by_cases hz : m = 0
    · subst hz
      have e : tT (.int (-((0 : Nat) : Int))) = [48] := by
        rw [tT]; decide
      rw [e]
      refine ⟨by decide, by decide, by decide, by decide, 48, [], rfl, .inr ⟨by omega, by omega⟩⟩
    · have e : tT (.int (-(m : Int))) = 45 :: (Nat.toDigits 10 m).map Char.toNat := by
        rw [tT, text_neg m (by omega)]
      have a := digs_all m
      have ne := digs_ne m
      have len : ((Nat.toDigits 10 m).map Char.toNat).length ≤ 12 := by
        rw [List.length_map]
        exact PyProof.Rows.digits10_le (by decide) hm
      have val : digitsVal ((Nat.toDigits 10 m).map Char.toNat) = m := PySem.W.KIN.val_back m
      have cn := canonN a ne
      rw [val, text_neg m (by omega)] at cn
      have cn := cn.mp rfl
      rw [e]
      generalize (Nat.toDigits 10 m).map Char.toNat = w at a ne len val cn
      have l1 : 1 ≤ w.length := List.length_pos_iff.mpr ne
      refine ⟨?_, by show -((digitsVal w : Nat) : Int) = _; rw [val], ?_, by simp; omega, 45, w, rfl, .inl rfl⟩
      · show (decide (1 ≤ w.length) && decide (w.length ≤ 12) && w.all dig && !(decide (w.head? = some 48) && (decide (1 < w.length) || true))) = true
        rw [decide_eq_true l1, decide_eq_true len, dg _ a, decide_eq_false cn]; rfl
      · show (!delim 45 && w.all (fun c => !delim c)) = true
        rw [nd _ a]; rfl
theorem text_head : ∀ (d : Nat) (v : D), gv d v → ∃ c r, tT v = c :: r ∧ c ≠ 41 ∧ c ≠ 44 := by
  have base : ∀ v, gl v → ∃ c r, tT v = c :: r ∧ c ≠ 41 ∧ c ≠ 44 := fun v h => by
    rcases h with rfl | ⟨i, rfl, hi⟩ | ⟨w, rfl, _⟩
    · exact ⟨110, _, by rw [tT], by omega, by omega⟩
    · obtain ⟨_, _, _, _, c, r, e, hc⟩ := num_rt i hi
      exact ⟨c, r, e, by omega, by omega⟩
    · exact ⟨34, _, by rw [tT], by omega, by omega⟩
  intro d v h
  cases d with
  | zero => exact base v h
  | succ d =>
    rcases h with h | ⟨vs, rfl, _⟩
    · exact base v h
    · exact ⟨40, _, by rw [tT], by omega, by omega⟩
theorem join_len : ∀ (p : List Nat) (r : List (List Nat)), (joinT (p :: r)).length = ((p :: r).map List.length).sum + r.length
  | p, [] => by simp [joinT]
  | p, x :: r => by
    have := join_len x r
    unfold joinT at this ⊢
    simp only [List.map_cons, List.flatten_cons, List.length_append, List.length_cons, List.sum_cons] at this ⊢
    omega
theorem mem_len {a : List Nat} {l : List (List Nat)} (h : a ∈ l) : a.length ≤ (joinT l).length := by
  cases l with
  | nil => cases h
  | cons p r =>
    rw [join_len]
    have : ∀ (l : List (List Nat)), a ∈ l → a.length ≤ (l.map List.length).sum := fun l => by
      induction l with
      | nil => intro h; cases h
      | cons x l ih =>
        intro h
        rw [List.map_cons, List.sum_cons]
        rcases List.mem_cons.mp h with rfl | h
        · omega
        · have := ih h; omega
    have := this (p :: r) h
    omega
theorem join_nil (s : Str) : Txt.join s [] = S [] := rfl
theorem join_all (l : List (List Nat)) : Txt.join (S [44]) (l.map S) = S (joinT l) := by
  cases l with
  | nil => rfl
  | cons p r => exact join_eq p r
/-- told, of a tuple's parts -/
theorem told_parts (d : Nat) (fn : Fn) (f i : Nat) (hf : f = 1 ∨ f = 13) (vs : List D) (h : ∀ x ∈ vs, ∃ ps, fn f [.d x] = .ok (.d (.str (S (tT x)))) ps) (hl : vs.length ≤ line) (ρ : EN.Env) (h0 : ρ.at 0 = .d (.tup vs)) (hi : i < ρ.length) (hu : ρ.at i = .un) (hs : ρ.set i .un = ρ) :
    ev tb fn 1 (.lc (.call f (.cons (.var i) .nil)) i (.e (.var 0)) false (.lit (.bl true))) ρ = .ok (.fr (.lst (vs.map fun x => .str (S (tT x))))) ρ := by
  refine ev_lc (v := .tup vs) (fun x => .str (S (tT x))) ?_ hu hs fun x hx => ?_
  · unfold evI
    rw [ev.eq_1, h0]
    show (match walkD (.tup vs) with
      | some xs => if xs.length ≤ line then R.ok (IV.d (.tup vs), xs) ρ else R.no
      | none => R.no) = _
    show (if vs.length ≤ line then _ else _) = _
    rw [if_pos hl]
  · obtain ⟨ps, e⟩ := h x hx
    have hat : EN.Env.at (ρ.set i (.d x)) i = .d x := by rw [at_set, if_pos ⟨rfl, hi⟩]
    have ec : ev tb fn 1 (.call f (.cons (.var i) .nil)) (ρ.set i (.d x)) = .ok (.d (.str (S (tT x)))) (ρ.set i (.d x)) := by
      rw [ev.eq_20]
      have ea : evA tb fn 1 (.cons (.var i) .nil) (ρ.set i (.d x)) = .ok [.d x] (ρ.set i (.d x)) := by
        rw [evA, ev.eq_1, hat]
        rfl
      rw [ea]
      show callR tb fn 1 f [.d x] (ρ.set i (.d x)) = _
      simp [callR, prep, prepV, handAll, handed, slotsOf, backR, back, R.bind, e, mdz]
    rw [ec]
    rfl
end K74
namespace K74
open PySem EN NumText
theorem S_int (i : Int) : Str.ofString i.repr = S (tT (.int i)) := by
  rw [tT]; exact S_of _
theorem join_op (vs : List D) (h : (joinT (tTs vs)).length ≤ 100000) : opM .join (S [44]) [.lst (vs.map fun x => .str (S (tT x)))] = some (.str (S (joinT (tTs vs)))) := by
  have e : (vs.map fun x => S (tT x)) = (tTs vs).map S := by rw [tTs_map, List.map_map]; rfl
  have b : (((tTs vs).map S).map (·.length)).sum + ((tTs vs).map S).length * (S [44]).length ≤ line := by
    have e2 : ((tTs vs).map S).map (·.length) = (tTs vs).map List.length := by rw [List.map_map]; rfl
    rw [e2, List.length_map]
    show _ + (tTs vs).length * 1 ≤ line
    cases hq : tTs vs with
    | nil => exact Nat.zero_le _
    | cons p r =>
      rw [hq, join_len] at h
      unfold line
      simp only [List.length_cons] at h ⊢
      omega
  show (match strs? (vs.map fun x => D.str (S (tT x))) with
    | some ys => if (ys.map (fun x : Str => x.length)).sum + ys.length * (S [44]).length ≤ line then some (D.str (Txt.join (S [44]) ys)) else none
    | none => none) = _
  rw [strs_map (fun x => S (tT x)) vs]
  show (if ((vs.map fun x => S (tT x)).map (·.length)).sum + (vs.map fun x => S (tT x)).length * (S [44]).length ≤ line then some (D.str (Txt.join (S [44]) (vs.map fun x => S (tT x)))) else none) = _
  rw [e, if_pos b, join_all]
theorem told_leaf (k f : Nat) (hf : f = 1 ∨ f = 13) (v : D) (h : gl v) : ∃ ps, runF tb fds (k + 1) f [.d v] = .ok (.d (.str (S (tT v)))) ps := by
  refine ⟨[.un], ?_⟩
  rw [runF]
  rcases hf with rfl | rfl
  · simp only [fds, b_told]
    rcases h with rfl | ⟨i, rfl, hi⟩ | ⟨w, rfl, h1, h2, h3⟩
    · simp [fds, exs, ex.eq_1, ex.eq_2, ex.eq_3, ex.eq_4, ex.eq_5, ex.eq_6, ex.eq_7, ex.eq_8, ex.eq_10, ex.eq_12, ex.eq_13, ex.eq_14, ex.eq_15, ev.eq_1, ev.eq_2, ev.eq_3, ev.eq_4, ev.eq_5, ev.eq_6, ev.eq_7, ev.eq_8, ev.eq_9, ev.eq_10, ev.eq_11, ev.eq_12, ev.eq_13, ev.eq_14, ev.eq_15, ev.eq_16, ev.eq_17, ev.eq_18, ev.eq_19, ev.eq_20, ev.eq_21, ev.eq_22, ev.eq_23, evA, evs, evI, O.then, R.to, R.bind, EN.store, EN.storeAll, kp, kpF, seen, vw, opB, opC, opF, opI, opS, truD, R.val, R.dat, R.bool, isOwn, isLst, Env.at, O.end, retO, mask, flatD, List.mapM_cons, List.mapM_nil, eqD, eqS, callR, prep, prepV, handAll, handed, slotsOf, backR, back, mdz, prtR, IE.nl, isiR, excAt, isTy, Tb.tok, Cn.toD, cnPut, gc0, gc1, gc2, gc3, nk4, ne2, efl, ln0, ln1, ln2, ln3, ln4, ln5, ln6, S_eq, S_list, S_len, S_lp, S_rp, S_cm, S_qt, S_none, S_e, S_ce, S_sp, S_mn, S_0, S_9, S_a, S_z, tT]
    · have hi := log_ok hi
      simp [fds, exs, ex.eq_1, ex.eq_2, ex.eq_3, ex.eq_4, ex.eq_5, ex.eq_6, ex.eq_7, ex.eq_8, ex.eq_10, ex.eq_12, ex.eq_13, ex.eq_14, ex.eq_15, ev.eq_1, ev.eq_2, ev.eq_3, ev.eq_4, ev.eq_5, ev.eq_6, ev.eq_7, ev.eq_8, ev.eq_9, ev.eq_10, ev.eq_11, ev.eq_12, ev.eq_13, ev.eq_14, ev.eq_15, ev.eq_16, ev.eq_17, ev.eq_18, ev.eq_19, ev.eq_20, ev.eq_21, ev.eq_22, ev.eq_23, evA, evs, evI, O.then, R.to, R.bind, EN.store, EN.storeAll, kp, kpF, seen, vw, opB, opC, opF, opI, opS, truD, R.val, R.dat, R.bool, isOwn, isLst, Env.at, O.end, retO, mask, flatD, List.mapM_cons, List.mapM_nil, eqD, eqS, callR, prep, prepV, handAll, handed, slotsOf, backR, back, mdz, prtR, IE.nl, isiR, excAt, isTy, Tb.tok, Cn.toD, cnPut, gc0, gc1, gc2, gc3, nk4, ne2, efl, ln0, ln1, ln2, ln3, ln4, ln5, ln6, S_eq, S_list, S_len, S_lp, S_rp, S_cm, S_qt, S_none, S_e, S_ce, S_sp, S_mn, S_0, S_9, S_a, S_z, hi, S_int]
    · have l1 : 1 + w.length ≤ line := by unfold line; omega
      have l2 : w.length + 1 + 1 ≤ line := by unfold line; omega
      have e : tT (.str (S w)) = 34 :: (w ++ [34]) := by rw [tT]
      simp [fds, exs, ex.eq_1, ex.eq_2, ex.eq_3, ex.eq_4, ex.eq_5, ex.eq_6, ex.eq_7, ex.eq_8, ex.eq_10, ex.eq_12, ex.eq_13, ex.eq_14, ex.eq_15, ev.eq_1, ev.eq_2, ev.eq_3, ev.eq_4, ev.eq_5, ev.eq_6, ev.eq_7, ev.eq_8, ev.eq_9, ev.eq_10, ev.eq_11, ev.eq_12, ev.eq_13, ev.eq_14, ev.eq_15, ev.eq_16, ev.eq_17, ev.eq_18, ev.eq_19, ev.eq_20, ev.eq_21, ev.eq_22, ev.eq_23, evA, evs, evI, O.then, R.to, R.bind, EN.store, EN.storeAll, kp, kpF, seen, vw, opB, opC, opF, opI, opS, truD, R.val, R.dat, R.bool, isOwn, isLst, Env.at, O.end, retO, mask, flatD, List.mapM_cons, List.mapM_nil, eqD, eqS, callR, prep, prepV, handAll, handed, slotsOf, backR, back, mdz, prtR, IE.nl, isiR, excAt, isTy, Tb.tok, Cn.toD, cnPut, gc0, gc1, gc2, gc3, nk4, ne2, efl, ln0, ln1, ln2, ln3, ln4, ln5, ln6, S_eq, S_list, S_len, S_lp, S_rp, S_cm, S_qt, S_none, S_e, S_ce, S_sp, S_mn, S_0, S_9, S_a, S_z, e, S_app, l1, l2]
  · simp only [fds, b__law_text]
    rcases h with rfl | ⟨i, rfl, hi⟩ | ⟨w, rfl, h1, h2, h3⟩
    · simp [fds, exs, ex.eq_1, ex.eq_2, ex.eq_3, ex.eq_4, ex.eq_5, ex.eq_6, ex.eq_7, ex.eq_8, ex.eq_10, ex.eq_12, ex.eq_13, ex.eq_14, ex.eq_15, ev.eq_1, ev.eq_2, ev.eq_3, ev.eq_4, ev.eq_5, ev.eq_6, ev.eq_7, ev.eq_8, ev.eq_9, ev.eq_10, ev.eq_11, ev.eq_12, ev.eq_13, ev.eq_14, ev.eq_15, ev.eq_16, ev.eq_17, ev.eq_18, ev.eq_19, ev.eq_20, ev.eq_21, ev.eq_22, ev.eq_23, evA, evs, evI, O.then, R.to, R.bind, EN.store, EN.storeAll, kp, kpF, seen, vw, opB, opC, opF, opI, opS, truD, R.val, R.dat, R.bool, isOwn, isLst, Env.at, O.end, retO, mask, flatD, List.mapM_cons, List.mapM_nil, eqD, eqS, callR, prep, prepV, handAll, handed, slotsOf, backR, back, mdz, prtR, IE.nl, isiR, excAt, isTy, Tb.tok, Cn.toD, cnPut, gc0, gc1, gc2, gc3, nk4, ne2, efl, ln0, ln1, ln2, ln3, ln4, ln5, ln6, S_eq, S_list, S_len, S_lp, S_rp, S_cm, S_qt, S_none, S_e, S_ce, S_sp, S_mn, S_0, S_9, S_a, S_z, tT]
    · have hi := log_ok hi
      simp [fds, exs, ex.eq_1, ex.eq_2, ex.eq_3, ex.eq_4, ex.eq_5, ex.eq_6, ex.eq_7, ex.eq_8, ex.eq_10, ex.eq_12, ex.eq_13, ex.eq_14, ex.eq_15, ev.eq_1, ev.eq_2, ev.eq_3, ev.eq_4, ev.eq_5, ev.eq_6, ev.eq_7, ev.eq_8, ev.eq_9, ev.eq_10, ev.eq_11, ev.eq_12, ev.eq_13, ev.eq_14, ev.eq_15, ev.eq_16, ev.eq_17, ev.eq_18, ev.eq_19, ev.eq_20, ev.eq_21, ev.eq_22, ev.eq_23, evA, evs, evI, O.then, R.to, R.bind, EN.store, EN.storeAll, kp, kpF, seen, vw, opB, opC, opF, opI, opS, truD, R.val, R.dat, R.bool, isOwn, isLst, Env.at, O.end, retO, mask, flatD, List.mapM_cons, List.mapM_nil, eqD, eqS, callR, prep, prepV, handAll, handed, slotsOf, backR, back, mdz, prtR, IE.nl, isiR, excAt, isTy, Tb.tok, Cn.toD, cnPut, gc0, gc1, gc2, gc3, nk4, ne2, efl, ln0, ln1, ln2, ln3, ln4, ln5, ln6, S_eq, S_list, S_len, S_lp, S_rp, S_cm, S_qt, S_none, S_e, S_ce, S_sp, S_mn, S_0, S_9, S_a, S_z, hi, S_int]
    · have l1 : 1 + w.length ≤ line := by unfold line; omega
      have l2 : w.length + 1 + 1 ≤ line := by unfold line; omega
      have e : tT (.str (S w)) = 34 :: (w ++ [34]) := by rw [tT]
      simp [fds, exs, ex.eq_1, ex.eq_2, ex.eq_3, ex.eq_4, ex.eq_5, ex.eq_6, ex.eq_7, ex.eq_8, ex.eq_10, ex.eq_12, ex.eq_13, ex.eq_14, ex.eq_15, ev.eq_1, ev.eq_2, ev.eq_3, ev.eq_4, ev.eq_5, ev.eq_6, ev.eq_7, ev.eq_8, ev.eq_9, ev.eq_10, ev.eq_11, ev.eq_12, ev.eq_13, ev.eq_14, ev.eq_15, ev.eq_16, ev.eq_17, ev.eq_18, ev.eq_19, ev.eq_20, ev.eq_21, ev.eq_22, ev.eq_23, evA, evs, evI, O.then, R.to, R.bind, EN.store, EN.storeAll, kp, kpF, seen, vw, opB, opC, opF, opI, opS, truD, R.val, R.dat, R.bool, isOwn, isLst, Env.at, O.end, retO, mask, flatD, List.mapM_cons, List.mapM_nil, eqD, eqS, callR, prep, prepV, handAll, handed, slotsOf, backR, back, mdz, prtR, IE.nl, isiR, excAt, isTy, Tb.tok, Cn.toD, cnPut, gc0, gc1, gc2, gc3, nk4, ne2, efl, ln0, ln1, ln2, ln3, ln4, ln5, ln6, S_eq, S_list, S_len, S_lp, S_rp, S_cm, S_qt, S_none, S_e, S_ce, S_sp, S_mn, S_0, S_9, S_a, S_z, e, S_app, l1, l2]
theorem tup_len (vs : List D) : (tT (.tup vs)).length = 1 + (joinT (tTs vs)).length + (if vs.length = 1 then 2 else 1) := by
  rw [tT]
  by_cases h : vs.length = 1
  · simp [h]; omega
  · simp [h]; omega
theorem told_tup (k f : Nat) (hf : f = 1 ∨ f = 13) (vs : List D) (hl : vs.length ≤ 6) (h : ∀ x ∈ vs, ∃ ps, runF tb fds k f [.d x] = .ok (.d (.str (S (tT x)))) ps) (ht : (tT (.tup vs)).length ≤ 100000) : ∃ ps, runF tb fds (k + 1) f [.d (.tup vs)] = .ok (.d (.str (S (tT (.tup vs))))) ps := by
  have hl1 : vs.length ≤ line := by unfold line; omega
  have tl := tup_len vs
  have hj : (joinT (tTs vs)).length ≤ 100000 := by omega
  have jo := join_op vs hj
  refine ⟨[.un], ?_⟩
  rw [runF]
  rcases hf with rfl | rfl
  · simp only [fds, b_told]
    by_cases h1 : vs.length = 1
    · obtain ⟨x, rfl⟩ : ∃ x, vs = [x] := by
        match vs, h1 with
        | [x], _ => exact ⟨x, rfl⟩
      obtain ⟨ps, e⟩ := h x (List.mem_singleton.mpr rfl)
      have hat : L2.atI [x] (0 : Int) = some x := rfl
      have et : tT (.tup [x]) = 40 :: (tT x ++ [44, 41]) := by
        rw [tT]; simp [tTs, joinT]
      rw [et] at ht ⊢
      have l1 : 1 + (tT x).length ≤ line := by unfold line; simp at ht; omega
      have l2 : (tT x).length + 1 + 2 ≤ line := by unfold line; simp at ht; omega
      have l3 : 1 + (tT x).length + 2 ≤ line := by unfold line; simp at ht; omega
      simp [fds, exs, ex.eq_1, ex.eq_2, ex.eq_3, ex.eq_4, ex.eq_5, ex.eq_6, ex.eq_7, ex.eq_8, ex.eq_10, ex.eq_12, ex.eq_13, ex.eq_14, ex.eq_15, ev.eq_1, ev.eq_2, ev.eq_3, ev.eq_4, ev.eq_5, ev.eq_6, ev.eq_7, ev.eq_8, ev.eq_9, ev.eq_10, ev.eq_11, ev.eq_12, ev.eq_13, ev.eq_14, ev.eq_15, ev.eq_16, ev.eq_17, ev.eq_18, ev.eq_19, ev.eq_20, ev.eq_21, ev.eq_22, ev.eq_23, evA, evs, evI, O.then, R.to, R.bind, EN.store, EN.storeAll, kp, kpF, seen, vw, opB, opC, opF, opI, opS, truD, R.val, R.dat, R.bool, isOwn, isLst, Env.at, O.end, retO, mask, flatD, List.mapM_cons, List.mapM_nil, eqD, eqS, callR, prep, prepV, handAll, handed, slotsOf, backR, back, mdz, prtR, IE.nl, isiR, excAt, isTy, Tb.tok, Cn.toD, cnPut, gc0, gc1, gc2, gc3, nk4, ne2, efl, ln0, ln1, ln2, ln3, ln4, ln5, ln6, S_eq, S_list, S_len, S_lp, S_rp, S_cm, S_qt, S_none, S_e, S_ce, S_sp, S_mn, S_0, S_9, S_a, S_z, hat, e, S_app, l1, l2, l3]
    · have h1' : ¬ (vs.length : Int) = 1 := by omega
      have lc := told_parts k (runF tb fds k) 1 1 (.inl rfl) vs h hl1 [.d (.tup vs), .un] rfl (by simp) rfl rfl
      have et : tT (.tup vs) = 40 :: (joinT (tTs vs) ++ [41]) := by rw [tT, if_neg h1]
      have l1 : 1 + (joinT (tTs vs)).length ≤ line := by unfold line; omega
      have l2 : (joinT (tTs vs)).length + 1 + 1 ≤ line := by unfold line; omega
      have l3 : 1 + (joinT (tTs vs)).length + 1 ≤ line := by unfold line; omega
      rw [et]
      simp [fds, exs, ex.eq_1, ex.eq_2, ex.eq_3, ex.eq_4, ex.eq_5, ex.eq_6, ex.eq_7, ex.eq_8, ex.eq_10, ex.eq_12, ex.eq_13, ex.eq_14, ex.eq_15, ev.eq_1, ev.eq_2, ev.eq_3, ev.eq_4, ev.eq_5, ev.eq_6, ev.eq_7, ev.eq_8, ev.eq_9, ev.eq_10, ev.eq_11, ev.eq_12, ev.eq_13, ev.eq_14, ev.eq_15, ev.eq_16, ev.eq_17, ev.eq_18, ev.eq_19, ev.eq_20, ev.eq_21, ev.eq_22, ev.eq_23, evA, evs, evI, O.then, R.to, R.bind, EN.store, EN.storeAll, kp, kpF, seen, vw, opB, opC, opF, opI, opS, truD, R.val, R.dat, R.bool, isOwn, isLst, Env.at, O.end, retO, mask, flatD, List.mapM_cons, List.mapM_nil, eqD, eqS, callR, prep, prepV, handAll, handed, slotsOf, backR, back, mdz, prtR, IE.nl, isiR, excAt, isTy, Tb.tok, Cn.toD, cnPut, gc0, gc1, gc2, gc3, nk4, ne2, efl, ln0, ln1, ln2, ln3, ln4, ln5, ln6, S_eq, S_list, S_len, S_lp, S_rp, S_cm, S_qt, S_none, S_e, S_ce, S_sp, S_mn, S_0, S_9, S_a, S_z, lc, jo, h1', S_app, l1, l2, l3]
  · simp only [fds, b__law_text]
    have lc := told_parts k (runF tb fds k) 13 2 (.inr rfl) vs h hl1 [.d (.tup vs), .un, .un] rfl (by simp) rfl rfl
    by_cases h1 : vs.length = 1
    · obtain ⟨x, rfl⟩ : ∃ x, vs = [x] := by
        match vs, h1 with
        | [x], _ => exact ⟨x, rfl⟩
      have hat : L2.atI [D.str (S (tT x))] (0 : Int) = some (.str (S (tT x))) := rfl
      have et : tT (.tup [x]) = 40 :: (tT x ++ [44, 41]) := by
        rw [tT]; simp [tTs, joinT]
      rw [et] at ht ⊢
      have l1 : 1 + (tT x).length ≤ line := by unfold line; simp at ht; omega
      have l2 : (tT x).length + 1 + 2 ≤ line := by unfold line; simp at ht; omega
      have l3 : 1 + (tT x).length + 2 ≤ line := by unfold line; simp at ht; omega
      have lc : ev tb (runF tb fds k) 1 (.lc (.call 13 (.cons (.var 2) .nil)) 2 (.e (.var 0)) false (.lit (.bl true))) [.d (.tup [x]), .un, .un] = .ok (.fr (.lst [.str (S (tT x))])) [.d (.tup [x]), .un, .un] := lc
      simp [fds, exs, ex.eq_1, ex.eq_2, ex.eq_3, ex.eq_4, ex.eq_5, ex.eq_6, ex.eq_7, ex.eq_8, ex.eq_10, ex.eq_12, ex.eq_13, ex.eq_14, ex.eq_15, ev.eq_1, ev.eq_2, ev.eq_3, ev.eq_4, ev.eq_5, ev.eq_6, ev.eq_7, ev.eq_8, ev.eq_9, ev.eq_10, ev.eq_11, ev.eq_12, ev.eq_13, ev.eq_14, ev.eq_15, ev.eq_16, ev.eq_17, ev.eq_18, ev.eq_19, ev.eq_20, ev.eq_21, ev.eq_22, ev.eq_23, evA, evs, evI, O.then, R.to, R.bind, EN.store, EN.storeAll, kp, kpF, seen, vw, opB, opC, opF, opI, opS, truD, R.val, R.dat, R.bool, isOwn, isLst, Env.at, O.end, retO, mask, flatD, List.mapM_cons, List.mapM_nil, eqD, eqS, callR, prep, prepV, handAll, handed, slotsOf, backR, back, mdz, prtR, IE.nl, isiR, excAt, isTy, Tb.tok, Cn.toD, cnPut, gc0, gc1, gc2, gc3, nk4, ne2, efl, ln0, ln1, ln2, ln3, ln4, ln5, ln6, S_eq, S_list, S_len, S_lp, S_rp, S_cm, S_qt, S_none, S_e, S_ce, S_sp, S_mn, S_0, S_9, S_a, S_z, lc, hat, S_app, l1, l2, l3]
    · have h1' : ¬ (vs.length : Int) = 1 := by omega
      have et : tT (.tup vs) = 40 :: (joinT (tTs vs) ++ [41]) := by rw [tT, if_neg h1]
      have l1 : 1 + (joinT (tTs vs)).length ≤ line := by unfold line; omega
      have l2 : (joinT (tTs vs)).length + 1 + 1 ≤ line := by unfold line; omega
      have l3 : 1 + (joinT (tTs vs)).length + 1 ≤ line := by unfold line; omega
      rw [et]
      simp [fds, exs, ex.eq_1, ex.eq_2, ex.eq_3, ex.eq_4, ex.eq_5, ex.eq_6, ex.eq_7, ex.eq_8, ex.eq_10, ex.eq_12, ex.eq_13, ex.eq_14, ex.eq_15, ev.eq_1, ev.eq_2, ev.eq_3, ev.eq_4, ev.eq_5, ev.eq_6, ev.eq_7, ev.eq_8, ev.eq_9, ev.eq_10, ev.eq_11, ev.eq_12, ev.eq_13, ev.eq_14, ev.eq_15, ev.eq_16, ev.eq_17, ev.eq_18, ev.eq_19, ev.eq_20, ev.eq_21, ev.eq_22, ev.eq_23, evA, evs, evI, O.then, R.to, R.bind, EN.store, EN.storeAll, kp, kpF, seen, vw, opB, opC, opF, opI, opS, truD, R.val, R.dat, R.bool, isOwn, isLst, Env.at, O.end, retO, mask, flatD, List.mapM_cons, List.mapM_nil, eqD, eqS, callR, prep, prepV, handAll, handed, slotsOf, backR, back, mdz, prtR, IE.nl, isiR, excAt, isTy, Tb.tok, Cn.toD, cnPut, gc0, gc1, gc2, gc3, nk4, ne2, efl, ln0, ln1, ln2, ln3, ln4, ln5, ln6, S_eq, S_list, S_len, S_lp, S_rp, S_cm, S_qt, S_none, S_e, S_ce, S_sp, S_mn, S_0, S_9, S_a, S_z, lc, jo, h1', S_app, l1, l2, l3]
theorem run_told (f : Nat) (hf : f = 1 ∨ f = 13) : ∀ (d k : Nat) (v : D), gv d v → (tT v).length ≤ 100000 → ∃ ps, runF tb fds (d + 1 + k) f [.d v] = .ok (.d (.str (S (tT v)))) ps
  | 0, k, v, h, _ => by
    rw [show 0 + 1 + k = k + 1 by omega]
    exact told_leaf k f hf v h
  | d + 1, k, v, h, ht => by
    rw [show d + 1 + 1 + k = (d + 1 + k) + 1 by omega]
    rcases h with h | ⟨vs, rfl, hl, ha⟩
    · exact told_leaf _ f hf v h
    · refine told_tup _ f hf vs hl (fun x hx => run_told f hf d k x (ha x hx) ?_) ht
      have := mem_len (a := tT x) (l := tTs vs) (by rw [tTs_map]; exact List.mem_map.mpr ⟨x, hx, rfl⟩)
      have tl := tup_len vs
      omega
end K74
namespace K74
open PySem EN NumText
theorem okr_head {r : List Nat} (h : okRest r = true) : ∀ c, r.head? = some c → delim c = true := fun c z => by
  cases r with
  | nil => cases z
  | cons a r => cases z; exact h
theorem leaf_back (v : D) (h : gl v) (r : List Nat) (ok : okRest r = true) : leafP true (tT v ++ r) = some (v, r) ∧ (tT v ++ r).head? ≠ some 40 := by
  rcases h with rfl | ⟨i, rfl, hi⟩ | ⟨w, rfl, h1, h2, h3⟩
  · rw [tT]
    exact ⟨rfl, by simp⟩
  · obtain ⟨n1, n2, n3, n4, c, q, e, hc⟩ := num_rt i hi
    generalize tT (.int i) = w at n1 n2 n3 n4 e
    have tw := tw_app (p := fun c => !delim c) (a := w) (b := r) n3 (fun c z => by rw [okr_head ok c z]; rfl)
    obtain ⟨t1, _⟩ := int_tok (w ++ r)
    rw [tw.1, tw.2] at t1
    have t1 := t1 n1
    rw [n2] at t1
    have hd : (w ++ r).head? = some c := by rw [e]; rfl
    refine ⟨?_, by rw [hd]; intro z; cases z; omega⟩
    unfold leafP
    have n34 : (w ++ r).head? ≠ some 34 := by rw [hd]; intro z; cases z; omega
    have n4 : (w ++ r).take 4 ≠ [110, 111, 110, 101] := by
      rw [e]
      intro z
      have := (List.cons.inj z).1
      omega
    rw [if_neg n34, if_neg n4]
    exact t1
  · have e : tT (.str (S w)) = 34 :: (w ++ [34]) := by rw [tT]
    rw [e]
    have tw := tw_app (p := isL) (a := w) (b := 34 :: r) h2 (fun c z => by cases z; rfl)
    have ea : (34 :: (w ++ [34])) ++ r = 34 :: (w ++ 34 :: r) := by simp
    rw [ea]
    refine ⟨?_, by simp⟩
    unfold leafP
    have g0 : (34 :: (w ++ 34 :: r)).head? = some 34 := rfl
    rw [if_pos g0]
    show (wordP (w ++ 34 :: r)).map _ = _
    unfold wordP
    rw [tw.1, tw.2, if_neg h1]
    rfl
theorem V_leaf (d : Nat) (l : List Nat) (st : Bool) (h : l.head? ≠ some 40) : V st d l = leafP st l := by
  cases d with
  | zero => unfold V; rw [if_neg h]
  | succ d => unfold V; rw [if_neg h]
theorem T_back {f : List Nat → Option (D × List Nat)} (ys : List D) (hf : ∀ y ∈ ys, ∀ r, okRest r = true → f (tT y ++ r) = some (y, r)) (hh : ∀ y ∈ ys, ∃ c q, tT y = c :: q ∧ c ≠ 41 ∧ c ≠ 44) (rest : List Nat) : ∀ (n : Nat) (ps : List D), ys ≠ [] → ys.length ≤ n → 2 ≤ ps.length + ys.length →
    T f n ps (joinT (tTs ys) ++ 41 :: rest) = some (.tup (ps ++ ys), rest) := by
  induction ys with
  | nil => intro n ps h; exact absurd rfl h
  | cons y ys ih =>
    intro n ps _ hn h2
    cases n with
    | zero => simp at hn
    | succ n =>
      unfold T
      cases ys with
      | nil =>
        have e : joinT (tTs [y]) ++ 41 :: rest = tT y ++ 41 :: rest := by simp [tTs, joinT]
        rw [e, hf y List.mem_cons_self (41 :: rest) rfl]
        show aft _ (ps ++ [y]) (41 :: rest) = _
        unfold aft
        have : 1 < (ps ++ [y]).length := by simp at h2 ⊢; omega
        have g0 : (41 :: rest).head? = some 41 := rfl
        rw [if_pos g0, if_pos this]
        rfl
      | cons z zs =>
        have e : joinT (tTs (y :: z :: zs)) ++ 41 :: rest = tT y ++ 44 :: (joinT (tTs (z :: zs)) ++ 41 :: rest) := by
          rw [tTs, tTs]; simp [joinT, tTs]
        rw [e, hf y List.mem_cons_self _ rfl]
        obtain ⟨c, q, hz, c1, c2⟩ := hh z (List.mem_cons_of_mem _ List.mem_cons_self)
        have hj : ∃ q', joinT (tTs (z :: zs)) ++ 41 :: rest = c :: q' := by
          rw [tTs]
          refine ⟨q ++ ((tTs zs).map fun x => 44 :: x).flatten ++ 41 :: rest, ?_⟩
          simp [joinT, hz]
        obtain ⟨q', hj⟩ := hj
        show aft _ (ps ++ [y]) (44 :: (joinT (tTs (z :: zs)) ++ 41 :: rest)) = _
        unfold aft
        have g1 : ¬ (44 :: (joinT (tTs (z :: zs)) ++ 41 :: rest)).head? = some 41 := by simp
        have g2 : ¬ ((44 :: (joinT (tTs (z :: zs)) ++ 41 :: rest)).take 2 = [44, 41] ∧ (ps ++ [y]).length = 1) := by
          rw [hj]
          intro z
          have := (List.cons.inj (List.cons.inj z.1).2).1
          exact c1 this
        have g3 : (44 :: (joinT (tTs (z :: zs)) ++ 41 :: rest)).head? = some 44 := rfl
        rw [if_neg g1, if_neg g2, if_pos g3]
        have := ih (fun x hx => hf x (List.mem_cons_of_mem _ hx)) (fun x hx => hh x (List.mem_cons_of_mem _ hx)) n (ps ++ [y]) (by simp) (by simp at hn ⊢; omega) (by simp; omega)
        show T f n (ps ++ [y]) (joinT (tTs (z :: zs)) ++ 41 :: rest) = _
        rw [this, List.append_assoc]
        rfl
theorem V_back : ∀ (d : Nat) (v : D), gv d v → ∀ r, okRest r = true → V true d (tT v ++ r) = some (v, r)
  | 0, v, h, r, ok => by
    obtain ⟨a, b⟩ := leaf_back v h r ok
    rw [V_leaf 0 _ true b, a]
  | d + 1, v, h, r, ok => by
    rcases h with h | ⟨vs, rfl, hl, ha⟩
    · obtain ⟨a, b⟩ := leaf_back v h r ok
      rw [V_leaf (d + 1) _ true b, a]
    · have hf : ∀ y ∈ vs, ∀ r, okRest r = true → V true d (tT y ++ r) = some (y, r) := fun y hy r ok => V_back d y (ha y hy) r ok
      have hh : ∀ y ∈ vs, ∃ c q, tT y = c :: q ∧ c ≠ 41 ∧ c ≠ 44 := fun y hy => text_head d y (ha y hy)
      match vs, hl, hf, hh with
      | [], _, _, _ =>
        have e : tT (.tup []) = [40, 41] := by rw [tT]; rfl
        rw [e]; rfl
      | [x], _, hf, hh =>
        have e : tT (.tup [x]) ++ r = 40 :: (tT x ++ 44 :: 41 :: r) := by
          rw [tT]; simp [tTs, joinT]
        obtain ⟨c, q, hx, c1, _⟩ := hh x List.mem_cons_self
        rw [e]
        have ev : V true (d + 1) (40 :: (tT x ++ 44 :: 41 :: r)) = if (tT x ++ 44 :: 41 :: r).head? = some 41 then some (.tup [], (tT x ++ 44 :: 41 :: r).drop 1) else T (V true d) ((tT x ++ 44 :: 41 :: r).length + 1) [] (tT x ++ 44 :: 41 :: r) := rfl
        have n41 : ¬ (tT x ++ 44 :: 41 :: r).head? = some 41 := by rw [hx]; simpa using c1
        rw [ev, if_neg n41]
        unfold T
        rw [hf x List.mem_cons_self _ rfl]
        rfl
      | x :: y :: zs, hl, hf, hh =>
        have e : tT (.tup (x :: y :: zs)) ++ r = 40 :: (joinT (tTs (x :: y :: zs)) ++ 41 :: r) := by
          rw [tT, if_neg (by simp)]; simp
        obtain ⟨c, q, hx, c1, _⟩ := hh x List.mem_cons_self
        obtain ⟨q', hj⟩ : ∃ q', joinT (tTs (x :: y :: zs)) ++ 41 :: r = c :: q' := by
          rw [tTs]
          refine ⟨q ++ ((tTs (y :: zs)).map fun x => 44 :: x).flatten ++ 41 :: r, ?_⟩
          simp [joinT, hx]
        rw [e]
        have ev : V true (d + 1) (40 :: (joinT (tTs (x :: y :: zs)) ++ 41 :: r)) = if (joinT (tTs (x :: y :: zs)) ++ 41 :: r).head? = some 41 then some (.tup [], (joinT (tTs (x :: y :: zs)) ++ 41 :: r).drop 1) else T (V true d) ((joinT (tTs (x :: y :: zs)) ++ 41 :: r).length + 1) [] (joinT (tTs (x :: y :: zs)) ++ 41 :: r) := rfl
        have n41 : ¬ (joinT (tTs (x :: y :: zs)) ++ 41 :: r).head? = some 41 := by rw [hj]; simpa using c1
        rw [ev, if_neg n41]
        have hlen : (x :: y :: zs).length ≤ (joinT (tTs (x :: y :: zs)) ++ 41 :: r).length + 1 := by
          have := join_len (tT x) (tTs (y :: zs))
          have e2 : tTs (x :: y :: zs) = tT x :: tTs (y :: zs) := by rw [tTs]
          rw [e2, List.length_append, this]
          have e3 : (tTs (y :: zs)).length = (y :: zs).length := by rw [tTs_map, List.length_map]
          rw [e3]
          simp only [List.length_cons]
          omega
        exact T_back (x :: y :: zs) hf hh r _ [] (by simp) hlen (by simp)
end K74
namespace K74
open PySem EN NumText
/-! the values drawn -/
def Dr : List Int → List Int → Prop
  | [], [] => True
  | x :: xs, b :: bs => (0 ≤ x ∧ x < b) ∧ Dr xs bs
  | _, _ => False
def dwS : IS := (.ifS (.cmp .gt (.var 4) (.lit (.int 0))) (.cons (.app 5 (.bin .mod (.bi .int (.cons (.var 4) .nil)) (.ix (.var 2) (.var 6))))
 (.cons (.asg 4 (.bin .fdiv (.var 4) (.ix (.var 2) (.var 6))))
 .nil)) (.cons (.asg 7 (.bin .mod (.bi .int (.cons (.bin .add (.bin .add (.bin .add (.bin .mul (.var 3) (.lit (.int 48271))) (.bin .mul (.var 1) (.lit (.int 69621)))) (.bin .mul (.var 6) (.lit (.int 40692)))) (.lit (.int 12345))) .nil)) (.lit (.int 2147483647))))
 (.cons (.asg 7 (.bin .mod (.bi .int (.cons (.bin .add (.bin .add (.bin .mul (.var 7) (.var 7)) (.bin .mul (.var 6) (.lit (.int 16807)))) (.lit (.int 271))) .nil)) (.lit (.int 2147483563))))
 (.cons (.asg 7 (.bin .mod (.bi .int (.cons (.bin .add (.bin .add (.bin .mul (.var 7) (.var 7)) (.bin .mul (.var 7) (.lit (.int 39373)))) (.lit (.int 7))) .nil)) (.lit (.int 2147483399))))
 (.cons (.app 5 (.bin .mod (.bin .fdiv (.var 7) (.lit (.int 16))) (.ix (.var 2) (.var 6))))
 .nil)))))
def dwB : ISs := .cons dwS .nil
def dwF : IS := .forS 6 (.rng (.bi .len (.cons (.var 2) .nil))) dwB
def dwE : ISs := .cons (.ret (.var 5)) .nil
def dwH : IS := (.ifS (.cmp .lt (.var 1) (.bi .len (.cons (.var 0) .nil))) (.cons (.asg 3 (.bi .int (.cons (.ix (.var 0) (.var 1)) .nil)))
 (.cons (.asg 4 (.bi .max (.cons (.lit (.int 0)) (.cons (.bin .sub (.var 3) (.bin .pow (.lit (.int 10)) (.lit (.int 18)))) .nil))))
 .nil)) (.cons (.ifS (.cmp .gt (.bi .len (.cons (.var 0) .nil)) (.lit (.int 0))) (.cons (.asg 3 (.bi .int (.cons (.ix (.var 0) (.bin .mod (.bi .int (.cons (.var 1) .nil)) (.bi .len (.cons (.var 0) .nil)))) .nil)))
 .nil) .nil)
 .nil))
theorem b_draws : b__law_draws = .cons (.asg 3 (.lit (.int 0))) (.cons (.asg 4 (.lit (.int 0))) (.cons dwH (.cons (.asg 5 (.lst .nil)) (.cons dwF dwE)))) := rfl
theorem opI_ints {bs : List Int} {j : Nat} (h : j < bs.length) : L2.atI (bs.map D.int) (j : Int) = some (.int bs[j]) := by
  have h2 : j < (bs.map D.int).length := by rw [List.length_map]; exact h
  have := atI_lt h2
  rw [List.getElem_map] at this
  exact this
theorem opI_scr {ns : List Int} {j : Nat} (h : j < ns.length) : L2.atI ns (j : Int) = some ns[j] := atI_lt h
theorem dw_step (fn : Fn) (ns bs : List Int) (kz jz : Int) (cell r : Int) (acc : List Int) (s7 : EN.Slot) (b : Int) (oj : L2.atI (bs.map D.int) jz = some (.int b)) (hb : 0 < b ∧ b < 1073741824) (ha : acc.length < line) :
    ∃ x r' s7', 0 ≤ x ∧ x < b ∧ exs tb fn 3 dwB [.d (.scr ns), .d (.int kz), .d (.lst (bs.map .int)), .d (.int cell), .d (.int r), .own (.lst (acc.map .int)), .d (.int jz), s7] =
      .nx [.d (.scr ns), .d (.int kz), .d (.lst (bs.map .int)), .d (.int cell), .d (.int r'), .own (.lst ((acc ++ [x]).map .int)), .d (.int jz), s7'] := by
  have em : ∀ a : Int, 0 ≤ a % b ∧ a % b < b := fun a => ⟨Int.emod_nonneg _ (by omega), Int.emod_lt_of_pos _ hb.1⟩
  have b1 := hb.1
  have b2 := hb.2
  unfold dwB dwS
  generalize bs.map D.int = bd at oj ⊢
  have e5 : ∀ x : Int, (acc ++ [x]).map D.int = acc.map D.int ++ [.int x] := fun x => by simp
  simp only [e5]
  have ha : (acc.map D.int).length < line := by rw [List.length_map]; exact ha
  generalize acc.map D.int = ad at ha ⊢
  by_cases h : 0 < r
  · refine ⟨r % b, r / b, s7, (em _).1, (em _).2, ?_⟩
    simp [fds, exs, ex.eq_1, ex.eq_2, ex.eq_3, ex.eq_4, ex.eq_5, ex.eq_6, ex.eq_7, ex.eq_8, ex.eq_10, ex.eq_12, ex.eq_13, ex.eq_14, ex.eq_15, ev.eq_1, ev.eq_2, ev.eq_3, ev.eq_4, ev.eq_5, ev.eq_6, ev.eq_7, ev.eq_8, ev.eq_9, ev.eq_10, ev.eq_11, ev.eq_12, ev.eq_13, ev.eq_14, ev.eq_15, ev.eq_16, ev.eq_17, ev.eq_18, ev.eq_19, ev.eq_20, ev.eq_21, ev.eq_22, ev.eq_23, evA, evs, evI, O.then, R.to, R.bind, EN.store, EN.storeAll, kp, kpF, seen, vw, opB, opC, opF, opI, opS, truD, R.val, R.dat, R.bool, isOwn, isLst, Env.at, O.end, retO, mask, flatD, List.mapM_cons, List.mapM_nil, eqD, eqS, callR, prep, prepV, handAll, handed, slotsOf, backR, back, mdz, prtR, IE.nl, isiR, excAt, isTy, Tb.tok, Cn.toD, cnPut, gc0, gc1, gc2, gc3, nk4, ne2, efl, ln0, ln1, ln2, ln3, ln4, ln5, ln6, S_eq, S_list, S_len, S_lp, S_rp, S_cm, S_qt, S_none, S_e, S_ce, S_sp, S_mn, S_0, S_9, S_a, S_z, opS, h, oj, b1, b2, ha]
  · generalize hm1 : (cell * 48271 + kz * 69621 + jz * 40692 + 12345) % 2147483647 = m1
    have q1 : 0 ≤ m1 ∧ m1 < 2147483647 := by rw [← hm1]; exact ⟨Int.emod_nonneg _ (by omega), Int.emod_lt_of_pos _ (by omega)⟩
    generalize hm2 : (m1 * m1 + jz * 16807 + 271) % 2147483563 = m2
    have q2 : 0 ≤ m2 ∧ m2 < 2147483563 := by rw [← hm2]; exact ⟨Int.emod_nonneg _ (by omega), Int.emod_lt_of_pos _ (by omega)⟩
    generalize hm3 : (m2 * m2 + m2 * 39373 + 7) % 2147483399 = m3
    have g1 : (-18446744073709551616 < m1 ∧ m1 < 18446744073709551616) := by omega
    have g2 : (-18446744073709551616 < m2 ∧ m2 < 18446744073709551616) := by omega
    refine ⟨m3 / 16 % b, r, .d (.int m3), (em _).1, (em _).2, ?_⟩
    simp [fds, exs, ex.eq_1, ex.eq_2, ex.eq_3, ex.eq_4, ex.eq_5, ex.eq_6, ex.eq_7, ex.eq_8, ex.eq_10, ex.eq_12, ex.eq_13, ex.eq_14, ex.eq_15, ev.eq_1, ev.eq_2, ev.eq_3, ev.eq_4, ev.eq_5, ev.eq_6, ev.eq_7, ev.eq_8, ev.eq_9, ev.eq_10, ev.eq_11, ev.eq_12, ev.eq_13, ev.eq_14, ev.eq_15, ev.eq_16, ev.eq_17, ev.eq_18, ev.eq_19, ev.eq_20, ev.eq_21, ev.eq_22, ev.eq_23, evA, evs, evI, O.then, R.to, R.bind, EN.store, EN.storeAll, kp, kpF, seen, vw, opB, opC, opF, opI, opS, truD, R.val, R.dat, R.bool, isOwn, isLst, Env.at, O.end, retO, mask, flatD, List.mapM_cons, List.mapM_nil, eqD, eqS, callR, prep, prepV, handAll, handed, slotsOf, backR, back, mdz, prtR, IE.nl, isiR, excAt, isTy, Tb.tok, Cn.toD, cnPut, gc0, gc1, gc2, gc3, nk4, ne2, efl, ln0, ln1, ln2, ln3, ln4, ln5, ln6, S_eq, S_list, S_len, S_lp, S_rp, S_cm, S_qt, S_none, S_e, S_ce, S_sp, S_mn, S_0, S_9, S_a, S_z, opS, h, oj, b1, b2, ha, hm1, hm2, hm3, g1, g2]
theorem dw_loop (fn : Fn) (ns bs : List Int) (kk : Nat) (cell : Int) (hb : ∀ b ∈ bs, 0 < b ∧ b < 1073741824) (hl : bs.length < 1000) (hkk : kk < 1000) : ∀ (m j : Nat) (r : Int) (acc : List Int) (s6 s7 : EN.Slot), j + m = bs.length → acc.length = j →
    ∃ xs r' s6' s7', Dr xs (bs.drop j) ∧ forRun 3 6 (fun ρ => exs tb fn 3 dwB ρ) ((List.range' j m).map fun (k : Nat) => D.int ((0 : Int) + k)) [.d (.scr ns), .d (.int kk), .d (.lst (bs.map .int)), .d (.int cell), .d (.int r), .own (.lst (acc.map .int)), s6, s7] =
      .nx [.d (.scr ns), .d (.int kk), .d (.lst (bs.map .int)), .d (.int cell), .d (.int r'), .own (.lst ((acc ++ xs).map .int)), s6', s7']
  | 0, j, r, acc, s6, s7, hjm, ha => by
    refine ⟨[], r, s6, s7, ?_, ?_⟩
    · rw [List.drop_eq_nil_of_le (by omega)]; trivial
    · rw [List.append_nil]; rfl
  | m + 1, j, r, acc, s6, s7, hjm, ha => by
    have hj : j < bs.length := by omega
    obtain ⟨x, r', s7', h1, h2, e⟩ := dw_step fn ns bs kk j cell r acc s7 _ (opI_ints hj) (hb _ (List.getElem_mem hj)) (by unfold line; omega)
    obtain ⟨xs, r2, s62, s72, h3, e2⟩ := dw_loop fn ns bs kk cell hb hl hkk m (j + 1) r' (acc ++ [x]) (.d (.int j)) s7' (by omega) (by simp [ha])
    refine ⟨x :: xs, r2, s62, s72, ?_, ?_⟩
    · rw [List.drop_eq_getElem_cons hj]
      exact ⟨⟨h1, h2⟩, h3⟩
    · rw [List.range'_succ, List.map_cons]
      have st : EN.store 3 6 [.d (.scr ns), .d (.int kk), .d (.lst (bs.map .int)), .d (.int cell), .d (.int r), .own (.lst (acc.map .int)), s6, s7] (.d (.int ((0 : Int) + j))) = .ok () [.d (.scr ns), .d (.int kk), .d (.lst (bs.map .int)), .d (.int cell), .d (.int r), .own (.lst (acc.map .int)), .d (.int j), s7] := by
        simp [EN.store, kp, R.bind]
      rw [fr_nx st e, e2, List.append_assoc]
      rfl
theorem drw_head (fn : Fn) (W : ISs) (ns : List Int) (kz : Int) (hk : 0 ≤ kz) (bd : D) : ∃ cell r, exs tb fn 3 (.cons (.asg 3 (.lit (.int 0))) (.cons (.asg 4 (.lit (.int 0))) (.cons dwH (.cons (.asg 5 (.lst .nil)) W)))) [.d (.scr ns), .d (.int kz), .d bd, .un, .un, .un, .un, .un] =
      exs tb fn 3 W [.d (.scr ns), .d (.int kz), .d bd, .d (.int cell), .d (.int r), .own (.lst []), .un, .un] := by
  by_cases h1 : kz < (ns.length : Int)
  · have oj : L2.atI ns kz = some ns[kz.toNat] := by
      have := atI_lt (xs := ns) (j := kz.toNat) (by omega)
      rw [Int.toNat_of_nonneg hk] at this
      exact this
    generalize ns[kz.toNat] = c at oj
    refine ⟨c, if 0 < c - 1000000000000000000 then c - 1000000000000000000 else 0, ?_⟩
    unfold dwH
    simp [fds, exs, ex.eq_1, ex.eq_2, ex.eq_3, ex.eq_4, ex.eq_5, ex.eq_6, ex.eq_7, ex.eq_8, ex.eq_10, ex.eq_12, ex.eq_13, ex.eq_14, ex.eq_15, ev.eq_1, ev.eq_2, ev.eq_3, ev.eq_4, ev.eq_5, ev.eq_6, ev.eq_7, ev.eq_8, ev.eq_9, ev.eq_10, ev.eq_11, ev.eq_12, ev.eq_13, ev.eq_14, ev.eq_15, ev.eq_16, ev.eq_17, ev.eq_18, ev.eq_19, ev.eq_20, ev.eq_21, ev.eq_22, ev.eq_23, evA, evs, evI, O.then, R.to, R.bind, EN.store, EN.storeAll, kp, kpF, seen, vw, opB, opC, opF, opI, opS, truD, R.val, R.dat, R.bool, isOwn, isLst, Env.at, O.end, retO, mask, flatD, List.mapM_cons, List.mapM_nil, eqD, eqS, callR, prep, prepV, handAll, handed, slotsOf, backR, back, mdz, prtR, IE.nl, isiR, excAt, isTy, Tb.tok, Cn.toD, cnPut, gc0, gc1, gc2, gc3, nk4, ne2, efl, ln0, ln1, ln2, ln3, ln4, ln5, ln6, S_eq, S_list, S_len, S_lp, S_rp, S_cm, S_qt, S_none, S_e, S_ce, S_sp, S_mn, S_0, S_9, S_a, S_z, oj, h1]
  · by_cases h2 : 0 < ns.length
    · have q1 := Int.emod_nonneg kz (b := (ns.length : Int)) (by omega)
      have q2 := Int.emod_lt_of_pos kz (b := (ns.length : Int)) (by omega)
      have oj : L2.atI ns (kz % (ns.length : Int)) = some ns[(kz % (ns.length : Int)).toNat] := by
        have := atI_lt (xs := ns) (j := (kz % (ns.length : Int)).toNat) (by omega)
        rw [Int.toNat_of_nonneg q1] at this
        exact this
      generalize ns[(kz % (ns.length : Int)).toNat] = c at oj
      refine ⟨c, 0, ?_⟩
      unfold dwH
      simp [fds, exs, ex.eq_1, ex.eq_2, ex.eq_3, ex.eq_4, ex.eq_5, ex.eq_6, ex.eq_7, ex.eq_8, ex.eq_10, ex.eq_12, ex.eq_13, ex.eq_14, ex.eq_15, ev.eq_1, ev.eq_2, ev.eq_3, ev.eq_4, ev.eq_5, ev.eq_6, ev.eq_7, ev.eq_8, ev.eq_9, ev.eq_10, ev.eq_11, ev.eq_12, ev.eq_13, ev.eq_14, ev.eq_15, ev.eq_16, ev.eq_17, ev.eq_18, ev.eq_19, ev.eq_20, ev.eq_21, ev.eq_22, ev.eq_23, evA, evs, evI, O.then, R.to, R.bind, EN.store, EN.storeAll, kp, kpF, seen, vw, opB, opC, opF, opI, opS, truD, R.val, R.dat, R.bool, isOwn, isLst, Env.at, O.end, retO, mask, flatD, List.mapM_cons, List.mapM_nil, eqD, eqS, callR, prep, prepV, handAll, handed, slotsOf, backR, back, mdz, prtR, IE.nl, isiR, excAt, isTy, Tb.tok, Cn.toD, cnPut, gc0, gc1, gc2, gc3, nk4, ne2, efl, ln0, ln1, ln2, ln3, ln4, ln5, ln6, S_eq, S_list, S_len, S_lp, S_rp, S_cm, S_qt, S_none, S_e, S_ce, S_sp, S_mn, S_0, S_9, S_a, S_z, oj, h1, h2]
    · refine ⟨0, 0, ?_⟩
      unfold dwH
      simp [fds, exs, ex.eq_1, ex.eq_2, ex.eq_3, ex.eq_4, ex.eq_5, ex.eq_6, ex.eq_7, ex.eq_8, ex.eq_10, ex.eq_12, ex.eq_13, ex.eq_14, ex.eq_15, ev.eq_1, ev.eq_2, ev.eq_3, ev.eq_4, ev.eq_5, ev.eq_6, ev.eq_7, ev.eq_8, ev.eq_9, ev.eq_10, ev.eq_11, ev.eq_12, ev.eq_13, ev.eq_14, ev.eq_15, ev.eq_16, ev.eq_17, ev.eq_18, ev.eq_19, ev.eq_20, ev.eq_21, ev.eq_22, ev.eq_23, evA, evs, evI, O.then, R.to, R.bind, EN.store, EN.storeAll, kp, kpF, seen, vw, opB, opC, opF, opI, opS, truD, R.val, R.dat, R.bool, isOwn, isLst, Env.at, O.end, retO, mask, flatD, List.mapM_cons, List.mapM_nil, eqD, eqS, callR, prep, prepV, handAll, handed, slotsOf, backR, back, mdz, prtR, IE.nl, isiR, excAt, isTy, Tb.tok, Cn.toD, cnPut, gc0, gc1, gc2, gc3, nk4, ne2, efl, ln0, ln1, ln2, ln3, ln4, ln5, ln6, S_eq, S_list, S_len, S_lp, S_rp, S_cm, S_qt, S_none, S_e, S_ce, S_sp, S_mn, S_0, S_9, S_a, S_z, h1, h2]
theorem draws (k : Nat) (ns : List Int) (kk : Nat) (bs : List Int) (hb : ∀ b ∈ bs, 0 < b ∧ b < 1073741824) (hl : bs.length < 1000) (hkk : kk < 1000) : ∃ xs ps, Dr xs bs ∧ runF tb fds (k + 1) 7 [.d (.scr ns), .d (.int kk), .d (.lst (bs.map .int))] = .ok (.fr (.lst (xs.map .int))) ps := by
  obtain ⟨cell, r, e⟩ := drw_head (runF tb fds k) (.cons dwF dwE) ns kk (by omega) (.lst (bs.map .int))
  obtain ⟨xs, r', s6, s7, h1, e2⟩ := dw_loop (runF tb fds k) ns bs kk cell hb hl hkk bs.length 0 r [] .un .un (by omega) rfl
  have er : ((List.range' 0 bs.length).map fun (k : Nat) => D.int ((0 : Int) + k)) = rngD 0 (bs.length : Int) := by
    unfold rngD
    rw [List.range_eq_range']
    simp
  rw [er] at e2
  have hl1 : bs.length ≤ line := by unfold line; omega
  have ef : ex tb (runF tb fds k) 3 dwF [.d (.scr ns), .d (.int kk), .d (.lst (bs.map .int)), .d (.int cell), .d (.int r), .own (.lst []), .un, .un] = _ := ex_for_nx (it := .rng (.bi .len (.cons (.var 2) .nil))) (v := .non) (evI_rng (n := (bs.length : Int)) (by simp [fds, exs, ex.eq_1, ex.eq_2, ex.eq_3, ex.eq_4, ex.eq_5, ex.eq_6, ex.eq_7, ex.eq_8, ex.eq_10, ex.eq_12, ex.eq_13, ex.eq_14, ex.eq_15, ev.eq_1, ev.eq_2, ev.eq_3, ev.eq_4, ev.eq_5, ev.eq_6, ev.eq_7, ev.eq_8, ev.eq_9, ev.eq_10, ev.eq_11, ev.eq_12, ev.eq_13, ev.eq_14, ev.eq_15, ev.eq_16, ev.eq_17, ev.eq_18, ev.eq_19, ev.eq_20, ev.eq_21, ev.eq_22, ev.eq_23, evA, evs, evI, O.then, R.to, R.bind, EN.store, EN.storeAll, kp, kpF, seen, vw, opB, opC, opF, opI, opS, truD, R.val, R.dat, R.bool, isOwn, isLst, Env.at, O.end, retO, mask, flatD, List.mapM_cons, List.mapM_nil, eqD, eqS, callR, prep, prepV, handAll, handed, slotsOf, backR, back, mdz, prtR, IE.nl, isiR, excAt, isTy, Tb.tok, Cn.toD, cnPut, gc0, gc1, gc2, gc3, nk4, ne2, efl, ln0, ln1, ln2, ln3, ln4, ln5, ln6, S_eq, S_list, S_len, S_lp, S_rp, S_cm, S_qt, S_none, S_e, S_ce, S_sp, S_mn, S_0, S_9, S_a, S_z]) (rng_ok hl1)) e2
  rw [List.drop_zero] at h1
  refine ⟨xs, [.un, .un, .un], h1, ?_⟩
  rw [runF]
  simp only [fds, b_draws]
  have es := e.trans (exs_cons ef)
  rw [List.nil_append] at es
  show O.end _ (exs tb (runF tb fds k) 3 _ [.d (.scr ns), .d (.int kk), .d (.lst (bs.map .int)), .un, .un, .un, .un, .un]) = _
  rw [es]
  generalize D.lst (bs.map .int) = bd
  generalize (kk : Int) = kz
  unfold dwE
  simp [fds, exs, ex.eq_1, ex.eq_2, ex.eq_3, ex.eq_4, ex.eq_5, ex.eq_6, ex.eq_7, ex.eq_8, ex.eq_10, ex.eq_12, ex.eq_13, ex.eq_14, ex.eq_15, ev.eq_1, ev.eq_2, ev.eq_3, ev.eq_4, ev.eq_5, ev.eq_6, ev.eq_7, ev.eq_8, ev.eq_9, ev.eq_10, ev.eq_11, ev.eq_12, ev.eq_13, ev.eq_14, ev.eq_15, ev.eq_16, ev.eq_17, ev.eq_18, ev.eq_19, ev.eq_20, ev.eq_21, ev.eq_22, ev.eq_23, evA, evs, evI, O.then, R.to, R.bind, EN.store, EN.storeAll, kp, kpF, seen, vw, opB, opC, opF, opI, opS, truD, R.val, R.dat, R.bool, isOwn, isLst, Env.at, O.end, retO, mask, flatD, List.mapM_cons, List.mapM_nil, eqD, eqS, callR, prep, prepV, handAll, handed, slotsOf, backR, back, mdz, prtR, IE.nl, isiR, excAt, isTy, Tb.tok, Cn.toD, cnPut, gc0, gc1, gc2, gc3, nk4, ne2, efl, ln0, ln1, ln2, ln3, ln4, ln5, ln6, S_eq, S_list, S_len, S_lp, S_rp, S_cm, S_qt, S_none, S_e, S_ce, S_sp, S_mn, S_0, S_9, S_a, S_z]
end K74
namespace K74
open PySem EN NumText
theorem e8 {a : Int} (h : 0 ≤ a ∧ a < 8) : a = 0 ∨ a = 1 ∨ a = 2 ∨ a = 3 ∨ a = 4 ∨ a = 5 ∨ a = 6 ∨ a = 7 := by omega
theorem e6 {a : Int} (h : 0 ≤ a ∧ a < 6) : a = 0 ∨ a = 1 ∨ a = 2 ∨ a = 3 ∨ a = 4 ∨ a = 5 := by omega
theorem run_lint (k : Nat) (a b c d : Int) (ha : 0 ≤ a ∧ a < 8) (hb : 0 ≤ b ∧ b < 1000000) (hc : 0 ≤ c ∧ c < 1000000) : ∃ i ps, i.natAbs < 10 ^ 12 ∧ runF tb fds (k + 1) 9 [.d (.lst [.int a, .int b, .int c, .int d])] = .ok (.d (.int i)) ps := by
  have i0 : L2.atI [D.int a, D.int b, D.int c, D.int d] (0 : Int) = some (.int a) := rfl
  have i1 : L2.atI [D.int a, D.int b, D.int c, D.int d] (1 : Int) = some (.int b) := rfl
  have i2 : L2.atI [D.int a, D.int b, D.int c, D.int d] (2 : Int) = some (.int c) := rfl
  rcases e8 ha with rfl | rfl | rfl | rfl | rfl | rfl | rfl | rfl
  · by_cases h : c % 2 = 1
    · refine ⟨0 - (0), [.un], by omega, ?_⟩
      rw [runF]
      simp [fds, exs, ex.eq_1, ex.eq_2, ex.eq_3, ex.eq_4, ex.eq_5, ex.eq_6, ex.eq_7, ex.eq_8, ex.eq_10, ex.eq_12, ex.eq_13, ex.eq_14, ex.eq_15, ev.eq_1, ev.eq_2, ev.eq_3, ev.eq_4, ev.eq_5, ev.eq_6, ev.eq_7, ev.eq_8, ev.eq_9, ev.eq_10, ev.eq_11, ev.eq_12, ev.eq_13, ev.eq_14, ev.eq_15, ev.eq_16, ev.eq_17, ev.eq_18, ev.eq_19, ev.eq_20, ev.eq_21, ev.eq_22, ev.eq_23, evA, evs, evI, O.then, R.to, R.bind, EN.store, EN.storeAll, kp, kpF, seen, vw, opB, opC, opF, opI, opS, truD, R.val, R.dat, R.bool, isOwn, isLst, Env.at, O.end, retO, mask, flatD, List.mapM_cons, List.mapM_nil, eqD, eqS, callR, prep, prepV, handAll, handed, slotsOf, backR, back, mdz, prtR, IE.nl, isiR, excAt, isTy, Tb.tok, Cn.toD, cnPut, gc0, gc1, gc2, gc3, nk4, ne2, efl, ln0, ln1, ln2, ln3, ln4, ln5, ln6, S_eq, S_list, S_len, S_lp, S_rp, S_cm, S_qt, S_none, S_e, S_ce, S_sp, S_mn, S_0, S_9, S_a, S_z, b__law_integer, i0, i1, i2, h, L2.atI, L2.ixN]
    · refine ⟨0, [.un], by omega, ?_⟩
      rw [runF]
      simp [fds, exs, ex.eq_1, ex.eq_2, ex.eq_3, ex.eq_4, ex.eq_5, ex.eq_6, ex.eq_7, ex.eq_8, ex.eq_10, ex.eq_12, ex.eq_13, ex.eq_14, ex.eq_15, ev.eq_1, ev.eq_2, ev.eq_3, ev.eq_4, ev.eq_5, ev.eq_6, ev.eq_7, ev.eq_8, ev.eq_9, ev.eq_10, ev.eq_11, ev.eq_12, ev.eq_13, ev.eq_14, ev.eq_15, ev.eq_16, ev.eq_17, ev.eq_18, ev.eq_19, ev.eq_20, ev.eq_21, ev.eq_22, ev.eq_23, evA, evs, evI, O.then, R.to, R.bind, EN.store, EN.storeAll, kp, kpF, seen, vw, opB, opC, opF, opI, opS, truD, R.val, R.dat, R.bool, isOwn, isLst, Env.at, O.end, retO, mask, flatD, List.mapM_cons, List.mapM_nil, eqD, eqS, callR, prep, prepV, handAll, handed, slotsOf, backR, back, mdz, prtR, IE.nl, isiR, excAt, isTy, Tb.tok, Cn.toD, cnPut, gc0, gc1, gc2, gc3, nk4, ne2, efl, ln0, ln1, ln2, ln3, ln4, ln5, ln6, S_eq, S_list, S_len, S_lp, S_rp, S_cm, S_qt, S_none, S_e, S_ce, S_sp, S_mn, S_0, S_9, S_a, S_z, b__law_integer, i0, i1, i2, h, L2.atI, L2.ixN]
  · by_cases h : c % 2 = 1
    · refine ⟨0 - (1), [.un], by omega, ?_⟩
      rw [runF]
      simp [fds, exs, ex.eq_1, ex.eq_2, ex.eq_3, ex.eq_4, ex.eq_5, ex.eq_6, ex.eq_7, ex.eq_8, ex.eq_10, ex.eq_12, ex.eq_13, ex.eq_14, ex.eq_15, ev.eq_1, ev.eq_2, ev.eq_3, ev.eq_4, ev.eq_5, ev.eq_6, ev.eq_7, ev.eq_8, ev.eq_9, ev.eq_10, ev.eq_11, ev.eq_12, ev.eq_13, ev.eq_14, ev.eq_15, ev.eq_16, ev.eq_17, ev.eq_18, ev.eq_19, ev.eq_20, ev.eq_21, ev.eq_22, ev.eq_23, evA, evs, evI, O.then, R.to, R.bind, EN.store, EN.storeAll, kp, kpF, seen, vw, opB, opC, opF, opI, opS, truD, R.val, R.dat, R.bool, isOwn, isLst, Env.at, O.end, retO, mask, flatD, List.mapM_cons, List.mapM_nil, eqD, eqS, callR, prep, prepV, handAll, handed, slotsOf, backR, back, mdz, prtR, IE.nl, isiR, excAt, isTy, Tb.tok, Cn.toD, cnPut, gc0, gc1, gc2, gc3, nk4, ne2, efl, ln0, ln1, ln2, ln3, ln4, ln5, ln6, S_eq, S_list, S_len, S_lp, S_rp, S_cm, S_qt, S_none, S_e, S_ce, S_sp, S_mn, S_0, S_9, S_a, S_z, b__law_integer, i0, i1, i2, h, L2.atI, L2.ixN]
    · refine ⟨1, [.un], by omega, ?_⟩
      rw [runF]
      simp [fds, exs, ex.eq_1, ex.eq_2, ex.eq_3, ex.eq_4, ex.eq_5, ex.eq_6, ex.eq_7, ex.eq_8, ex.eq_10, ex.eq_12, ex.eq_13, ex.eq_14, ex.eq_15, ev.eq_1, ev.eq_2, ev.eq_3, ev.eq_4, ev.eq_5, ev.eq_6, ev.eq_7, ev.eq_8, ev.eq_9, ev.eq_10, ev.eq_11, ev.eq_12, ev.eq_13, ev.eq_14, ev.eq_15, ev.eq_16, ev.eq_17, ev.eq_18, ev.eq_19, ev.eq_20, ev.eq_21, ev.eq_22, ev.eq_23, evA, evs, evI, O.then, R.to, R.bind, EN.store, EN.storeAll, kp, kpF, seen, vw, opB, opC, opF, opI, opS, truD, R.val, R.dat, R.bool, isOwn, isLst, Env.at, O.end, retO, mask, flatD, List.mapM_cons, List.mapM_nil, eqD, eqS, callR, prep, prepV, handAll, handed, slotsOf, backR, back, mdz, prtR, IE.nl, isiR, excAt, isTy, Tb.tok, Cn.toD, cnPut, gc0, gc1, gc2, gc3, nk4, ne2, efl, ln0, ln1, ln2, ln3, ln4, ln5, ln6, S_eq, S_list, S_len, S_lp, S_rp, S_cm, S_qt, S_none, S_e, S_ce, S_sp, S_mn, S_0, S_9, S_a, S_z, b__law_integer, i0, i1, i2, h, L2.atI, L2.ixN]
  · by_cases h : c % 2 = 1
    · refine ⟨0 - (999999999999), [.un], by omega, ?_⟩
      rw [runF]
      simp [fds, exs, ex.eq_1, ex.eq_2, ex.eq_3, ex.eq_4, ex.eq_5, ex.eq_6, ex.eq_7, ex.eq_8, ex.eq_10, ex.eq_12, ex.eq_13, ex.eq_14, ex.eq_15, ev.eq_1, ev.eq_2, ev.eq_3, ev.eq_4, ev.eq_5, ev.eq_6, ev.eq_7, ev.eq_8, ev.eq_9, ev.eq_10, ev.eq_11, ev.eq_12, ev.eq_13, ev.eq_14, ev.eq_15, ev.eq_16, ev.eq_17, ev.eq_18, ev.eq_19, ev.eq_20, ev.eq_21, ev.eq_22, ev.eq_23, evA, evs, evI, O.then, R.to, R.bind, EN.store, EN.storeAll, kp, kpF, seen, vw, opB, opC, opF, opI, opS, truD, R.val, R.dat, R.bool, isOwn, isLst, Env.at, O.end, retO, mask, flatD, List.mapM_cons, List.mapM_nil, eqD, eqS, callR, prep, prepV, handAll, handed, slotsOf, backR, back, mdz, prtR, IE.nl, isiR, excAt, isTy, Tb.tok, Cn.toD, cnPut, gc0, gc1, gc2, gc3, nk4, ne2, efl, ln0, ln1, ln2, ln3, ln4, ln5, ln6, S_eq, S_list, S_len, S_lp, S_rp, S_cm, S_qt, S_none, S_e, S_ce, S_sp, S_mn, S_0, S_9, S_a, S_z, b__law_integer, i0, i1, i2, h, L2.atI, L2.ixN]
    · refine ⟨999999999999, [.un], by omega, ?_⟩
      rw [runF]
      simp [fds, exs, ex.eq_1, ex.eq_2, ex.eq_3, ex.eq_4, ex.eq_5, ex.eq_6, ex.eq_7, ex.eq_8, ex.eq_10, ex.eq_12, ex.eq_13, ex.eq_14, ex.eq_15, ev.eq_1, ev.eq_2, ev.eq_3, ev.eq_4, ev.eq_5, ev.eq_6, ev.eq_7, ev.eq_8, ev.eq_9, ev.eq_10, ev.eq_11, ev.eq_12, ev.eq_13, ev.eq_14, ev.eq_15, ev.eq_16, ev.eq_17, ev.eq_18, ev.eq_19, ev.eq_20, ev.eq_21, ev.eq_22, ev.eq_23, evA, evs, evI, O.then, R.to, R.bind, EN.store, EN.storeAll, kp, kpF, seen, vw, opB, opC, opF, opI, opS, truD, R.val, R.dat, R.bool, isOwn, isLst, Env.at, O.end, retO, mask, flatD, List.mapM_cons, List.mapM_nil, eqD, eqS, callR, prep, prepV, handAll, handed, slotsOf, backR, back, mdz, prtR, IE.nl, isiR, excAt, isTy, Tb.tok, Cn.toD, cnPut, gc0, gc1, gc2, gc3, nk4, ne2, efl, ln0, ln1, ln2, ln3, ln4, ln5, ln6, S_eq, S_list, S_len, S_lp, S_rp, S_cm, S_qt, S_none, S_e, S_ce, S_sp, S_mn, S_0, S_9, S_a, S_z, b__law_integer, i0, i1, i2, h, L2.atI, L2.ixN]
  · by_cases h : c % 2 = 1
    · refine ⟨0 - (b + 1000000 * c), [.un], by omega, ?_⟩
      rw [runF]
      simp [fds, exs, ex.eq_1, ex.eq_2, ex.eq_3, ex.eq_4, ex.eq_5, ex.eq_6, ex.eq_7, ex.eq_8, ex.eq_10, ex.eq_12, ex.eq_13, ex.eq_14, ex.eq_15, ev.eq_1, ev.eq_2, ev.eq_3, ev.eq_4, ev.eq_5, ev.eq_6, ev.eq_7, ev.eq_8, ev.eq_9, ev.eq_10, ev.eq_11, ev.eq_12, ev.eq_13, ev.eq_14, ev.eq_15, ev.eq_16, ev.eq_17, ev.eq_18, ev.eq_19, ev.eq_20, ev.eq_21, ev.eq_22, ev.eq_23, evA, evs, evI, O.then, R.to, R.bind, EN.store, EN.storeAll, kp, kpF, seen, vw, opB, opC, opF, opI, opS, truD, R.val, R.dat, R.bool, isOwn, isLst, Env.at, O.end, retO, mask, flatD, List.mapM_cons, List.mapM_nil, eqD, eqS, callR, prep, prepV, handAll, handed, slotsOf, backR, back, mdz, prtR, IE.nl, isiR, excAt, isTy, Tb.tok, Cn.toD, cnPut, gc0, gc1, gc2, gc3, nk4, ne2, efl, ln0, ln1, ln2, ln3, ln4, ln5, ln6, S_eq, S_list, S_len, S_lp, S_rp, S_cm, S_qt, S_none, S_e, S_ce, S_sp, S_mn, S_0, S_9, S_a, S_z, b__law_integer, i0, i1, i2, h, L2.atI, L2.ixN]
    · refine ⟨b + 1000000 * c, [.un], by omega, ?_⟩
      rw [runF]
      simp [fds, exs, ex.eq_1, ex.eq_2, ex.eq_3, ex.eq_4, ex.eq_5, ex.eq_6, ex.eq_7, ex.eq_8, ex.eq_10, ex.eq_12, ex.eq_13, ex.eq_14, ex.eq_15, ev.eq_1, ev.eq_2, ev.eq_3, ev.eq_4, ev.eq_5, ev.eq_6, ev.eq_7, ev.eq_8, ev.eq_9, ev.eq_10, ev.eq_11, ev.eq_12, ev.eq_13, ev.eq_14, ev.eq_15, ev.eq_16, ev.eq_17, ev.eq_18, ev.eq_19, ev.eq_20, ev.eq_21, ev.eq_22, ev.eq_23, evA, evs, evI, O.then, R.to, R.bind, EN.store, EN.storeAll, kp, kpF, seen, vw, opB, opC, opF, opI, opS, truD, R.val, R.dat, R.bool, isOwn, isLst, Env.at, O.end, retO, mask, flatD, List.mapM_cons, List.mapM_nil, eqD, eqS, callR, prep, prepV, handAll, handed, slotsOf, backR, back, mdz, prtR, IE.nl, isiR, excAt, isTy, Tb.tok, Cn.toD, cnPut, gc0, gc1, gc2, gc3, nk4, ne2, efl, ln0, ln1, ln2, ln3, ln4, ln5, ln6, S_eq, S_list, S_len, S_lp, S_rp, S_cm, S_qt, S_none, S_e, S_ce, S_sp, S_mn, S_0, S_9, S_a, S_z, b__law_integer, i0, i1, i2, h, L2.atI, L2.ixN]
  · by_cases h : c % 2 = 1
    · refine ⟨0 - (b + 1000000 * c), [.un], by omega, ?_⟩
      rw [runF]
      simp [fds, exs, ex.eq_1, ex.eq_2, ex.eq_3, ex.eq_4, ex.eq_5, ex.eq_6, ex.eq_7, ex.eq_8, ex.eq_10, ex.eq_12, ex.eq_13, ex.eq_14, ex.eq_15, ev.eq_1, ev.eq_2, ev.eq_3, ev.eq_4, ev.eq_5, ev.eq_6, ev.eq_7, ev.eq_8, ev.eq_9, ev.eq_10, ev.eq_11, ev.eq_12, ev.eq_13, ev.eq_14, ev.eq_15, ev.eq_16, ev.eq_17, ev.eq_18, ev.eq_19, ev.eq_20, ev.eq_21, ev.eq_22, ev.eq_23, evA, evs, evI, O.then, R.to, R.bind, EN.store, EN.storeAll, kp, kpF, seen, vw, opB, opC, opF, opI, opS, truD, R.val, R.dat, R.bool, isOwn, isLst, Env.at, O.end, retO, mask, flatD, List.mapM_cons, List.mapM_nil, eqD, eqS, callR, prep, prepV, handAll, handed, slotsOf, backR, back, mdz, prtR, IE.nl, isiR, excAt, isTy, Tb.tok, Cn.toD, cnPut, gc0, gc1, gc2, gc3, nk4, ne2, efl, ln0, ln1, ln2, ln3, ln4, ln5, ln6, S_eq, S_list, S_len, S_lp, S_rp, S_cm, S_qt, S_none, S_e, S_ce, S_sp, S_mn, S_0, S_9, S_a, S_z, b__law_integer, i0, i1, i2, h, L2.atI, L2.ixN]
    · refine ⟨b + 1000000 * c, [.un], by omega, ?_⟩
      rw [runF]
      simp [fds, exs, ex.eq_1, ex.eq_2, ex.eq_3, ex.eq_4, ex.eq_5, ex.eq_6, ex.eq_7, ex.eq_8, ex.eq_10, ex.eq_12, ex.eq_13, ex.eq_14, ex.eq_15, ev.eq_1, ev.eq_2, ev.eq_3, ev.eq_4, ev.eq_5, ev.eq_6, ev.eq_7, ev.eq_8, ev.eq_9, ev.eq_10, ev.eq_11, ev.eq_12, ev.eq_13, ev.eq_14, ev.eq_15, ev.eq_16, ev.eq_17, ev.eq_18, ev.eq_19, ev.eq_20, ev.eq_21, ev.eq_22, ev.eq_23, evA, evs, evI, O.then, R.to, R.bind, EN.store, EN.storeAll, kp, kpF, seen, vw, opB, opC, opF, opI, opS, truD, R.val, R.dat, R.bool, isOwn, isLst, Env.at, O.end, retO, mask, flatD, List.mapM_cons, List.mapM_nil, eqD, eqS, callR, prep, prepV, handAll, handed, slotsOf, backR, back, mdz, prtR, IE.nl, isiR, excAt, isTy, Tb.tok, Cn.toD, cnPut, gc0, gc1, gc2, gc3, nk4, ne2, efl, ln0, ln1, ln2, ln3, ln4, ln5, ln6, S_eq, S_list, S_len, S_lp, S_rp, S_cm, S_qt, S_none, S_e, S_ce, S_sp, S_mn, S_0, S_9, S_a, S_z, b__law_integer, i0, i1, i2, h, L2.atI, L2.ixN]
  · by_cases h : c % 2 = 1
    · refine ⟨0 - (b % 10), [.un], by omega, ?_⟩
      rw [runF]
      simp [fds, exs, ex.eq_1, ex.eq_2, ex.eq_3, ex.eq_4, ex.eq_5, ex.eq_6, ex.eq_7, ex.eq_8, ex.eq_10, ex.eq_12, ex.eq_13, ex.eq_14, ex.eq_15, ev.eq_1, ev.eq_2, ev.eq_3, ev.eq_4, ev.eq_5, ev.eq_6, ev.eq_7, ev.eq_8, ev.eq_9, ev.eq_10, ev.eq_11, ev.eq_12, ev.eq_13, ev.eq_14, ev.eq_15, ev.eq_16, ev.eq_17, ev.eq_18, ev.eq_19, ev.eq_20, ev.eq_21, ev.eq_22, ev.eq_23, evA, evs, evI, O.then, R.to, R.bind, EN.store, EN.storeAll, kp, kpF, seen, vw, opB, opC, opF, opI, opS, truD, R.val, R.dat, R.bool, isOwn, isLst, Env.at, O.end, retO, mask, flatD, List.mapM_cons, List.mapM_nil, eqD, eqS, callR, prep, prepV, handAll, handed, slotsOf, backR, back, mdz, prtR, IE.nl, isiR, excAt, isTy, Tb.tok, Cn.toD, cnPut, gc0, gc1, gc2, gc3, nk4, ne2, efl, ln0, ln1, ln2, ln3, ln4, ln5, ln6, S_eq, S_list, S_len, S_lp, S_rp, S_cm, S_qt, S_none, S_e, S_ce, S_sp, S_mn, S_0, S_9, S_a, S_z, b__law_integer, i0, i1, i2, h, L2.atI, L2.ixN]
    · refine ⟨b % 10, [.un], by omega, ?_⟩
      rw [runF]
      simp [fds, exs, ex.eq_1, ex.eq_2, ex.eq_3, ex.eq_4, ex.eq_5, ex.eq_6, ex.eq_7, ex.eq_8, ex.eq_10, ex.eq_12, ex.eq_13, ex.eq_14, ex.eq_15, ev.eq_1, ev.eq_2, ev.eq_3, ev.eq_4, ev.eq_5, ev.eq_6, ev.eq_7, ev.eq_8, ev.eq_9, ev.eq_10, ev.eq_11, ev.eq_12, ev.eq_13, ev.eq_14, ev.eq_15, ev.eq_16, ev.eq_17, ev.eq_18, ev.eq_19, ev.eq_20, ev.eq_21, ev.eq_22, ev.eq_23, evA, evs, evI, O.then, R.to, R.bind, EN.store, EN.storeAll, kp, kpF, seen, vw, opB, opC, opF, opI, opS, truD, R.val, R.dat, R.bool, isOwn, isLst, Env.at, O.end, retO, mask, flatD, List.mapM_cons, List.mapM_nil, eqD, eqS, callR, prep, prepV, handAll, handed, slotsOf, backR, back, mdz, prtR, IE.nl, isiR, excAt, isTy, Tb.tok, Cn.toD, cnPut, gc0, gc1, gc2, gc3, nk4, ne2, efl, ln0, ln1, ln2, ln3, ln4, ln5, ln6, S_eq, S_list, S_len, S_lp, S_rp, S_cm, S_qt, S_none, S_e, S_ce, S_sp, S_mn, S_0, S_9, S_a, S_z, b__law_integer, i0, i1, i2, h, L2.atI, L2.ixN]
  · by_cases h : c % 2 = 1
    · refine ⟨0 - (b % 1000), [.un], by omega, ?_⟩
      rw [runF]
      simp [fds, exs, ex.eq_1, ex.eq_2, ex.eq_3, ex.eq_4, ex.eq_5, ex.eq_6, ex.eq_7, ex.eq_8, ex.eq_10, ex.eq_12, ex.eq_13, ex.eq_14, ex.eq_15, ev.eq_1, ev.eq_2, ev.eq_3, ev.eq_4, ev.eq_5, ev.eq_6, ev.eq_7, ev.eq_8, ev.eq_9, ev.eq_10, ev.eq_11, ev.eq_12, ev.eq_13, ev.eq_14, ev.eq_15, ev.eq_16, ev.eq_17, ev.eq_18, ev.eq_19, ev.eq_20, ev.eq_21, ev.eq_22, ev.eq_23, evA, evs, evI, O.then, R.to, R.bind, EN.store, EN.storeAll, kp, kpF, seen, vw, opB, opC, opF, opI, opS, truD, R.val, R.dat, R.bool, isOwn, isLst, Env.at, O.end, retO, mask, flatD, List.mapM_cons, List.mapM_nil, eqD, eqS, callR, prep, prepV, handAll, handed, slotsOf, backR, back, mdz, prtR, IE.nl, isiR, excAt, isTy, Tb.tok, Cn.toD, cnPut, gc0, gc1, gc2, gc3, nk4, ne2, efl, ln0, ln1, ln2, ln3, ln4, ln5, ln6, S_eq, S_list, S_len, S_lp, S_rp, S_cm, S_qt, S_none, S_e, S_ce, S_sp, S_mn, S_0, S_9, S_a, S_z, b__law_integer, i0, i1, i2, h, L2.atI, L2.ixN]
    · refine ⟨b % 1000, [.un], by omega, ?_⟩
      rw [runF]
      simp [fds, exs, ex.eq_1, ex.eq_2, ex.eq_3, ex.eq_4, ex.eq_5, ex.eq_6, ex.eq_7, ex.eq_8, ex.eq_10, ex.eq_12, ex.eq_13, ex.eq_14, ex.eq_15, ev.eq_1, ev.eq_2, ev.eq_3, ev.eq_4, ev.eq_5, ev.eq_6, ev.eq_7, ev.eq_8, ev.eq_9, ev.eq_10, ev.eq_11, ev.eq_12, ev.eq_13, ev.eq_14, ev.eq_15, ev.eq_16, ev.eq_17, ev.eq_18, ev.eq_19, ev.eq_20, ev.eq_21, ev.eq_22, ev.eq_23, evA, evs, evI, O.then, R.to, R.bind, EN.store, EN.storeAll, kp, kpF, seen, vw, opB, opC, opF, opI, opS, truD, R.val, R.dat, R.bool, isOwn, isLst, Env.at, O.end, retO, mask, flatD, List.mapM_cons, List.mapM_nil, eqD, eqS, callR, prep, prepV, handAll, handed, slotsOf, backR, back, mdz, prtR, IE.nl, isiR, excAt, isTy, Tb.tok, Cn.toD, cnPut, gc0, gc1, gc2, gc3, nk4, ne2, efl, ln0, ln1, ln2, ln3, ln4, ln5, ln6, S_eq, S_list, S_len, S_lp, S_rp, S_cm, S_qt, S_none, S_e, S_ce, S_sp, S_mn, S_0, S_9, S_a, S_z, b__law_integer, i0, i1, i2, h, L2.atI, L2.ixN]
  · by_cases h : c % 2 = 1
    · refine ⟨0 - (b % 1000000), [.un], by omega, ?_⟩
      rw [runF]
      simp [fds, exs, ex.eq_1, ex.eq_2, ex.eq_3, ex.eq_4, ex.eq_5, ex.eq_6, ex.eq_7, ex.eq_8, ex.eq_10, ex.eq_12, ex.eq_13, ex.eq_14, ex.eq_15, ev.eq_1, ev.eq_2, ev.eq_3, ev.eq_4, ev.eq_5, ev.eq_6, ev.eq_7, ev.eq_8, ev.eq_9, ev.eq_10, ev.eq_11, ev.eq_12, ev.eq_13, ev.eq_14, ev.eq_15, ev.eq_16, ev.eq_17, ev.eq_18, ev.eq_19, ev.eq_20, ev.eq_21, ev.eq_22, ev.eq_23, evA, evs, evI, O.then, R.to, R.bind, EN.store, EN.storeAll, kp, kpF, seen, vw, opB, opC, opF, opI, opS, truD, R.val, R.dat, R.bool, isOwn, isLst, Env.at, O.end, retO, mask, flatD, List.mapM_cons, List.mapM_nil, eqD, eqS, callR, prep, prepV, handAll, handed, slotsOf, backR, back, mdz, prtR, IE.nl, isiR, excAt, isTy, Tb.tok, Cn.toD, cnPut, gc0, gc1, gc2, gc3, nk4, ne2, efl, ln0, ln1, ln2, ln3, ln4, ln5, ln6, S_eq, S_list, S_len, S_lp, S_rp, S_cm, S_qt, S_none, S_e, S_ce, S_sp, S_mn, S_0, S_9, S_a, S_z, b__law_integer, i0, i1, i2, h, L2.atI, L2.ixN]
    · refine ⟨b % 1000000, [.un], by omega, ?_⟩
      rw [runF]
      simp [fds, exs, ex.eq_1, ex.eq_2, ex.eq_3, ex.eq_4, ex.eq_5, ex.eq_6, ex.eq_7, ex.eq_8, ex.eq_10, ex.eq_12, ex.eq_13, ex.eq_14, ex.eq_15, ev.eq_1, ev.eq_2, ev.eq_3, ev.eq_4, ev.eq_5, ev.eq_6, ev.eq_7, ev.eq_8, ev.eq_9, ev.eq_10, ev.eq_11, ev.eq_12, ev.eq_13, ev.eq_14, ev.eq_15, ev.eq_16, ev.eq_17, ev.eq_18, ev.eq_19, ev.eq_20, ev.eq_21, ev.eq_22, ev.eq_23, evA, evs, evI, O.then, R.to, R.bind, EN.store, EN.storeAll, kp, kpF, seen, vw, opB, opC, opF, opI, opS, truD, R.val, R.dat, R.bool, isOwn, isLst, Env.at, O.end, retO, mask, flatD, List.mapM_cons, List.mapM_nil, eqD, eqS, callR, prep, prepV, handAll, handed, slotsOf, backR, back, mdz, prtR, IE.nl, isiR, excAt, isTy, Tb.tok, Cn.toD, cnPut, gc0, gc1, gc2, gc3, nk4, ne2, efl, ln0, ln1, ln2, ln3, ln4, ln5, ln6, S_eq, S_list, S_len, S_lp, S_rp, S_cm, S_qt, S_none, S_e, S_ce, S_sp, S_mn, S_0, S_9, S_a, S_z, b__law_integer, i0, i1, i2, h, L2.atI, L2.ixN]
end K74
namespace K74
open PySem EN NumText
def AZ : Str := Str.ofString "abcdefghijklmnopqrstuvwxyz  "
theorem az_len : AZ.cps.toList.length = 28 := by decide +kernel
theorem az_line : AZ.length ≤ line := by decide +kernel
theorem az_all : AZ.cps.toList.all isL = true := by decide +kernel
theorem az_at (r : Int) : ∃ c, isL c = true ∧ L2.atI AZ.cps.toList (r % 28) = some c := by
  have q1 := Int.emod_nonneg r (b := 28) (by decide)
  have q2 := Int.emod_lt_of_pos r (b := 28) (by decide)
  have hj : (r % 28).toNat < AZ.cps.toList.length := by rw [az_len]; omega
  have := atI_lt hj
  rw [Int.toNat_of_nonneg q1] at this
  exact ⟨_, List.all_eq_true.mp az_all _ (List.getElem_mem hj), this⟩
def lwB : ISs := .cons (.asg 1 (.bin .add (.var 1) (.ix (.lit (.str AZ)) (.bin .mod (.bi .int (.cons (.var 2) .nil)) (.lit (.int 28)))))) (.cons (.asg 2 (.bin .fdiv (.var 2) (.lit (.int 28)))) .nil)
theorem lw_loop (fn : Fn) (d : D) : ∀ (xs : List D) (w : List Nat) (r : Int) (s : EN.Slot), w.all isL = true → w.length + xs.length ≤ 1000 → ∃ w' r' s', w'.all isL = true ∧ w'.length = w.length + xs.length ∧ forRun 1 3 (fun ρ => exs tb fn 1 lwB ρ) xs [.d d, .d (.str (S w)), .d (.int r), s] = .nx [.d d, .d (.str (S w')), .d (.int r'), s']
  | [], w, r, s, h, _ => ⟨w, r, s, h, by simp, rfl⟩
  | x :: xs, w, r, s, h, hl => by
    obtain ⟨c, h1, h2⟩ := az_at r
    rw [List.length_cons] at hl
    obtain ⟨w', r', s', a1, a2, a3⟩ := lw_loop fn d xs (w ++ [c]) (r / 28) (.d x) (by rw [List.all_append, h]; simp [h1]) (by simp; omega)
    refine ⟨w', r', s', a1, by rw [a2]; simp; omega, ?_⟩
    have st : EN.store 1 3 [.d d, .d (.str (S w)), .d (.int r), s] (.d x) = .ok () [.d d, .d (.str (S w)), .d (.int r), .d x] := by
      simp [EN.store, kp, R.bind]
    have l1 : w.length + 1 ≤ line := by unfold line; omega
    have al := az_line
    have ea : (S w) ++ (⟨#[c]⟩ : Str) = S (w ++ [c]) := S_app w [c]
    have l2 : (⟨#[c]⟩ : Str).length = 1 := rfl
    have hb : exs tb fn 1 lwB [.d d, .d (.str (S w)), .d (.int r), .d x] = .nx [.d d, .d (.str (S (w ++ [c]))), .d (.int (r / 28)), .d x] := by
      unfold lwB
      simp [fds, exs, ex.eq_1, ex.eq_2, ex.eq_3, ex.eq_4, ex.eq_5, ex.eq_6, ex.eq_7, ex.eq_8, ex.eq_10, ex.eq_12, ex.eq_13, ex.eq_14, ex.eq_15, ev.eq_1, ev.eq_2, ev.eq_3, ev.eq_4, ev.eq_5, ev.eq_6, ev.eq_7, ev.eq_8, ev.eq_9, ev.eq_10, ev.eq_11, ev.eq_12, ev.eq_13, ev.eq_14, ev.eq_15, ev.eq_16, ev.eq_17, ev.eq_18, ev.eq_19, ev.eq_20, ev.eq_21, ev.eq_22, ev.eq_23, evA, evs, evI, O.then, R.to, R.bind, EN.store, EN.storeAll, kp, kpF, seen, vw, opB, opC, opF, opI, opS, truD, R.val, R.dat, R.bool, isOwn, isLst, Env.at, O.end, retO, mask, flatD, List.mapM_cons, List.mapM_nil, eqD, eqS, callR, prep, prepV, handAll, handed, slotsOf, backR, back, mdz, prtR, IE.nl, isiR, excAt, isTy, Tb.tok, Cn.toD, cnPut, gc0, gc1, gc2, gc3, nk4, ne2, efl, ln0, ln1, ln2, ln3, ln4, ln5, ln6, S_eq, S_list, S_len, S_lp, S_rp, S_cm, S_qt, S_none, S_e, S_ce, S_sp, S_mn, S_0, S_9, S_a, S_z, h2, l1, al, ea, l2]
    rw [fr_nx st hb]
    exact a3
theorem mulS_eq (w : List Nat) (n : Nat) : mulS (S w) (n : Int) = S (List.replicate n w).flatten := by
  unfold mulS
  by_cases h0 : (n : Int) < 1
  · have : n = 0 := by omega
    subst this
    rfl
  · rw [if_neg h0]
    have foldl_app : ∀ (xs : List (Array Nat)) (a : Array Nat), (xs.foldl (· ++ ·) a) = (a.toList ++ (xs.map Array.toList).flatten).toArray := by
      intro xs
      induction xs with
      | nil => intro a; simp
      | cons x xs ih => intro a; rw [List.foldl_cons, ih]; simp
    split
    · rename_i h
      rcases Bool.or_eq_true_iff.mp h with z | z
      · have : n = 1 := by have := eq_of_beq z; omega
        subst this
        simp
      · have z : (S w).length = 0 := eq_of_beq z
        have : w = [] := List.eq_nil_of_length_eq_zero z
        subst this
        simp
    · rw [foldl_app]
      simp
theorem rep_one (c n : Nat) : (List.replicate n [c]).flatten = List.replicate n c := by
  induction n with
  | zero => rfl
  | succ n ih => rw [List.replicate_succ, List.flatten_cons, ih]; rfl
def lwE : ISs := (.cons (.ifS (.cmp .eq (.bin .mod (.bi .int (.cons (.ix (.var 0) (.lit (.int 2))) .nil)) (.lit (.int 7))) (.lit (.int 3))) (.cons (.ret (.bin .mul (.lit (.str " ")) (.bi .len (.cons (.var 1) .nil))))
 .nil) .nil)
 (.cons (.ret (.var 1))
 .nil))
theorem b_word : b__law_word = .cons (.asg 1 (.lit (.str ""))) (.cons (.asg 2 (.bin .add (.ix (.var 0) (.lit (.int 1))) (.bin .mul (.bin .pow (.lit (.int 10)) (.lit (.int 6))) (.ix (.var 0) (.lit (.int 2))))))
   (.cons (.forS 3 (.rng (.bin .add (.lit (.int 1)) (.ix (.var 0) (.lit (.int 0))))) lwB) lwE)) := rfl
theorem run_lword2 (k : Nat) (a b c : Int) (ha : 0 ≤ a ∧ a < 13) : ∃ w ps, w ≠ [] ∧ w.all isL = true ∧ w.length ≤ 13 ∧ runF tb fds (k + 1) 10 [.d (.lst [.int a, .int b, .int c])] = .ok (.d (.str (S w))) ps := by
  have i0 : L2.atI [D.int a, D.int b, D.int c] (0 : Int) = some (.int a) := rfl
  have i1 : L2.atI [D.int a, D.int b, D.int c] (1 : Int) = some (.int b) := rfl
  have i2 : L2.atI [D.int a, D.int b, D.int c] (2 : Int) = some (.int c) := rfl
  generalize hdd : [D.int a, D.int b, D.int c] = dd at i0 i1 i2
  have hr : (rngD 0 (1 + a)).length = (1 + a).toNat := by unfold rngD; rw [List.length_map, List.length_range]; congr 1; omega
  obtain ⟨w, r, s, h1, h2, h3⟩ := lw_loop (runF tb fds k) (.lst dd) (rngD 0 (1 + a)) [] (b + 1000000 * c) .un rfl (by rw [hr]; simp; omega)
  rw [hr] at h2
  simp only [List.length_nil, Nat.zero_add] at h2
  have ro : rngOk 0 (1 + a) = true := by
    unfold rngOk line
    exact decide_eq_true (by omega)
  have ef : ex tb (runF tb fds k) 1 (.forS 3 (.rng (.bin .add (.lit (.int 1)) (.ix (.var 0) (.lit (.int 0))))) lwB) [.d (.lst dd), .d (.str (S [])), .d (.int (b + 1000000 * c)), .un] = _ := ex_for_nx (v := .non) (evI_rng (n := 1 + a) (by simp [fds, exs, ex.eq_1, ex.eq_2, ex.eq_3, ex.eq_4, ex.eq_5, ex.eq_6, ex.eq_7, ex.eq_8, ex.eq_10, ex.eq_12, ex.eq_13, ex.eq_14, ex.eq_15, ev.eq_1, ev.eq_2, ev.eq_3, ev.eq_4, ev.eq_5, ev.eq_6, ev.eq_7, ev.eq_8, ev.eq_9, ev.eq_10, ev.eq_11, ev.eq_12, ev.eq_13, ev.eq_14, ev.eq_15, ev.eq_16, ev.eq_17, ev.eq_18, ev.eq_19, ev.eq_20, ev.eq_21, ev.eq_22, ev.eq_23, evA, evs, evI, O.then, R.to, R.bind, EN.store, EN.storeAll, kp, kpF, seen, vw, opB, opC, opF, opI, opS, truD, R.val, R.dat, R.bool, isOwn, isLst, Env.at, O.end, retO, mask, flatD, List.mapM_cons, List.mapM_nil, eqD, eqS, callR, prep, prepV, handAll, handed, slotsOf, backR, back, mdz, prtR, IE.nl, isiR, excAt, isTy, Tb.tok, Cn.toD, cnPut, gc0, gc1, gc2, gc3, nk4, ne2, efl, ln0, ln1, ln2, ln3, ln4, ln5, ln6, S_eq, S_list, S_len, S_lp, S_rp, S_cm, S_qt, S_none, S_e, S_ce, S_sp, S_mn, S_0, S_9, S_a, S_z, i0]) ro) h3
  have fin : ∃ w', w' ≠ [] ∧ w'.all isL = true ∧ w'.length ≤ 13 ∧ exs tb (runF tb fds k) 1 lwE [.d (.lst dd), .d (.str (S w)), .d (.int r), s] = .rt (.d (.str (S w'))) [.d (.lst dd), .d (.str (S w)), .d (.int r), s] := by
    have l1 : w.length ≤ line := by unfold line; omega
    by_cases h : c % 7 = 3
    · refine ⟨List.replicate w.length 32, fun z => ?_, ?_, ?_, ?_⟩
      · have := congrArg List.length z
        rw [List.length_replicate] at this
        simp only [List.length_nil] at this
        omega
      · rw [List.all_replicate]; simp [isL]
      · rw [List.length_replicate]; omega
      · have e : mulS (S [32]) ((w.length : Nat) : Int) = S (List.replicate w.length 32) := by rw [mulS_eq, rep_one]
        have g1 : ((w.length : Nat) : Int) ≤ 100000 := by omega
        have g2 : (-100000 : Int) ≤ ((w.length : Nat) : Int) := by omega
        unfold lwE
        generalize hn : ((w.length : Nat) : Int) = n at e g1 g2
        simp [fds, exs, ex.eq_1, ex.eq_2, ex.eq_3, ex.eq_4, ex.eq_5, ex.eq_6, ex.eq_7, ex.eq_8, ex.eq_10, ex.eq_12, ex.eq_13, ex.eq_14, ex.eq_15, ev.eq_1, ev.eq_2, ev.eq_3, ev.eq_4, ev.eq_5, ev.eq_6, ev.eq_7, ev.eq_8, ev.eq_9, ev.eq_10, ev.eq_11, ev.eq_12, ev.eq_13, ev.eq_14, ev.eq_15, ev.eq_16, ev.eq_17, ev.eq_18, ev.eq_19, ev.eq_20, ev.eq_21, ev.eq_22, ev.eq_23, evA, evs, evI, O.then, R.to, R.bind, EN.store, EN.storeAll, kp, kpF, seen, vw, opB, opC, opF, opI, opS, truD, R.val, R.dat, R.bool, isOwn, isLst, Env.at, O.end, retO, mask, flatD, List.mapM_cons, List.mapM_nil, eqD, eqS, callR, prep, prepV, handAll, handed, slotsOf, backR, back, mdz, prtR, IE.nl, isiR, excAt, isTy, Tb.tok, Cn.toD, cnPut, gc0, gc1, gc2, gc3, nk4, ne2, efl, ln0, ln1, ln2, ln3, ln4, ln5, ln6, S_eq, S_list, S_len, S_lp, S_rp, S_cm, S_qt, S_none, S_e, S_ce, S_sp, S_mn, S_0, S_9, S_a, S_z, i2, h, l1, e, g1, g2, hn]
    · refine ⟨w, fun z => ?_, h1, by omega, ?_⟩
      · rw [z] at h2
        simp only [List.length_nil] at h2
        omega
      · unfold lwE
        simp [fds, exs, ex.eq_1, ex.eq_2, ex.eq_3, ex.eq_4, ex.eq_5, ex.eq_6, ex.eq_7, ex.eq_8, ex.eq_10, ex.eq_12, ex.eq_13, ex.eq_14, ex.eq_15, ev.eq_1, ev.eq_2, ev.eq_3, ev.eq_4, ev.eq_5, ev.eq_6, ev.eq_7, ev.eq_8, ev.eq_9, ev.eq_10, ev.eq_11, ev.eq_12, ev.eq_13, ev.eq_14, ev.eq_15, ev.eq_16, ev.eq_17, ev.eq_18, ev.eq_19, ev.eq_20, ev.eq_21, ev.eq_22, ev.eq_23, evA, evs, evI, O.then, R.to, R.bind, EN.store, EN.storeAll, kp, kpF, seen, vw, opB, opC, opF, opI, opS, truD, R.val, R.dat, R.bool, isOwn, isLst, Env.at, O.end, retO, mask, flatD, List.mapM_cons, List.mapM_nil, eqD, eqS, callR, prep, prepV, handAll, handed, slotsOf, backR, back, mdz, prtR, IE.nl, isiR, excAt, isTy, Tb.tok, Cn.toD, cnPut, gc0, gc1, gc2, gc3, nk4, ne2, efl, ln0, ln1, ln2, ln3, ln4, ln5, ln6, S_eq, S_list, S_len, S_lp, S_rp, S_cm, S_qt, S_none, S_e, S_ce, S_sp, S_mn, S_0, S_9, S_a, S_z, i2, h]
  obtain ⟨w', f1, f2, f3, f4⟩ := fin
  refine ⟨w', [.un], f1, f2, f3, ?_⟩
  rw [runF]
  simp only [fds, b_word]
  have es : exs tb (runF tb fds k) 1 (.cons (.asg 1 (.lit (.str ""))) (.cons (.asg 2 (.bin .add (.ix (.var 0) (.lit (.int 1))) (.bin .mul (.bin .pow (.lit (.int 10)) (.lit (.int 6))) (.ix (.var 0) (.lit (.int 2))))))
   (.cons (.forS 3 (.rng (.bin .add (.lit (.int 1)) (.ix (.var 0) (.lit (.int 0))))) lwB) lwE))) [.d (.lst dd), .un, .un, .un] = exs tb (runF tb fds k) 1 (.cons (.forS 3 (.rng (.bin .add (.lit (.int 1)) (.ix (.var 0) (.lit (.int 0))))) lwB) lwE) [.d (.lst dd), .d (.str (S [])), .d (.int (b + 1000000 * c)), .un] := by
    generalize ISs.cons (.forS 3 (.rng (.bin .add (.lit (.int 1)) (.ix (.var 0) (.lit (.int 0))))) lwB) lwE = W
    simp [fds, exs, ex.eq_1, ex.eq_2, ex.eq_3, ex.eq_4, ex.eq_5, ex.eq_6, ex.eq_7, ex.eq_8, ex.eq_10, ex.eq_12, ex.eq_13, ex.eq_14, ex.eq_15, ev.eq_1, ev.eq_2, ev.eq_3, ev.eq_4, ev.eq_5, ev.eq_6, ev.eq_7, ev.eq_8, ev.eq_9, ev.eq_10, ev.eq_11, ev.eq_12, ev.eq_13, ev.eq_14, ev.eq_15, ev.eq_16, ev.eq_17, ev.eq_18, ev.eq_19, ev.eq_20, ev.eq_21, ev.eq_22, ev.eq_23, evA, evs, evI, O.then, R.to, R.bind, EN.store, EN.storeAll, kp, kpF, seen, vw, opB, opC, opF, opI, opS, truD, R.val, R.dat, R.bool, isOwn, isLst, Env.at, O.end, retO, mask, flatD, List.mapM_cons, List.mapM_nil, eqD, eqS, callR, prep, prepV, handAll, handed, slotsOf, backR, back, mdz, prtR, IE.nl, isiR, excAt, isTy, Tb.tok, Cn.toD, cnPut, gc0, gc1, gc2, gc3, nk4, ne2, efl, ln0, ln1, ln2, ln3, ln4, ln5, ln6, S_eq, S_list, S_len, S_lp, S_rp, S_cm, S_qt, S_none, S_e, S_ce, S_sp, S_mn, S_0, S_9, S_a, S_z, i1, i2]
  have es := es.trans (exs_cons ef)
  show O.end _ (exs tb (runF tb fds k) 1 _ [.d (.lst dd), .un, .un, .un]) = _
  rw [es, f4]
  rfl
end K74
namespace K74
open PySem EN NumText
theorem dr5 {xs : List Int} {a b c d e : Int} (h : Dr xs [a, b, c, d, e]) : ∃ x1 x2 x3 x4 x5, xs = [x1, x2, x3, x4, x5] ∧ (0 ≤ x1 ∧ x1 < a) ∧ (0 ≤ x2 ∧ x2 < b) ∧ (0 ≤ x3 ∧ x3 < c) ∧ (0 ≤ x4 ∧ x4 < d) ∧ (0 ≤ x5 ∧ x5 < e) := by
  match xs, h with
  | [x1, x2, x3, x4, x5], ⟨h1, h2, h3, h4, h5, _⟩ => exact ⟨x1, x2, x3, x4, x5, rfl, h1, h2, h3, h4, h5⟩
theorem dr2 {xs : List Int} {a b : Int} (h : Dr xs [a, b]) : ∃ x1 x2, xs = [x1, x2] ∧ (0 ≤ x1 ∧ x1 < a) ∧ (0 ≤ x2 ∧ x2 < b) := by
  match xs, h with
  | [x1, x2], ⟨h1, h2, _⟩ => exact ⟨x1, x2, rfl, h1, h2⟩
theorem dr3 {xs : List Int} {a b c : Int} (h : Dr xs [a, b, c]) : ∃ x1 x2 x3, xs = [x1, x2, x3] ∧ (0 ≤ x1 ∧ x1 < a) ∧ (0 ≤ x2 ∧ x2 < b) ∧ (0 ≤ x3 ∧ x3 < c) := by
  match xs, h with
  | [x1, x2, x3], ⟨h1, h2, h3, _⟩ => exact ⟨x1, x2, x3, rfl, h1, h2, h3⟩
theorem leaf_len (v : D) (h : gl v) : (tT v).length ≤ 15 := by
  rcases h with rfl | ⟨i, rfl, hi⟩ | ⟨w, rfl, h1, h2, h3⟩
  · rw [tT]; simp
  · have := (num_rt i hi).2.2.2.1; omega
  · rw [tT]; simp; omega
def gf (v : D) : Prop := gv 1 v ∧ (tT v).length ≤ 15
theorem run_leaf (k : Nat) (ns : List Int) (kk : Nat) (hkk : kk < 1000) : ∃ v ps, gf v ∧ runF tb fds (k + 2) 11 [.d (.scr ns), .d (.int kk)] = .ok (.d v) ps := by
  obtain ⟨xs, ps, h, e⟩ := draws k ns kk [6, 8, 1000000, 1000000, 13] (by simp) (by simp) hkk
  obtain ⟨x1, x2, x3, x4, x5, rfl, h1, h2, h3, h4, h5⟩ := dr5 h
  obtain ⟨i, p1, hi, ei⟩ := run_lint k x2 x3 x4 x5 h2 h3 h4
  obtain ⟨w, p2, w1, w2, w3, ew⟩ := run_lword2 k x5 x3 x4 h5
  simp only [List.map_cons, List.map_nil] at e
  have i0 : L2.atI [D.int x1, D.int x2, D.int x3, D.int x4, D.int x5] (0 : Int) = some (.int x1) := rfl
  have i2 : L2.atI [D.int x1, D.int x2, D.int x3, D.int x4, D.int x5] (2 : Int) = some (.int x3) := rfl
  have i3 : L2.atI [D.int x1, D.int x2, D.int x3, D.int x4, D.int x5] (3 : Int) = some (.int x4) := rfl
  have i4 : L2.atI [D.int x1, D.int x2, D.int x3, D.int x4, D.int x5] (4 : Int) = some (.int x5) := rfl
  have ic : EN.cut [D.int x1, D.int x2, D.int x3, D.int x4, D.int x5] (some 1) none = [D.int x2, D.int x3, D.int x4, D.int x5] := rfl
  generalize [D.int x1, D.int x2, D.int x3, D.int x4, D.int x5] = dd at i0 i2 i3 i4 ic e
  generalize (kk : Int) = kz at e ⊢
  rw [show k + 2 = (k + 1) + 1 by omega]
  by_cases c1 : x1 < 2
  · refine ⟨.int i, [.un, .un], ⟨.inl (.inr (.inl ⟨i, rfl, hi⟩)), leaf_len _ (.inr (.inl ⟨i, rfl, hi⟩))⟩, ?_⟩
    rw [runF]
    simp [fds, exs, ex.eq_1, ex.eq_2, ex.eq_3, ex.eq_4, ex.eq_5, ex.eq_6, ex.eq_7, ex.eq_8, ex.eq_10, ex.eq_12, ex.eq_13, ex.eq_14, ex.eq_15, ev.eq_1, ev.eq_2, ev.eq_3, ev.eq_4, ev.eq_5, ev.eq_6, ev.eq_7, ev.eq_8, ev.eq_9, ev.eq_10, ev.eq_11, ev.eq_12, ev.eq_13, ev.eq_14, ev.eq_15, ev.eq_16, ev.eq_17, ev.eq_18, ev.eq_19, ev.eq_20, ev.eq_21, ev.eq_22, ev.eq_23, evA, evs, evI, O.then, R.to, R.bind, EN.store, EN.storeAll, kp, kpF, seen, vw, opB, opC, opF, opI, opS, truD, R.val, R.dat, R.bool, isOwn, isLst, Env.at, O.end, retO, mask, flatD, List.mapM_cons, List.mapM_nil, eqD, eqS, callR, prep, prepV, handAll, handed, slotsOf, backR, back, mdz, prtR, IE.nl, isiR, excAt, isTy, Tb.tok, Cn.toD, cnPut, gc0, gc1, gc2, gc3, nk4, ne2, efl, ln0, ln1, ln2, ln3, ln4, ln5, ln6, S_eq, S_list, S_len, S_lp, S_rp, S_cm, S_qt, S_none, S_e, S_ce, S_sp, S_mn, S_0, S_9, S_a, S_z, b__law_leaf, e, i0, c1, ic, ei]
  · by_cases c2 : x1 < 4
    · refine ⟨.str (S w), [.un, .un], ⟨.inl (.inr (.inr ⟨w, rfl, w1, w2, w3⟩)), leaf_len _ (.inr (.inr ⟨w, rfl, w1, w2, w3⟩))⟩, ?_⟩
      rw [runF]
      simp [fds, exs, ex.eq_1, ex.eq_2, ex.eq_3, ex.eq_4, ex.eq_5, ex.eq_6, ex.eq_7, ex.eq_8, ex.eq_10, ex.eq_12, ex.eq_13, ex.eq_14, ex.eq_15, ev.eq_1, ev.eq_2, ev.eq_3, ev.eq_4, ev.eq_5, ev.eq_6, ev.eq_7, ev.eq_8, ev.eq_9, ev.eq_10, ev.eq_11, ev.eq_12, ev.eq_13, ev.eq_14, ev.eq_15, ev.eq_16, ev.eq_17, ev.eq_18, ev.eq_19, ev.eq_20, ev.eq_21, ev.eq_22, ev.eq_23, evA, evs, evI, O.then, R.to, R.bind, EN.store, EN.storeAll, kp, kpF, seen, vw, opB, opC, opF, opI, opS, truD, R.val, R.dat, R.bool, isOwn, isLst, Env.at, O.end, retO, mask, flatD, List.mapM_cons, List.mapM_nil, eqD, eqS, callR, prep, prepV, handAll, handed, slotsOf, backR, back, mdz, prtR, IE.nl, isiR, excAt, isTy, Tb.tok, Cn.toD, cnPut, gc0, gc1, gc2, gc3, nk4, ne2, efl, ln0, ln1, ln2, ln3, ln4, ln5, ln6, S_eq, S_list, S_len, S_lp, S_rp, S_cm, S_qt, S_none, S_e, S_ce, S_sp, S_mn, S_0, S_9, S_a, S_z, b__law_leaf, e, i0, i2, i3, i4, c1, c2, ew]
    · by_cases c3 : x1 = 4
      · refine ⟨.non, [.un, .un], ⟨.inl (.inl rfl), leaf_len _ (.inl rfl)⟩, ?_⟩
        rw [runF]
        simp [fds, exs, ex.eq_1, ex.eq_2, ex.eq_3, ex.eq_4, ex.eq_5, ex.eq_6, ex.eq_7, ex.eq_8, ex.eq_10, ex.eq_12, ex.eq_13, ex.eq_14, ex.eq_15, ev.eq_1, ev.eq_2, ev.eq_3, ev.eq_4, ev.eq_5, ev.eq_6, ev.eq_7, ev.eq_8, ev.eq_9, ev.eq_10, ev.eq_11, ev.eq_12, ev.eq_13, ev.eq_14, ev.eq_15, ev.eq_16, ev.eq_17, ev.eq_18, ev.eq_19, ev.eq_20, ev.eq_21, ev.eq_22, ev.eq_23, evA, evs, evI, O.then, R.to, R.bind, EN.store, EN.storeAll, kp, kpF, seen, vw, opB, opC, opF, opI, opS, truD, R.val, R.dat, R.bool, isOwn, isLst, Env.at, O.end, retO, mask, flatD, List.mapM_cons, List.mapM_nil, eqD, eqS, callR, prep, prepV, handAll, handed, slotsOf, backR, back, mdz, prtR, IE.nl, isiR, excAt, isTy, Tb.tok, Cn.toD, cnPut, gc0, gc1, gc2, gc3, nk4, ne2, efl, ln0, ln1, ln2, ln3, ln4, ln5, ln6, S_eq, S_list, S_len, S_lp, S_rp, S_cm, S_qt, S_none, S_e, S_ce, S_sp, S_mn, S_0, S_9, S_a, S_z, b__law_leaf, e, i0, c1, c2, c3]
      · refine ⟨.tup [], [.un, .un], ⟨.inr ⟨[], rfl, by simp, by simp⟩, by rw [tT]; simp [tTs, joinT]⟩, ?_⟩
        rw [runF]
        simp [fds, exs, ex.eq_1, ex.eq_2, ex.eq_3, ex.eq_4, ex.eq_5, ex.eq_6, ex.eq_7, ex.eq_8, ex.eq_10, ex.eq_12, ex.eq_13, ex.eq_14, ex.eq_15, ev.eq_1, ev.eq_2, ev.eq_3, ev.eq_4, ev.eq_5, ev.eq_6, ev.eq_7, ev.eq_8, ev.eq_9, ev.eq_10, ev.eq_11, ev.eq_12, ev.eq_13, ev.eq_14, ev.eq_15, ev.eq_16, ev.eq_17, ev.eq_18, ev.eq_19, ev.eq_20, ev.eq_21, ev.eq_22, ev.eq_23, evA, evs, evI, O.then, R.to, R.bind, EN.store, EN.storeAll, kp, kpF, seen, vw, opB, opC, opF, opI, opS, truD, R.val, R.dat, R.bool, isOwn, isLst, Env.at, O.end, retO, mask, flatD, List.mapM_cons, List.mapM_nil, eqD, eqS, callR, prep, prepV, handAll, handed, slotsOf, backR, back, mdz, prtR, IE.nl, isiR, excAt, isTy, Tb.tok, Cn.toD, cnPut, gc0, gc1, gc2, gc3, nk4, ne2, efl, ln0, ln1, ln2, ln3, ln4, ln5, ln6, S_eq, S_list, S_len, S_lp, S_rp, S_cm, S_qt, S_none, S_e, S_ce, S_sp, S_mn, S_0, S_9, S_a, S_z, b__law_leaf, e, i0, c1, c2, c3]
end K74
namespace K74
open PySem EN NumText
theorem sum_set : ∀ (vs : List D) (i : Nat) (v : D), (((vs.set i v).map tT).map List.length).sum ≤ ((vs.map tT).map List.length).sum + (tT v).length
  | [], i, v => by simp
  | x :: vs, 0, v => by simp; omega
  | x :: vs, i + 1, v => by
    have := sum_set vs i v
    simp only [List.set_cons_succ, List.map_cons, List.sum_cons]
    omega
theorem sum_le : ∀ (vs : List D), (∀ x ∈ vs, (tT x).length ≤ 15) → ((vs.map tT).map List.length).sum ≤ 15 * vs.length
  | [], _ => by simp
  | x :: vs, h => by
    have := sum_le vs fun y hy => h y (List.mem_cons_of_mem _ hy)
    have := h x List.mem_cons_self
    simp only [List.map_cons, List.sum_cons, List.length_cons]
    omega
theorem join_le (vs : List D) : (joinT (tTs vs)).length ≤ ((vs.map tT).map List.length).sum + vs.length := by
  rw [tTs_map]
  cases vs with
  | nil => simp [joinT]
  | cons x vs =>
    rw [List.map_cons, join_len]
    simp only [List.map_cons, List.sum_cons, List.length_cons, List.length_map]
    omega
theorem tup_set (d : Nat) (vs : List D) (i : Nat) (v : D) (hl : vs.length ≤ 6) (h : ∀ x ∈ vs, gf x) (hv : gv (d + 1) v) : gv (d + 2) (.tup (vs.set i v)) ∧ (tT (.tup (vs.set i v))).length ≤ (tT v).length + 100 := by
  constructor
  · refine .inr ⟨_, rfl, by rw [List.length_set]; exact hl, fun x hx => ?_⟩
    rcases List.mem_or_eq_of_mem_set hx with hx | rfl
    · have up : ∀ n, gv (n + 1) x := fun n => by
        induction n with
        | zero => exact (h x hx).1
        | succ n ih => exact gv_up _ _ ih
      exact up d
    · exact hv
  · have a := sum_set vs i v
    have b := sum_le vs fun x hx => (h x hx).2
    have c := join_le (vs.set i v)
    have t := tup_len (vs.set i v)
    rw [List.length_set] at c t
    split at t <;> omega
theorem atSet {vs : List D} {n : Nat} {iz : Int} {v : D} (hn : vs.length = n) (h : 0 ≤ iz ∧ iz < n) : cnPut (.int iz) v (.lst vs) = some (.lst (vs.set iz.toNat v)) := by
  unfold cnPut L2.ixN
  have h1 : 0 ≤ iz := h.1
  have h2 : iz < (vs.length : Int) := by omega
  simp only [h1, h2, if_true]
def lvC : IE := (.lc (.call 11 (.cons (.var 0) (.cons (.bin .add (.lit (.int 22)) (.bin .mod (.bi .int (.cons (.bin .add (.bin .mul (.lit (.int 4)) (.var 4)) (.var 8)) .nil)) (.lit (.int 36)))) .nil))) 8 (.rng (.var 6)) false (.lit (.bl true)))
def lvP : ISs := (.cons (.put 7 (.bin .mod (.bi .int (.cons (.ix (.var 5) (.lit (.int 1))) .nil)) (.var 6)) (.var 2)) (.cons (.asg 2 (.bi .tuple (.cons (.var 7) .nil))) .nil))
def lvA : IS := (.asg 6 (.ix (.lst (.cons (.lit (.int 1)) (.cons (.lit (.int 1)) (.cons (.lit (.int 2)) (.cons (.lit (.int 3)) (.cons (.lit (.int 6)) (.cons (.lit (.int 2)) .nil))))))) (.ix (.var 5) (.lit (.int 0)))))
def lvI : IS := (.ifS (.and (.cmp .gt (.var 3) (.lit (.int 4))) (.cmp .gt (.var 6) (.lit (.int 2)))) (.cons (.asg 6 (.lit (.int 1))) .nil) .nil)
def lvD : IS := (.asg 5 (.call 7 (.cons (.var 0) (.cons (.bin .add (.lit (.int 2)) (.var 4)) (.cons (.lst (.cons (.lit (.int 6)) (.cons (.lit (.int 4)) .nil))) .nil)))))
def lvB : ISs := .cons lvD (.cons lvA (.cons lvI (.cons (.asg 7 lvC) lvP)))
/-- the slots: the drawn, the value, how many rounds, the round, the row, the size, the parts -/
def vE (ns : List Int) (c : Cn) (v : D) (rz : Int) (s4 s5 s6 s7 : EN.Slot) : EN.Env := [.d (.scr ns), .own c, .d v, .d (.int rz), s4, s5, s6, s7, .un]
theorem lv_parts (fn : Fn) (ns : List Int) (hf : ∀ kk : Nat, kk < 1000 → ∃ v ps, gf v ∧ fn 11 [.d (.scr ns), .d (.int kk)] = .ok (.d v) ps) (c : Cn) (v : D) (rz tz : Int) (s5 s7 : EN.Slot) (n : Nat) (hn : n ≤ 6) :
    ∃ vs : List D, vs.length = n ∧ (∀ x ∈ vs, gf x) ∧ ex tb fn 1 (.asg 7 lvC) (vE ns c v rz (.d (.int tz)) s5 (.d (.int n)) s7) = .nx (vE ns c v rz (.d (.int tz)) s5 (.d (.int n)) (.own (.lst vs))) := by
  have h1 : ∀ j : Int, ∃ x : D, gf x ∧ ∃ ps, fn 11 [.d (.scr ns), .d (.int (22 + (4 * tz + j) % 36))] = .ok (.d x) ps := fun j => by
    have q1 := Int.emod_nonneg (4 * tz + j) (b := 36) (by decide)
    have q2 := Int.emod_lt_of_pos (4 * tz + j) (b := 36) (by decide)
    obtain ⟨x, ps, g, e⟩ := hf (22 + (4 * tz + j) % 36).toNat (by omega)
    rw [Int.toNat_of_nonneg (by omega)] at e
    exact ⟨x, g, ps, e⟩
  obtain ⟨f, hf⟩ := Classical.axiomOfChoice h1
  let g : D → D := fun x => match x with
    | .int j => f j
    | _ => .non
  have lc := ev_lc (T := tb) (fn := fn) (np := 1) (elt := .call 11 (.cons (.var 0) (.cons (.bin .add (.lit (.int 22)) (.bin .mod (.bi .int (.cons (.bin .add (.bin .mul (.lit (.int 4)) (.var 4)) (.var 8)) .nil)) (.lit (.int 36)))) .nil))) (i := 8) (it := .rng (.var 6)) (c := .lit (.bl true)) (ρ := vE ns c v rz (.d (.int tz)) s5 (.d (.int n)) s7) (v := .non) (xs := rngD 0 (n : Int)) g
    (evI_rng (by unfold vE; simp [fds, exs, ex.eq_1, ex.eq_2, ex.eq_3, ex.eq_4, ex.eq_5, ex.eq_6, ex.eq_7, ex.eq_8, ex.eq_10, ex.eq_12, ex.eq_13, ex.eq_14, ex.eq_15, ev.eq_1, ev.eq_2, ev.eq_3, ev.eq_4, ev.eq_5, ev.eq_6, ev.eq_7, ev.eq_8, ev.eq_9, ev.eq_10, ev.eq_11, ev.eq_12, ev.eq_13, ev.eq_14, ev.eq_15, ev.eq_16, ev.eq_17, ev.eq_18, ev.eq_19, ev.eq_20, ev.eq_21, ev.eq_22, ev.eq_23, evA, evs, evI, O.then, R.to, R.bind, EN.store, EN.storeAll, kp, kpF, seen, vw, opB, opC, opF, opI, opS, truD, R.val, R.dat, R.bool, isOwn, isLst, Env.at, O.end, retO, mask, flatD, List.mapM_cons, List.mapM_nil, eqD, eqS, callR, prep, prepV, handAll, handed, slotsOf, backR, back, mdz, prtR, IE.nl, isiR, excAt, isTy, Tb.tok, Cn.toD, cnPut, gc0, gc1, gc2, gc3, nk4, ne2, efl, ln0, ln1, ln2, ln3, ln4, ln5, ln6, S_eq, S_list, S_len, S_lp, S_rp, S_cm, S_qt, S_none, S_e, S_ce, S_sp, S_mn, S_0, S_9, S_a, S_z]) (rng_ok (by unfold line; omega))) rfl rfl (fun x hx => by
      obtain ⟨j, _, rfl⟩ := rng_mem hx
      obtain ⟨_, ps, e⟩ := hf (j : Int)
      show _ = R.ok (f (j : Int)) _
      generalize (j : Int) = jz at e ⊢
      unfold vE
      simp [fds, exs, ex.eq_1, ex.eq_2, ex.eq_3, ex.eq_4, ex.eq_5, ex.eq_6, ex.eq_7, ex.eq_8, ex.eq_10, ex.eq_12, ex.eq_13, ex.eq_14, ex.eq_15, ev.eq_1, ev.eq_2, ev.eq_3, ev.eq_4, ev.eq_5, ev.eq_6, ev.eq_7, ev.eq_8, ev.eq_9, ev.eq_10, ev.eq_11, ev.eq_12, ev.eq_13, ev.eq_14, ev.eq_15, ev.eq_16, ev.eq_17, ev.eq_18, ev.eq_19, ev.eq_20, ev.eq_21, ev.eq_22, ev.eq_23, evA, evs, evI, O.then, R.to, R.bind, EN.store, EN.storeAll, kp, kpF, seen, vw, opB, opC, opF, opI, opS, truD, R.val, R.dat, R.bool, isOwn, isLst, Env.at, O.end, retO, mask, flatD, List.mapM_cons, List.mapM_nil, eqD, eqS, callR, prep, prepV, handAll, handed, slotsOf, backR, back, mdz, prtR, IE.nl, isiR, excAt, isTy, Tb.tok, Cn.toD, cnPut, gc0, gc1, gc2, gc3, nk4, ne2, efl, ln0, ln1, ln2, ln3, ln4, ln5, ln6, S_eq, S_list, S_len, S_lp, S_rp, S_cm, S_qt, S_none, S_e, S_ce, S_sp, S_mn, S_0, S_9, S_a, S_z, e])
  refine ⟨(rngD 0 (n : Int)).map g, by rw [List.length_map, rng_len], fun x hx => ?_, ?_⟩
  · obtain ⟨y, hy, rfl⟩ := List.mem_map.mp hx
    obtain ⟨j, _, rfl⟩ := rng_mem hy
    exact (hf (j : Int)).1
  · have lc : ev tb fn 1 lvC _ = _ := lc
    rw [ex.eq_1, lc]
    unfold vE
    simp [fds, exs, ex.eq_1, ex.eq_2, ex.eq_3, ex.eq_4, ex.eq_5, ex.eq_6, ex.eq_7, ex.eq_8, ex.eq_10, ex.eq_12, ex.eq_13, ex.eq_14, ex.eq_15, ev.eq_1, ev.eq_2, ev.eq_3, ev.eq_4, ev.eq_5, ev.eq_6, ev.eq_7, ev.eq_8, ev.eq_9, ev.eq_10, ev.eq_11, ev.eq_12, ev.eq_13, ev.eq_14, ev.eq_15, ev.eq_16, ev.eq_17, ev.eq_18, ev.eq_19, ev.eq_20, ev.eq_21, ev.eq_22, ev.eq_23, evA, evs, evI, O.then, R.to, R.bind, EN.store, EN.storeAll, kp, kpF, seen, vw, opB, opC, opF, opI, opS, truD, R.val, R.dat, R.bool, isOwn, isLst, Env.at, O.end, retO, mask, flatD, List.mapM_cons, List.mapM_nil, eqD, eqS, callR, prep, prepV, handAll, handed, slotsOf, backR, back, mdz, prtR, IE.nl, isiR, excAt, isTy, Tb.tok, Cn.toD, cnPut, gc0, gc1, gc2, gc3, nk4, ne2, efl, ln0, ln1, ln2, ln3, ln4, ln5, ln6, S_eq, S_list, S_len, S_lp, S_rp, S_cm, S_qt, S_none, S_e, S_ce, S_sp, S_mn, S_0, S_9, S_a, S_z]
theorem lv_put (fn : Fn) (ns : List Int) (c : Cn) (v : D) (rz tz x1 x2 : Int) (n : Nat) (hn : 1 ≤ n) (vs : List D) (hl : vs.length = n) :
    ∃ i, exs tb fn 1 lvP (vE ns c v rz (.d (.int tz)) (.own (.lst [.int x1, .int x2])) (.d (.int n)) (.own (.lst vs))) = .nx (vE ns c (.tup (vs.set i v)) rz (.d (.int tz)) (.own (.lst [.int x1, .int x2])) (.d (.int n)) (.own (.lst (vs.set i v)))) := by
  have q1 := Int.emod_nonneg x2 (b := (n : Int)) (by omega)
  have q2 := Int.emod_lt_of_pos x2 (b := (n : Int)) (by omega)
  have st := atSet (v := v) hl ⟨q1, q2⟩
  refine ⟨(x2 % (n : Int)).toNat, ?_⟩
  have i1 : L2.atI [D.int x1, D.int x2] (1 : Int) = some (.int x2) := rfl
  have hp : (0 : Int) < (n : Int) := by omega
  generalize vs.set (x2 % (n : Int)).toNat v = ws at st ⊢
  generalize (n : Int) = nz at st hp ⊢
  unfold lvP vE
  simp [fds, exs, ex.eq_1, ex.eq_2, ex.eq_3, ex.eq_4, ex.eq_5, ex.eq_6, ex.eq_7, ex.eq_8, ex.eq_10, ex.eq_12, ex.eq_13, ex.eq_14, ex.eq_15, ev.eq_1, ev.eq_2, ev.eq_3, ev.eq_4, ev.eq_5, ev.eq_6, ev.eq_7, ev.eq_8, ev.eq_9, ev.eq_10, ev.eq_11, ev.eq_12, ev.eq_13, ev.eq_14, ev.eq_15, ev.eq_16, ev.eq_17, ev.eq_18, ev.eq_19, ev.eq_20, ev.eq_21, ev.eq_22, ev.eq_23, evA, evs, evI, O.then, R.to, R.bind, EN.store, EN.storeAll, kp, kpF, seen, vw, opB, opC, opF, opI, opS, truD, R.val, R.dat, R.bool, isOwn, isLst, Env.at, O.end, retO, mask, flatD, List.mapM_cons, List.mapM_nil, eqD, eqS, callR, prep, prepV, handAll, handed, slotsOf, backR, back, mdz, prtR, IE.nl, isiR, excAt, isTy, Tb.tok, Cn.toD, cnPut, gc0, gc1, gc2, gc3, nk4, ne2, efl, ln0, ln1, ln2, ln3, ln4, ln5, ln6, S_eq, S_list, S_len, S_lp, S_rp, S_cm, S_qt, S_none, S_e, S_ce, S_sp, S_mn, S_0, S_9, S_a, S_z, -cnPut, i1, hp, st]
theorem lv_size (fn : Fn) (ns : List Int) (c : Cn) (v : D) (rz tz x1 x2 : Int) (h : 0 ≤ x1 ∧ x1 < 6) (s6 s7 : EN.Slot) (W : ISs) :
    ∃ n : Nat, 1 ≤ n ∧ n ≤ 6 ∧ exs tb fn 1 (.cons lvA (.cons lvI W)) (vE ns c v rz (.d (.int tz)) (.own (.lst [.int x1, .int x2])) s6 s7) = exs tb fn 1 W (vE ns c v rz (.d (.int tz)) (.own (.lst [.int x1, .int x2])) (.d (.int n)) s7) := by
  have i0 : L2.atI [D.int x1, D.int x2] (0 : Int) = some (.int x1) := rfl
  have e1 : ∃ m : Nat, 1 ≤ m ∧ m ≤ 6 ∧ ex tb fn 1 lvA (vE ns c v rz (.d (.int tz)) (.own (.lst [.int x1, .int x2])) s6 s7) = .nx (vE ns c v rz (.d (.int tz)) (.own (.lst [.int x1, .int x2])) (.d (.int m)) s7) := by
    rcases e6 h with rfl | rfl | rfl | rfl | rfl | rfl
    · exact ⟨1, by omega, by omega, by unfold lvA vE; simp [fds, exs, ex.eq_1, ex.eq_2, ex.eq_3, ex.eq_4, ex.eq_5, ex.eq_6, ex.eq_7, ex.eq_8, ex.eq_10, ex.eq_12, ex.eq_13, ex.eq_14, ex.eq_15, ev.eq_1, ev.eq_2, ev.eq_3, ev.eq_4, ev.eq_5, ev.eq_6, ev.eq_7, ev.eq_8, ev.eq_9, ev.eq_10, ev.eq_11, ev.eq_12, ev.eq_13, ev.eq_14, ev.eq_15, ev.eq_16, ev.eq_17, ev.eq_18, ev.eq_19, ev.eq_20, ev.eq_21, ev.eq_22, ev.eq_23, evA, evs, evI, O.then, R.to, R.bind, EN.store, EN.storeAll, kp, kpF, seen, vw, opB, opC, opF, opI, opS, truD, R.val, R.dat, R.bool, isOwn, isLst, Env.at, O.end, retO, mask, flatD, List.mapM_cons, List.mapM_nil, eqD, eqS, callR, prep, prepV, handAll, handed, slotsOf, backR, back, mdz, prtR, IE.nl, isiR, excAt, isTy, Tb.tok, Cn.toD, cnPut, gc0, gc1, gc2, gc3, nk4, ne2, efl, ln0, ln1, ln2, ln3, ln4, ln5, ln6, S_eq, S_list, S_len, S_lp, S_rp, S_cm, S_qt, S_none, S_e, S_ce, S_sp, S_mn, S_0, S_9, S_a, S_z, i0, L2.atI, L2.ixN]⟩
    · exact ⟨1, by omega, by omega, by unfold lvA vE; simp [fds, exs, ex.eq_1, ex.eq_2, ex.eq_3, ex.eq_4, ex.eq_5, ex.eq_6, ex.eq_7, ex.eq_8, ex.eq_10, ex.eq_12, ex.eq_13, ex.eq_14, ex.eq_15, ev.eq_1, ev.eq_2, ev.eq_3, ev.eq_4, ev.eq_5, ev.eq_6, ev.eq_7, ev.eq_8, ev.eq_9, ev.eq_10, ev.eq_11, ev.eq_12, ev.eq_13, ev.eq_14, ev.eq_15, ev.eq_16, ev.eq_17, ev.eq_18, ev.eq_19, ev.eq_20, ev.eq_21, ev.eq_22, ev.eq_23, evA, evs, evI, O.then, R.to, R.bind, EN.store, EN.storeAll, kp, kpF, seen, vw, opB, opC, opF, opI, opS, truD, R.val, R.dat, R.bool, isOwn, isLst, Env.at, O.end, retO, mask, flatD, List.mapM_cons, List.mapM_nil, eqD, eqS, callR, prep, prepV, handAll, handed, slotsOf, backR, back, mdz, prtR, IE.nl, isiR, excAt, isTy, Tb.tok, Cn.toD, cnPut, gc0, gc1, gc2, gc3, nk4, ne2, efl, ln0, ln1, ln2, ln3, ln4, ln5, ln6, S_eq, S_list, S_len, S_lp, S_rp, S_cm, S_qt, S_none, S_e, S_ce, S_sp, S_mn, S_0, S_9, S_a, S_z, i0, L2.atI, L2.ixN]⟩
    · exact ⟨2, by omega, by omega, by unfold lvA vE; simp [fds, exs, ex.eq_1, ex.eq_2, ex.eq_3, ex.eq_4, ex.eq_5, ex.eq_6, ex.eq_7, ex.eq_8, ex.eq_10, ex.eq_12, ex.eq_13, ex.eq_14, ex.eq_15, ev.eq_1, ev.eq_2, ev.eq_3, ev.eq_4, ev.eq_5, ev.eq_6, ev.eq_7, ev.eq_8, ev.eq_9, ev.eq_10, ev.eq_11, ev.eq_12, ev.eq_13, ev.eq_14, ev.eq_15, ev.eq_16, ev.eq_17, ev.eq_18, ev.eq_19, ev.eq_20, ev.eq_21, ev.eq_22, ev.eq_23, evA, evs, evI, O.then, R.to, R.bind, EN.store, EN.storeAll, kp, kpF, seen, vw, opB, opC, opF, opI, opS, truD, R.val, R.dat, R.bool, isOwn, isLst, Env.at, O.end, retO, mask, flatD, List.mapM_cons, List.mapM_nil, eqD, eqS, callR, prep, prepV, handAll, handed, slotsOf, backR, back, mdz, prtR, IE.nl, isiR, excAt, isTy, Tb.tok, Cn.toD, cnPut, gc0, gc1, gc2, gc3, nk4, ne2, efl, ln0, ln1, ln2, ln3, ln4, ln5, ln6, S_eq, S_list, S_len, S_lp, S_rp, S_cm, S_qt, S_none, S_e, S_ce, S_sp, S_mn, S_0, S_9, S_a, S_z, i0, L2.atI, L2.ixN]⟩
    · exact ⟨3, by omega, by omega, by unfold lvA vE; simp [fds, exs, ex.eq_1, ex.eq_2, ex.eq_3, ex.eq_4, ex.eq_5, ex.eq_6, ex.eq_7, ex.eq_8, ex.eq_10, ex.eq_12, ex.eq_13, ex.eq_14, ex.eq_15, ev.eq_1, ev.eq_2, ev.eq_3, ev.eq_4, ev.eq_5, ev.eq_6, ev.eq_7, ev.eq_8, ev.eq_9, ev.eq_10, ev.eq_11, ev.eq_12, ev.eq_13, ev.eq_14, ev.eq_15, ev.eq_16, ev.eq_17, ev.eq_18, ev.eq_19, ev.eq_20, ev.eq_21, ev.eq_22, ev.eq_23, evA, evs, evI, O.then, R.to, R.bind, EN.store, EN.storeAll, kp, kpF, seen, vw, opB, opC, opF, opI, opS, truD, R.val, R.dat, R.bool, isOwn, isLst, Env.at, O.end, retO, mask, flatD, List.mapM_cons, List.mapM_nil, eqD, eqS, callR, prep, prepV, handAll, handed, slotsOf, backR, back, mdz, prtR, IE.nl, isiR, excAt, isTy, Tb.tok, Cn.toD, cnPut, gc0, gc1, gc2, gc3, nk4, ne2, efl, ln0, ln1, ln2, ln3, ln4, ln5, ln6, S_eq, S_list, S_len, S_lp, S_rp, S_cm, S_qt, S_none, S_e, S_ce, S_sp, S_mn, S_0, S_9, S_a, S_z, i0, L2.atI, L2.ixN]⟩
    · exact ⟨6, by omega, by omega, by unfold lvA vE; simp [fds, exs, ex.eq_1, ex.eq_2, ex.eq_3, ex.eq_4, ex.eq_5, ex.eq_6, ex.eq_7, ex.eq_8, ex.eq_10, ex.eq_12, ex.eq_13, ex.eq_14, ex.eq_15, ev.eq_1, ev.eq_2, ev.eq_3, ev.eq_4, ev.eq_5, ev.eq_6, ev.eq_7, ev.eq_8, ev.eq_9, ev.eq_10, ev.eq_11, ev.eq_12, ev.eq_13, ev.eq_14, ev.eq_15, ev.eq_16, ev.eq_17, ev.eq_18, ev.eq_19, ev.eq_20, ev.eq_21, ev.eq_22, ev.eq_23, evA, evs, evI, O.then, R.to, R.bind, EN.store, EN.storeAll, kp, kpF, seen, vw, opB, opC, opF, opI, opS, truD, R.val, R.dat, R.bool, isOwn, isLst, Env.at, O.end, retO, mask, flatD, List.mapM_cons, List.mapM_nil, eqD, eqS, callR, prep, prepV, handAll, handed, slotsOf, backR, back, mdz, prtR, IE.nl, isiR, excAt, isTy, Tb.tok, Cn.toD, cnPut, gc0, gc1, gc2, gc3, nk4, ne2, efl, ln0, ln1, ln2, ln3, ln4, ln5, ln6, S_eq, S_list, S_len, S_lp, S_rp, S_cm, S_qt, S_none, S_e, S_ce, S_sp, S_mn, S_0, S_9, S_a, S_z, i0, L2.atI, L2.ixN]⟩
    · exact ⟨2, by omega, by omega, by unfold lvA vE; simp [fds, exs, ex.eq_1, ex.eq_2, ex.eq_3, ex.eq_4, ex.eq_5, ex.eq_6, ex.eq_7, ex.eq_8, ex.eq_10, ex.eq_12, ex.eq_13, ex.eq_14, ex.eq_15, ev.eq_1, ev.eq_2, ev.eq_3, ev.eq_4, ev.eq_5, ev.eq_6, ev.eq_7, ev.eq_8, ev.eq_9, ev.eq_10, ev.eq_11, ev.eq_12, ev.eq_13, ev.eq_14, ev.eq_15, ev.eq_16, ev.eq_17, ev.eq_18, ev.eq_19, ev.eq_20, ev.eq_21, ev.eq_22, ev.eq_23, evA, evs, evI, O.then, R.to, R.bind, EN.store, EN.storeAll, kp, kpF, seen, vw, opB, opC, opF, opI, opS, truD, R.val, R.dat, R.bool, isOwn, isLst, Env.at, O.end, retO, mask, flatD, List.mapM_cons, List.mapM_nil, eqD, eqS, callR, prep, prepV, handAll, handed, slotsOf, backR, back, mdz, prtR, IE.nl, isiR, excAt, isTy, Tb.tok, Cn.toD, cnPut, gc0, gc1, gc2, gc3, nk4, ne2, efl, ln0, ln1, ln2, ln3, ln4, ln5, ln6, S_eq, S_list, S_len, S_lp, S_rp, S_cm, S_qt, S_none, S_e, S_ce, S_sp, S_mn, S_0, S_9, S_a, S_z, i0, L2.atI, L2.ixN]⟩
  obtain ⟨m, m1, m2, e1⟩ := e1
  have e2 : ∃ n : Nat, 1 ≤ n ∧ n ≤ 6 ∧ ex tb fn 1 lvI (vE ns c v rz (.d (.int tz)) (.own (.lst [.int x1, .int x2])) (.d (.int m)) s7) = .nx (vE ns c v rz (.d (.int tz)) (.own (.lst [.int x1, .int x2])) (.d (.int n)) s7) := by
    by_cases h1 : (4 : Int) < rz
    · by_cases h2 : (2 : Int) < (m : Int)
      · refine ⟨1, by omega, by omega, ?_⟩
        generalize (m : Int) = mz at h2 ⊢
        unfold lvI vE
        simp [fds, exs, ex.eq_1, ex.eq_2, ex.eq_3, ex.eq_4, ex.eq_5, ex.eq_6, ex.eq_7, ex.eq_8, ex.eq_10, ex.eq_12, ex.eq_13, ex.eq_14, ex.eq_15, ev.eq_1, ev.eq_2, ev.eq_3, ev.eq_4, ev.eq_5, ev.eq_6, ev.eq_7, ev.eq_8, ev.eq_9, ev.eq_10, ev.eq_11, ev.eq_12, ev.eq_13, ev.eq_14, ev.eq_15, ev.eq_16, ev.eq_17, ev.eq_18, ev.eq_19, ev.eq_20, ev.eq_21, ev.eq_22, ev.eq_23, evA, evs, evI, O.then, R.to, R.bind, EN.store, EN.storeAll, kp, kpF, seen, vw, opB, opC, opF, opI, opS, truD, R.val, R.dat, R.bool, isOwn, isLst, Env.at, O.end, retO, mask, flatD, List.mapM_cons, List.mapM_nil, eqD, eqS, callR, prep, prepV, handAll, handed, slotsOf, backR, back, mdz, prtR, IE.nl, isiR, excAt, isTy, Tb.tok, Cn.toD, cnPut, gc0, gc1, gc2, gc3, nk4, ne2, efl, ln0, ln1, ln2, ln3, ln4, ln5, ln6, S_eq, S_list, S_len, S_lp, S_rp, S_cm, S_qt, S_none, S_e, S_ce, S_sp, S_mn, S_0, S_9, S_a, S_z, h1, h2]
      · refine ⟨m, m1, m2, ?_⟩
        generalize (m : Int) = mz at h2 ⊢
        unfold lvI vE
        simp [fds, exs, ex.eq_1, ex.eq_2, ex.eq_3, ex.eq_4, ex.eq_5, ex.eq_6, ex.eq_7, ex.eq_8, ex.eq_10, ex.eq_12, ex.eq_13, ex.eq_14, ex.eq_15, ev.eq_1, ev.eq_2, ev.eq_3, ev.eq_4, ev.eq_5, ev.eq_6, ev.eq_7, ev.eq_8, ev.eq_9, ev.eq_10, ev.eq_11, ev.eq_12, ev.eq_13, ev.eq_14, ev.eq_15, ev.eq_16, ev.eq_17, ev.eq_18, ev.eq_19, ev.eq_20, ev.eq_21, ev.eq_22, ev.eq_23, evA, evs, evI, O.then, R.to, R.bind, EN.store, EN.storeAll, kp, kpF, seen, vw, opB, opC, opF, opI, opS, truD, R.val, R.dat, R.bool, isOwn, isLst, Env.at, O.end, retO, mask, flatD, List.mapM_cons, List.mapM_nil, eqD, eqS, callR, prep, prepV, handAll, handed, slotsOf, backR, back, mdz, prtR, IE.nl, isiR, excAt, isTy, Tb.tok, Cn.toD, cnPut, gc0, gc1, gc2, gc3, nk4, ne2, efl, ln0, ln1, ln2, ln3, ln4, ln5, ln6, S_eq, S_list, S_len, S_lp, S_rp, S_cm, S_qt, S_none, S_e, S_ce, S_sp, S_mn, S_0, S_9, S_a, S_z, h1, h2]
    · refine ⟨m, m1, m2, ?_⟩
      generalize (m : Int) = mz
      unfold lvI vE
      simp [fds, exs, ex.eq_1, ex.eq_2, ex.eq_3, ex.eq_4, ex.eq_5, ex.eq_6, ex.eq_7, ex.eq_8, ex.eq_10, ex.eq_12, ex.eq_13, ex.eq_14, ex.eq_15, ev.eq_1, ev.eq_2, ev.eq_3, ev.eq_4, ev.eq_5, ev.eq_6, ev.eq_7, ev.eq_8, ev.eq_9, ev.eq_10, ev.eq_11, ev.eq_12, ev.eq_13, ev.eq_14, ev.eq_15, ev.eq_16, ev.eq_17, ev.eq_18, ev.eq_19, ev.eq_20, ev.eq_21, ev.eq_22, ev.eq_23, evA, evs, evI, O.then, R.to, R.bind, EN.store, EN.storeAll, kp, kpF, seen, vw, opB, opC, opF, opI, opS, truD, R.val, R.dat, R.bool, isOwn, isLst, Env.at, O.end, retO, mask, flatD, List.mapM_cons, List.mapM_nil, eqD, eqS, callR, prep, prepV, handAll, handed, slotsOf, backR, back, mdz, prtR, IE.nl, isiR, excAt, isTy, Tb.tok, Cn.toD, cnPut, gc0, gc1, gc2, gc3, nk4, ne2, efl, ln0, ln1, ln2, ln3, ln4, ln5, ln6, S_eq, S_list, S_len, S_lp, S_rp, S_cm, S_qt, S_none, S_e, S_ce, S_sp, S_mn, S_0, S_9, S_a, S_z, h1]
  obtain ⟨n, n1, n2, e2⟩ := e2
  refine ⟨n, n1, n2, ?_⟩
  rw [exs_cons e1, exs_cons e2]
theorem lv_round (k : Nat) (ns : List Int) (c : Cn) (v : D) (rz : Int) (t : Nat) (ht : t < 100) (d : Nat) (hv : gv (d + 1) v) (s5 s6 s7 : EN.Slot) :
    ∃ v' s5' s6' s7', gv (d + 2) v' ∧ (tT v').length ≤ (tT v).length + 100 ∧ exs tb (runF tb fds (k + 2)) 1 lvB (vE ns c v rz (.d (.int t)) s5 s6 s7) = .nx (vE ns c v' rz (.d (.int t)) s5' s6' s7') := by
  obtain ⟨xs, ps, h, e⟩ := draws (k + 1) ns (2 + t) [6, 4] (by simp) (by simp) (by omega)
  obtain ⟨x1, x2, rfl, h1, h2⟩ := dr2 h
  have ec : ((2 + t : Nat) : Int) = 2 + (t : Int) := by omega
  rw [ec] at e
  simp only [List.map_cons, List.map_nil] at e
  obtain ⟨n, n1, n2, es⟩ := lv_size (runF tb fds (k + 2)) ns c v rz t x1 x2 h1 s6 s7 (.cons (.asg 7 lvC) lvP)
  obtain ⟨vs, l1, l2, ep⟩ := lv_parts (runF tb fds (k + 2)) ns (fun kk hk => run_leaf k ns kk hk) c v rz t (.own (.lst [.int x1, .int x2])) s7 n n2
  obtain ⟨i, eq⟩ := lv_put (runF tb fds (k + 2)) ns c v rz t x1 x2 n n1 vs l1
  obtain ⟨g1, g2⟩ := tup_set d vs i v (by omega) l2 hv
  refine ⟨_, .own (.lst [.int x1, .int x2]), .d (.int n), .own (.lst (vs.set i v)), g1, g2, ?_⟩
  have e1 : ex tb (runF tb fds (k + 2)) 1 lvD (vE ns c v rz (.d (.int t)) s5 s6 s7) = .nx (vE ns c v rz (.d (.int t)) (.own (.lst [.int x1, .int x2])) s6 s7) := by
    generalize (t : Int) = tz at e ⊢
    unfold lvD vE
    simp [fds, exs, ex.eq_1, ex.eq_2, ex.eq_3, ex.eq_4, ex.eq_5, ex.eq_6, ex.eq_7, ex.eq_8, ex.eq_10, ex.eq_12, ex.eq_13, ex.eq_14, ex.eq_15, ev.eq_1, ev.eq_2, ev.eq_3, ev.eq_4, ev.eq_5, ev.eq_6, ev.eq_7, ev.eq_8, ev.eq_9, ev.eq_10, ev.eq_11, ev.eq_12, ev.eq_13, ev.eq_14, ev.eq_15, ev.eq_16, ev.eq_17, ev.eq_18, ev.eq_19, ev.eq_20, ev.eq_21, ev.eq_22, ev.eq_23, evA, evs, evI, O.then, R.to, R.bind, EN.store, EN.storeAll, kp, kpF, seen, vw, opB, opC, opF, opI, opS, truD, R.val, R.dat, R.bool, isOwn, isLst, Env.at, O.end, retO, mask, flatD, List.mapM_cons, List.mapM_nil, eqD, eqS, callR, prep, prepV, handAll, handed, slotsOf, backR, back, mdz, prtR, IE.nl, isiR, excAt, isTy, Tb.tok, Cn.toD, cnPut, gc0, gc1, gc2, gc3, nk4, ne2, efl, ln0, ln1, ln2, ln3, ln4, ln5, ln6, S_eq, S_list, S_len, S_lp, S_rp, S_cm, S_qt, S_none, S_e, S_ce, S_sp, S_mn, S_0, S_9, S_a, S_z, e]
  unfold lvB
  rw [exs_cons e1, es, exs_cons ep, eq]
end K74
namespace K74
open PySem EN NumText
theorem lv_loop (k : Nat) (ns : List Int) (c : Cn) (rz : Int) : ∀ (m t : Nat) (v : D) (d : Nat) (s4 s5 s6 s7 : EN.Slot), t + m < 100 → gv (d + 1) v →
    ∃ v' s4' s5' s6' s7', gv (d + 1 + m) v' ∧ (tT v').length ≤ (tT v).length + 100 * m ∧ forRun 1 4 (fun ρ => exs tb (runF tb fds (k + 2)) 1 lvB ρ) ((List.range' t m).map fun (k : Nat) => D.int ((0 : Int) + k)) (vE ns c v rz s4 s5 s6 s7) = .nx (vE ns c v' rz s4' s5' s6' s7')
  | 0, t, v, d, s4, s5, s6, s7, _, hv => ⟨v, s4, s5, s6, s7, hv, by omega, rfl⟩
  | m + 1, t, v, d, s4, s5, s6, s7, ht, hv => by
    obtain ⟨v1, s51, s61, s71, g1, g2, e1⟩ := lv_round k ns c v rz t (by omega) d hv s5 s6 s7
    obtain ⟨v2, s42, s52, s62, s72, h1, h2, e2⟩ := lv_loop k ns c rz m (t + 1) v1 (d + 1) (.d (.int t)) s51 s61 s71 (by omega) g1
    refine ⟨v2, s42, s52, s62, s72, by rw [show d + 1 + (m + 1) = d + 1 + 1 + m by omega]; exact h1, by omega, ?_⟩
    have st : EN.store 1 4 (vE ns c v rz s4 s5 s6 s7) (.d (.int ((0 : Int) + t))) = .ok () (vE ns c v rz (.d (.int t)) s5 s6 s7) := by
      unfold vE
      simp [EN.store, kp, R.bind]
    rw [List.range'_succ, List.map_cons, fr_nx st e1]
    exact e2
def lvF : IS := .forS 4 (.rng (.var 3)) lvB
def lvX : IS := (.asg 3 (.ix (.lst (.cons (.lit (.int 0)) (.cons (.lit (.int 1)) (.cons (.lit (.int 2)) (.cons (.lit (.int 3)) (.cons (.lit (.int 3)) (.cons (.ix (.var 1) (.lit (.int 1))) .nil))))))) (.ix (.var 1) (.lit (.int 0)))))
theorem b_value : b__law_value = .cons (.asg 1 (.call 7 (.cons (.var 0) (.cons (.lit (.int 0)) (.cons (.lst (.cons (.lit (.int 6)) (.cons (.lit (.int 20)) .nil))) .nil))))) (.cons (.asg 2 (.call 11 (.cons (.var 0) (.cons (.lit (.int 1)) .nil)))) (.cons lvX (.cons lvF (.cons (.ret (.var 2)) .nil)))) := rfl
theorem lv_rounds (fn : Fn) (ns : List Int) (v : D) (x1 x2 : Int) (h1 : 0 ≤ x1 ∧ x1 < 6) (h2 : 0 ≤ x2 ∧ x2 < 20) : ∃ n : Nat, n ≤ 19 ∧ ex tb fn 1 lvX [.d (.scr ns), .own (.lst [.int x1, .int x2]), .d v, .un, .un, .un, .un, .un, .un] = .nx (vE ns (.lst [.int x1, .int x2]) v n .un .un .un .un) := by
  have i0 : L2.atI [D.int x1, D.int x2] (0 : Int) = some (.int x1) := rfl
  have i1 : L2.atI [D.int x1, D.int x2] (1 : Int) = some (.int x2) := rfl
  have nz : ((x2.toNat : Nat) : Int) = x2 := Int.toNat_of_nonneg h2.1
  rcases e6 h1 with rfl | rfl | rfl | rfl | rfl | rfl
  · exact ⟨0, by omega, by unfold lvX vE; simp [fds, exs, ex.eq_1, ex.eq_2, ex.eq_3, ex.eq_4, ex.eq_5, ex.eq_6, ex.eq_7, ex.eq_8, ex.eq_10, ex.eq_12, ex.eq_13, ex.eq_14, ex.eq_15, ev.eq_1, ev.eq_2, ev.eq_3, ev.eq_4, ev.eq_5, ev.eq_6, ev.eq_7, ev.eq_8, ev.eq_9, ev.eq_10, ev.eq_11, ev.eq_12, ev.eq_13, ev.eq_14, ev.eq_15, ev.eq_16, ev.eq_17, ev.eq_18, ev.eq_19, ev.eq_20, ev.eq_21, ev.eq_22, ev.eq_23, evA, evs, evI, O.then, R.to, R.bind, EN.store, EN.storeAll, kp, kpF, seen, vw, opB, opC, opF, opI, opS, truD, R.val, R.dat, R.bool, isOwn, isLst, Env.at, O.end, retO, mask, flatD, List.mapM_cons, List.mapM_nil, eqD, eqS, callR, prep, prepV, handAll, handed, slotsOf, backR, back, mdz, prtR, IE.nl, isiR, excAt, isTy, Tb.tok, Cn.toD, cnPut, gc0, gc1, gc2, gc3, nk4, ne2, efl, ln0, ln1, ln2, ln3, ln4, ln5, ln6, S_eq, S_list, S_len, S_lp, S_rp, S_cm, S_qt, S_none, S_e, S_ce, S_sp, S_mn, S_0, S_9, S_a, S_z, i0, i1, L2.atI, L2.ixN]⟩
  · exact ⟨1, by omega, by unfold lvX vE; simp [fds, exs, ex.eq_1, ex.eq_2, ex.eq_3, ex.eq_4, ex.eq_5, ex.eq_6, ex.eq_7, ex.eq_8, ex.eq_10, ex.eq_12, ex.eq_13, ex.eq_14, ex.eq_15, ev.eq_1, ev.eq_2, ev.eq_3, ev.eq_4, ev.eq_5, ev.eq_6, ev.eq_7, ev.eq_8, ev.eq_9, ev.eq_10, ev.eq_11, ev.eq_12, ev.eq_13, ev.eq_14, ev.eq_15, ev.eq_16, ev.eq_17, ev.eq_18, ev.eq_19, ev.eq_20, ev.eq_21, ev.eq_22, ev.eq_23, evA, evs, evI, O.then, R.to, R.bind, EN.store, EN.storeAll, kp, kpF, seen, vw, opB, opC, opF, opI, opS, truD, R.val, R.dat, R.bool, isOwn, isLst, Env.at, O.end, retO, mask, flatD, List.mapM_cons, List.mapM_nil, eqD, eqS, callR, prep, prepV, handAll, handed, slotsOf, backR, back, mdz, prtR, IE.nl, isiR, excAt, isTy, Tb.tok, Cn.toD, cnPut, gc0, gc1, gc2, gc3, nk4, ne2, efl, ln0, ln1, ln2, ln3, ln4, ln5, ln6, S_eq, S_list, S_len, S_lp, S_rp, S_cm, S_qt, S_none, S_e, S_ce, S_sp, S_mn, S_0, S_9, S_a, S_z, i0, i1, L2.atI, L2.ixN]⟩
  · exact ⟨2, by omega, by unfold lvX vE; simp [fds, exs, ex.eq_1, ex.eq_2, ex.eq_3, ex.eq_4, ex.eq_5, ex.eq_6, ex.eq_7, ex.eq_8, ex.eq_10, ex.eq_12, ex.eq_13, ex.eq_14, ex.eq_15, ev.eq_1, ev.eq_2, ev.eq_3, ev.eq_4, ev.eq_5, ev.eq_6, ev.eq_7, ev.eq_8, ev.eq_9, ev.eq_10, ev.eq_11, ev.eq_12, ev.eq_13, ev.eq_14, ev.eq_15, ev.eq_16, ev.eq_17, ev.eq_18, ev.eq_19, ev.eq_20, ev.eq_21, ev.eq_22, ev.eq_23, evA, evs, evI, O.then, R.to, R.bind, EN.store, EN.storeAll, kp, kpF, seen, vw, opB, opC, opF, opI, opS, truD, R.val, R.dat, R.bool, isOwn, isLst, Env.at, O.end, retO, mask, flatD, List.mapM_cons, List.mapM_nil, eqD, eqS, callR, prep, prepV, handAll, handed, slotsOf, backR, back, mdz, prtR, IE.nl, isiR, excAt, isTy, Tb.tok, Cn.toD, cnPut, gc0, gc1, gc2, gc3, nk4, ne2, efl, ln0, ln1, ln2, ln3, ln4, ln5, ln6, S_eq, S_list, S_len, S_lp, S_rp, S_cm, S_qt, S_none, S_e, S_ce, S_sp, S_mn, S_0, S_9, S_a, S_z, i0, i1, L2.atI, L2.ixN]⟩
  · exact ⟨3, by omega, by unfold lvX vE; simp [fds, exs, ex.eq_1, ex.eq_2, ex.eq_3, ex.eq_4, ex.eq_5, ex.eq_6, ex.eq_7, ex.eq_8, ex.eq_10, ex.eq_12, ex.eq_13, ex.eq_14, ex.eq_15, ev.eq_1, ev.eq_2, ev.eq_3, ev.eq_4, ev.eq_5, ev.eq_6, ev.eq_7, ev.eq_8, ev.eq_9, ev.eq_10, ev.eq_11, ev.eq_12, ev.eq_13, ev.eq_14, ev.eq_15, ev.eq_16, ev.eq_17, ev.eq_18, ev.eq_19, ev.eq_20, ev.eq_21, ev.eq_22, ev.eq_23, evA, evs, evI, O.then, R.to, R.bind, EN.store, EN.storeAll, kp, kpF, seen, vw, opB, opC, opF, opI, opS, truD, R.val, R.dat, R.bool, isOwn, isLst, Env.at, O.end, retO, mask, flatD, List.mapM_cons, List.mapM_nil, eqD, eqS, callR, prep, prepV, handAll, handed, slotsOf, backR, back, mdz, prtR, IE.nl, isiR, excAt, isTy, Tb.tok, Cn.toD, cnPut, gc0, gc1, gc2, gc3, nk4, ne2, efl, ln0, ln1, ln2, ln3, ln4, ln5, ln6, S_eq, S_list, S_len, S_lp, S_rp, S_cm, S_qt, S_none, S_e, S_ce, S_sp, S_mn, S_0, S_9, S_a, S_z, i0, i1, L2.atI, L2.ixN]⟩
  · exact ⟨3, by omega, by unfold lvX vE; simp [fds, exs, ex.eq_1, ex.eq_2, ex.eq_3, ex.eq_4, ex.eq_5, ex.eq_6, ex.eq_7, ex.eq_8, ex.eq_10, ex.eq_12, ex.eq_13, ex.eq_14, ex.eq_15, ev.eq_1, ev.eq_2, ev.eq_3, ev.eq_4, ev.eq_5, ev.eq_6, ev.eq_7, ev.eq_8, ev.eq_9, ev.eq_10, ev.eq_11, ev.eq_12, ev.eq_13, ev.eq_14, ev.eq_15, ev.eq_16, ev.eq_17, ev.eq_18, ev.eq_19, ev.eq_20, ev.eq_21, ev.eq_22, ev.eq_23, evA, evs, evI, O.then, R.to, R.bind, EN.store, EN.storeAll, kp, kpF, seen, vw, opB, opC, opF, opI, opS, truD, R.val, R.dat, R.bool, isOwn, isLst, Env.at, O.end, retO, mask, flatD, List.mapM_cons, List.mapM_nil, eqD, eqS, callR, prep, prepV, handAll, handed, slotsOf, backR, back, mdz, prtR, IE.nl, isiR, excAt, isTy, Tb.tok, Cn.toD, cnPut, gc0, gc1, gc2, gc3, nk4, ne2, efl, ln0, ln1, ln2, ln3, ln4, ln5, ln6, S_eq, S_list, S_len, S_lp, S_rp, S_cm, S_qt, S_none, S_e, S_ce, S_sp, S_mn, S_0, S_9, S_a, S_z, i0, i1, L2.atI, L2.ixN]⟩
  · refine ⟨x2.toNat, by omega, ?_⟩
    rw [nz]
    unfold lvX vE
    simp [fds, exs, ex.eq_1, ex.eq_2, ex.eq_3, ex.eq_4, ex.eq_5, ex.eq_6, ex.eq_7, ex.eq_8, ex.eq_10, ex.eq_12, ex.eq_13, ex.eq_14, ex.eq_15, ev.eq_1, ev.eq_2, ev.eq_3, ev.eq_4, ev.eq_5, ev.eq_6, ev.eq_7, ev.eq_8, ev.eq_9, ev.eq_10, ev.eq_11, ev.eq_12, ev.eq_13, ev.eq_14, ev.eq_15, ev.eq_16, ev.eq_17, ev.eq_18, ev.eq_19, ev.eq_20, ev.eq_21, ev.eq_22, ev.eq_23, evA, evs, evI, O.then, R.to, R.bind, EN.store, EN.storeAll, kp, kpF, seen, vw, opB, opC, opF, opI, opS, truD, R.val, R.dat, R.bool, isOwn, isLst, Env.at, O.end, retO, mask, flatD, List.mapM_cons, List.mapM_nil, eqD, eqS, callR, prep, prepV, handAll, handed, slotsOf, backR, back, mdz, prtR, IE.nl, isiR, excAt, isTy, Tb.tok, Cn.toD, cnPut, gc0, gc1, gc2, gc3, nk4, ne2, efl, ln0, ln1, ln2, ln3, ln4, ln5, ln6, S_eq, S_list, S_len, S_lp, S_rp, S_cm, S_qt, S_none, S_e, S_ce, S_sp, S_mn, S_0, S_9, S_a, S_z, i0, i1, L2.atI, L2.ixN]
theorem run_lvalue (k : Nat) (ns : List Int) : ∃ v ps, gv 20 v ∧ (tT v).length ≤ 3000 ∧ runF tb fds (k + 3) 12 [.d (.scr ns)] = .ok (.d v) ps := by
  obtain ⟨xs, ps, h, e⟩ := draws (k + 1) ns 0 [6, 20] (by simp) (by simp) (by omega)
  obtain ⟨x1, x2, rfl, h1, h2⟩ := dr2 h
  simp only [List.map_cons, List.map_nil] at e
  have c0 : ((0 : Nat) : Int) = 0 := rfl
  have c1 : ((1 : Nat) : Int) = 1 := rfl
  rw [c0] at e
  obtain ⟨v, ps2, ⟨g1, g2⟩, e2⟩ := run_leaf k ns 1 (by omega)
  rw [c1] at e2
  obtain ⟨n, hn, e3⟩ := lv_rounds (runF tb fds (k + 2)) ns v x1 x2 h1 h2
  obtain ⟨v', s4, s5, s6, s7, a1, a2, e4⟩ := lv_loop k ns (.lst [.int x1, .int x2]) n n 0 v 0 .un .un .un .un (by omega) g1
  have er : ((List.range' 0 n).map fun (k : Nat) => D.int ((0 : Int) + k)) = rngD 0 (n : Int) := by
    unfold rngD
    rw [List.range_eq_range']
    simp
  rw [er] at e4
  have up : ∀ m d, gv d v' → gv (d + m) v' := fun m => by
    induction m with
    | zero => intro d h; exact h
    | succ m ih => intro d h; exact gv_up _ _ (ih d h)
  have gv20 : gv 20 v' := by
    have := up (19 - n) _ a1
    rw [show 0 + 1 + n + (19 - n) = 20 by omega] at this
    exact this
  have ef : ex tb (runF tb fds (k + 2)) 1 lvF (vE ns (.lst [.int x1, .int x2]) v n .un .un .un .un) = _ := ex_for_nx (it := .rng (.var 3)) (v := .non) (evI_rng (n := (n : Int)) (by generalize (n : Int) = nz; unfold vE; simp [fds, exs, ex.eq_1, ex.eq_2, ex.eq_3, ex.eq_4, ex.eq_5, ex.eq_6, ex.eq_7, ex.eq_8, ex.eq_10, ex.eq_12, ex.eq_13, ex.eq_14, ex.eq_15, ev.eq_1, ev.eq_2, ev.eq_3, ev.eq_4, ev.eq_5, ev.eq_6, ev.eq_7, ev.eq_8, ev.eq_9, ev.eq_10, ev.eq_11, ev.eq_12, ev.eq_13, ev.eq_14, ev.eq_15, ev.eq_16, ev.eq_17, ev.eq_18, ev.eq_19, ev.eq_20, ev.eq_21, ev.eq_22, ev.eq_23, evA, evs, evI, O.then, R.to, R.bind, EN.store, EN.storeAll, kp, kpF, seen, vw, opB, opC, opF, opI, opS, truD, R.val, R.dat, R.bool, isOwn, isLst, Env.at, O.end, retO, mask, flatD, List.mapM_cons, List.mapM_nil, eqD, eqS, callR, prep, prepV, handAll, handed, slotsOf, backR, back, mdz, prtR, IE.nl, isiR, excAt, isTy, Tb.tok, Cn.toD, cnPut, gc0, gc1, gc2, gc3, nk4, ne2, efl, ln0, ln1, ln2, ln3, ln4, ln5, ln6, S_eq, S_list, S_len, S_lp, S_rp, S_cm, S_qt, S_none, S_e, S_ce, S_sp, S_mn, S_0, S_9, S_a, S_z]) (rng_ok (by unfold line; omega))) e4
  refine ⟨v', [.un], gv20, by omega, ?_⟩
  rw [show k + 3 = (k + 2) + 1 by omega, runF]
  simp only [fds, b_value]
  have ea : ex tb (runF tb fds (k + 2)) 1 (.asg 1 (.call 7 (.cons (.var 0) (.cons (.lit (.int 0)) (.cons (.lst (.cons (.lit (.int 6)) (.cons (.lit (.int 20)) .nil))) .nil))))) [.d (.scr ns), .un, .un, .un, .un, .un, .un, .un, .un] = .nx [.d (.scr ns), .own (.lst [.int x1, .int x2]), .un, .un, .un, .un, .un, .un, .un] := by
    simp [fds, exs, ex.eq_1, ex.eq_2, ex.eq_3, ex.eq_4, ex.eq_5, ex.eq_6, ex.eq_7, ex.eq_8, ex.eq_10, ex.eq_12, ex.eq_13, ex.eq_14, ex.eq_15, ev.eq_1, ev.eq_2, ev.eq_3, ev.eq_4, ev.eq_5, ev.eq_6, ev.eq_7, ev.eq_8, ev.eq_9, ev.eq_10, ev.eq_11, ev.eq_12, ev.eq_13, ev.eq_14, ev.eq_15, ev.eq_16, ev.eq_17, ev.eq_18, ev.eq_19, ev.eq_20, ev.eq_21, ev.eq_22, ev.eq_23, evA, evs, evI, O.then, R.to, R.bind, EN.store, EN.storeAll, kp, kpF, seen, vw, opB, opC, opF, opI, opS, truD, R.val, R.dat, R.bool, isOwn, isLst, Env.at, O.end, retO, mask, flatD, List.mapM_cons, List.mapM_nil, eqD, eqS, callR, prep, prepV, handAll, handed, slotsOf, backR, back, mdz, prtR, IE.nl, isiR, excAt, isTy, Tb.tok, Cn.toD, cnPut, gc0, gc1, gc2, gc3, nk4, ne2, efl, ln0, ln1, ln2, ln3, ln4, ln5, ln6, S_eq, S_list, S_len, S_lp, S_rp, S_cm, S_qt, S_none, S_e, S_ce, S_sp, S_mn, S_0, S_9, S_a, S_z, e]
  have eb : ex tb (runF tb fds (k + 2)) 1 (.asg 2 (.call 11 (.cons (.var 0) (.cons (.lit (.int 1)) .nil)))) [.d (.scr ns), .own (.lst [.int x1, .int x2]), .un, .un, .un, .un, .un, .un, .un] = .nx [.d (.scr ns), .own (.lst [.int x1, .int x2]), .d v, .un, .un, .un, .un, .un, .un] := by
    simp [fds, exs, ex.eq_1, ex.eq_2, ex.eq_3, ex.eq_4, ex.eq_5, ex.eq_6, ex.eq_7, ex.eq_8, ex.eq_10, ex.eq_12, ex.eq_13, ex.eq_14, ex.eq_15, ev.eq_1, ev.eq_2, ev.eq_3, ev.eq_4, ev.eq_5, ev.eq_6, ev.eq_7, ev.eq_8, ev.eq_9, ev.eq_10, ev.eq_11, ev.eq_12, ev.eq_13, ev.eq_14, ev.eq_15, ev.eq_16, ev.eq_17, ev.eq_18, ev.eq_19, ev.eq_20, ev.eq_21, ev.eq_22, ev.eq_23, evA, evs, evI, O.then, R.to, R.bind, EN.store, EN.storeAll, kp, kpF, seen, vw, opB, opC, opF, opI, opS, truD, R.val, R.dat, R.bool, isOwn, isLst, Env.at, O.end, retO, mask, flatD, List.mapM_cons, List.mapM_nil, eqD, eqS, callR, prep, prepV, handAll, handed, slotsOf, backR, back, mdz, prtR, IE.nl, isiR, excAt, isTy, Tb.tok, Cn.toD, cnPut, gc0, gc1, gc2, gc3, nk4, ne2, efl, ln0, ln1, ln2, ln3, ln4, ln5, ln6, S_eq, S_list, S_len, S_lp, S_rp, S_cm, S_qt, S_none, S_e, S_ce, S_sp, S_mn, S_0, S_9, S_a, S_z, e2]
  show O.end _ (exs tb (runF tb fds (k + 2)) 1 _ [.d (.scr ns), .un, .un, .un, .un, .un, .un, .un, .un]) = _
  rw [exs_cons ea, exs_cons eb, exs_cons e3, exs_cons ef]
  unfold vE
  simp [fds, exs, ex.eq_1, ex.eq_2, ex.eq_3, ex.eq_4, ex.eq_5, ex.eq_6, ex.eq_7, ex.eq_8, ex.eq_10, ex.eq_12, ex.eq_13, ex.eq_14, ex.eq_15, ev.eq_1, ev.eq_2, ev.eq_3, ev.eq_4, ev.eq_5, ev.eq_6, ev.eq_7, ev.eq_8, ev.eq_9, ev.eq_10, ev.eq_11, ev.eq_12, ev.eq_13, ev.eq_14, ev.eq_15, ev.eq_16, ev.eq_17, ev.eq_18, ev.eq_19, ev.eq_20, ev.eq_21, ev.eq_22, ev.eq_23, evA, evs, evI, O.then, R.to, R.bind, EN.store, EN.storeAll, kp, kpF, seen, vw, opB, opC, opF, opI, opS, truD, R.val, R.dat, R.bool, isOwn, isLst, Env.at, O.end, retO, mask, flatD, List.mapM_cons, List.mapM_nil, eqD, eqS, callR, prep, prepV, handAll, handed, slotsOf, backR, back, mdz, prtR, IE.nl, isiR, excAt, isTy, Tb.tok, Cn.toD, cnPut, gc0, gc1, gc2, gc3, nk4, ne2, efl, ln0, ln1, ln2, ln3, ln4, ln5, ln6, S_eq, S_list, S_len, S_lp, S_rp, S_cm, S_qt, S_none, S_e, S_ce, S_sp, S_mn, S_0, S_9, S_a, S_z]
end K74
namespace K74
open PySem EN NumText
theorem cut_some (l : List Nat) (lo hi : Option Int) : ∃ w, L2.cutS (S l) lo hi = S w ∧ w.length ≤ l.length := by
  refine ⟨_, S_of _, ?_⟩
  unfold L2.cutS
  show (List.take _ (List.drop _ _)).length ≤ _
  rw [List.length_take, List.length_drop, S_list]
  omega
theorem atI_mid {α : Type} {xs : List α} {i : Int} (h : 0 ≤ i ∧ i < xs.length) : ∃ x, L2.atI xs i = some x := by
  have := atI_lt (xs := xs) (j := i.toNat) (by omega)
  rw [Int.toNat_of_nonneg h.1] at this
  exact ⟨_, this⟩
def CH : Str := Str.ofString "()\",-0123456789 abnoezAMZ_.'[]n\t"
theorem ch_len : CH.cps.toList.length = 32 := by decide +kernel
theorem ch_line : CH.length ≤ line := by decide +kernel
def lcC : IS := .asg 4 (.ix (.lit (.str CH)) (.ix (.var 2) (.lit (.int 2))))
def lcT : ISs :=
 (.cons (.ifS (.cmp .eq (.ix (.var 2) (.lit (.int 0))) (.lit (.int 0))) (.cons (.ret (.bin .add (.slc (.var 1) (.lit .non) (.var 3)) (.slc (.var 1) (.bin .add (.var 3) (.lit (.int 1))) (.lit .non))))
 .nil) .nil)
 (.cons (.ifS (.cmp .eq (.ix (.var 2) (.lit (.int 0))) (.lit (.int 1))) (.cons (.ret (.bin .add (.bin .add (.slc (.var 1) (.lit .non) (.var 3)) (.var 4)) (.slc (.var 1) (.var 3) (.lit .non))))
 .nil) .nil)
 (.cons (.ifS (.cmp .eq (.ix (.var 2) (.lit (.int 0))) (.lit (.int 2))) (.cons (.ret (.bin .add (.bin .add (.slc (.var 1) (.lit .non) (.var 3)) (.var 4)) (.slc (.var 1) (.bin .add (.var 3) (.lit (.int 1))) (.lit .non))))
 .nil) .nil)
 (.cons (.ret (.bin .add (.bin .add (.bin .add (.slc (.var 1) (.lit .non) (.var 3)) (.slc (.var 1) (.bin .add (.var 3) (.lit (.int 1))) (.bin .add (.var 3) (.lit (.int 2))))) (.ix (.var 1) (.var 3))) (.slc (.var 1) (.bin .add (.var 3) (.lit (.int 2))) (.lit .non))))
 .nil))))
theorem b_changed : b__law_changed = (.cons (.asg 2 (.call 7 (.cons (.var 0) (.cons (.lit (.int 60)) (.cons (.lst (.cons (.lit (.int 4)) (.cons (.bin .pow (.lit (.int 10)) (.lit (.int 6))) (.cons (.lit (.int 32)) .nil)))) .nil)))))
 (.cons (.asg 3 (.bin .mod (.bi .int (.cons (.ix (.var 2) (.lit (.int 1))) .nil)) (.bi .len (.cons (.var 1) .nil))))
 (.cons lcC lcT))) := rfl
theorem run_changed (k : Nat) (ns : List Int) (l : List Nat) (h0 : 0 < l.length) (hl : l.length ≤ 4000) : ∃ w ps, w.length ≤ 13000 ∧ runF tb fds (k + 2) 17 [.d (.scr ns), .d (.str (S l))] = .ok (.d (.str (S w))) ps := by
  obtain ⟨xs, ps, h, e⟩ := draws k ns 60 [4, 1000000, 32] (by simp) (by simp) (by omega)
  obtain ⟨x1, x2, x3, rfl, h1, h2, h3⟩ := dr3 h
  simp only [List.map_cons, List.map_nil] at e
  have c0 : ((60 : Nat) : Int) = 60 := rfl
  rw [c0] at e
  have i0 : L2.atI [D.int x1, D.int x2, D.int x3] (0 : Int) = some (.int x1) := rfl
  have i1 : L2.atI [D.int x1, D.int x2, D.int x3] (1 : Int) = some (.int x2) := rfl
  have i2 : L2.atI [D.int x1, D.int x2, D.int x3] (2 : Int) = some (.int x3) := rfl
  have q1 := Int.emod_nonneg x2 (b := (l.length : Int)) (by omega)
  have q2 := Int.emod_lt_of_pos x2 (b := (l.length : Int)) (by omega)
  obtain ⟨ch, e3⟩ := atI_mid (xs := CH.cps.toList) (i := x3) ⟨h3.1, by rw [ch_len]; exact h3.2⟩
  obtain ⟨c2, e4⟩ := atI_mid (xs := l) ⟨q1, q2⟩
  have hl1 : l.length ≤ line := by unfold line; omega
  generalize hat : x2 % (l.length : Int) = az at e4
  obtain ⟨w1, a1, b1⟩ := cut_some l none (some az)
  obtain ⟨w2, a2, b2⟩ := cut_some l (some (az + 1)) none
  obtain ⟨w3, a3, b3⟩ := cut_some l (some az) none
  obtain ⟨w4, a4, b4⟩ := cut_some l (some (az + 1)) (some (az + 2))
  obtain ⟨w5, a5, b5⟩ := cut_some l (some (az + 2)) none
  have cl := ch_line
  have L : ∀ n, n ≤ 20000 → n ≤ line := fun n h => by unfold line; omega
  have ea : (⟨#[ch]⟩ : Str) = S [ch] := rfl
  have eb : (⟨#[c2]⟩ : Str) = S [c2] := rfl
  have fin : ∃ w, w.length ≤ 13000 ∧ exs tb (runF tb fds (k + 1)) 2 lcT [.d (.scr ns), .d (.str (S l)), .own (.lst [.int x1, .int x2, .int x3]), .d (.int az), .d (.str ⟨#[ch]⟩)] = .rt (.d (.str (S w))) [.d (.scr ns), .d (.str (S l)), .own (.lst [.int x1, .int x2, .int x3]), .d (.int az), .d (.str ⟨#[ch]⟩)] := by
    rw [ea]
    generalize [D.int x1, D.int x2, D.int x3] = dd at i0
    unfold lcT
    by_cases g0 : x1 = 0
    · refine ⟨w1 ++ w2, by simp; omega, ?_⟩
      have k1 := L (w1.length + w2.length) (by omega)
      simp [fds, exs, ex.eq_1, ex.eq_2, ex.eq_3, ex.eq_4, ex.eq_5, ex.eq_6, ex.eq_7, ex.eq_8, ex.eq_10, ex.eq_12, ex.eq_13, ex.eq_14, ex.eq_15, ev.eq_1, ev.eq_2, ev.eq_3, ev.eq_4, ev.eq_5, ev.eq_6, ev.eq_7, ev.eq_8, ev.eq_9, ev.eq_10, ev.eq_11, ev.eq_12, ev.eq_13, ev.eq_14, ev.eq_15, ev.eq_16, ev.eq_17, ev.eq_18, ev.eq_19, ev.eq_20, ev.eq_21, ev.eq_22, ev.eq_23, evA, evs, evI, O.then, R.to, R.bind, EN.store, EN.storeAll, kp, kpF, seen, vw, opB, opC, opF, opI, opS, truD, R.val, R.dat, R.bool, isOwn, isLst, Env.at, O.end, retO, mask, flatD, List.mapM_cons, List.mapM_nil, eqD, eqS, callR, prep, prepV, handAll, handed, slotsOf, backR, back, mdz, prtR, IE.nl, isiR, excAt, isTy, Tb.tok, Cn.toD, cnPut, gc0, gc1, gc2, gc3, nk4, ne2, efl, ln0, ln1, ln2, ln3, ln4, ln5, ln6, S_eq, S_list, S_len, S_lp, S_rp, S_cm, S_qt, S_none, S_e, S_ce, S_sp, S_mn, S_0, S_9, S_a, S_z, i0, g0, hl1, a1, a2, k1, S_app]
    · by_cases g1 : x1 = 1
      · refine ⟨w1 ++ [ch] ++ w3, by simp; omega, ?_⟩
        have k1 := L (w1.length + 1) (by omega)
        have k2 := L (w1.length + 1 + w3.length) (by omega)
        simp [fds, exs, ex.eq_1, ex.eq_2, ex.eq_3, ex.eq_4, ex.eq_5, ex.eq_6, ex.eq_7, ex.eq_8, ex.eq_10, ex.eq_12, ex.eq_13, ex.eq_14, ex.eq_15, ev.eq_1, ev.eq_2, ev.eq_3, ev.eq_4, ev.eq_5, ev.eq_6, ev.eq_7, ev.eq_8, ev.eq_9, ev.eq_10, ev.eq_11, ev.eq_12, ev.eq_13, ev.eq_14, ev.eq_15, ev.eq_16, ev.eq_17, ev.eq_18, ev.eq_19, ev.eq_20, ev.eq_21, ev.eq_22, ev.eq_23, evA, evs, evI, O.then, R.to, R.bind, EN.store, EN.storeAll, kp, kpF, seen, vw, opB, opC, opF, opI, opS, truD, R.val, R.dat, R.bool, isOwn, isLst, Env.at, O.end, retO, mask, flatD, List.mapM_cons, List.mapM_nil, eqD, eqS, callR, prep, prepV, handAll, handed, slotsOf, backR, back, mdz, prtR, IE.nl, isiR, excAt, isTy, Tb.tok, Cn.toD, cnPut, gc0, gc1, gc2, gc3, nk4, ne2, efl, ln0, ln1, ln2, ln3, ln4, ln5, ln6, S_eq, S_list, S_len, S_lp, S_rp, S_cm, S_qt, S_none, S_e, S_ce, S_sp, S_mn, S_0, S_9, S_a, S_z, i0, g0, g1, hl1, a1, a3, k1, k2, S_app]
      · by_cases g2 : x1 = 2
        · refine ⟨w1 ++ [ch] ++ w2, by simp; omega, ?_⟩
          have k1 := L (w1.length + 1) (by omega)
          have k2 := L (w1.length + 1 + w2.length) (by omega)
          simp [fds, exs, ex.eq_1, ex.eq_2, ex.eq_3, ex.eq_4, ex.eq_5, ex.eq_6, ex.eq_7, ex.eq_8, ex.eq_10, ex.eq_12, ex.eq_13, ex.eq_14, ex.eq_15, ev.eq_1, ev.eq_2, ev.eq_3, ev.eq_4, ev.eq_5, ev.eq_6, ev.eq_7, ev.eq_8, ev.eq_9, ev.eq_10, ev.eq_11, ev.eq_12, ev.eq_13, ev.eq_14, ev.eq_15, ev.eq_16, ev.eq_17, ev.eq_18, ev.eq_19, ev.eq_20, ev.eq_21, ev.eq_22, ev.eq_23, evA, evs, evI, O.then, R.to, R.bind, EN.store, EN.storeAll, kp, kpF, seen, vw, opB, opC, opF, opI, opS, truD, R.val, R.dat, R.bool, isOwn, isLst, Env.at, O.end, retO, mask, flatD, List.mapM_cons, List.mapM_nil, eqD, eqS, callR, prep, prepV, handAll, handed, slotsOf, backR, back, mdz, prtR, IE.nl, isiR, excAt, isTy, Tb.tok, Cn.toD, cnPut, gc0, gc1, gc2, gc3, nk4, ne2, efl, ln0, ln1, ln2, ln3, ln4, ln5, ln6, S_eq, S_list, S_len, S_lp, S_rp, S_cm, S_qt, S_none, S_e, S_ce, S_sp, S_mn, S_0, S_9, S_a, S_z, i0, g0, g1, g2, hl1, a1, a2, k1, k2, S_app]
        · refine ⟨w1 ++ w4 ++ [c2] ++ w5, by simp; omega, ?_⟩
          have k1 := L (w1.length + w4.length) (by omega)
          have k2 := L (w1.length + w4.length + 1) (by omega)
          have k3 := L (w1.length + w4.length + 1 + w5.length) (by omega)
          have k4 : w1.length + (w4.length + 1) ≤ line := by omega
          have k5 : w1.length + (w4.length + 1) + w5.length ≤ line := by omega
          simp [fds, exs, ex.eq_1, ex.eq_2, ex.eq_3, ex.eq_4, ex.eq_5, ex.eq_6, ex.eq_7, ex.eq_8, ex.eq_10, ex.eq_12, ex.eq_13, ex.eq_14, ex.eq_15, ev.eq_1, ev.eq_2, ev.eq_3, ev.eq_4, ev.eq_5, ev.eq_6, ev.eq_7, ev.eq_8, ev.eq_9, ev.eq_10, ev.eq_11, ev.eq_12, ev.eq_13, ev.eq_14, ev.eq_15, ev.eq_16, ev.eq_17, ev.eq_18, ev.eq_19, ev.eq_20, ev.eq_21, ev.eq_22, ev.eq_23, evA, evs, evI, O.then, R.to, R.bind, EN.store, EN.storeAll, kp, kpF, seen, vw, opB, opC, opF, opI, opS, truD, R.val, R.dat, R.bool, isOwn, isLst, Env.at, O.end, retO, mask, flatD, List.mapM_cons, List.mapM_nil, eqD, eqS, callR, prep, prepV, handAll, handed, slotsOf, backR, back, mdz, prtR, IE.nl, isiR, excAt, isTy, Tb.tok, Cn.toD, cnPut, gc0, gc1, gc2, gc3, nk4, ne2, efl, ln0, ln1, ln2, ln3, ln4, ln5, ln6, S_eq, S_list, S_len, S_lp, S_rp, S_cm, S_qt, S_none, S_e, S_ce, S_sp, S_mn, S_0, S_9, S_a, S_z, i0, g0, g1, g2, hl1, a1, a4, a5, e4, eb, k1, k2, k3, k4, k5, S_app]
  obtain ⟨w, f1, f2⟩ := fin
  refine ⟨w, [.un, .un], f1, ?_⟩
  rw [show k + 2 = (k + 1) + 1 by omega, runF]
  simp only [fds, b_changed]
  have hp : (0 : Int) < (l.length : Int) := by omega
  have es : exs tb (runF tb fds (k + 1)) 2 (.cons (.asg 2 (.call 7 (.cons (.var 0) (.cons (.lit (.int 60)) (.cons (.lst (.cons (.lit (.int 4)) (.cons (.bin .pow (.lit (.int 10)) (.lit (.int 6))) (.cons (.lit (.int 32)) .nil)))) .nil)))))
 (.cons (.asg 3 (.bin .mod (.bi .int (.cons (.ix (.var 2) (.lit (.int 1))) .nil)) (.bi .len (.cons (.var 1) .nil))))
 (.cons lcC lcT))) [.d (.scr ns), .d (.str (S l)), .un, .un, .un] = exs tb (runF tb fds (k + 1)) 2 lcT [.d (.scr ns), .d (.str (S l)), .own (.lst [.int x1, .int x2, .int x3]), .d (.int az), .d (.str ⟨#[ch]⟩)] := by
    generalize hdd : [D.int x1, D.int x2, D.int x3] = dd at i0 i1 i2 e
    generalize hln : (l.length : Int) = lz at hp hat
    generalize lcT = W
    unfold lcC
    simp [fds, exs, ex.eq_1, ex.eq_2, ex.eq_3, ex.eq_4, ex.eq_5, ex.eq_6, ex.eq_7, ex.eq_8, ex.eq_10, ex.eq_12, ex.eq_13, ex.eq_14, ex.eq_15, ev.eq_1, ev.eq_2, ev.eq_3, ev.eq_4, ev.eq_5, ev.eq_6, ev.eq_7, ev.eq_8, ev.eq_9, ev.eq_10, ev.eq_11, ev.eq_12, ev.eq_13, ev.eq_14, ev.eq_15, ev.eq_16, ev.eq_17, ev.eq_18, ev.eq_19, ev.eq_20, ev.eq_21, ev.eq_22, ev.eq_23, evA, evs, evI, O.then, R.to, R.bind, EN.store, EN.storeAll, kp, kpF, seen, vw, opB, opC, opF, opI, opS, truD, R.val, R.dat, R.bool, isOwn, isLst, Env.at, O.end, retO, mask, flatD, List.mapM_cons, List.mapM_nil, eqD, eqS, callR, prep, prepV, handAll, handed, slotsOf, backR, back, mdz, prtR, IE.nl, isiR, excAt, isTy, Tb.tok, Cn.toD, cnPut, gc0, gc1, gc2, gc3, nk4, ne2, efl, ln0, ln1, ln2, ln3, ln4, ln5, ln6, S_eq, S_list, S_len, S_lp, S_rp, S_cm, S_qt, S_none, S_e, S_ce, S_sp, S_mn, S_0, S_9, S_a, S_z, e, i1, i2, e3, hl1, cl, hat, hln, hp]
  show O.end _ (exs tb (runF tb fds (k + 1)) 2 _ [.d (.scr ns), .d (.str (S l)), .un, .un, .un]) = _
  rw [es, f2]
  rfl
end K74
namespace K74
open PySem EN NumText
def T40s : List String := ["", " ", "None", "none ", " none", "nonenone", "()()", "( )", "(,)", "(1)", "(1,2,)", "(1,,2)", "(1 ,2)", "(1, 2)", "1,2", "01", "-0", "-", "--1", "+1", "1.0", "1_0", "\"\"", "\"A\"", "\"a", "a", "'a'",
  "\"a-b\"", "\"a\"\"b\"", "[]", "[1,2]", "True", "1\n", "\"a\n\"", "1000000000000", "-9999999999999", "000000000001", "(none,)", "(\" \",-1)", "((),(()))"]
def T40 : List D := T40s.map fun s => .str (Str.ofString s)
theorem t40_len : T40.length = 40 := by decide +kernel
theorem t40_all : T40s.all (fun s => decide ((Str.ofString s).cps.toList.length ≤ 20)) = true := by decide +kernel
theorem t40_at (n : Int) (h : 0 ≤ n ∧ n < 40) : ∃ w, w.length ≤ 20 ∧ L2.atI T40 n = some (.str (S w)) := by
  have hj : n.toNat < T40.length := by rw [t40_len]; omega
  have := atI_lt hj
  rw [Int.toNat_of_nonneg h.1] at this
  have hm := List.getElem_mem hj
  obtain ⟨s, hs, e⟩ := List.mem_map.mp hm
  have a := of_decide_eq_true (List.all_eq_true.mp t40_all s hs)
  refine ⟨(Str.ofString s).cps.toList, a, ?_⟩
  rw [this, ← e]
theorem short_head (fn : Fn) (n : D) : exs tb fn 1 b__law_short_text [.d n, .un] = exs tb fn 1 (.cons (.ret (.ix (.var 1) (.var 0))) .nil) [.d n, .own (.lst T40)] := by
  kernel_rfl
theorem run_short (k : Nat) (n : Int) (h : 0 ≤ n ∧ n < 40) : ∃ w ps, w.length ≤ 20 ∧ runF tb fds (k + 1) 18 [.d (.int n)] = .ok (.d (.str (S w))) ps := by
  obtain ⟨w, h1, h2⟩ := t40_at n h
  refine ⟨w, [.un], h1, ?_⟩
  rw [runF]
  simp only [fds]
  show O.end _ (exs tb (runF tb fds k) 1 b__law_short_text [.d (.int n), .un]) = _
  rw [short_head]
  generalize T40 = t at h2
  simp [fds, exs, ex.eq_1, ex.eq_2, ex.eq_3, ex.eq_4, ex.eq_5, ex.eq_6, ex.eq_7, ex.eq_8, ex.eq_10, ex.eq_12, ex.eq_13, ex.eq_14, ex.eq_15, ev.eq_1, ev.eq_2, ev.eq_3, ev.eq_4, ev.eq_5, ev.eq_6, ev.eq_7, ev.eq_8, ev.eq_9, ev.eq_10, ev.eq_11, ev.eq_12, ev.eq_13, ev.eq_14, ev.eq_15, ev.eq_16, ev.eq_17, ev.eq_18, ev.eq_19, ev.eq_20, ev.eq_21, ev.eq_22, ev.eq_23, evA, evs, evI, O.then, R.to, R.bind, EN.store, EN.storeAll, kp, kpF, seen, vw, opB, opC, opF, opI, opS, truD, R.val, R.dat, R.bool, isOwn, isLst, Env.at, O.end, retO, mask, flatD, List.mapM_cons, List.mapM_nil, eqD, eqS, callR, prep, prepV, handAll, handed, slotsOf, backR, back, mdz, prtR, IE.nl, isiR, excAt, isTy, Tb.tok, Cn.toD, cnPut, gc0, gc1, gc2, gc3, nk4, ne2, efl, ln0, ln1, ln2, ln3, ln4, ln5, ln6, S_eq, S_list, S_len, S_lp, S_rp, S_cm, S_qt, S_none, S_e, S_ce, S_sp, S_mn, S_0, S_9, S_a, S_z, h2]
end K74
namespace K74
open PySem EN NumText
def maB1 : ISs := (.cons (.ifS (.or (.not (.call 8 (.cons (.call 1 (.cons (.var 1) .nil)) (.cons (.var 2) .nil)))) (.not (.call 8 (.cons (.call 19 (.cons (.var 2) .nil)) (.cons (.tup (.cons (.lit (.str "value")) (.cons (.var 1) .nil))) .nil))))) (.cons (.ret (.lit (.bl false)))
 .nil) .nil)
 .nil)
def maF1 : IS := .forS 3 (.rng (.lit (.int 2))) maB1
def maD : IS := .asg 4 (.call 7 (.cons (.var 0) (.cons (.lit (.int 61)) (.cons (.lst (.cons (.lit (.int 40)) (.cons (.lit (.int 20)) (.cons (.lit (.int 40)) .nil)))) .nil))))
def maI2 : IT := (.e (.lst (.cons (.call 17 (.cons (.var 0) (.cons (.var 2) .nil))) (.cons (.call 18 (.cons (.ix (.var 4) (.lit (.int 0))) .nil)) (.cons (.bin .add (.var 2) (.var 2)) (.cons (.bin .add (.var 2) (.lit (.str "\n"))) (.cons (.bin .add (.bin .add (.lit (.str "(")) (.var 2)) (.lit (.str ")"))) .nil)))))))
def maB2 : ISs := (.cons (.ifS (.not (.call 20 (.cons (.var 5) .nil))) (.cons (.ret (.lit (.bl false)))
 .nil) .nil)
 .nil)
def maI3 : IT := (.e (.lst (.cons (.bin .add (.lit (.int 1)) (.ix (.var 4) (.lit (.int 1)))) (.cons (.bin .add (.lit (.int 21)) (.ix (.var 4) (.lit (.int 2)))) (.cons (.lit (.int 20)) .nil)))))
def maB3 : ISs := (.cons (.ifS (.not (.call 20 (.cons (.bin .add (.bin .add (.bin .mul (.lit (.str "(")) (.var 6)) (.lit (.str ")"))) (.bin .mul (.lit (.str ",)")) (.bin .sub (.var 6) (.lit (.int 1))))) .nil))) (.cons (.ret (.lit (.bl false)))
 .nil) .nil)
 .nil)
def maE : ISs := (.cons (.ret (.call 8 (.cons (.call 2 (.cons (.call 1 (.cons (.var 1) .nil)) .nil)) (.cons (.var 1) .nil)))) .nil)
theorem b_law_eq : b_law = (.cons (.asg 1 (.call 12 (.cons (.var 0) .nil))) (.cons (.asg 2 (.call 13 (.cons (.var 1) .nil))) (.cons maF1 (.cons maD (.cons (.forS 5 maI2 maB2) (.cons (.forS 6 maI3 maB3) maE)))))) := rfl
def mE (ns : List Int) (v : D) (t : List Nat) (s3 s4 s5 s6 : EN.Slot) : EN.Env := [.d (.scr ns), .d v, .d (.str (S t)), s3, s4, s5, s6]
theorem ma_loop {fn : Fn} {b : ISs} {i : Nat} {ok : D → Prop} {f : EN.Slot → EN.Env} (st : ∀ s x, EN.store 1 i (f s) (.d x) = .ok () (f (.d x))) (hb : ∀ x, ok x → exs tb fn 1 b (f (.d x)) = .nx (f (.d x))) : ∀ (xs : List D) (s : EN.Slot), (∀ x ∈ xs, ok x) → ∃ s', forRun 1 i (fun ρ => exs tb fn 1 b ρ) xs (f s) = .nx (f s')
  | [], s, _ => ⟨s, rfl⟩
  | x :: xs, s, h => by
    obtain ⟨s', e⟩ := ma_loop st hb xs (.d x) fun y hy => h y (List.mem_cons_of_mem _ hy)
    exact ⟨s', by rw [fr_nx (st s x) (hb x (h x List.mem_cons_self))]; exact e⟩
theorem ma1 (ns : List Int) (v : D) (hv : gv 20 v) (hl : (tT v).length ≤ 3000) (s3 s4 s5 s6 : EN.Slot) : exs tb (runF tb fds 59) 1 maB1 (mE ns v (tT v) s3 s4 s5 s6) = .nx (mE ns v (tT v) s3 s4 s5 s6) := by
  obtain ⟨p1, e1⟩ := run_told 1 (.inl rfl) 20 38 v hv (by omega)
  obtain ⟨p2, e2⟩ := run_equal 0 58 (.str (S (tT v))) (.inr (.inr (.inr ⟨_, rfl⟩)))
  have vb := V_back 20 v hv [] rfl
  rw [List.append_nil] at vb
  obtain ⟨p3, e3⟩ := (run_ltold 14 (tT v) (by omega)).1 v vb
  obtain ⟨p4, e4⟩ := run_equal 21 37 _ (fine_pair (x := Str.ofString "value") (gv_fine 20 v hv))
  simp only [Nat.reduceAdd] at e1 e2 e3 e4
  generalize tT v = t at e1 e2 e3 e4 ⊢
  unfold maB1 mE
  simp [fds, exs, ex.eq_1, ex.eq_2, ex.eq_3, ex.eq_4, ex.eq_5, ex.eq_6, ex.eq_7, ex.eq_8, ex.eq_10, ex.eq_12, ex.eq_13, ex.eq_14, ex.eq_15, ev.eq_1, ev.eq_2, ev.eq_3, ev.eq_4, ev.eq_5, ev.eq_6, ev.eq_7, ev.eq_8, ev.eq_9, ev.eq_10, ev.eq_11, ev.eq_12, ev.eq_13, ev.eq_14, ev.eq_15, ev.eq_16, ev.eq_17, ev.eq_18, ev.eq_19, ev.eq_20, ev.eq_21, ev.eq_22, ev.eq_23, evA, evs, evI, O.then, R.to, R.bind, EN.store, EN.storeAll, kp, kpF, seen, vw, opB, opC, opF, opI, opS, truD, R.val, R.dat, R.bool, isOwn, isLst, Env.at, O.end, retO, mask, flatD, List.mapM_cons, List.mapM_nil, eqD, eqS, callR, prep, prepV, handAll, handed, slotsOf, backR, back, mdz, prtR, IE.nl, isiR, excAt, isTy, Tb.tok, Cn.toD, cnPut, gc0, gc1, gc2, gc3, nk4, ne2, efl, ln0, ln1, ln2, ln3, ln4, ln5, ln6, S_eq, S_list, S_len, S_lp, S_rp, S_cm, S_qt, S_none, S_e, S_ce, S_sp, S_mn, S_0, S_9, S_a, S_z, e1, e2, e3, e4]
theorem ma2 (ns : List Int) (v : D) (t : List Nat) (s3 s4 s6 : EN.Slot) (x : D) (h : ∃ w, x = .str (S w) ∧ w.length ≤ 100000) : exs tb (runF tb fds 59) 1 maB2 (mE ns v t s3 s4 (.d x) s6) = .nx (mE ns v t s3 s4 (.d x) s6) := by
  obtain ⟨w, rfl, hw⟩ := h
  obtain ⟨p, e⟩ := run_right 13 w hw
  simp only [Nat.reduceAdd] at e
  unfold maB2 mE
  simp [fds, exs, ex.eq_1, ex.eq_2, ex.eq_3, ex.eq_4, ex.eq_5, ex.eq_6, ex.eq_7, ex.eq_8, ex.eq_10, ex.eq_12, ex.eq_13, ex.eq_14, ex.eq_15, ev.eq_1, ev.eq_2, ev.eq_3, ev.eq_4, ev.eq_5, ev.eq_6, ev.eq_7, ev.eq_8, ev.eq_9, ev.eq_10, ev.eq_11, ev.eq_12, ev.eq_13, ev.eq_14, ev.eq_15, ev.eq_16, ev.eq_17, ev.eq_18, ev.eq_19, ev.eq_20, ev.eq_21, ev.eq_22, ev.eq_23, evA, evs, evI, O.then, R.to, R.bind, EN.store, EN.storeAll, kp, kpF, seen, vw, opB, opC, opF, opI, opS, truD, R.val, R.dat, R.bool, isOwn, isLst, Env.at, O.end, retO, mask, flatD, List.mapM_cons, List.mapM_nil, eqD, eqS, callR, prep, prepV, handAll, handed, slotsOf, backR, back, mdz, prtR, IE.nl, isiR, excAt, isTy, Tb.tok, Cn.toD, cnPut, gc0, gc1, gc2, gc3, nk4, ne2, efl, ln0, ln1, ln2, ln3, ln4, ln5, ln6, S_eq, S_list, S_len, S_lp, S_rp, S_cm, S_qt, S_none, S_e, S_ce, S_sp, S_mn, S_0, S_9, S_a, S_z, e]
theorem ma3 (ns : List Int) (v : D) (t : List Nat) (s3 s4 s5 : EN.Slot) (x : D) (h : ∃ n : Int, x = .int n ∧ 1 ≤ n ∧ n ≤ 100) : exs tb (runF tb fds 59) 1 maB3 (mE ns v t s3 s4 s5 (.d x)) = .nx (mE ns v t s3 s4 s5 (.d x)) := by
  obtain ⟨n, rfl, h1, h2⟩ := h
  have e1 : mulS (S [40]) n = S (List.replicate n.toNat 40) := by
    have := mulS_eq [40] n.toNat
    rw [Int.toNat_of_nonneg (by omega), rep_one] at this
    exact this
  have e2 : mulS (S [44, 41]) (n - 1) = S (List.replicate (n - 1).toNat [44, 41]).flatten := by
    have := mulS_eq [44, 41] (n - 1).toNat
    rw [Int.toNat_of_nonneg (by omega)] at this
    exact this
  have l1 : (List.replicate n.toNat 40).length ≤ 100 := by rw [List.length_replicate]; omega
  have l2 : (List.replicate (n - 1).toNat [44, 41]).flatten.length ≤ 200 := by
    rw [List.length_flatten, List.map_replicate, List.sum_replicate_nat]
    show (n - 1).toNat * 2 ≤ 200
    omega
  generalize List.replicate n.toNat 40 = w1 at e1 l1
  generalize (List.replicate (n - 1).toNat [44, 41]).flatten = w2 at e2 l2
  obtain ⟨p, e⟩ := run_right 13 (w1 ++ [41] ++ w2) (by simp; omega)
  simp only [Nat.reduceAdd] at e
  have g1 : n ≤ 100000 := by omega
  have g2 : -100000 ≤ n := by omega
  have g3 : n - 1 ≤ 100000 := by omega
  have g4 : -100000 ≤ n - 1 := by omega
  have k1 : w1.length + 1 ≤ line := by unfold line; omega
  have k2 : w1.length + 1 + w2.length ≤ line := by unfold line; omega
  have k3 : w1.length + (w2.length + 1) ≤ line := by unfold line; omega
  have em : EN.opB .mul (.str (S [40])) (.int n) = some (.d (.str (S w1))) := by
    have : (S [40]).length ≤ 10 := by decide
    rw [← e1]
    simp only [opB, g1, g2, this, and_self, if_true]
  have em2 : EN.opB .mul (.str (S [44, 41])) (.int (n - 1)) = some (.d (.str (S w2))) := by
    have : (S [44, 41]).length ≤ 10 := by decide
    rw [← e2]
    simp only [opB, g3, g4, this, and_self, if_true]
  have ea : EN.opB .add (.str (S w1)) (.str (S [41])) = some (.d (.str (S (w1 ++ [41])))) := by
    have q : (S w1).length + (S [41]).length ≤ line := k1
    simp only [opB, if_pos q, S_app]
  have eb : EN.opB .add (.str (S (w1 ++ [41]))) (.str (S w2)) = some (.d (.str (S (w1 ++ [41] ++ w2)))) := by
    have q : (S (w1 ++ [41])).length + (S w2).length ≤ line := by rw [S_len, S_len, List.length_append]; exact k2
    simp only [opB, if_pos q, S_app]
  have es : EN.opB .sub (.int n) (.int 1) = some (.d (.int (n - 1))) := rfl
  generalize w1 ++ [41] ++ w2 = w at e eb
  generalize w1 ++ [41] = w3 at ea eb
  unfold maB3 mE
  simp [fds, exs, ex.eq_1, ex.eq_2, ex.eq_3, ex.eq_4, ex.eq_5, ex.eq_6, ex.eq_7, ex.eq_8, ex.eq_10, ex.eq_12, ex.eq_13, ex.eq_14, ex.eq_15, ev.eq_1, ev.eq_2, ev.eq_3, ev.eq_4, ev.eq_5, ev.eq_6, ev.eq_7, ev.eq_8, ev.eq_9, ev.eq_10, ev.eq_11, ev.eq_12, ev.eq_13, ev.eq_14, ev.eq_15, ev.eq_16, ev.eq_17, ev.eq_18, ev.eq_19, ev.eq_20, ev.eq_21, ev.eq_22, ev.eq_23, evA, evs, evI, O.then, R.to, R.bind, EN.store, EN.storeAll, kp, kpF, seen, vw, opC, opF, opI, opS, truD, R.val, R.dat, R.bool, isOwn, isLst, Env.at, O.end, retO, mask, flatD, List.mapM_cons, List.mapM_nil, eqD, eqS, callR, prep, prepV, handAll, handed, slotsOf, backR, back, mdz, prtR, IE.nl, isiR, excAt, isTy, Tb.tok, Cn.toD, cnPut, gc0, gc1, gc2, gc3, nk4, ne2, efl, ln0, ln1, ln2, ln3, ln4, ln5, ln6, S_eq, S_list, S_len, S_lp, S_rp, S_cm, S_qt, S_none, S_e, S_ce, S_sp, S_mn, S_0, S_9, S_a, S_z, em, em2, ea, eb, es, e]
end K74
namespace K74
open PySem EN NumText
theorem ex_for_nx2 {T : Tb} {fn : Fn} {np i : Nat} {it : IT} {b : ISs} {ρ ρ1 : EN.Env} {v : D} {xs : List D} (hi : evI T fn np it ρ = .ok (.d v, xs) ρ) (h : ∃ s : EN.Slot, forRun np i (fun ρ => exs T fn np b ρ) xs ρ = .nx ρ1) : ex T fn np (.forS i it b) ρ = .nx ρ1 := by
  obtain ⟨_, h⟩ := h
  exact ex_for_nx hi h
theorem it2 (fn : Fn) (ns : List Int) (v : D) (t w1 w2 : List Nat) (x1 x2 x3 : Int) (s3 : EN.Slot) (p1 p2 : EN.Env) (e1 : fn 17 [.d (.scr ns), .d (.str (S t))] = .ok (.d (.str (S w1))) p1) (e2 : fn 18 [.d (.int x1)] = .ok (.d (.str (S w2))) p2) (ht : t.length ≤ 4000) :
    evI tb fn 1 maI2 (mE ns v t s3 (.own (.lst [.int x1, .int x2, .int x3])) .un .un) = .ok (.d (.lst [.str (S w1), .str (S w2), .str (S (t ++ t)), .str (S (t ++ [10])), .str (S (40 :: (t ++ [41])))]), [.str (S w1), .str (S w2), .str (S (t ++ t)), .str (S (t ++ [10])), .str (S (40 :: (t ++ [41])))]) (mE ns v t s3 (.own (.lst [.int x1, .int x2, .int x3])) .un .un) := by
  have i0 : L2.atI [D.int x1, D.int x2, D.int x3] (0 : Int) = some (.int x1) := rfl
  have S_nl : (Str.ofString "\n") = S [10] := by decide
  generalize [D.int x1, D.int x2, D.int x3] = dd at i0 ⊢
  have k1 : t.length + t.length ≤ line := by unfold line; omega
  have k2 : t.length + 1 ≤ line := by unfold line; omega
  have k3 : 1 + t.length ≤ line := by unfold line; omega
  have k4 : t.length + 1 + 1 ≤ line := by unfold line; omega
  have k5 : 1 + t.length + 1 ≤ line := by unfold line; omega
  unfold maI2 mE
  simp [fds, exs, ex.eq_1, ex.eq_2, ex.eq_3, ex.eq_4, ex.eq_5, ex.eq_6, ex.eq_7, ex.eq_8, ex.eq_10, ex.eq_12, ex.eq_13, ex.eq_14, ex.eq_15, ev.eq_1, ev.eq_2, ev.eq_3, ev.eq_4, ev.eq_5, ev.eq_6, ev.eq_7, ev.eq_8, ev.eq_9, ev.eq_10, ev.eq_11, ev.eq_12, ev.eq_13, ev.eq_14, ev.eq_15, ev.eq_16, ev.eq_17, ev.eq_18, ev.eq_19, ev.eq_20, ev.eq_21, ev.eq_22, ev.eq_23, evA, evs, evI, O.then, R.to, R.bind, EN.store, EN.storeAll, kp, kpF, seen, vw, opB, opC, opF, opI, opS, truD, R.val, R.dat, R.bool, isOwn, isLst, Env.at, O.end, retO, mask, flatD, List.mapM_cons, List.mapM_nil, eqD, eqS, callR, prep, prepV, handAll, handed, slotsOf, backR, back, mdz, prtR, IE.nl, isiR, excAt, isTy, Tb.tok, Cn.toD, cnPut, gc0, gc1, gc2, gc3, nk4, ne2, efl, ln0, ln1, ln2, ln3, ln4, ln5, ln6, S_eq, S_list, S_len, S_lp, S_rp, S_cm, S_qt, S_none, S_e, S_ce, S_sp, S_mn, S_0, S_9, S_a, S_z, walkD, S_nl, i0, e1, e2, k1, k2, k3, k4, k5, S_app]
theorem it3 (fn : Fn) (ns : List Int) (v : D) (t : List Nat) (x1 x2 x3 : Int) (s3 s5 : EN.Slot) :
    evI tb fn 1 maI3 (mE ns v t s3 (.own (.lst [.int x1, .int x2, .int x3])) s5 .un) = .ok (.d (.lst [.int (1 + x2), .int (21 + x3), .int 20]), [.int (1 + x2), .int (21 + x3), .int 20]) (mE ns v t s3 (.own (.lst [.int x1, .int x2, .int x3])) s5 .un) := by
  have i1 : L2.atI [D.int x1, D.int x2, D.int x3] (1 : Int) = some (.int x2) := rfl
  have i2 : L2.atI [D.int x1, D.int x2, D.int x3] (2 : Int) = some (.int x3) := rfl
  generalize [D.int x1, D.int x2, D.int x3] = dd at i1 i2 ⊢
  unfold maI3 mE
  simp [fds, exs, ex.eq_1, ex.eq_2, ex.eq_3, ex.eq_4, ex.eq_5, ex.eq_6, ex.eq_7, ex.eq_8, ex.eq_10, ex.eq_12, ex.eq_13, ex.eq_14, ex.eq_15, ev.eq_1, ev.eq_2, ev.eq_3, ev.eq_4, ev.eq_5, ev.eq_6, ev.eq_7, ev.eq_8, ev.eq_9, ev.eq_10, ev.eq_11, ev.eq_12, ev.eq_13, ev.eq_14, ev.eq_15, ev.eq_16, ev.eq_17, ev.eq_18, ev.eq_19, ev.eq_20, ev.eq_21, ev.eq_22, ev.eq_23, evA, evs, evI, O.then, R.to, R.bind, EN.store, EN.storeAll, kp, kpF, seen, vw, opB, opC, opF, opI, opS, truD, R.val, R.dat, R.bool, isOwn, isLst, Env.at, O.end, retO, mask, flatD, List.mapM_cons, List.mapM_nil, eqD, eqS, callR, prep, prepV, handAll, handed, slotsOf, backR, back, mdz, prtR, IE.nl, isiR, excAt, isTy, Tb.tok, Cn.toD, cnPut, gc0, gc1, gc2, gc3, nk4, ne2, efl, ln0, ln1, ln2, ln3, ln4, ln5, ln6, S_eq, S_list, S_len, S_lp, S_rp, S_cm, S_qt, S_none, S_e, S_ce, S_sp, S_mn, S_0, S_9, S_a, S_z, walkD, i1, i2]
theorem runs (ns : List Int) (hl : ns.length ≤ 63) : ∃ ps, runF tb fds 60 21 [.d (.scr ns)] = .ok (.d (.bl true)) ps := by
  obtain ⟨v, p1, hv, htl, e1⟩ := run_lvalue 56 ns
  obtain ⟨p2, e2⟩ := run_told 13 (.inr rfl) 20 38 v hv (by omega)
  obtain ⟨p3, e3⟩ := run_told 1 (.inl rfl) 20 38 v hv (by omega)
  obtain ⟨xs, p4, hd, e4⟩ := draws 58 ns 61 [40, 20, 40] (by simp) (by simp) (by omega)
  obtain ⟨x1, x2, x3, rfl, h1, h2, h3⟩ := dr3 hd
  simp only [List.map_cons, List.map_nil] at e4
  have c0 : ((61 : Nat) : Int) = 61 := rfl
  rw [c0] at e4
  have tpos : 0 < (tT v).length := by
    obtain ⟨c, r, e, _⟩ := text_head 20 v hv
    rw [e]; simp
  obtain ⟨w1, p5, hw1, e5⟩ := run_changed 57 ns (tT v) tpos (by omega)
  obtain ⟨w2, p6, hw2, e6⟩ := run_short 58 x1 h1
  have vb := V_back 20 v hv [] rfl
  rw [List.append_nil] at vb
  obtain ⟨p7, e7⟩ := (run_untold 15 (tT v) (by omega)).1 v vb
  obtain ⟨p8, e8⟩ := run_equal 20 38 v (gv_fine 20 v hv)
  have m1 := fun s => ma1 ns v hv htl s .un .un .un
  simp only [Nat.reduceAdd] at e1 e2 e3 e4 e5 e6 e7 e8
  generalize tT v = t at *
  have a1 : ex tb (runF tb fds 59) 1 (.asg 1 (.call 12 (.cons (.var 0) .nil))) [.d (.scr ns), .un, .un, .un, .un, .un, .un] = .nx [.d (.scr ns), .d v, .un, .un, .un, .un, .un] := by
    simp [fds, exs, ex.eq_1, ex.eq_2, ex.eq_3, ex.eq_4, ex.eq_5, ex.eq_6, ex.eq_7, ex.eq_8, ex.eq_10, ex.eq_12, ex.eq_13, ex.eq_14, ex.eq_15, ev.eq_1, ev.eq_2, ev.eq_3, ev.eq_4, ev.eq_5, ev.eq_6, ev.eq_7, ev.eq_8, ev.eq_9, ev.eq_10, ev.eq_11, ev.eq_12, ev.eq_13, ev.eq_14, ev.eq_15, ev.eq_16, ev.eq_17, ev.eq_18, ev.eq_19, ev.eq_20, ev.eq_21, ev.eq_22, ev.eq_23, evA, evs, evI, O.then, R.to, R.bind, EN.store, EN.storeAll, kp, kpF, seen, vw, opB, opC, opF, opI, opS, truD, R.val, R.dat, R.bool, isOwn, isLst, Env.at, O.end, retO, mask, flatD, List.mapM_cons, List.mapM_nil, eqD, eqS, callR, prep, prepV, handAll, handed, slotsOf, backR, back, mdz, prtR, IE.nl, isiR, excAt, isTy, Tb.tok, Cn.toD, cnPut, gc0, gc1, gc2, gc3, nk4, ne2, efl, ln0, ln1, ln2, ln3, ln4, ln5, ln6, S_eq, S_list, S_len, S_lp, S_rp, S_cm, S_qt, S_none, S_e, S_ce, S_sp, S_mn, S_0, S_9, S_a, S_z, e1]
  have a2 : ex tb (runF tb fds 59) 1 (.asg 2 (.call 13 (.cons (.var 1) .nil))) [.d (.scr ns), .d v, .un, .un, .un, .un, .un] = .nx (mE ns v t .un .un .un .un) := by
    unfold mE
    simp [fds, exs, ex.eq_1, ex.eq_2, ex.eq_3, ex.eq_4, ex.eq_5, ex.eq_6, ex.eq_7, ex.eq_8, ex.eq_10, ex.eq_12, ex.eq_13, ex.eq_14, ex.eq_15, ev.eq_1, ev.eq_2, ev.eq_3, ev.eq_4, ev.eq_5, ev.eq_6, ev.eq_7, ev.eq_8, ev.eq_9, ev.eq_10, ev.eq_11, ev.eq_12, ev.eq_13, ev.eq_14, ev.eq_15, ev.eq_16, ev.eq_17, ev.eq_18, ev.eq_19, ev.eq_20, ev.eq_21, ev.eq_22, ev.eq_23, evA, evs, evI, O.then, R.to, R.bind, EN.store, EN.storeAll, kp, kpF, seen, vw, opB, opC, opF, opI, opS, truD, R.val, R.dat, R.bool, isOwn, isLst, Env.at, O.end, retO, mask, flatD, List.mapM_cons, List.mapM_nil, eqD, eqS, callR, prep, prepV, handAll, handed, slotsOf, backR, back, mdz, prtR, IE.nl, isiR, excAt, isTy, Tb.tok, Cn.toD, cnPut, gc0, gc1, gc2, gc3, nk4, ne2, efl, ln0, ln1, ln2, ln3, ln4, ln5, ln6, S_eq, S_list, S_len, S_lp, S_rp, S_cm, S_qt, S_none, S_e, S_ce, S_sp, S_mn, S_0, S_9, S_a, S_z, e2]
  obtain ⟨s3, l1⟩ := ma_loop (fn := runF tb fds 59) (b := maB1) (i := 3) (ok := fun _ => True) (f := fun s => mE ns v t s .un .un .un) (fun s x => by unfold mE; simp [EN.store, kp, R.bind]) (fun x _ => m1 _) (rngD 0 2) .un (fun _ _ => trivial)
  have a3 : ex tb (runF tb fds 59) 1 maF1 (mE ns v t .un .un .un .un) = .nx (mE ns v t s3 .un .un .un) := ex_for_nx (it := .rng (.lit (.int 2))) (v := .non) (evI_rng (n := 2) (by unfold mE; simp [fds, exs, ex.eq_1, ex.eq_2, ex.eq_3, ex.eq_4, ex.eq_5, ex.eq_6, ex.eq_7, ex.eq_8, ex.eq_10, ex.eq_12, ex.eq_13, ex.eq_14, ex.eq_15, ev.eq_1, ev.eq_2, ev.eq_3, ev.eq_4, ev.eq_5, ev.eq_6, ev.eq_7, ev.eq_8, ev.eq_9, ev.eq_10, ev.eq_11, ev.eq_12, ev.eq_13, ev.eq_14, ev.eq_15, ev.eq_16, ev.eq_17, ev.eq_18, ev.eq_19, ev.eq_20, ev.eq_21, ev.eq_22, ev.eq_23, evA, evs, evI, O.then, R.to, R.bind, EN.store, EN.storeAll, kp, kpF, seen, vw, opB, opC, opF, opI, opS, truD, R.val, R.dat, R.bool, isOwn, isLst, Env.at, O.end, retO, mask, flatD, List.mapM_cons, List.mapM_nil, eqD, eqS, callR, prep, prepV, handAll, handed, slotsOf, backR, back, mdz, prtR, IE.nl, isiR, excAt, isTy, Tb.tok, Cn.toD, cnPut, gc0, gc1, gc2, gc3, nk4, ne2, efl, ln0, ln1, ln2, ln3, ln4, ln5, ln6, S_eq, S_list, S_len, S_lp, S_rp, S_cm, S_qt, S_none, S_e, S_ce, S_sp, S_mn, S_0, S_9, S_a, S_z]) (by decide)) l1
  have a4 : ex tb (runF tb fds 59) 1 maD (mE ns v t s3 .un .un .un) = .nx (mE ns v t s3 (.own (.lst [.int x1, .int x2, .int x3])) .un .un) := by
    unfold maD mE
    simp [fds, exs, ex.eq_1, ex.eq_2, ex.eq_3, ex.eq_4, ex.eq_5, ex.eq_6, ex.eq_7, ex.eq_8, ex.eq_10, ex.eq_12, ex.eq_13, ex.eq_14, ex.eq_15, ev.eq_1, ev.eq_2, ev.eq_3, ev.eq_4, ev.eq_5, ev.eq_6, ev.eq_7, ev.eq_8, ev.eq_9, ev.eq_10, ev.eq_11, ev.eq_12, ev.eq_13, ev.eq_14, ev.eq_15, ev.eq_16, ev.eq_17, ev.eq_18, ev.eq_19, ev.eq_20, ev.eq_21, ev.eq_22, ev.eq_23, evA, evs, evI, O.then, R.to, R.bind, EN.store, EN.storeAll, kp, kpF, seen, vw, opB, opC, opF, opI, opS, truD, R.val, R.dat, R.bool, isOwn, isLst, Env.at, O.end, retO, mask, flatD, List.mapM_cons, List.mapM_nil, eqD, eqS, callR, prep, prepV, handAll, handed, slotsOf, backR, back, mdz, prtR, IE.nl, isiR, excAt, isTy, Tb.tok, Cn.toD, cnPut, gc0, gc1, gc2, gc3, nk4, ne2, efl, ln0, ln1, ln2, ln3, ln4, ln5, ln6, S_eq, S_list, S_len, S_lp, S_rp, S_cm, S_qt, S_none, S_e, S_ce, S_sp, S_mn, S_0, S_9, S_a, S_z, e4]
  have i2 := it2 (runF tb fds 59) ns v t w1 w2 x1 x2 x3 s3 p5 p6 e5 e6 (by omega)
  obtain ⟨s5, l2⟩ := ma_loop (fn := runF tb fds 59) (b := maB2) (i := 5) (ok := fun x => ∃ w, x = .str (S w) ∧ w.length ≤ 100000) (f := fun s => mE ns v t s3 (.own (.lst [.int x1, .int x2, .int x3])) s .un) (fun s x => by unfold mE; simp [EN.store, kp, R.bind]) (fun x hx => ma2 ns v t _ _ _ x hx)
    [.str (S w1), .str (S w2), .str (S (t ++ t)), .str (S (t ++ [10])), .str (S (40 :: (t ++ [41])))] .un (fun x hx => by
      simp only [List.mem_cons, List.not_mem_nil, or_false] at hx
      rcases hx with rfl | rfl | rfl | rfl | rfl
      · exact ⟨_, rfl, by omega⟩
      · exact ⟨_, rfl, by omega⟩
      · exact ⟨_, rfl, by simp; omega⟩
      · exact ⟨_, rfl, by simp; omega⟩
      · exact ⟨_, rfl, by simp; omega⟩)
  have a5 : ex tb (runF tb fds 59) 1 (.forS 5 maI2 maB2) (mE ns v t s3 (.own (.lst [.int x1, .int x2, .int x3])) .un .un) = .nx (mE ns v t s3 (.own (.lst [.int x1, .int x2, .int x3])) s5 .un) := ex_for_nx i2 l2
  have i3 := it3 (runF tb fds 59) ns v t x1 x2 x3 s3 s5
  obtain ⟨s6, l3⟩ := ma_loop (fn := runF tb fds 59) (b := maB3) (i := 6) (ok := fun x => ∃ n : Int, x = .int n ∧ 1 ≤ n ∧ n ≤ 100) (f := fun s => mE ns v t s3 (.own (.lst [.int x1, .int x2, .int x3])) s5 s) (fun s x => by unfold mE; simp [EN.store, kp, R.bind]) (fun x hx => ma3 ns v t _ _ _ x hx)
    [.int (1 + x2), .int (21 + x3), .int 20] .un (fun x hx => by
      simp only [List.mem_cons, List.not_mem_nil, or_false] at hx
      rcases hx with rfl | rfl | rfl
      · exact ⟨_, rfl, by omega, by omega⟩
      · exact ⟨_, rfl, by omega, by omega⟩
      · exact ⟨_, rfl, by omega, by omega⟩)
  have a6 : ex tb (runF tb fds 59) 1 (.forS 6 maI3 maB3) (mE ns v t s3 (.own (.lst [.int x1, .int x2, .int x3])) s5 .un) = .nx (mE ns v t s3 (.own (.lst [.int x1, .int x2, .int x3])) s5 s6) := ex_for_nx i3 l3
  refine ⟨[.un], ?_⟩
  rw [show 60 = 59 + 1 by rfl, runF]
  simp only [fds, b_law_eq]
  show O.end _ (exs tb (runF tb fds 59) 1 _ [.d (.scr ns), .un, .un, .un, .un, .un, .un]) = _
  rw [exs_cons a1, exs_cons a2, exs_cons a3, exs_cons a4, exs_cons a5, exs_cons a6]
  unfold maE mE
  simp [fds, exs, ex.eq_1, ex.eq_2, ex.eq_3, ex.eq_4, ex.eq_5, ex.eq_6, ex.eq_7, ex.eq_8, ex.eq_10, ex.eq_12, ex.eq_13, ex.eq_14, ex.eq_15, ev.eq_1, ev.eq_2, ev.eq_3, ev.eq_4, ev.eq_5, ev.eq_6, ev.eq_7, ev.eq_8, ev.eq_9, ev.eq_10, ev.eq_11, ev.eq_12, ev.eq_13, ev.eq_14, ev.eq_15, ev.eq_16, ev.eq_17, ev.eq_18, ev.eq_19, ev.eq_20, ev.eq_21, ev.eq_22, ev.eq_23, evA, evs, evI, O.then, R.to, R.bind, EN.store, EN.storeAll, kp, kpF, seen, vw, opB, opC, opF, opI, opS, truD, R.val, R.dat, R.bool, isOwn, isLst, Env.at, O.end, retO, mask, flatD, List.mapM_cons, List.mapM_nil, eqD, eqS, callR, prep, prepV, handAll, handed, slotsOf, backR, back, mdz, prtR, IE.nl, isiR, excAt, isTy, Tb.tok, Cn.toD, cnPut, gc0, gc1, gc2, gc3, nk4, ne2, efl, ln0, ln1, ln2, ln3, ln4, ln5, ln6, S_eq, S_list, S_len, S_lp, S_rp, S_cm, S_qt, S_none, S_e, S_ce, S_sp, S_mn, S_0, S_9, S_a, S_z, e3, e7, e8]
end K74
namespace K74
open PySem EN L2
theorem mainF {K : PySem.W.Frag} {mg : Str → Option Value} {h : Heap} {fa : Addr} {w : World} (X : K.In h) (G : h.Ns mainGlobals mg) (hfa : mg "law" = some (.ref fa)) (hk : kB K cc tb 22 = true)

    (f0 : FnL K "read_integer" "read_integer" (st 0) (adr K "read_integer"))
    (f1 : FnL K "told" "told" (st 1) (adr K "told"))
    (f2 : FnL K "untold" "untold" (st 2) (adr K "untold"))
    (f3 : FnL K "_read_value" "_read_value" (st 3) (adr K "_read_value"))
    (f4 : FnL K "_read_tuple" "_read_tuple" (st 4) (adr K "_read_tuple"))
    (f5 : FnL K "_read_word" "_read_word" (st 5) (adr K "_read_word"))
    (f6 : FnL K "_read_integer" "_read_integer" (st 6) (adr K "_read_integer"))
    (f7 : FnL K "_law_draws" "_law_draws" (st 7) (adr K "_law_draws"))
    (f8 : FnL K "_law_equal" "_law_equal" (st 8) (adr K "_law_equal"))
    (f9 : FnL K "_law_integer" "_law_integer" (st 9) (adr K "_law_integer"))
    (f10 : FnL K "_law_word" "_law_word" (st 10) (adr K "_law_word"))
    (f11 : FnL K "_law_leaf" "_law_leaf" (st 11) (adr K "_law_leaf"))
    (f12 : FnL K "_law_value" "_law_value" (st 12) (adr K "_law_value"))
    (f13 : FnL K "_law_text" "_law_text" (st 13) (adr K "_law_text"))
    (f14 : FnL K "_law_read_word" "_law_read_word" (st 14) (adr K "_law_read_word"))
    (f15 : FnL K "_law_read_integer" "_law_read_integer" (st 15) (adr K "_law_read_integer"))
    (f16 : FnL K "_law_read" "_law_read" (st 16) (adr K "_law_read"))
    (f17 : FnL K "_law_changed" "_law_changed" (st 17) (adr K "_law_changed"))
    (f18 : FnL K "_law_short_text" "_law_short_text" (st 18) (adr K "_law_short_text"))
    (f19 : FnL K "_law_told" "_law_told" (st 19) (adr K "_law_told"))
    (f20 : FnL K "_law_is_right" "_law_is_right" (st 20) (adr K "_law_is_right"))
    (f21 : FnL K "law" "law" (st 21) (adr K "law"))
    (c0 : ClL K (adr K "WardError"))
    (c1 : ClL K (adr K "InvalidText"))
    (i1 : FnL K "__init__" "InvalidText.__init__" (sti 1) (iad K (adr K "InvalidText")))
    : ∃ fd : FuncData, (∀ (s : Shared) (u : Value), BindsTo s fd ⟨[u], []⟩ [("script", u)]) ∧ ∀ base : Heap, K.In base → base.Ns mainGlobals mg →
      FnOk PySem.Challenge.rw_bridgeward_k74_told_and_untold_values.prog w K mg base (L2N.CX PySem.Challenge.rw_bridgeward_k74_told_and_untold_values.prog w) 63 fa fd ["script"] (spLaw K) := by
  have fns : ∀ f, f < 22 → FnL K (cc.gn f) (nm f) (st f) (adr K (cc.gn f)) := fun f hf => match f, hf with
    | 0, _ => f0
    | 1, _ => f1
    | 2, _ => f2
    | 3, _ => f3
    | 4, _ => f4
    | 5, _ => f5
    | 6, _ => f6
    | 7, _ => f7
    | 8, _ => f8
    | 9, _ => f9
    | 10, _ => f10
    | 11, _ => f11
    | 12, _ => f12
    | 13, _ => f13
    | 14, _ => f14
    | 15, _ => f15
    | 16, _ => f16
    | 17, _ => f17
    | 18, _ => f18
    | 19, _ => f19
    | 20, _ => f20
    | 21, _ => f21
    | n + 22, h => absurd h (by omega)
  have cls : ∀ c, c < tb.ne → ClL K (adr K (cc.en c)) := fun c hc => by
    have hc : c < 2 := hc
    exact match c, hc with
    | 0, _ => c0
    | 1, _ => c1
  have ini : ∀ c, c < tb.ne → tb.ef c ≠ [] → FnL K "__init__" (qi c) (sti c) (iad K (adr K (cc.en c))) := fun c hc ne => by
    have hc : c < 2 := hc
    exact match c, hc, ne with
    | 0, _, ne => absurd rfl ne
    | 1, _, _ => i1
  have T := fun base => txt_of (base := base) (P := PySem.Challenge.rw_bridgeward_k74_told_and_untold_values.prog) (w := w) txtS X G hk fns cls ini
  obtain ⟨F8, _, m8, _⟩ := (T h).fn 21 (by decide)
  have m8 : mg "law" = some (.ref (adr K "law")) := m8
  rw [hfa] at m8
  cases m8
  obtain ⟨oc, od, kV, doc, pm, an, cdv, ct, osl, e, _, _⟩ := F8.ex
  refine ⟨_, fun s u => ?_, fun base _ _ => ((T base).allC 60 21 (by decide)).imp fun vs H Q E hs => law_sp (g := gOf K cc tb) runs hs⟩
  rw [e]
  exact .of_eq (txtS.bnd 21 (by decide) kV doc pm an cdv ct [u] rfl)
end K74
open PySem PySem.W PyProof.Rows in
set_option maxRecDepth 100000 in
set_option maxHeartbeats 0 in
theorem K74x : PySem.Challenge.rw_bridgeward_k74_told_and_untold_values.Holds := by
  w_on; o_law; k_head; (case hw => w_witness2)
  k_fill
  refine L2.walk_of (l := PySem.Challenge.rw_bridgeward_k74_told_and_untold_values) (n := 63) (k := 63) (x := "script") (CX := fun w => L2N.CX PySem.Challenge.rw_bridgeward_k74_told_and_untold_values.prog w) (sp := fun w => EN.spLaw _) rfl (by decide) rfl ⟨rfl, by decide, by decide⟩ (fun w h Y => PySem.W.kIn_of Y) ?F (fun w H a ns hl _ hS => ⟨a, ns, rfl, hS, hl, fun _ => rfl⟩) (fun _ _ _ _ _ z => by
    obtain ⟨_, _, _, _, _, _, _, _, _, _, _, _, q⟩ := z
    exact q.elim)
  case F =>
    intro w mg fa h KX G hmg
    refine K74.mainF KX G hmg ?hk ?f0 ?f1 ?f2 ?f3 ?f4 ?f5 ?f6 ?f7 ?f8 ?f9 ?f10 ?f11 ?f12 ?f13 ?f14 ?f15 ?f16 ?f17 ?f18 ?f19 ?f20 ?f21 ?c0 ?c1 ?i1
    case hk => kernel_rfl
    case f0 => (refine' EN.fnL_mk ?a ?l ?c; (case a => k_is); (case l => k_is); (case c => k_is))
    case f1 => (refine' EN.fnL_mk ?a ?l ?c; (case a => k_is); (case l => k_is); (case c => k_is))
    case f2 => (refine' EN.fnL_mk ?a ?l ?c; (case a => k_is); (case l => k_is); (case c => k_is))
    case f3 => (refine' EN.fnL_mk ?a ?l ?c; (case a => k_is); (case l => k_is); (case c => k_is))
    case f4 => (refine' EN.fnL_mk ?a ?l ?c; (case a => k_is); (case l => k_is); (case c => k_is))
    case f5 => (refine' EN.fnL_mk ?a ?l ?c; (case a => k_is); (case l => k_is); (case c => k_is))
    case f6 => (refine' EN.fnL_mk ?a ?l ?c; (case a => k_is); (case l => k_is); (case c => k_is))
    case f7 => (refine' EN.fnL_mk ?a ?l ?c; (case a => k_is); (case l => k_is); (case c => k_is))
    case f8 => (refine' EN.fnL_mk ?a ?l ?c; (case a => k_is); (case l => k_is); (case c => k_is))
    case f9 => (refine' EN.fnL_mk ?a ?l ?c; (case a => k_is); (case l => k_is); (case c => k_is))
    case f10 => (refine' EN.fnL_mk ?a ?l ?c; (case a => k_is); (case l => k_is); (case c => k_is))
    case f11 => (refine' EN.fnL_mk ?a ?l ?c; (case a => k_is); (case l => k_is); (case c => k_is))
    case f12 => (refine' EN.fnL_mk ?a ?l ?c; (case a => k_is); (case l => k_is); (case c => k_is))
    case f13 => (refine' EN.fnL_mk ?a ?l ?c; (case a => k_is); (case l => k_is); (case c => k_is))
    case f14 => (refine' EN.fnL_mk ?a ?l ?c; (case a => k_is); (case l => k_is); (case c => k_is))
    case f15 => (refine' EN.fnL_mk ?a ?l ?c; (case a => k_is); (case l => k_is); (case c => k_is))
    case f16 => (refine' EN.fnL_mk ?a ?l ?c; (case a => k_is); (case l => k_is); (case c => k_is))
    case f17 => (refine' EN.fnL_mk ?a ?l ?c; (case a => k_is); (case l => k_is); (case c => k_is))
    case f18 => (refine' EN.fnL_mk ?a ?l ?c; (case a => k_is); (case l => k_is); (case c => k_is))
    case f19 => (refine' EN.fnL_mk ?a ?l ?c; (case a => k_is); (case l => k_is); (case c => k_is))
    case f20 => (refine' EN.fnL_mk ?a ?l ?c; (case a => k_is); (case l => k_is); (case c => k_is))
    case f21 => (refine' EN.fnL_mk ?a ?l ?c; (case a => k_is); (case l => k_is); (case c => k_is))
    case c0 => (refine' EN.clL_mk ?b ?l ?r; (case b => k_is); (case l => k_is); (case r => decide +kernel))
    case c1 => (refine' EN.clL_mk ?b ?l ?r; (case b => k_is); (case l => k_is); (case r => decide +kernel))
    case i1 => (refine' EN.iniL_mk ?b ?a ?l ?c; (case b => k_is); (case a => k_is); (case l => k_is); (case c => k_is))

theorem PySem.Challenge.cw_bridgeward_k74_told_and_untold_values_holds : PySem.Challenge.rw_bridgeward_k74_told_and_untold_values.Holds := by
  exact K74x
