import PyProof.Rows.All
import Wide.All
import OpenK.AllK
import Wide.FinOn
import HandS.ForMost
import HandS.Wide
import HandS.Gcd
import HandS.IsInst
import HandS.Style
import HandS.Conv
import HandS.SortInts
import HandS.Deep
import HandS.Property
import HandS.ClsMeth
import OpenK.KMeth
import HandS.WideBits
import HandS.Zip
import HandS.TupAny
import HandS.Star
import HandS.Codes
import HandS.Text
import HandS.Strs
import KE.KOpsOwn
import KE.GoesMore
import PyProof.EnumMake
import HandS.ExcOwn
import HandS.ExcIs
import HandS.WordsExc
import HandS.ExcInit
import PyProof.LongRange
import HandS.TryOnly
import KE.KExcSuper
import HandS.ExcField
import HandS.FStr
import HandS.HotCalls
import HandS.Defaults
import HandS.TryMany
import HandS.CallSlots
import HandS.GenList
import HandS.SetIn
import KE.KeyNested
import HandS.NamedTupSort
import PySem.Challenge.RW_slantwalk_k25_rooms_passed
set_option Elab.async false
set_option linter.all false
set_option maxRecDepth 100000
set_option maxHeartbeats 8000000

/-! JM: programs as predicates over plain data -/
namespace J
open PySem
/-! ### loops over data -/
def wFor {α σ : Type} (b : α → σ → (σ → Prop) → (σ → Prop) → Prop) (k : σ → Prop) : List α → σ → Prop
  | [], s => k s
  | x :: r, s => b x s (fun s' => wFor b k r s') k
def wWhile {σ : Type} (t : σ → Prop → Prop → Prop) (b : σ → (σ → Prop) → (σ → Prop) → Prop) (k : σ → Prop) (s : σ) : Prop :=
  ∃ (I : σ → Prop) (m : σ → Nat), I s ∧ ∀ s, I s → t s (b s (fun s' => I s' ∧ m s' < m s) k) (k s)
def rangeI (lo hi : Int) : List Int := (List.range (hi - lo).toNat).map fun i => lo + (i : Nat)
def wLet {α : Type} (a : α) (k : α → Prop) : Prop := k a
def wCut (A : Prop) (k : Prop → Prop) : Prop := k A
def wJoin {τ : Type} (B : τ → Prop) (A : (τ → Prop) → Prop) : Prop := A B
theorem wLet_ok {α : Type} {a : α} {k : α → Prop} (h : ∀ x, x = a → k x) : wLet a k := h a rfl
theorem wLet_to {α : Type} {a : α} {k : α → Prop} (h : k a) : wLet a k := h
theorem wCut_ok {A : Prop} {k : Prop → Prop} (h : ∀ B : Prop, (A → B) → k B) : wCut A k := h A id
theorem wCut_to {A : Prop} {k : Prop → Prop} (h : k A) : wCut A k := h
theorem wJoin_ok {τ : Type} {B : τ → Prop} {A : (τ → Prop) → Prop} (I : τ → Prop) (hB : ∀ s, I s → B s) (hA : ∀ J : τ → Prop, (∀ s, I s → J s) → A J) : wJoin B A := hA B hB
theorem wFor_ok {α σ : Type} {b : α → σ → (σ → Prop) → (σ → Prop) → Prop} {k : σ → Prop} (I : List α → σ → Prop) (hs : ∀ x r s (N : σ → Prop), I (x :: r) s → (∀ s', I r s' → N s') → b x s N k) (hk : ∀ s, I [] s → k s) : ∀ xs s, I xs s → wFor b k xs s
  | [], s, h => hk s h
  | x :: r, s, h => hs x r s _ h fun s' h' => wFor_ok I hs hk r s' h'
def wComp {α β : Type} (b : α → (β → Prop) → Prop) : List α → List β → (List β → Prop) → Prop
  | [], acc, k => k acc
  | x :: r, acc, k => b x fun y => wComp b r (acc ++ [y]) k
theorem wComp_ok {α β : Type} {b : α → (β → Prop) → Prop} (f : α → β) : ∀ (xs : List α) (acc : List β) (k : List β → Prop), (∀ x ∈ xs, ∀ N : β → Prop, N (f x) → b x N) → k (acc ++ xs.map f) → wComp b xs acc k
  | [], acc, k, _, h => by
    rw [List.map_nil, List.append_nil] at h
    exact h
  | x :: r, acc, k, hb, h => hb x List.mem_cons_self _ (wComp_ok f r (acc ++ [f x]) k (fun y hy => hb y (List.mem_cons_of_mem _ hy)) (by
    rw [List.append_assoc]
    exact h))
/-- data that may be compared -/
class POk (α : Type) where
  pok : α → Prop
instance : POk Int := ⟨fun _ => True⟩
instance : POk Bool := ⟨fun _ => True⟩
instance : POk Unit := ⟨fun _ => True⟩
instance : POk Str := ⟨fun x => x.cps.all (· < 0x110000) = true⟩
instance {α β : Type} [a : POk α] [b : POk β] : POk (α × β) := ⟨fun t => a.pok t.1 ∧ b.pok t.2⟩
instance {α : Type} [a : POk α] : POk (List α) := ⟨fun xs => ∀ x ∈ xs, a.pok x⟩
/-- a bound of a slice, within 0 .. n -/
def sIxJ (n d : Nat) : Option Int → Nat
  | none => d
  | some v => if v < 0 then (v + (n : Int)).toNat else min v.toNat n
def cutI {α : Type} (xs : List α) (lo hi : Option Int) : List α := (xs.drop (sIxJ xs.length 0 lo)).take (sIxJ xs.length xs.length hi - sIxJ xs.length 0 lo)
/-- the signs of a text, one by one -/
def signsJ (z : Str) : List Str := z.cps.toList.map fun c => (⟨#[c]⟩ : Str)
def ixI {α : Type} (xs : List α) (i : Int) : Option α := if 0 ≤ i then xs[i.toNat]? else if 0 ≤ i + xs.length then xs[(i + xs.length).toNat]? else none
/-- a place to store at -/
def ixW (n : Nat) (i : Int) : Option Nat := if 0 ≤ i ∧ i < (n : Int) then some i.toNat else if i < 0 ∧ 0 ≤ i + (n : Int) then some (i + (n : Int)).toNat else none
/-- is it in the list -/
def memJ {α : Type} [DecidableEq α] (x : α) (xs : List α) : Bool := decide (x ∈ xs)
theorem memJ_true {α : Type} [DecidableEq α] {x : α} {xs : List α} (h : x ∈ xs) : memJ x xs = true := decide_eq_true h
theorem memJ_false {α : Type} [DecidableEq α] {x : α} {xs : List α} (h : ¬ x ∈ xs) : memJ x xs = false := decide_eq_false h
theorem of_memJ {α : Type} [DecidableEq α] {x : α} {xs : List α} (h : memJ x xs = true) : x ∈ xs := of_decide_eq_true h
theorem of_memJ_false {α : Type} [DecidableEq α] {x : α} {xs : List α} (h : memJ x xs = false) : ¬ x ∈ xs := of_decide_eq_false h
def JMul (i j : Int) : Prop := (-(2 ^ 64) < i ∧ i < 2 ^ 64) ∨ (-(2 ^ 64) < j ∧ j < 2 ^ 64) ∨ i.natAbs.log2 + j.natAbs.log2 < 1000000
def JDiv (j : Int) : Prop := 0 < j ∧ j.natAbs.log2 < 9000
/-- the places and the items -/
def enumJ {α : Type} (xs : List α) : List (Int × α) := (rangeI 0 (xs.length : Int)).zip xs
/-- one more in a set -/
def addJ (xs : List Int) (k : Int) : List Int := if memJ k xs = true then xs else xs ++ [k]
/-- a text read backwards -/
def revJ (z : Str) : Str := ⟨z.cps.reverse⟩
/-- a number's text -/
def strI (n : Int) : Str := (toString n : String)
/-- what an error asks: the class's number, its numbers -/
abbrev EK := Nat → Int → Int → Prop
/-- bits of numbers that are not negative -/
def orJ (i j : Int) : Int := ((i.toNat ||| j.toNat : Nat) : Int)
def andJ (i j : Int) : Int := ((i.toNat &&& j.toNat : Nat) : Int)
def xorJ (i j : Int) : Int := ((i.toNat ^^^ j.toNat : Nat) : Int)
/-- a comprehension with a test -/
def wCompF {α β : Type} (c : α → Prop → Prop → Prop) (b : α → (β → Prop) → Prop) : List α → List β → (List β → Prop) → Prop
  | [], acc, k => k acc
  | x :: r, acc, k => c x (b x fun y => wCompF c b r (acc ++ [y]) k) (wCompF c b r acc k)
theorem wCompF_ok {α β : Type} {c : α → Prop → Prop → Prop} {b : α → (β → Prop) → Prop} (p : α → Bool) (f : α → β) : ∀ (xs : List α) (acc : List β) (k : List β → Prop), (∀ x ∈ xs, ∀ A B : Prop, (p x = true → A) → (p x = false → B) → c x A B) → (∀ x ∈ xs, p x = true → ∀ N : β → Prop, N (f x) → b x N) → k (acc ++ (xs.filter p).map f) → wCompF c b xs acc k
  | [], acc, k, _, _, h => by
    rw [List.filter_nil, List.map_nil, List.append_nil] at h
    exact h
  | x :: r, acc, k, hc, hb, h => by
    refine hc x List.mem_cons_self _ _ (fun e => hb x List.mem_cons_self e _ ?_) fun e => ?_
    · refine wCompF_ok p f r (acc ++ [f x]) k (fun y hy => hc y (List.mem_cons_of_mem _ hy)) (fun y hy => hb y (List.mem_cons_of_mem _ hy)) ?_
      rw [List.filter_cons_of_pos e, List.map_cons] at h
      rw [List.append_assoc]
      exact h
    · refine wCompF_ok p f r acc k (fun y hy => hc y (List.mem_cons_of_mem _ hy)) (fun y hy => hb y (List.mem_cons_of_mem _ hy)) ?_
      rw [List.filter_cons_of_neg (by rw [e]; decide)] at h
      exact h
/-- a comprehension with two fors -/
def wComp2 {α γ β : Type} (wi : α → (List γ → Prop) → Prop) (we : α → γ → (β → Prop) → Prop) : List α → List β → (List β → Prop) → Prop
  | [], acc, k => k acc
  | x :: r, acc, k => wi x fun ys => ys.length < 1000000 ∧ wComp (we x) ys acc fun acc' => acc'.length < 1000000 ∧ wComp2 wi we r acc' k
/-- a question's tree -/
inductive Tr : Type where
  | thr (a b : Int)
  | rng (k : Int)
  | rnd (k : Int)
  | no (t : Tr)
  | two (c : Bool) (l r : Tr)
deriving DecidableEq
namespace Tr
def tag : Tr → Str
  | .thr _ _ => ("through" : Str)
  | .rng _ => ("rings" : Str)
  | .rnd _ => ("rounds" : Str)
  | .no _ => ("not" : Str)
  | .two true _ _ => ("and" : Str)
  | .two false _ _ => ("or" : Str)
def ht : Tr → Nat
  | .no t => t.ht + 1
  | .two _ l r => max l.ht r.ht + 1
  | _ => 1
/-- the number at a place -/
def num : Tr → Int → Option Int
  | .thr a b, i => if i = 1 then some a else if i = 2 then some b else none
  | .rng k, i => if i = 1 then some k else none
  | .rnd k, i => if i = 1 then some k else none
  | _, _ => none
/-- the part at a place -/
def sub : Tr → Int → Option Tr
  | .no t, i => if i = 1 then some t else none
  | .two _ l r, i => if i = 1 then some l else if i = 2 then some r else none
  | _, _ => none
def len : Tr → Nat
  | .thr _ _ => 3
  | .two _ _ _ => 3
  | _ => 2
def parts : Tr → Option (List Tr)
  | .no t => some [t]
  | .two _ l r => some [l, r]
  | _ => none
/-- an atom's numbers -/
def nums : Tr → Option (List Int)
  | .thr a b => some [a, b]
  | .rng k => some [k]
  | .rnd k => some [k]
  | _ => none
def mk3 (z : Str) (a b : Int) : Option Tr := if z = ("through" : Str) then some (.thr a b) else none
def mk2 (z : Str) (k : Int) : Option Tr := if z = ("rings" : Str) then some (.rng k) else if z = ("rounds" : Str) then some (.rnd k) else none
def mk1 (z : Str) (t : Tr) : Option Tr := if z = ("not" : Str) then some (.no t) else none
def mkT (z : Str) (l r : Tr) : Option Tr := if z = ("and" : Str) then some (.two true l r) else if z = ("or" : Str) then some (.two false l r) else none
def mkP (z : Str) : List Tr → Option Tr
  | [t] => mk1 z t
  | [l, r] => mkT z l r
  | _ => none
/-- an atom's items, as they stand -/
def items : Tr → Option (List (Str ⊕ Int))
  | .thr a b => some [.inl ("through" : Str), .inr a, .inr b]
  | .rng k => some [.inl ("rings" : Str), .inr k]
  | .rnd k => some [.inl ("rounds" : Str), .inr k]
  | _ => none
end Tr
/-- the text of a text or a number -/
def wStr (x : Str ⊕ Int) (k : Str → Prop) : Prop := match x with
  | .inl z => k z
  | .inr n => n.natAbs.log2 < 1920 ∧ k (strI n)
instance : POk Tr := ⟨fun t => t.ht ≤ 60⟩
/-- a truth value, or the word of what was raised with its numbers -/
inductive Told : Type where
  | yes (b : Bool)
  | txt (z : Str)
  | one (z : Str) (n : Int)
  | two (z : Str) (p q : Int)
deriving DecidableEq
instance : POk Told := ⟨fun t => match t with
  | .yes _ => True
  | .txt z => POk.pok z
  | .one z _ => POk.pok z
  | .two z _ _ => POk.pok z⟩
/-- the order of tuples of numbers; of pairs of a number and such a tuple -/
def lexJ : List Int → List Int → Bool
  | [], [] => false
  | [], _ :: _ => true
  | _ :: _, [] => false
  | x :: xs, y :: ys => if x = y then lexJ xs ys else decide (x < y)
def ltJ (p q : Int × List Int) : Bool := if p.1 = q.1 then lexJ p.2 q.2 else decide (p.1 < q.1)
/-- a stretch of crossings: its table, its length, its parts -/
inductive Sh : Type where
  | leaf (t : List Int × List Int) (l : Int)
  | node (t : List Int × List Int) (l : Int) (a : Sh) (c : Int) (b : Sh) (d : Int)
namespace Sh
def tab : Sh → List Int × List Int
  | .leaf t _ => t
  | .node t _ _ _ _ _ => t
def len : Sh → Int
  | .leaf _ l => l
  | .node _ l _ _ _ _ => l
def parts : Sh → List (Sh × Int)
  | .leaf _ _ => []
  | .node _ _ a c b d => [(a, c), (b, d)]
def flds (s : Sh) : (List Int × List Int) × Int × List (Sh × Int) := (s.tab, s.len, s.parts)
def mk (t : List Int × List Int) (l : Int) : List (Sh × Int) → Option Sh
  | [] => some (.leaf t l)
  | [x, y] => some (.node t l x.1 x.2 y.1 y.2)
  | _ => none
end Sh
end J
/-! A0: judgements that speak of plain data alone -/
namespace J
open PySem PySem.Spec L2

/-! ### weakening -/
theorem peW {X : Cx} {e : Expr} {t t' : TE} (h : PE X e t) (k : ∀ σ H Q, t' σ H Q → t σ H Q) : PE X e t' := ⟨fun p s σ H Q I q => h.run p s σ H Q I (k _ _ _ q)⟩
theorem ptW {X : Cx} {e : Expr} {t t' : TT} (h : PT X e t) (k : ∀ σ H Q, t' σ H Q → t σ H Q) : PT X e t' := ⟨fun p s σ H Q I q => h.run p s σ H Q I (k _ _ _ q)⟩
theorem pwW {X : Cx} {e : Expr} {t t' : TT} (h : PW X e t) (k : ∀ σ H Q, t' σ H Q → t σ H Q) : PW X e t' := ⟨fun wh p s σ H Q I q => h.run wh p s σ H Q I (k _ _ _ q)⟩
theorem paW {X : Cx} {e : List Expr} {t t' : TA} (h : PA X e t) (k : ∀ σ H Q, t' σ H Q → t σ H Q) : PA X e t' := ⟨fun pos p s σ H Q I q => h.run pos p s σ H Q I (k _ _ _ q)⟩
theorem psW {X : Cx} {e : Stmt} {t t' : TS} (h : PS X e t) (k : ∀ D σ H, t' D σ H → t D σ H) : PS X e t' := ⟨fun p s σ H D I q => h.run p s σ H D I (k _ _ _ q)⟩
theorem pssW {X : Cx} {e : List Stmt} {t t' : TS} (h : PSs X e t) (k : ∀ D σ H, t' D σ H → t D σ H) : PSs X e t' := ⟨fun p s σ H D I q => h.run p s σ H D I (k _ _ _ q)⟩
def tEx {τ : Type} (t : τ → TS) : TS := fun D σ H => ∃ a, t a D σ H
theorem pssE {X : Cx} {e : List Stmt} {τ : Type} {t : τ → TS} (h : ∀ a, PSs X e (t a)) : PSs X e (tEx t) := ⟨fun p s σ H D I ⟨a, q⟩ => (h a).run p s σ H D I q⟩

/-! ### heaps: what never changes -/
def isFix : HO → Bool
  | .tup _ => true
  | .own _ => true
  | .frz _ _ => true
  | .xd _ => true
  | _ => false
def Imm (H H' : Hp) : Prop := ∀ a o, isFix o = true → H a = some o → H' a = some o
theorem Imm.of {H H' : Hp} (s : Same H H') : Imm H H' := fun a o _ h => s a o h
theorem Imm.refl (H : Hp) : Imm H H := fun _ _ _ h => h
theorem Imm.trans {H H1 H2 : Hp} (a : Imm H H1) (b : Imm H1 H2) : Imm H H2 := fun x o f h => b x o f (a x o f h)
theorem Imm.lst {H : Hp} {p : Addr} {xs : List V} {o : HO} (h : H p = some (.lst xs)) : Imm H (upd H p o) := fun a u f e => by
  have ne : a ≠ p := fun q => by
    rw [q, h] at e
    cases e
    cases f
  rw [upd_ne ne]
  exact e
theorem same_upd {H : Hp} {p : Addr} {o : HO} (h : H p = none) : Same H (upd H p o) := fun b x e => by
  rw [upd_ne (ne_of_none e h)]
  exact e
/-- what H0 does not know may change -/
theorem Same.mut {H H' : Hp} {p : Addr} {o : HO} (e : Same H H') (h : H p = none) : Same H (upd H' p o) := fun a u ha => by
  rw [upd_ne (ne_of_none ha h)]
  exact e a u ha
theorem Imm.sqT {K : PySem.W.Frag} {H H' : Hp} {a : Addr} {xs : List V} (e : Imm H H') (h : SqT K H a xs) : SqT K H' a xs := by
  rcases h with (h | ⟨o, h⟩) | h
  · exact .inl (.inl (e _ _ rfl h))
  · exact .inl (.inr ⟨o, e _ _ rfl h⟩)
  · exact .inr h
theorem Same.sqT {K : PySem.W.Frag} {H H' : Hp} {a : Addr} {xs : List V} (e : Same H H') (h : SqT K H a xs) : SqT K H' a xs := (Imm.of e).sqT h

theorem _root_.L2.Same.sqT' {K : PySem.W.Frag} {H H' : Hp} {a : Addr} {xs : List V} (e : Same H H') (h : SqT K H a xs) : SqT K H' a xs := (Imm.of e).sqT h

/-! ### kinds of data -/
structure Ty (α : Type) where
  rel : Hp → V → α → Prop
  same : ∀ {H H' : Hp} {v : V} {a : α}, Same H H' → rel H v a → rel H' v a
class Im {α : Type} (A : Ty α) : Prop where
  imm : ∀ {H H' : Hp} {v : V} {a : α}, Imm H H' → A.rel H v a → A.rel H' v a
def tI : Ty Int := ⟨fun _ v a => v = .int a, fun _ h => h⟩
def tB : Ty Bool := ⟨fun _ v a => v = .bl a, fun _ h => h⟩
def tS : Ty Str := ⟨fun _ v a => v = .str a, fun _ h => h⟩
def tN : Ty Unit := ⟨fun _ v _ => v = .non, fun _ h => h⟩
instance : Im tI := ⟨fun _ h => h⟩
instance : Im tB := ⟨fun _ h => h⟩
instance : Im tS := ⟨fun _ h => h⟩
instance : Im tN := ⟨fun _ h => h⟩

theorem Paired.imp {α β : Type} {F G : α → β → Prop} (h : ∀ a b, F a b → G a b) : ∀ {l : List α} {m : List β}, Paired F l m → Paired G l m
  | _, _, .nil => .nil
  | _, _, .cons x r => .cons (h _ _ x) (Paired.imp h r)
theorem Paired.at {α β : Type} {F : α → β → Prop} : ∀ {l : List α} {m : List β} {i : Nat} {b : β}, Paired F l m → m[i]? = some b → ∃ a, l[i]? = some a ∧ F a b
  | _, _, i, b, .nil, e => by simp at e
  | _, _, 0, b, .cons x _, e => by
    have e' := Option.some.inj e
    subst e'
    exact ⟨_, rfl, x⟩
  | _, _, i + 1, b, .cons _ r, e => by
    obtain ⟨a, h1, h2⟩ := Paired.at (i := i) (b := b) r e
    exact ⟨a, h1, h2⟩
theorem Paired.atL {α β : Type} {F : α → β → Prop} : ∀ {l : List α} {m : List β} {i : Nat} {a : α}, Paired F l m → l[i]? = some a → ∃ b, m[i]? = some b ∧ F a b
  | _, _, i, b, .nil, e => by simp at e
  | _, _, 0, b, .cons x _, e => by
    have e' := Option.some.inj e
    subst e'
    exact ⟨_, rfl, x⟩
  | _, _, i + 1, b, .cons _ r, e => by
    obtain ⟨a, h1, h2⟩ := Paired.atL (i := i) (a := b) r e
    exact ⟨a, h1, h2⟩
theorem Paired.len {α β : Type} {F : α → β → Prop} : ∀ {l : List α} {m : List β}, Paired F l m → l.length = m.length
  | _, _, .nil => rfl
  | _, _, .cons _ r => by rw [List.length_cons, List.length_cons, Paired.len r]
theorem Paired.set {α β : Type} {F : α → β → Prop} {a : α} {b : β} (h : F a b) : ∀ {l : List α} {m : List β} (i : Nat), Paired F l m → Paired F (l.set i a) (m.set i b)
  | _, _, _, .nil => .nil
  | _, _, 0, .cons _ r => .cons h r
  | _, _, i + 1, .cons x r => .cons x (Paired.set h i r)
theorem Paired.app {α β : Type} {F : α → β → Prop} : ∀ {l l' : List α} {m m' : List β}, Paired F l m → Paired F l' m' → Paired F (l ++ l') (m ++ m')
  | _, _, _, _, .nil, h => h
  | _, _, _, _, .cons x r, h => .cons x (Paired.app r h)
theorem Paired.ofMap {α β γ : Type} {F : α → β → Prop} (f : γ → α) (g : γ → β) (h : ∀ c, F (f c) (g c)) : ∀ l : List γ, Paired F (l.map f) (l.map g)
  | [] => .nil
  | _ :: r => .cons (h _) (Paired.ofMap f g h r)
theorem Paired.drop {α β : Type} {F : α → β → Prop} : ∀ {l : List α} {m : List β} (i : Nat), Paired F l m → Paired F (l.drop i) (m.drop i)
  | _, _, 0, h => h
  | _, _, _ + 1, .nil => .nil
  | _, _, i + 1, .cons _ r => Paired.drop i r
theorem Paired.take {α β : Type} {F : α → β → Prop} : ∀ {l : List α} {m : List β} (i : Nat), Paired F l m → Paired F (l.take i) (m.take i)
  | _, _, 0, _ => .nil
  | _, _, _ + 1, .nil => .nil
  | _, _, i + 1, .cons x r => .cons x (Paired.take i r)
theorem Paired.rev {α β : Type} {F : α → β → Prop} : ∀ {l : List α} {m : List β}, Paired F l m → Paired F l.reverse m.reverse
  | _, _, .nil => .nil
  | _, _, .cons x r => by
    rw [List.reverse_cons, List.reverse_cons]
    exact Paired.app (Paired.rev r) (.cons x .nil)
theorem paired_int {vs : List V} {xs : List Int} (h : Paired (fun (v : V) (a : Int) => v = .int a) vs xs) : vs = xs.map V.int := by
  induction h with
  | nil => rfl
  | cons x _ ih => rw [x, ih]; rfl
theorem paired_ints (xs : List Int) : Paired (fun (v : V) (a : Int) => v = .int a) (xs.map V.int) xs := by
  induction xs with
  | nil => exact .nil
  | cons x r ih => exact .cons rfl ih

/-- argument lists, the items of a tuple -/
structure ATy (τ : Type) where
  rel : Hp → List V → τ → Prop
  same : ∀ {H H' : Hp} {vs : List V} {t : τ}, Same H H' → rel H vs t → rel H' vs t
class AIm {τ : Type} (T : ATy τ) : Prop where
  imm : ∀ {H H' : Hp} {vs : List V} {t : τ}, Imm H H' → T.rel H vs t → T.rel H' vs t
section
variable {α β γ δ : Type}
def aN : ATy Unit := ⟨fun _ vs _ => vs = [], fun _ h => h⟩
def aC {τ : Type} (A : Ty α) (T : ATy τ) : ATy (α × τ) := ⟨fun H vs t => ∃ v r, vs = v :: r ∧ A.rel H v t.1 ∧ T.rel H r t.2, fun s ⟨v, r, e, h1, h2⟩ => ⟨v, r, e, A.same s h1, T.same s h2⟩⟩
def a2 (A : Ty α) (B : Ty β) : ATy (α × β) := ⟨fun H vs t => ∃ x y, vs = [x, y] ∧ A.rel H x t.1 ∧ B.rel H y t.2, fun s ⟨x, y, e, h1, h2⟩ => ⟨x, y, e, A.same s h1, B.same s h2⟩⟩
def a3 (A : Ty α) (B : Ty β) (C : Ty γ) : ATy (α × β × γ) := ⟨fun H vs t => ∃ x y z, vs = [x, y, z] ∧ A.rel H x t.1 ∧ B.rel H y t.2.1 ∧ C.rel H z t.2.2, fun s ⟨x, y, z, e, h1, h2, h3⟩ => ⟨x, y, z, e, A.same s h1, B.same s h2, C.same s h3⟩⟩
def a4 (A : Ty α) (B : Ty β) (C : Ty γ) (E : Ty δ) : ATy (α × β × γ × δ) := ⟨fun H vs t => ∃ x y z u, vs = [x, y, z, u] ∧ A.rel H x t.1 ∧ B.rel H y t.2.1 ∧ C.rel H z t.2.2.1 ∧ E.rel H u t.2.2.2, fun s ⟨x, y, z, u, e, h1, h2, h3, h4⟩ => ⟨x, y, z, u, e, A.same s h1, B.same s h2, C.same s h3, E.same s h4⟩⟩
/-- many of one kind -/
def aV (A : Ty α) : ATy (List α) := ⟨fun H vs t => Paired (A.rel H) vs t, fun s h => Paired.imp (fun _ _ r => A.same s r) h⟩
instance : AIm aN := ⟨fun _ h => h⟩
instance {τ : Type} {A : Ty α} {T : ATy τ} [hA : Im A] [hT : AIm T] : AIm (aC A T) := ⟨fun s ⟨v, r, e, h1, h2⟩ => ⟨v, r, e, hA.imm s h1, hT.imm s h2⟩⟩
instance {A : Ty α} {B : Ty β} [hA : Im A] [hB : Im B] : AIm (a2 A B) := ⟨fun s ⟨x, y, e, h1, h2⟩ => ⟨x, y, e, hA.imm s h1, hB.imm s h2⟩⟩
instance {A : Ty α} {B : Ty β} {C : Ty γ} [hA : Im A] [hB : Im B] [hC : Im C] : AIm (a3 A B C) := ⟨fun s ⟨x, y, z, e, h1, h2, h3⟩ => ⟨x, y, z, e, hA.imm s h1, hB.imm s h2, hC.imm s h3⟩⟩
instance {A : Ty α} {B : Ty β} {C : Ty γ} {E : Ty δ} [hA : Im A] [hB : Im B] [hC : Im C] [hE : Im E] : AIm (a4 A B C E) := ⟨fun s ⟨x, y, z, u, e, h1, h2, h3, h4⟩ => ⟨x, y, z, u, e, hA.imm s h1, hB.imm s h2, hC.imm s h3, hE.imm s h4⟩⟩
instance {A : Ty α} [hA : Im A] : AIm (aV A) := ⟨fun s h => Paired.imp (fun _ _ r => hA.imm s r) h⟩
/-- a tuple; a list to be read -/
def tT {τ : Type} (K : PySem.W.Frag) (T : ATy τ) : Ty τ := ⟨fun H v t => ∃ a vs, v = .ref a ∧ SqT K H a vs ∧ T.rel H vs t, fun s ⟨a, vs, e, h, r⟩ => ⟨a, vs, e, Same.sqT s h, T.same s r⟩⟩
def tL (K : PySem.W.Frag) (A : Ty α) : Ty (List α) := ⟨fun H v xs => ∃ a vs, v = .ref a ∧ SqL K H a vs ∧ Paired (A.rel H) vs xs, fun s ⟨a, vs, e, h, r⟩ => ⟨a, vs, e, s.seq h, Paired.imp (fun _ _ r => A.same s r) r⟩⟩
instance {τ : Type} {K : PySem.W.Frag} {T : ATy τ} [hT : AIm T] : Im (tT K T) := ⟨fun s ⟨a, vs, e, h, r⟩ => ⟨a, vs, e, Imm.sqT s h, hT.imm s r⟩⟩
/-- a list of our own making -/
def tK (A : Ty α) : Ty (List α) := ⟨fun H v xs => ∃ a vs, v = .ref a ∧ H a = some (.lst vs) ∧ Paired (A.rel H) vs xs, fun s ⟨a, vs, e, h, r⟩ => ⟨a, vs, e, s _ _ h, Paired.imp (fun _ _ r => A.same s r) r⟩⟩
/-- None, or one of a kind (that is never None) -/
def tO (A : Ty α) : Ty (Option α) := ⟨fun H v o => match o with | none => v = .non | some a => A.rel H v a ∧ v ≠ .non, fun {H H' v a} s h => by cases a with | none => exact h | some x => exact ⟨A.same s h.1, h.2⟩⟩
instance {A : Ty α} [hA : Im A] : Im (tO A) := ⟨fun {H H' v a} s h => by cases a with | none => exact h | some x => exact ⟨hA.imm s h.1, h.2⟩⟩
end


/-! ### the part of the heap that this def never changes -/
def rm (H : Hp) (p : Addr) : Hp := fun b => if b = p then none else H b
theorem rm_le {H : Hp} {p : Addr} : Same (rm H p) H := fun a o h => by
  unfold rm at h
  by_cases e : a = p
  · rw [if_pos e] at h
    cases h
  · rw [if_neg e] at h
    exact h
theorem rm_mono {H H' : Hp} {p : Addr} (s : Same H H') : Same (rm H p) (rm H' p) := fun a o h => by
  unfold rm at h ⊢
  by_cases e : a = p
  · rw [if_pos e] at h
    cases h
  · rw [if_neg e] at h ⊢
    exact s a o h
theorem rm_new {H H' : Hp} {p : Addr} (s : Same H H') (h : H p = none) : Same H (rm H' p) := fun a o e => by
  unfold rm
  rw [if_neg (ne_of_none e h)]
  exact s a o e
structure Fr where
  B : Hp
  H : Hp
  le : Same B H
  fx : Imm H B
def bsA (F : Fr) (as : List Addr) (H : Hp) : Hp := fun a => if a ∈ as then none else if (F.H a).isSome = true then F.B a else H a
theorem bsA_nil {F : Fr} {as : List Addr} {H : Hp} {a : Addr} {o : HO} (h : bsA F as H a = some o) : a ∉ as ∧ ((∃ x, F.H a = some x) → F.B a = some o) ∧ (F.H a = none → H a = some o) := by
  unfold bsA at h
  by_cases e : a ∈ as
  · rw [if_pos e] at h
    cases h
  · rw [if_neg e] at h
    refine ⟨e, fun ⟨x, hx⟩ => ?_, fun hx => ?_⟩
    · rw [hx] at h
      exact h
    · rw [hx] at h
      exact h
theorem bsA_of {F : Fr} {as : List Addr} {H : Hp} {a : Addr} {o : HO} (h1 : a ∉ as) (h2 : F.H a = none) (h3 : H a = some o) : bsA F as H a = some o := by
  unfold bsA
  rw [if_neg h1, h2]
  exact h3
theorem bsA_ofB {F : Fr} {as : List Addr} {H : Hp} {a : Addr} {o : HO} (h1 : a ∉ as) (h2 : F.B a = some o) : bsA F as H a = some o := by
  unfold bsA
  rw [if_neg h1, F.le _ _ h2]
  exact h2
theorem bsA_le {F : Fr} {as : List Addr} {H : Hp} (s : Same F.H H) : Same (bsA F as H) H := fun a o h => by
  obtain ⟨h1, h2, h3⟩ := bsA_nil h
  cases e : F.H a with
  | none => exact h3 e
  | some x => exact s _ _ (F.le _ _ (h2 ⟨x, e⟩))
theorem bsA_mono {F : Fr} {as : List Addr} {H H' : Hp} (s : Same H H') : Same (bsA F as H) (bsA F as H') := fun a o h => by
  obtain ⟨h1, h2, h3⟩ := bsA_nil h
  cases e : F.H a with
  | none => exact bsA_of h1 e (s _ _ (h3 e))
  | some x => exact bsA_ofB h1 (h2 ⟨x, e⟩)
theorem bsA_sub {F : Fr} {as bs : List Addr} {H : Hp} (s : ∀ a, a ∈ bs → a ∈ as) : Same (bsA F as H) (bsA F bs H) := fun a o h => by
  obtain ⟨h1, h2, h3⟩ := bsA_nil h
  have h1' : a ∉ bs := fun z => h1 (s a z)
  cases e : F.H a with
  | none => exact bsA_of h1' e (h3 e)
  | some x => exact bsA_ofB h1' (h2 ⟨x, e⟩)
theorem bsA_cons {F : Fr} {as : List Addr} {H : Hp} {p : Addr} : bsA F (p :: as) H = rm (bsA F as H) p := funext fun a => by
  unfold bsA rm
  by_cases e : a = p
  · rw [if_pos e, if_pos (by rw [e]; exact List.mem_cons_self)]
  · rw [if_neg e]
    show _ = if a ∈ as then none else if (F.H a).isSome = true then F.B a else H a
    by_cases m : a ∈ as
    · rw [if_pos m, if_pos (List.mem_cons_of_mem _ m)]
    · rw [if_neg m, if_neg (fun z => by
        rcases List.mem_cons.mp z with z | z
        · exact e z
        · exact m z)]
theorem bsA_upd {F : Fr} {as : List Addr} {H : Hp} {p : Addr} {o : HO} (h : p ∈ as) : bsA F as (upd H p o) = bsA F as H := funext fun a => by
  unfold bsA
  by_cases e : a = p
  · rw [if_pos (by rw [e]; exact h), if_pos (by rw [e]; exact h)]
  · rw [upd_ne e]
theorem bsA_new {F : Fr} {as : List Addr} {H : Hp} {p : Addr} {o : HO} (s : Same F.H H) (h : H p = none) (m : p ∉ as) : bsA F as (upd H p o) p = some o := bsA_of m (s.free h) upd_same
theorem bsA_free {F : Fr} {as : List Addr} {H : Hp} {p : Addr} (s : Same F.H H) (h : H p = none) : bsA F as H p = none := (bsA_le s).free h

/-- what a call or an expression hands back: the heap ahead, the part of the heap behind that is left alone, the heap behind -/
structure Res (ρ : Type) where
  rel : Hp → Hp → Hp → V → ρ → Prop
  same : ∀ {H B1 B2 H1 H2 : Hp} {v : V} {a : ρ}, Same B1 B2 → Same H1 H2 → rel H B1 H1 v a → rel H B2 H2 v a
  pre : ∀ {H H1 B H2 : Hp} {v : V} {a : ρ}, Same H H1 → rel H1 B H2 v a → rel H B H2 v a
def rO {α : Type} (A : Ty α) : Res α := ⟨fun _ B _ v a => A.rel B v a, fun s _ h => A.same s h, fun _ h => h⟩
/-- to be read at once -/
def rB {α : Type} (A : Ty α) : Res α := ⟨fun _ _ H v a => A.rel H v a, fun _ s h => A.same s h, fun _ h => h⟩
/-- a new list -/
def rN {α : Type} (A : Ty α) : Res (List α) := ⟨fun H B _ v xs => ∃ p vs, v = .ref p ∧ H p = none ∧ B p = some (.lst vs) ∧ Paired (A.rel (rm B p)) vs xs,
  fun s _ ⟨p, vs, e, h0, h1, r⟩ => ⟨p, vs, e, h0, s _ _ h1, Paired.imp (fun _ _ r => A.same (rm_mono s) r) r⟩, fun s ⟨p, vs, e, h0, h1, r⟩ => ⟨p, vs, e, s.free h0, h1, r⟩⟩
/-- a list to be read at once, whose items may be kept -/
def rE {α : Type} (K : PySem.W.Frag) (A : Ty α) : Res (List α) := ⟨fun _ B H v xs => ∃ a vs, v = .ref a ∧ SqL K H a vs ∧ Paired (A.rel B) vs xs, fun s t ⟨a, vs, e, h, r⟩ => ⟨a, vs, e, t.seq h, Paired.imp (fun _ _ r => A.same s r) r⟩, fun _ h => h⟩
def rEK {α : Type} (A : Ty α) : Res (List α) := ⟨fun _ B H v xs => ∃ a vs, v = .ref a ∧ H a = some (.lst vs) ∧ Paired (A.rel B) vs xs, fun s t ⟨a, vs, e, h, r⟩ => ⟨a, vs, e, t _ _ h, Paired.imp (fun _ _ r => A.same s r) r⟩, fun _ h => h⟩
/-- seen at the whole heap, it stands in the part that is left alone too -/
class RIm {ρ : Type} (R : Res ρ) : Prop where
  im : ∀ {H B B' H' : Hp} {v : V} {a : ρ}, R.rel H B H' v a → Same B H' → Imm H' B' → (∀ p o, H p = none → B p = some o → B' p = some o) → R.rel H B' H' v a
instance {α : Type} {A : Ty α} [hA : Im A] : RIm (rO A) := ⟨fun r s i _ => hA.imm i (A.same s r)⟩
theorem Imm.rm_lst {H' B : Hp} {p : Addr} {vs : List V} (i : Imm H' B) (h : H' p = some (.lst vs)) : Imm H' (rm B p) := fun a o f e => by
  unfold rm
  have ne : a ≠ p := fun z => by
    rw [z, h] at e
    cases e
    cases f
  rw [if_neg ne]
  exact i a o f e
instance {α : Type} {A : Ty α} [hA : Im A] : RIm (rN A) := ⟨fun ⟨p, vs, e, h0, h1, r⟩ s i n => ⟨p, vs, e, h0, n _ _ h0 h1, Paired.imp (fun _ _ r => hA.imm (Imm.rm_lst i (s _ _ h1)) (A.same (rm_le.trans s) r)) r⟩⟩

/-! ### where one stands -/
inductive Slot : Type 1 where
  | any
  | val {α : Type} (A : Ty α) (a : α)
  | at (p : Addr)
abbrev sv {α : Type} (A : Ty α) (a : α) : Slot := .val A a
def Slot.ok (B : Hp) : Slot → Option V → Prop
  | .any, _ => True
  | .val A a, o => ∃ v, o = some v ∧ A.rel B v a
  | .at p, o => o = some (.ref p)
inductive Cell : Type 1 where
  | lst (p : Addr) {α : Type} (A : Ty α) (xs : List α)
  | fix {α : Type} (A : Ty α) (v : V) (a : α)
  | ins (x dx C : Addr) (ns : List Str) {κ : Type} (U : ATy κ) (t : κ)
  | raw (p : Addr) (o : HO)
def Cell.addr : Cell → Option Addr
  | .lst p _ _ => some p
  | .fix _ _ _ => none
  | .ins x _ _ _ _ _ => some x
  | .raw p _ => some p
def Cell.ok (F : Fr) (B H : Hp) : Cell → Prop
  | .lst p A xs => F.H p = none ∧ ∃ vs, H p = some (.lst vs) ∧ Paired (A.rel B) vs xs
  | .fix A v a => A.rel B v a
  | .ins x dx C ns U t => F.H x = none ∧ ∃ vs, H x = some (.ins C dx (ns.zip vs)) ∧ vs.length = ns.length ∧ U.rel B vs t
  | .raw p o => F.H p = none ∧ isFix o = false ∧ H p = some o
/-- slot by slot -/
inductive Par (B : Hp) : L2.St → List Slot → Prop where
  | nil : Par B [] []
  | cons {o : Option V} {s : Slot} {σ : L2.St} {r : List Slot} : s.ok B o → Par B σ r → Par B (o :: σ) (s :: r)
theorem Par.imp {H H' : Hp} (h : ∀ (s : Slot) (o : Option V), s.ok H o → s.ok H' o) : ∀ {σ : L2.St} {m : List Slot}, Par H σ m → Par H' σ m
  | _, _, .nil => .nil
  | _, _, .cons x r => .cons (h _ _ x) (Par.imp h r)
theorem Par.at {H : Hp} : ∀ {σ : L2.St} {m : List Slot} {i : Nat} {b : Slot}, Par H σ m → m[i]? = some b → ∃ a, σ[i]? = some a ∧ b.ok H a
  | _, _, i, b, .nil, e => by simp at e
  | _, _, 0, b, .cons x _, e => by
    have e' := Option.some.inj e
    subst e'
    exact ⟨_, rfl, x⟩
  | _, _, i + 1, b, .cons _ r, e => by
    obtain ⟨a, h1, h2⟩ := Par.at (i := i) (b := b) r e
    exact ⟨a, h1, h2⟩
theorem Par.set {H : Hp} {o : Option V} {t : Slot} (h : t.ok H o) : ∀ {σ : L2.St} {m : List Slot} (i : Nat), Par H σ m → Par H (σ.set i o) (m.set i t)
  | _, _, _, .nil => .nil
  | _, _, 0, .cons _ r => .cons h r
  | _, _, i + 1, .cons x r => .cons x (Par.set h i r)
/-- a slot that says what it holds may be said anew -/
theorem Par.re {H : Hp} {t : Slot} : ∀ {σ : L2.St} {m : List Slot} (i : Nat), Par H σ m → (∀ o, σ[i]? = some o → t.ok H o) → Par H σ (m.set i t)
  | _, _, _, .nil, _ => .nil
  | _, _, 0, .cons _ r, h => .cons (h _ rfl) r
  | _, _, i + 1, .cons x r, h => .cons x (Par.re i r fun o e => h o e)
structure Gm : Type 1 where
  s : List Slot
  c : List Cell
abbrev Gm.ad (g : Gm) : List Addr := g.c.filterMap Cell.addr
def Gm.bs (F : Fr) (g : Gm) (H : Hp) : Hp := bsA F g.ad H
structure Gm.Ok (F : Fr) (g : Gm) (σ : St) (H : Hp) : Prop where
  same : Same F.H H
  slots : Par (g.bs F H) σ g.s
  nd : g.ad.Nodup
  cells : ∀ c ∈ g.c, c.ok F (g.bs F H) H
theorem Slot.ok_same {H H' : Hp} (s : Same H H') : ∀ {t : Slot} {o : Option V}, t.ok H o → t.ok H' o
  | .any, _, h => h
  | .val A a, _, ⟨v, e, h⟩ => ⟨v, e, A.same s h⟩
  | .at _, _, h => h
theorem Cell.ok_same {F : Fr} {B B' H H' : Hp} (t : Same B B') (s : Same H H') : ∀ {c : Cell}, c.ok F B H → c.ok F B' H'
  | .lst p A xs, ⟨n, vs, e, r⟩ => ⟨n, vs, s _ _ e, Paired.imp (fun _ _ r => A.same t r) r⟩
  | .fix A v a, h => A.same t h
  | .ins x dx C ns U u, ⟨n, vs, e, l, r⟩ => ⟨n, vs, s _ _ e, l, U.same t r⟩
  | .raw p o, ⟨n, f, e⟩ => ⟨n, f, s _ _ e⟩
section
variable {F : Fr} {g : Gm} {σ : St} {H H' : Hp}
theorem Gm.Ok.le (k : g.Ok F σ H) : Same (g.bs F H) H := bsA_le k.same
theorem Gm.Ok.leT (k : g.Ok F σ H) (s : Same H H') : Same (g.bs F H') H' := bsA_le (k.same.trans s)
theorem Gm.mono (s : Same H H') : Same (g.bs F H) (g.bs F H') := bsA_mono s
theorem Gm.Ok.step (k : g.Ok F σ H) (s : Same H H') : g.Ok F σ H' :=
  ⟨k.same.trans s, Par.imp (fun _ _ h => Slot.ok_same (Gm.mono s) h) k.slots, k.nd, fun c hc => Cell.ok_same (Gm.mono s) s (k.cells c hc)⟩
theorem Gm.Ok.var (k : g.Ok F σ H) {i : Nat} {t : Slot} (h : g.s[i]? = some t) : ∃ o, σ[i]? = some o ∧ t.ok (g.bs F H) o := Par.at k.slots h
theorem Gm.Ok.ref (k : g.Ok F σ H) {i : Nat} {l : Addr} (hs : g.s[i]? = some (.at l)) : σ[i]? = some (some (.ref l)) := by
  obtain ⟨o, h1, e⟩ := k.var hs
  have e' : o = some (.ref l) := e
  rw [h1, e']
theorem Gm.Ok.cell (k : g.Ok F σ H) {j : Nat} {l : Addr} {α : Type} {A : Ty α} {xs : List α} (hc : g.c[j]? = some (.lst l A xs)) : ∃ vs, H l = some (.lst vs) ∧ Paired (A.rel (g.bs F H)) vs xs :=
  (k.cells _ (List.mem_of_getElem? hc)).2
theorem Gm.mem_ad {c : Cell} {p : Addr} (hc : c ∈ g.c) (h : c.addr = some p) : p ∈ g.ad := List.mem_filterMap.mpr ⟨c, hc, h⟩
/-- every address of a cell: new since the entry, and there, and no fixed thing -/
theorem Gm.Ok.ad_some (k : g.Ok F σ H) {p : Addr} (h : p ∈ g.ad) : F.H p = none ∧ ∃ o, H p = some o ∧ isFix o = false := by
  obtain ⟨c, hc, e⟩ := List.mem_filterMap.mp h
  have kc := k.cells c hc
  cases c with
  | lst q A xs =>
    have e' : q = p := Option.some.inj e
    subst e'
    obtain ⟨n, vs, e2, _⟩ := kc
    exact ⟨n, _, e2, rfl⟩
  | fix A v a => cases e
  | ins x dx C ns U t =>
    have e' : x = p := Option.some.inj e
    subst e'
    obtain ⟨n, vs, e2, _⟩ := kc
    exact ⟨n, _, e2, rfl⟩
  | raw q o =>
    have e' : q = p := Option.some.inj e
    subst e'
    obtain ⟨n, f, e2⟩ := kc
    exact ⟨n, _, e2, f⟩
theorem Gm.Ok.fresh (k : g.Ok F σ H) {p : Addr} (h : H p = none) : p ∉ g.ad := fun m => by
  obtain ⟨_, o, e, _⟩ := k.ad_some m
  rw [h] at e
  cases e
theorem Gm.Ok.fx (k : g.Ok F σ H) : Imm H (g.bs F H) := fun a o f h => by
  have m : a ∉ g.ad := fun m => by
    obtain ⟨_, o', e, f'⟩ := k.ad_some m
    rw [h] at e
    have e' := Option.some.inj e
    subst e'
    rw [f] at f'
    cases f'
  cases e : F.H a with
  | none => exact bsA_of m e h
  | some x =>
    have e2 := k.same _ _ e
    rw [h] at e2
    have e3 := Option.some.inj e2
    subst e3
    exact bsA_ofB m (F.fx a o f e)
theorem Gm.Ok.bs_new (k : g.Ok F σ H) {p : Addr} {o : HO} (h : H p = none) : g.bs F (upd H p o) p = some o := bsA_new k.same h (k.fresh h)
theorem Gm.Ok.bs_of (k : g.Ok F σ H) (s : Same H H') {p : Addr} {o : HO} (h : H p = none) (e : H' p = some o) : g.bs F H' p = some o := bsA_of (k.fresh h) (k.same.free h) e
theorem Gm.Ok.bs_free (k : g.Ok F σ H) {p : Addr} (h : H p = none) : g.bs F H p = none := k.le.free h
/-- what is new at p, over what stood there before -/
theorem Gm.Ok.rm_new (k : g.Ok F σ H) {p : Addr} {o : HO} (h : H p = none) : Same (g.bs F H) (rm (g.bs F (upd H p o)) p) := J.rm_new (Gm.mono (same_upd h)) (k.bs_free h)
abbrev Gm.set (g : Gm) (i : Nat) (t : Slot) : Gm := ⟨g.s.set i t, g.c⟩
abbrev Gm.push (g : Gm) (c : Cell) : Gm := ⟨g.s, c :: g.c⟩
theorem Gm.Ok.set (k : g.Ok F σ H) {i : Nat} {t : Slot} {v : V} (h : t.ok (g.bs F H) (some v)) : (g.set i t).Ok F (σ.set i (some v)) H :=
  ⟨k.same, Par.set h i k.slots, k.nd, k.cells⟩
/-- a new cell -/
theorem Gm.Ok.push (k : g.Ok F σ H) (s : Same H H') {c : Cell} {p : Addr} (hp : c.addr = some p) (h : H p = none) (hc : c.ok F (rm (g.bs F H') p) H') : (g.push c).Ok F σ H' := by
  have ad : (g.push c).ad = p :: g.ad := by
    show (c :: g.c).filterMap Cell.addr = _
    rw [List.filterMap_cons, hp]
  have eb : (g.push c).bs F H' = rm (g.bs F H') p := by
    unfold Gm.bs
    rw [ad, bsA_cons]
  have mo : Same (g.bs F H) ((g.push c).bs F H') := by
    rw [eb]
    exact J.rm_new (Gm.mono s) (k.bs_free h)
  refine ⟨k.same.trans s, Par.imp (fun _ _ h => Slot.ok_same mo h) k.slots, ?_, fun d hd => ?_⟩
  · rw [ad]
    exact List.nodup_cons.mpr ⟨k.fresh h, k.nd⟩
  · rcases List.mem_cons.mp hd with rfl | hd
    · rw [eb]
      exact hc
    · exact Cell.ok_same mo s (k.cells d hd)
theorem Gm.Ok.new (k : g.Ok F σ H) (s : Same H H') {p : Addr} {α : Type} {A : Ty α} {xs : List α} {vs : List V} (h : H p = none) (e : g.bs F H' p = some (.lst vs)) (r : Paired (A.rel (rm (g.bs F H') p)) vs xs) :
    (g.push (.lst p A xs)).Ok F σ H' := k.push s rfl h ⟨k.same.free h, vs, k.leT s _ _ e, r⟩
theorem Gm.Ok.fixed (k : g.Ok F σ H) {α : Type} {A : Ty α} {v : V} {a : α} (h : A.rel (g.bs F H) v a) : (g.push (.fix A v a)).Ok F σ H :=
  ⟨k.same, k.slots, k.nd, fun c hc => by
    rcases List.mem_cons.mp hc with rfl | hc
    · exact h
    · exact k.cells c hc⟩
end
theorem ad_set {cs : List Cell} {c c' : Cell} : ∀ {j : Nat}, cs[j]? = some c → c'.addr = c.addr → (cs.set j c').filterMap Cell.addr = cs.filterMap Cell.addr := by
  induction cs with
  | nil => intro j h; simp at h
  | cons d r ih =>
    intro j h e
    cases j with
    | zero =>
      have q : d = c := Option.some.inj h
      subst q
      rw [List.set_cons_zero, List.filterMap_cons, List.filterMap_cons, e]
    | succ j =>
      have q := ih (j := j) h e
      rw [List.set_cons_succ, List.filterMap_cons, List.filterMap_cons, q]
theorem addr_of_get {cs : List Cell} {j : Nat} {p : Addr} {d : Cell} (h : cs[j]? = some d) (hd : d.addr = some p) (nd : (cs.filterMap Cell.addr).Nodup) :
    ∀ i c, cs[i]? = some c → c.addr = some p → i = j := by
  induction cs generalizing j with
  | nil => simp at h
  | cons e r ih =>
    intro i c hi hc
    have mem : ∀ {k : Nat} {c : Cell}, r[k]? = some c → c.addr = some p → p ∈ r.filterMap Cell.addr := fun hk hc => List.mem_filterMap.mpr ⟨_, List.mem_of_getElem? hk, hc⟩
    have hdn : e.addr = some p → p ∉ r.filterMap Cell.addr := fun z => by
      rw [List.filterMap_cons, z] at nd
      exact (List.nodup_cons.mp nd).1
    have ndr : (r.filterMap Cell.addr).Nodup := by
      cases ea : e.addr with
      | none =>
        rw [List.filterMap_cons, ea] at nd
        exact nd
      | some q =>
        rw [List.filterMap_cons, ea] at nd
        exact (List.nodup_cons.mp nd).2
    cases i with
    | zero =>
      have e1 : e = c := Option.some.inj hi
      subst e1
      cases j with
      | zero => rfl
      | succ j => exact absurd (mem (k := j) h hd) (hdn hc)
    | succ i =>
      cases j with
      | zero =>
        have e1 : e = d := Option.some.inj h
        subst e1
        exact absurd (mem (k := i) hi hc) (hdn hd)
      | succ j => rw [ih h ndr i c hi hc]
/-- the thing at cell j is changed -/
theorem Gm.Ok.mutC {F : Fr} {g : Gm} {σ : St} {H : Hp} (k : g.Ok F σ H) {j : Nat} {p : Addr} {c c' : Cell} {o : HO} (hj : g.c[j]? = some c) (ha : c.addr = some p) (ha' : c'.addr = some p) (hc : c'.ok F (g.bs F H) (upd H p o)) : (⟨g.s, g.c.set j c'⟩ : Gm).Ok F σ (upd H p o) := by
  have pm : p ∈ g.ad := Gm.mem_ad (List.mem_of_getElem? hj) ha
  have jl : j < g.c.length := (List.getElem?_eq_some_iff.mp hj).1
  have ea : (⟨g.s, g.c.set j c'⟩ : Gm).ad = g.ad := ad_set hj (by rw [ha, ha'])
  have eb : (⟨g.s, g.c.set j c'⟩ : Gm).bs F (upd H p o) = g.bs F H := by
    show bsA F (⟨g.s, g.c.set j c'⟩ : Gm).ad _ = bsA F g.ad H
    rw [ea]
    exact bsA_upd pm
  refine ⟨Same.mut k.same (k.ad_some pm).1, by rw [eb]; exact k.slots, by rw [ea]; exact k.nd, fun d hd => ?_⟩
  rw [eb]
  obtain ⟨n, hn⟩ := List.getElem?_of_mem hd
  by_cases hnj : j = n
  · subst hnj
    rw [List.getElem?_set_self jl] at hn
    have q := Option.some.inj hn
    subst q
    exact hc
  · rw [List.getElem?_set_ne hnj] at hn
    have old := k.cells d (List.mem_of_getElem? hn)
    have ne : ∀ {q : Addr}, d.addr = some q → q ≠ p := fun hq z => hnj (addr_of_get hj ha k.nd n _ hn (by rw [hq, z])).symm
    cases d with
    | lst q B zs =>
      obtain ⟨n0, us, eu, ru⟩ := old
      exact ⟨n0, us, by rw [upd_ne (ne rfl)]; exact eu, ru⟩
    | fix B v a => exact old
    | ins x dx C ns U t =>
      obtain ⟨n0, us, eu, ru⟩ := old
      exact ⟨n0, us, by rw [upd_ne (ne rfl)]; exact eu, ru⟩
    | raw q o' =>
      obtain ⟨n0, f, eu⟩ := old
      exact ⟨n0, f, by rw [upd_ne (ne rfl)]; exact eu⟩
theorem Gm.Ok.mut {F : Fr} {g : Gm} {σ : St} {H : Hp} (k : g.Ok F σ H) {j : Nat} {p : Addr} {α : Type} {A : Ty α} {xs ys : List α} {ws : List V} (hj : g.c[j]? = some (.lst p A xs))
    (r : Paired (A.rel (g.bs F H)) ws ys) : (⟨g.s, g.c.set j (.lst p A ys)⟩ : Gm).Ok F σ (upd H p (.lst ws)) := k.mutC hj rfl rfl ⟨(k.ad_some (Gm.mem_ad (List.mem_of_getElem? hj) rfl)).1, ws, upd_same, r⟩

/-! ### less is known -/
inductive SubS : List Slot → List Slot → Prop where
  | nil : SubS [] []
  | same {s : Slot} {a b : List Slot} : SubS a b → SubS (s :: a) (s :: b)
  | any {s : Slot} {a b : List Slot} : SubS a b → SubS (s :: a) (.any :: b)
theorem SubS.ok {H : Hp} : ∀ {a b : List Slot} {σ : St}, SubS a b → Par H σ a → Par H σ b
  | _, _, _, .nil, h => h
  | _, _, _, .same r, .cons x h => .cons x (SubS.ok r h)
  | _, _, _, .any r, .cons x h => .cons trivial (SubS.ok r h)
theorem SubS.refl : ∀ a : List Slot, SubS a a
  | [] => .nil
  | _ :: r => .same (SubS.refl r)
structure Sub (g g' : Gm) : Prop where
  s : SubS g.s g'.s
  c : g'.c.Sublist g.c
theorem Sub.bs {g g' : Gm} (h : Sub g g') {F : Fr} {H : Hp} : Same (g.bs F H) (g'.bs F H) := bsA_sub fun _ m => (List.Sublist.filterMap _ h.c).subset m
theorem Sub.ok {g g' : Gm} (h : Sub g g') {F : Fr} {σ : St} {H : Hp} (k : g.Ok F σ H) : g'.Ok F σ H :=
  ⟨k.same, Par.imp (fun _ _ z => Slot.ok_same h.bs z) (h.s.ok k.slots), List.Nodup.sublist (List.Sublist.filterMap _ h.c) k.nd, fun c hc => Cell.ok_same h.bs (fun _ _ z => z) (k.cells c (h.c.subset hc))⟩
theorem Sub.refl (g : Gm) : Sub g g := ⟨SubS.refl _, List.Sublist.refl _⟩
/-- a list is not changed any more -/
theorem Gm.Ok.freeze {F : Fr} {g : Gm} {σ : St} {H : Hp} (k : g.Ok F σ H) {i j : Nat} {p : Addr} {α : Type} {A : Ty α} {xs : List α} (hs : g.s[i]? = some (.at p)) (hj : g.c[j]? = some (.lst p A xs)) : (⟨g.s.set i (.val (tK A) xs), g.c.eraseIdx j⟩ : Gm).Ok F σ H := by
  have jl : j < g.c.length := (List.getElem?_eq_some_iff.mp hj).1
  have sub : Sub g ⟨g.s, g.c.eraseIdx j⟩ := ⟨SubS.refl _, List.eraseIdx_sublist ..⟩
  have k2 := sub.ok k
  obtain ⟨vs, hp, r⟩ := k.cell hj
  have nm : p ∉ (g.c.eraseIdx j).filterMap Cell.addr := fun m => by
    obtain ⟨d, hd, e⟩ := List.mem_filterMap.mp m
    obtain ⟨n, hn⟩ := List.getElem?_of_mem hd
    rw [List.getElem?_eraseIdx] at hn
    by_cases l : n < j
    · rw [if_pos l] at hn
      have := addr_of_get hj rfl k.nd n d hn e
      omega
    · rw [if_neg l] at hn
      have := addr_of_get hj rfl k.nd (n + 1) d hn e
      omega
  refine ⟨k2.same, Par.re (t := .val (tK A) xs) i k2.slots fun o e => ?_, k2.nd, k2.cells⟩
  rw [k.ref hs] at e
  have e' := Option.some.inj e
  subst e'
  exact ⟨.ref p, rfl, p, vs, rfl, bsA_of nm (k.ad_some (Gm.mem_ad (List.mem_of_getElem? hj) rfl)).1 hp, Paired.imp (fun _ _ z => A.same sub.bs z) r⟩

/-! ### readings over data -/
def RJ {ρ : Type} (F : Fr) (g : Gm) (R : Res ρ) (w : (ρ → Prop) → Prop) : TE := fun σ H Q => g.Ok F σ H ∧ ∃ P, w P ∧ ∀ a v H', P a → Same H H' → R.rel H (g.bs F H') H' v a → Q v H'
/-- arguments: to be kept, or to be read at once -/
def RA {τ : Type} (F : Fr) (g : Gm) (T : ATy τ) (w : (τ → Prop) → Prop) : TA := fun σ H Q => g.Ok F σ H ∧ ∃ P, w P ∧ ∀ t vs H', P t → Same H H' → T.rel (g.bs F H') vs t → Q vs H'
def RAb {τ : Type} (F : Fr) (g : Gm) (T : ATy τ) (w : (τ → Prop) → Prop) : TA := fun σ H Q => g.Ok F σ H ∧ ∃ P, w P ∧ ∀ t vs H', P t → Same H H' → T.rel H' vs t → Q vs H'
def RT (F : Fr) (g : Gm) (w : Prop → Prop → Prop) : TT := fun σ H Q => g.Ok F σ H ∧ ∃ A B, w A B ∧ (A → ∀ H', Same H H' → Q true H') ∧ (B → ∀ H', Same H H' → Q false H')
structure Le (D D' : Ends) : Prop where
  nx : ∀ σ H, D.nx σ H → D'.nx σ H
  rt : ∀ v H, D.rt v H → D'.rt v H
  bk : ∀ σ H, D.bk σ H → D'.bk σ H
  ct : ∀ σ H, D.ct σ H → D'.ct σ H
theorem Le.refl (D : Ends) : Le D D := ⟨fun _ _ h => h, fun _ _ h => h, fun _ _ h => h, fun _ _ h => h⟩
def RS (F : Fr) (g : Gm) (D : Ends) (w : Prop) : TS := fun D' σ H => Le D D' ∧ g.Ok F σ H ∧ w
/-- at a block's end: some state of the family S, of which N holds -/
def phi {τ : Type} (F : Fr) (S : τ → Gm) (N : τ → Prop) : St → Hp → Prop := fun σ H => ∃ s, (S s).Ok F σ H ∧ N s
abbrev JE {ρ : Type} (X : Cx) (F : Fr) (g : Gm) (e : Expr) (R : Res ρ) (w : (ρ → Prop) → Prop) : Prop := PE X e (RJ F g R w)
abbrev JA {τ : Type} (X : Cx) (F : Fr) (g : Gm) (es : List Expr) (T : ATy τ) (w : (τ → Prop) → Prop) : Prop := PA X es (RA F g T w)
abbrev JAb {τ : Type} (X : Cx) (F : Fr) (g : Gm) (es : List Expr) (T : ATy τ) (w : (τ → Prop) → Prop) : Prop := PA X es (RAb F g T w)
abbrev JT (X : Cx) (F : Fr) (g : Gm) (e : Expr) (w : Prop → Prop → Prop) : Prop := PT X e (RT F g w)
abbrev JW (X : Cx) (F : Fr) (g : Gm) (e : Expr) (w : Prop → Prop → Prop) : Prop := PW X e (RT F g w)
abbrev JSs (X : Cx) (F : Fr) (g : Gm) (sts : List Stmt) (D : Ends) (w : Prop) : Prop := PSs X sts (RS F g D w)
/-- what was made since the entry, and what was left alone before -/
def Fr.out (F : Fr) (H : Hp) : Hp := bsA F [] H
/-- a return's value reaches what is wanted -/
def RtOk {ρ : Type} (F : Fr) (R : Res ρ) (P : ρ → Prop) (rt : VK) : Prop := ∀ r v H, P r → Same F.H H → R.rel F.H (F.out H) H v r → rt v H
theorem Gm.out {g : Gm} {F : Fr} {H : Hp} : Same (g.bs F H) (F.out H) := bsA_sub fun _ m => by cases m
/-- what a def promises -/
def spJ {τ ρ : Type} (T : ATy τ) (R : Res ρ) (w : τ → (ρ → Prop) → Prop) : Sp := fun vs H Q _ => ∃ (t : τ) (P : ρ → Prop) (F : Fr), F.H = H ∧ T.rel F.B vs t ∧ w t P ∧ RtOk F R P Q
/-- the whole heap left alone -/
def Fr.all (H : Hp) : Fr := ⟨H, H, fun _ _ h => h, Imm.refl H⟩
/-- the caller's part -/
def Gm.Ok.fr {F : Fr} {g : Gm} {σ : St} {H : Hp} (k : g.Ok F σ H) : Fr := ⟨g.bs F H, H, k.le, k.fx⟩
theorem Gm.Ok.back {F : Fr} {g : Gm} {σ : St} {H H' : Hp} (k : g.Ok F σ H) (s : Same H H') : Same (k.fr.out H') (g.bs F H') := fun a o h => by
  obtain ⟨_, h2, h3⟩ := bsA_nil h
  cases e : H a with
  | none =>
    have h4 : H' a = some o := h3 e
    exact k.bs_of s e h4
  | some x =>
    have h4 : g.bs F H a = some o := h2 ⟨x, e⟩
    exact Gm.mono s _ _ h4
theorem Gm.Ok.backB {F : Fr} {g : Gm} {σ : St} {H H' : Hp} (k : g.Ok F σ H) (s : Same H H') {ρ : Type} {R : Res ρ} [hR : RIm R] {v : V} {a : ρ} (h : R.rel H ((Fr.all H).out H') H' v a) : R.rel H (g.bs F H') H' v a :=
  hR.im h (bsA_le s) (k.step s).fx fun p o h0 h1 => by
    obtain ⟨_, _, h3⟩ := bsA_nil h1
    exact k.bs_of s h0 (h3 h0)

end J
/-! A1: a rule a construct -/
namespace J
open PySem PySem.Spec L2
section
variable {X : Cx} {F : Fr} {g : Gm} {α β γ δ ρ τ : Type}

/-! ### expressions -/
theorem je_var {i : Nat} {A : Ty α} {a : α} {x : Str} {pos : Pos} (hs : g.s[i]? = some (.val A a)) (hN : X.N[i]? = some x := by rfl) (hv : Vis X.env.scope x := by first | exact Or.inl rfl | exact Or.inr (Or.inl rfl) | exact Or.inr (Or.inr rfl))
    (hd : (x == ("__debug__" : Str)) = false := by decide) (hcd : (x == ("__classdict__" : Str)) = false := by decide) : JE X F g (.Name x pos) (rO A) (fun k => k a) :=
  peW (pe_var hN hv hd hcd) fun σ H Q ⟨k, P, w, q⟩ => by
    obtain ⟨o, h1, v, e, h2⟩ := k.var hs
    subst e
    exact ⟨v, h1, q a v H w (Same.refl H) h2⟩
theorem je_cell {i j : Nat} {p : Addr} {A : Ty α} {xs : List α} {x : Str} {pos : Pos} (hs : g.s[i]? = some (.at p)) (hc : g.c[j]? = some (.lst p A xs)) (hN : X.N[i]? = some x := by rfl) (hv : Vis X.env.scope x := by first | exact Or.inl rfl | exact Or.inr (Or.inl rfl) | exact Or.inr (Or.inr rfl))
    (hd : (x == ("__debug__" : Str)) = false := by decide) (hcd : (x == ("__classdict__" : Str)) = false := by decide) : JE X F g (.Name x pos) (rEK A) (fun k => k xs) :=
  peW (pe_var hN hv hd hcd) fun σ H Q ⟨k, P, w, q⟩ => by
    obtain ⟨vs, hp, r⟩ := k.cell hc
    exact ⟨.ref p, k.ref hs, q xs (.ref p) H w (Same.refl H) ⟨p, vs, rfl, hp, r⟩⟩
/-- one reading of a value serves for another -/
theorem je_res {R S : Res ρ} {e : Expr} {w : (ρ → Prop) → Prop} (h : JE X F g e R w) (hr : ∀ H σ H' v a, g.Ok F σ H' → R.rel H (g.bs F H') H' v a → S.rel H (g.bs F H') H' v a) : JE X F g e S w :=
  peW h fun σ H Q ⟨k, P, hw, q⟩ => ⟨k, P, hw, fun a v H' p s r => q a v H' p s (hr _ _ _ _ _ (k.step s) r)⟩
section
variable {A : Ty α} {e : Expr}
theorem je_b {w : (α → Prop) → Prop} (h : JE X F g e (rO A) w) : JE X F g e (rB A) w := je_res h fun _ _ _ _ _ k r => A.same k.le r
theorem je_eL {w : (List α → Prop) → Prop} (h : JE X F g e (rO (tL X.K A)) w) : JE X F g e (rE X.K A) w := je_res h fun _ _ _ _ _ k ⟨a, vs, e, hq, r⟩ => ⟨a, vs, e, k.le.seq hq, r⟩
theorem je_eK {w : (List α → Prop) → Prop} (h : JE X F g e (rO (tK A)) w) : JE X F g e (rEK A) w := je_res h fun _ _ _ _ _ k ⟨a, vs, e, hq, r⟩ => ⟨a, vs, e, k.le _ _ hq, r⟩
theorem je_eN {w : (List α → Prop) → Prop} (h : JE X F g e (rN A) w) : JE X F g e (rEK A) w := je_res h fun _ _ _ _ _ k ⟨a, vs, e, _, hq, r⟩ => ⟨a, vs, e, k.le _ _ hq, Paired.imp (fun _ _ r => A.same rm_le r) r⟩
theorem je_e {w : (List α → Prop) → Prop} (h : JE X F g e (rEK A) w) : JE X F g e (rE X.K A) w := je_res h fun _ _ _ _ _ k ⟨a, vs, e, hq, r⟩ => ⟨a, vs, e, .inl (.inl hq), r⟩
theorem je_eb {w : (List α → Prop) → Prop} (h : JE X F g e (rEK A) w) : JE X F g e (rB (tK A)) w := je_res h fun _ _ _ _ _ k ⟨a, vs, e, hq, r⟩ => ⟨a, vs, e, hq, Paired.imp (fun _ _ r => A.same k.le r) r⟩
theorem je_ebL {w : (List α → Prop) → Prop} (h : JE X F g e (rE X.K A) w) : JE X F g e (rB (tL X.K A)) w := je_res h fun _ _ _ _ _ k ⟨a, vs, e, hq, r⟩ => ⟨a, vs, e, hq, Paired.imp (fun _ _ r => A.same k.le r) r⟩
/-- a new list, that is not changed any more -/
theorem je_new {w : (List α → Prop) → Prop} (h : JE X F g e (rN A) w) : JE X F g e (rO (tK A)) w := je_res h fun _ _ _ _ _ k ⟨a, vs, e, _, hq, r⟩ => ⟨a, vs, e, hq, Paired.imp (fun _ _ r => A.same rm_le r) r⟩
/-- a list of our own, where any list will do -/
theorem je_KL {w : (List α → Prop) → Prop} (h : JE X F g e (rO (tK A)) w) : JE X F g e (rO (tL X.K A)) w := je_res h fun _ _ _ _ _ k ⟨a, vs, e, hq, r⟩ => ⟨a, vs, e, .inl (.inl hq), r⟩
end
theorem je_c {e : Expr} {v : V} {A : Ty α} {a : α} (h : PE X e (tC v)) (r : ∀ H, A.rel H v a) : JE X F g e (rO A) (fun k => k a) :=
  peW h fun σ H Q ⟨k, P, w, q⟩ => q a v H w (Same.refl H) (r _)
theorem je_int {n : Int} {j : Nat} {pos : Pos} : JE X F g (.Constant (.int n) j pos) (rO tI) (fun k => k n) := je_c pe_int fun _ => rfl
theorem je_bl {n : Bool} {j : Nat} {pos : Pos} : JE X F g (.Constant (.bool n) j pos) (rO tB) (fun k => k n) := je_c pe_bl fun _ => rfl
theorem je_str {n : Str} {j : Nat} {pos : Pos} : JE X F g (.Constant (.str n) j pos) (rO tS) (fun k => k n) := je_c pe_str fun _ => rfl
theorem je_non {j : Nat} {pos : Pos} : JE X F g (.Constant .none j pos) (rO tN) (fun k => k ()) := je_c pe_non fun _ => rfl
theorem je_nonO {A : Ty α} {j : Nat} {pos : Pos} : JE X F g (.Constant .none j pos) (rO (tO A)) (fun k => k none) := je_c pe_non fun _ => rfl
theorem je_globI {n : Int} {x : Str} {u : Value} {pos : Pos} (hg : Gl X x) (hm : X.mg x = some u) (r : RelV (.int n) u) (hd : (x == ("__debug__" : Str)) = false := by decide) : JE X F g (.Name x pos) (rO tI) (fun k => k n) := je_c (pe_glob hg hm r hd) fun _ => rfl
theorem je_globS {n : Str} {x : Str} {u : Value} {pos : Pos} (hg : Gl X x) (hm : X.mg x = some u) (r : RelV (.str n) u) (hd : (x == ("__debug__" : Str)) = false := by decide) : JE X F g (.Name x pos) (rO tS) (fun k => k n) := je_c (pe_glob hg hm r hd) fun _ => rfl
theorem je_some {A : Ty α} {e : Expr} {w : (α → Prop) → Prop} (h : JE X F g e (rO A) w) (hn : ∀ H a, ¬ A.rel H .non a) : JE X F g e (rO (tO A)) (fun k => w fun a => k (some a)) :=
  peW h fun σ H Q ⟨k, P, hw, q⟩ => ⟨k, _, hw, fun a v H' p s r => q (some a) v H' p s ⟨r, fun e => hn _ a (by rw [← e]; exact r)⟩⟩
/-- another view of the same value -/
theorem je_as {A : Ty α} {B : Ty β} {f : α → β} {e : Expr} {w : (α → Prop) → Prop} (h : JE X F g e (rO A) w) (hf : ∀ H v a, A.rel H v a → B.rel H v (f a)) : JE X F g e (rO B) (fun k => w fun a => k (f a)) :=
  peW h fun σ H Q ⟨k, P, hw, q⟩ => ⟨k, _, hw, fun a v H' p s r => q (f a) v H' p s (hf _ _ _ r)⟩

/-- two operands, then a rule by values -/
theorem je_opR {a b : Expr} {op : Operator} {pos : Pos} {r : R2} {S : Res α} {T : Res β} {R : Res ρ} {wa : (α → Prop) → Prop} {wb : (β → Prop) → Prop} {C : α → β → (ρ → Prop) → Prop} (ho : OpR X (binaryOp op) r)
    (hr : ∀ σ x y Ha Hb H v u (P : ρ → Prop) Q, g.Ok F σ H → S.rel Ha (g.bs F H) H v x → T.rel Hb (g.bs F H) H u y → C x y P → (∀ z v' H', P z → Same H H' → R.rel H (g.bs F H') H' v' z → Q v' H') → r v u H Q)
    (ha : JE X F g a S wa) (hb : JE X F g b T wb) : JE X F g (.BinOp a op b pos) R (fun k => wa fun x => wb fun y => C x y k) :=
  peW (pe_op ho ha hb) fun σ H Q ⟨k, P, w, q⟩ => ⟨k, _, w, fun x v H1 w1 s1 r1 => ⟨k.step s1, _, w1, fun y u H2 w2 s2 r2 =>
    hr σ x y _ _ H2 v u P Q (k.step (s1.trans s2)) (S.same (Gm.mono s2) s2 r1) r2 w2 fun z v' H' p s' r' => q z v' H' p ((s1.trans s2).trans s') (R.pre (s1.trans s2) r')⟩⟩
/-- a written int -/
def tIc (n : Int) : Ty Unit := ⟨fun _ v _ => v = .int n, fun _ h => h⟩
theorem je_lit {n : Int} {j : Nat} {pos : Pos} : JE X F g (.Constant (.int n) j pos) (rO (tIc n)) (fun k => k ()) := je_c pe_int fun _ => rfl
section
variable {a b c : Expr} {pos : Pos} {wa wb wc : (Int → Prop) → Prop}
theorem je_add (ha : JE X F g a (rO tI) wa) (hb : JE X F g b (rO tI) wb) : JE X F g (.BinOp a .Add b pos) (rO tI) (fun k => wa fun x => wb fun y => k (x + y)) :=
  je_opR op_add (fun _ x y _ _ H v u P Q k h1 h2 w q => ⟨x, y, h1, h2, q _ _ H w (Same.refl H) rfl⟩) ha hb
theorem je_sub (ha : JE X F g a (rO tI) wa) (hb : JE X F g b (rO tI) wb) : JE X F g (.BinOp a .Sub b pos) (rO tI) (fun k => wa fun x => wb fun y => k (x - y)) :=
  je_opR op_sub (fun _ x y _ _ H v u P Q k h1 h2 w q => ⟨x, y, h1, h2, q _ _ H w (Same.refl H) rfl⟩) ha hb
theorem je_mul (ha : JE X F g a (rO tI) wa) (hb : JE X F g b (rO tI) wb) : JE X F g (.BinOp a .Mult b pos) (rO tI) (fun k => wa fun x => wb fun y => JMul x y ∧ k (x * y)) :=
  je_opR (C := fun x y k => JMul x y ∧ k (x * y)) (OpR.or op_mul op_mulW) (fun _ x y _ _ H v u P Q k h1 h2 w q => by
    rcases w.1 with m | m | m
    · exact .inl ⟨x, y, h1, h2, .inl m, q _ _ H w.2 (Same.refl H) rfl⟩
    · exact .inl ⟨x, y, h1, h2, .inr m, q _ _ H w.2 (Same.refl H) rfl⟩
    · exact .inr ⟨x, y, h1, h2, m, q _ _ H w.2 (Same.refl H) rfl⟩) ha hb
theorem je_mod (ha : JE X F g a (rO tI) wa) (hb : JE X F g b (rO tI) wb) : JE X F g (.BinOp a .Mod b pos) (rO tI) (fun k => wa fun x => wb fun y => 0 < y ∧ k (x % y)) :=
  je_opR (C := fun x y k => 0 < y ∧ k (x % y)) op_mod (fun _ x y _ _ H v u P Q k h1 h2 w q => ⟨x, y, h1, h2, w.1, q _ _ H w.2 (Same.refl H) rfl⟩) ha hb
theorem je_fdiv (ha : JE X F g a (rO tI) wa) (hb : JE X F g b (rO tI) wb) : JE X F g (.BinOp a .FloorDiv b pos) (rO tI) (fun k => wa fun x => wb fun y => JDiv y ∧ k (x / y)) :=
  je_opR (C := fun x y k => JDiv y ∧ k (x / y)) op_fdivW (fun _ x y _ _ H v u P Q k h1 h2 w q => ⟨x, y, h1, h2, w.1, q _ _ H w.2 (Same.refl H) rfl⟩) ha hb
/-- by a written positive number; a written power -/
theorem je_modL {n : Int} {j : Nat} {p2 : Pos} (ha : JE X F g a (rO tI) wa) (hn : 0 < n := by decide) : JE X F g (.BinOp a .Mod (.Constant (.int n) j p2) pos) (rO tI) (fun k => wa fun x => k (x % n)) :=
  je_opR (T := rO (tIc n)) (C := fun x _ k => k (x % n)) op_mod (fun _ x y _ _ H v u P Q k h1 h2 w q => ⟨x, n, h1, h2, hn, q _ _ H w (Same.refl H) rfl⟩) ha je_lit
theorem je_fdivL {n : Int} {j : Nat} {p2 : Pos} (ha : JE X F g a (rO tI) wa) (hn : 0 < n ∧ n < 1073741824 := by decide) : JE X F g (.BinOp a .FloorDiv (.Constant (.int n) j p2) pos) (rO tI) (fun k => wa fun x => k (x / n)) :=
  je_opR (T := rO (tIc n)) (C := fun x _ k => k (x / n)) op_fdiv (fun _ x y _ _ H v u P Q k h1 h2 w q => ⟨x, n, h1, h2, hn, q _ _ H w (Same.refl H) rfl⟩) ha je_lit
theorem je_mulL {n : Int} {j : Nat} {p2 : Pos} (ha : JE X F g a (rO tI) wa) (hn : -(2 ^ 64) < n ∧ n < 2 ^ 64 := by decide) : JE X F g (.BinOp a .Mult (.Constant (.int n) j p2) pos) (rO tI) (fun k => wa fun x => k (x * n)) :=
  je_opR (T := rO (tIc n)) (C := fun x _ k => k (x * n)) op_mul (fun _ x y _ _ H v u P Q k h1 h2 w q => ⟨x, n, h1, h2, .inr hn, q _ _ H w (Same.refl H) rfl⟩) ha je_lit
theorem je_mulR {n : Int} {j : Nat} {p2 : Pos} (hb : JE X F g b (rO tI) wb) (hn : -(2 ^ 64) < n ∧ n < 2 ^ 64 := by decide) : JE X F g (.BinOp (.Constant (.int n) j p2) .Mult b pos) (rO tI) (fun k => wb fun y => k (n * y)) :=
  je_opR (S := rO (tIc n)) (C := fun _ y k => k (n * y)) op_mul (fun _ x y _ _ H v u P Q k h1 h2 w q => ⟨n, y, h1, h2, .inl hn, q _ _ H w (Same.refl H) rfl⟩) je_lit hb
theorem je_powL {n m : Int} {j i : Nat} {p1 p2 : Pos} (hn : 0 ≤ m ∧ m ≤ 1000000 ∧ n.natAbs < 2 ^ 64 := by decide) : JE X F g (.BinOp (.Constant (.int n) j p1) .Pow (.Constant (.int m) i p2) pos) (rO tI) (fun k => k (n ^ m.toNat)) :=
  je_opR (S := rO (tIc n)) (T := rO (tIc m)) (C := fun _ _ k => k (n ^ m.toNat)) op_pow (fun _ x y _ _ H v u P Q k h1 h2 w q => ⟨n, m, h1, h2, hn, q _ _ H w (Same.refl H) rfl⟩) je_lit je_lit
theorem je_neg (ha : JE X F g a (rO tI) wa) : JE X F g (.UnaryOp .USub a pos) (rO tI) (fun k => wa fun x => k (-x)) :=
  peW (pe_un un_neg ha) fun σ H Q ⟨k, P, w, q⟩ => ⟨k, _, w, fun x v H1 w1 s1 r1 => ⟨x, r1, q _ _ H1 w1 s1 rfl⟩⟩

/-! ### comparisons of ints: as values, as tests -/
end
end
end J
/-! A2: comparisons, tests, calls, tuples, lists -/
namespace J
open PySem PySem.Spec L2
section
variable {X : Cx} {F : Fr} {g : Gm} {α β γ δ ρ τ : Type}

/-! ### comparisons of ints: as values, as tests -/
section
variable {a b c : Expr} {pos : Pos} {wa wb wc : (Int → Prop) → Prop}
theorem cmp_core {op : CmpOp} {p : Int → Int → Bool} (h : ∀ {ta tb : TE}, PE X a ta → PE X b tb → PC X op a b (tCmp p ta tb)) (ha : JE X F g a (rO tI) wa) (hb : JE X F g b (rO tI) wb)
    (h1 : behindInMarks op b = false := by first | exact nobehind _ (by decide) (by decide) | rfl) :
    JE X F g (.Compare a [op] [b] pos) (rO tB) (fun k => wa fun x => wb fun y => k (p x y)) :=
  peW (pe_cmp (h ha hb) h1) fun σ H Q ⟨k, P, w, q⟩ => ⟨k, _, w, fun x v H1 w1 s1 r1 => ⟨k.step s1, _, w1, fun y u H2 w2 s2 r2 => ⟨x, y, r1, r2, q _ _ H2 w2 (s1.trans s2) rfl⟩⟩⟩
theorem cmpT_core {op : CmpOp} {p : Int → Int → Bool} (h : ∀ {ta tb : TE}, PE X a ta → PE X b tb → PC X op a b (tCmp p ta tb)) (ha : JE X F g a (rO tI) wa) (hb : JE X F g b (rO tI) wb)
    (h1 : behindInMarks op b = false := by first | exact nobehind _ (by decide) (by decide) | rfl) :
    JT X F g (.Compare a [op] [b] pos) (fun A B => wa fun x => wb fun y => (p x y = true → A) ∧ (p x y = false → B)) :=
  ptW (pt_cmp (h ha hb) h1) fun σ H Q ⟨k, A, B, w, qa, qb⟩ => ⟨k, _, w, fun x v H1 w1 s1 r1 => ⟨k.step s1, _, w1, fun y u H2 w2 s2 r2 => ⟨x, y, r1, r2, p x y, rfl, by
    cases e : p x y with
    | true => exact qa (w2.1 e) H2 (s1.trans s2)
    | false => exact qb (w2.2 e) H2 (s1.trans s2)⟩⟩⟩
theorem jtW {e : Expr} {w w' : Prop → Prop → Prop} (h : JT X F g e w) (k : ∀ A B, w' A B → w A B) : JT X F g e w' := ptW h fun σ H Q ⟨o, A, B, w, q⟩ => ⟨o, A, B, k _ _ w, q⟩
variable (ha : JE X F g a (rO tI) wa) (hb : JE X F g b (rO tI) wb)
include ha hb
theorem je_lt : JE X F g (.Compare a [.Lt] [b] pos) (rO tB) (fun k => wa fun x => wb fun y => k (decide (x < y))) := cmp_core pc_lt ha hb
theorem je_le : JE X F g (.Compare a [.LtE] [b] pos) (rO tB) (fun k => wa fun x => wb fun y => k (decide (x ≤ y))) := cmp_core pc_le ha hb
theorem je_gt : JE X F g (.Compare a [.Gt] [b] pos) (rO tB) (fun k => wa fun x => wb fun y => k (decide (y < x))) := cmp_core pc_gt ha hb
theorem je_ge : JE X F g (.Compare a [.GtE] [b] pos) (rO tB) (fun k => wa fun x => wb fun y => k (decide (y ≤ x))) := cmp_core pc_ge ha hb
theorem je_eqI : JE X F g (.Compare a [.Eq] [b] pos) (rO tB) (fun k => wa fun x => wb fun y => k (decide (x = y))) := cmp_core pc_eqI ha hb
theorem je_neI : JE X F g (.Compare a [.NotEq] [b] pos) (rO tB) (fun k => wa fun x => wb fun y => k (!decide (x = y))) := cmp_core pc_neI ha hb
theorem jt_lt : JT X F g (.Compare a [.Lt] [b] pos) (fun A B => wa fun x => wb fun y => (decide (x < y) = true → A) ∧ (decide (x < y) = false → B)) := cmpT_core pc_lt ha hb
theorem jt_le : JT X F g (.Compare a [.LtE] [b] pos) (fun A B => wa fun x => wb fun y => (decide (x ≤ y) = true → A) ∧ (decide (x ≤ y) = false → B)) := cmpT_core pc_le ha hb
theorem jt_gt : JT X F g (.Compare a [.Gt] [b] pos) (fun A B => wa fun x => wb fun y => (decide (y < x) = true → A) ∧ (decide (y < x) = false → B)) := cmpT_core pc_gt ha hb
theorem jt_ge : JT X F g (.Compare a [.GtE] [b] pos) (fun A B => wa fun x => wb fun y => (decide (y ≤ x) = true → A) ∧ (decide (y ≤ x) = false → B)) := cmpT_core pc_ge ha hb
theorem jt_eqI : JT X F g (.Compare a [.Eq] [b] pos) (fun A B => wa fun x => wb fun y => (decide (x = y) = true → A) ∧ (decide (x = y) = false → B)) := cmpT_core pc_eqI ha hb
theorem jt_neI : JT X F g (.Compare a [.NotEq] [b] pos) (fun A B => wa fun x => wb fun y => ((!decide (x = y)) = true → A) ∧ ((!decide (x = y)) = false → B)) := cmpT_core pc_neI ha hb
end
/-! comparisons by a rule of values -/
section
variable {a b : Expr} {pos : Pos} {op : CmpOp} {r : R2} {S : Res α} {T : Res β} {wa : (α → Prop) → Prop} {wb : (β → Prop) → Prop} {C : α → β → (Bool → Prop) → Prop}
def CmpOk (F : Fr) (g : Gm) (S : Res α) (T : Res β) (r : R2) (C : α → β → (Bool → Prop) → Prop) : Prop := ∀ σ x y Ha Hb H v u (P : Bool → Prop) Q, g.Ok F σ H → S.rel Ha (g.bs F H) H v x → T.rel Hb (g.bs F H) H u y → C x y P → (∀ z H', P z → Same H H' → Q (.bl z) H') → r v u H Q
theorem je_cmpR (ho : OpR X (compareOp op) r) (hr : CmpOk F g S T r C)
    (ha : JE X F g a S wa) (hb : JE X F g b T wb) (hm : behindInMarks op b = false) : JE X F g (.Compare a [op] [b] pos) (rO tB) (fun k => wa fun x => wb fun y => C x y k) :=
  peW (pe_cmpR ho ha hb hm) fun σ H Q ⟨k, P, w, q⟩ => ⟨k, _, w, fun x v H1 w1 s1 r1 => ⟨k.step s1, _, w1, fun y u H2 w2 s2 r2 =>
    hr σ x y _ _ H2 v u P Q (k.step (s1.trans s2)) (S.same (Gm.mono s2) s2 r1) r2 w2 fun z H' p s' => q z _ H' p ((s1.trans s2).trans s') rfl⟩⟩
theorem jt_cmpR (ho : OpR X (compareOp op) r) (hr : CmpOk F g S T r C)
    (ha : JE X F g a S wa) (hb : JE X F g b T wb) (hm : behindInMarks op b = false) : JT X F g (.Compare a [op] [b] pos) (fun Ya No => wa fun x => wb fun y => C x y fun z => (z = true → Ya) ∧ (z = false → No)) :=
  ptW (pt_cmpR ho ha hb hm) fun σ H Q ⟨k, Ya, No, w, qa, qb⟩ => ⟨k, _, w, fun x v H1 w1 s1 r1 => ⟨k.step s1, _, w1, fun y u H2 w2 s2 r2 =>
    hr σ x y _ _ H2 v u _ _ (k.step (s1.trans s2)) (S.same (Gm.mono s2) s2 r1) r2 w2 fun z H' p s' => ⟨z, rfl, by
      cases z with
      | true => exact qa (p.1 rfl) H' ((s1.trans s2).trans s')
      | false => exact qb (p.2 rfl) H' ((s1.trans s2).trans s')⟩⟩⟩
end
theorem eqS_r : CmpOk F g (rO tS) (rO tS) rEq (fun x y k => k (decide (x = y))) := by
  intro _ x y _ _ H v u P Q _ h1 h2 p q
  cases h1
  cases h2
  refine ⟨rfl, ?_⟩
  have e : decide (V.str x = V.str y) = decide (x = y) := by
    by_cases h : x = y
    · rw [decide_eq_true h, decide_eq_true (by rw [h])]
    · rw [decide_eq_false h, decide_eq_false (fun z => h (V.str.inj z))]
  rw [e]
  exact q _ H p (Same.refl H)
theorem neS_r : CmpOk F g (rO tS) (rO tS) rNe (fun x y k => k (!decide (x = y))) := by
  intro _ x y _ _ H v u P Q _ h1 h2 p q
  cases h1
  cases h2
  refine ⟨rfl, ?_⟩
  have e : decide (V.str x = V.str y) = decide (x = y) := by
    by_cases h : x = y
    · rw [decide_eq_true h, decide_eq_true (by rw [h])]
    · rw [decide_eq_false h, decide_eq_false (fun z => h (V.str.inj z))]
  rw [e]
  exact q _ H p (Same.refl H)
theorem eqB_r : CmpOk F g (rO tB) (rO tB) rEq (fun x y k => k (decide (x = y))) := by
  intro _ x y _ _ H v u P Q _ h1 h2 p q
  cases h1
  cases h2
  refine ⟨rfl, ?_⟩
  have e : decide (V.bl x = V.bl y) = decide (x = y) := by cases x <;> cases y <;> rfl
  rw [e]
  exact q _ H p (Same.refl H)
theorem neB_r : CmpOk F g (rO tB) (rO tB) rNe (fun x y k => k (!decide (x = y))) := by
  intro _ x y _ _ H v u P Q _ h1 h2 p q
  cases h1
  cases h2
  refine ⟨rfl, ?_⟩
  have e : decide (V.bl x = V.bl y) = decide (x = y) := by cases x <;> cases y <;> rfl
  rw [e]
  exact q _ H p (Same.refl H)
section
variable {a b : Expr} {pos : Pos}
theorem je_eqS {wa wb : (Str → Prop) → Prop} (ha : JE X F g a (rO tS) wa) (hb : JE X F g b (rO tS) wb) : JE X F g (.Compare a [.Eq] [b] pos) (rO tB) (fun k => wa fun x => wb fun y => k (decide (x = y))) := je_cmpR op_eq eqS_r ha hb (nomark _)
theorem je_neS {wa wb : (Str → Prop) → Prop} (ha : JE X F g a (rO tS) wa) (hb : JE X F g b (rO tS) wb) : JE X F g (.Compare a [.NotEq] [b] pos) (rO tB) (fun k => wa fun x => wb fun y => k (!decide (x = y))) := je_cmpR op_ne neS_r ha hb (nomark _)
theorem jt_eqS {wa wb : (Str → Prop) → Prop} (ha : JE X F g a (rO tS) wa) (hb : JE X F g b (rO tS) wb) : JT X F g (.Compare a [.Eq] [b] pos) (fun A B => wa fun x => wb fun y => (decide (x = y) = true → A) ∧ (decide (x = y) = false → B)) := jt_cmpR op_eq eqS_r ha hb (nomark _)
theorem jt_neS {wa wb : (Str → Prop) → Prop} (ha : JE X F g a (rO tS) wa) (hb : JE X F g b (rO tS) wb) : JT X F g (.Compare a [.NotEq] [b] pos) (fun A B => wa fun x => wb fun y => ((!decide (x = y)) = true → A) ∧ ((!decide (x = y)) = false → B)) := jt_cmpR op_ne neS_r ha hb (nomark _)
theorem je_eqB {wa wb : (Bool → Prop) → Prop} (ha : JE X F g a (rO tB) wa) (hb : JE X F g b (rO tB) wb) : JE X F g (.Compare a [.Eq] [b] pos) (rO tB) (fun k => wa fun x => wb fun y => k (decide (x = y))) := je_cmpR op_eq eqB_r ha hb (nomark _)
theorem je_neB {wa wb : (Bool → Prop) → Prop} (ha : JE X F g a (rO tB) wa) (hb : JE X F g b (rO tB) wb) : JE X F g (.Compare a [.NotEq] [b] pos) (rO tB) (fun k => wa fun x => wb fun y => k (!decide (x = y))) := je_cmpR op_ne neB_r ha hb (nomark _)
theorem jt_eqB {wa wb : (Bool → Prop) → Prop} (ha : JE X F g a (rO tB) wa) (hb : JE X F g b (rO tB) wb) : JT X F g (.Compare a [.Eq] [b] pos) (fun A B => wa fun x => wb fun y => (decide (x = y) = true → A) ∧ (decide (x = y) = false → B)) := jt_cmpR op_eq eqB_r ha hb (nomark _)
theorem jt_neB {wa wb : (Bool → Prop) → Prop} (ha : JE X F g a (rO tB) wa) (hb : JE X F g b (rO tB) wb) : JT X F g (.Compare a [.NotEq] [b] pos) (fun A B => wa fun x => wb fun y => ((!decide (x = y)) = true → A) ∧ ((!decide (x = y)) = false → B)) := jt_cmpR op_ne neB_r ha hb (nomark _)
/-- a is None, a is not None -/
theorem je_isN {A : Ty α} {w : (Option α → Prop) → Prop} {j : Nat} {p2 : Pos} (ha : JE X F g a (rO (tO A)) w) : JE X F g (.Compare a [.Is] [.Constant .none j p2] pos) (rO tB) (fun k => w fun x => k x.isNone) :=
  peW (pe_cmp (pc_isN ha)) fun σ H Q ⟨k, P, w, q⟩ => ⟨k, _, w, fun x v H1 w1 s1 r1 => by
    cases x with
    | none =>
      have e : v = .non := r1
      subst e
      exact q _ _ H1 w1 s1 rfl
    | some x =>
      rw [decide_eq_false r1.2]
      exact q _ _ H1 w1 s1 rfl⟩
theorem je_notN {A : Ty α} {w : (Option α → Prop) → Prop} {j : Nat} {p2 : Pos} (ha : JE X F g a (rO (tO A)) w) : JE X F g (.Compare a [.IsNot] [.Constant .none j p2] pos) (rO tB) (fun k => w fun x => k x.isSome) :=
  peW (pe_cmp (pc_notN ha)) fun σ H Q ⟨k, P, w, q⟩ => ⟨k, _, w, fun x v H1 w1 s1 r1 => by
    cases x with
    | none =>
      have e : v = .non := r1
      subst e
      exact q _ _ H1 w1 s1 rfl
    | some x =>
      rw [decide_eq_false r1.2]
      exact q _ _ H1 w1 s1 rfl⟩
theorem jt_isN {A : Ty α} {w : (Option α → Prop) → Prop} {j : Nat} {p2 : Pos} (ha : JE X F g a (rO (tO A)) w) : JT X F g (.Compare a [.Is] [.Constant .none j p2] pos) (fun Ya No => w fun x => (x.isNone = true → Ya) ∧ (x.isNone = false → No)) :=
  ptW (pt_cmp (pc_isN ha)) fun σ H Q ⟨k, Ya, No, w, qa, qb⟩ => ⟨k, _, w, fun x v H1 w1 s1 r1 => by
    cases x with
    | none =>
      have e : v = .non := r1
      subst e
      exact ⟨true, rfl, qa (w1.1 rfl) H1 s1⟩
    | some x =>
      rw [decide_eq_false r1.2]
      exact ⟨false, rfl, qb (w1.2 rfl) H1 s1⟩⟩
theorem jt_notN {A : Ty α} {w : (Option α → Prop) → Prop} {j : Nat} {p2 : Pos} (ha : JE X F g a (rO (tO A)) w) : JT X F g (.Compare a [.IsNot] [.Constant .none j p2] pos) (fun Ya No => w fun x => (x.isSome = true → Ya) ∧ (x.isSome = false → No)) :=
  ptW (pt_cmp (pc_notN ha)) fun σ H Q ⟨k, Ya, No, w, qa, qb⟩ => ⟨k, _, w, fun x v H1 w1 s1 r1 => by
    cases x with
    | none =>
      have e : v = .non := r1
      subst e
      exact ⟨false, rfl, qb (w1.2 rfl) H1 s1⟩
    | some x =>
      rw [decide_eq_false r1.2]
      exact ⟨true, rfl, qa (w1.1 rfl) H1 s1⟩⟩
end

/-! ### tests -/
theorem jt_val {e : Expr} {w : (Bool → Prop) → Prop} (h : JE X F g e (rO tB) w) (he : ∀ whole, isTrue e X.env whole = (do let v ← whole; standAt e.pos; holding [v] (truthy v)) := by intro _; rfl) :
    JT X F g e (fun A B => w fun c => (c = true → A) ∧ (c = false → B)) :=
  ptW (pt_val h he) fun σ H Q ⟨k, A, B, w, qa, qb⟩ => ⟨k, _, w, fun x v H1 w1 s1 r1 => ⟨x, r1, by
    cases x with
    | true => exact qa (w1.1 rfl) H1 s1
    | false => exact qb (w1.2 rfl) H1 s1⟩⟩
theorem jt_not {a : Expr} {pos : Pos} {w : Prop → Prop → Prop} (h : JT X F g a w) : JT X F g (.UnaryOp .Not a pos) (fun A B => w B A) :=
  ptW (pt_not h) fun σ H Q ⟨k, A, B, w, qa, qb⟩ => ⟨k, B, A, w, fun b H' s => qb b H' s, fun a H' s => qa a H' s⟩
theorem jw_one {a : Expr} {pos : Pos} {w : Prop → Prop → Prop} (h : JT X F g a w) : JW X F g (.BoolOp .And [a] pos) w := pw_and1 h
theorem jw_oneO {a : Expr} {pos : Pos} {w : Prop → Prop → Prop} (h : JT X F g a w) : JW X F g (.BoolOp .Or [a] pos) w := pw_or1 h
theorem jw_and {a b : Expr} {rest : List Expr} {pos : Pos} {w u : Prop → Prop → Prop} (h : JT X F g a w) (h2 : JW X F g (.BoolOp .And (b :: rest) pos) u) : JW X F g (.BoolOp .And (a :: b :: rest) pos) (fun A B => w (u A B) B) :=
  pwW (pw_and h h2) fun σ H Q ⟨k, A, B, w, qa, qb⟩ => ⟨k, _, _, w, fun x H1 s1 => by
      show RT F g u σ H1 Q
      exact ⟨k.step s1, A, B, x, fun y H2 s2 => qa y H2 (s1.trans s2), fun y H2 s2 => qb y H2 (s1.trans s2)⟩, fun x H1 s1 => by
      show Q false H1
      exact qb x H1 s1⟩
theorem jw_or {a b : Expr} {rest : List Expr} {pos : Pos} {w u : Prop → Prop → Prop} (h : JT X F g a w) (h2 : JW X F g (.BoolOp .Or (b :: rest) pos) u) : JW X F g (.BoolOp .Or (a :: b :: rest) pos) (fun A B => w A (u A B)) :=
  pwW (pw_or h h2) fun σ H Q ⟨k, A, B, w, qa, qb⟩ => ⟨k, _, _, w, fun x H1 s1 => by
      show Q true H1
      exact qa x H1 s1, fun x H1 s1 => by
      show RT F g u σ H1 Q
      exact ⟨k.step s1, A, B, x, fun y H2 s2 => qa y H2 (s1.trans s2), fun y H2 s2 => qb y H2 (s1.trans s2)⟩⟩
theorem jt_w {e : Expr} {w : Prop → Prop → Prop} (h : JW X F g e w) : JT X F g e w := PW.pt h
/-- values of truth -/
theorem je_not {a : Expr} {pos : Pos} {w : (Bool → Prop) → Prop} (h : JE X F g a (rO tB) w) : JE X F g (.UnaryOp .Not a pos) (rO tB) (fun k => w fun c => k (!c)) :=
  peW (pe_not h) fun σ H Q ⟨k, P, w, q⟩ => ⟨k, _, w, fun x v H1 w1 s1 r1 => ⟨x, r1, q _ _ H1 w1 s1 rfl⟩⟩
theorem je_one {op : BoolOp} {a : Expr} {pos : Pos} {w : (Bool → Prop) → Prop} (h : JE X F g a (rO tB) w) : JE X F g (.BoolOp op [a] pos) (rO tB) w := pe_one h
theorem je_and {a b : Expr} {rest : List Expr} {pos : Pos} {w u : (Bool → Prop) → Prop} (h : JE X F g a (rO tB) w) (h2 : JE X F g (.BoolOp .And (b :: rest) pos) (rO tB) u) :
    JE X F g (.BoolOp .And (a :: b :: rest) pos) (rO tB) (fun k => w fun c => (c = true → u k) ∧ (c = false → k false)) :=
  peW (pe_and h h2) fun σ H Q ⟨k, P, w, q⟩ => ⟨k, _, w, fun x v H1 w1 s1 r1 => ⟨x, r1, by
    cases x with
    | true =>
      show RJ F g (rO tB) u σ H1 Q
      exact ⟨k.step s1, P, w1.1 rfl, fun a v H2 p s2 r2 => q a v H2 p (s1.trans s2) r2⟩
    | false => exact q false _ H1 (w1.2 rfl) s1 rfl⟩⟩
theorem je_or {a b : Expr} {rest : List Expr} {pos : Pos} {w u : (Bool → Prop) → Prop} (h : JE X F g a (rO tB) w) (h2 : JE X F g (.BoolOp .Or (b :: rest) pos) (rO tB) u) :
    JE X F g (.BoolOp .Or (a :: b :: rest) pos) (rO tB) (fun k => w fun c => (c = true → k true) ∧ (c = false → u k)) :=
  peW (pe_or h h2) fun σ H Q ⟨k, P, w, q⟩ => ⟨k, _, w, fun x v H1 w1 s1 r1 => ⟨x, r1, by
    cases x with
    | true => exact q true _ H1 (w1.1 rfl) s1 rfl
    | false =>
      show RJ F g (rO tB) u σ H1 Q
      exact ⟨k.step s1, P, w1.2 rfl, fun a v H2 p s2 r2 => q a v H2 p (s1.trans s2) r2⟩⟩⟩
theorem je_if {c a b : Expr} {pos : Pos} {R : Res ρ} {wc : Prop → Prop → Prop} {wa wb : (ρ → Prop) → Prop} (hc : JT X F g c wc) (ha : JE X F g a R wa) (hb : JE X F g b R wb) : JE X F g (.IfExp c a b pos) R (fun k => wc (wa k) (wb k)) :=
  peW (pe_ifExp hc ha hb) fun σ H Q ⟨k, P, w, q⟩ => ⟨k, _, _, w, fun x H1 s1 => by
      show RJ F g R wa σ H1 Q
      exact ⟨k.step s1, P, x, fun a v H2 p s2 r2 => q a v H2 p (s1.trans s2) (R.pre s1 r2)⟩, fun x H1 s1 => by
      show RJ F g R wb σ H1 Q
      exact ⟨k.step s1, P, x, fun a v H2 p s2 r2 => q a v H2 p (s1.trans s2) (R.pre s1 r2)⟩⟩

/-! ### arguments, displays -/
theorem ja_nil : JA X F g [] aN (fun k => k ()) := paW pa_nil fun σ H Q ⟨k, P, w, q⟩ => q () [] H w (Same.refl H) rfl
theorem ja_cons {e : Expr} {es : List Expr} {A : Ty α} {T : ATy τ} {w : (α → Prop) → Prop} {u : (τ → Prop) → Prop} (ha : JE X F g e (rO A) w) (hr : JA X F g es T u)
    (hs : starEach (e :: es) X.env = (false, eval e X.env) :: starEach es X.env := by rfl) : JA X F g (e :: es) (aC A T) (fun k => w fun a => u fun t => k (a, t)) :=
  paW (pa_cons ha hr hs) fun σ H Q ⟨k, P, w, q⟩ => ⟨k, _, w, fun x v H1 w1 s1 r1 => ⟨k.step s1, _, w1, fun t vs H2 w2 s2 r2 => q (x, t) (v :: vs) H2 w2 (s1.trans s2) ⟨v, vs, rfl, A.same (Gm.mono s2) r1, r2⟩⟩⟩
theorem jb_nil : JAb X F g [] aN (fun k => k ()) := paW pa_nil fun σ H Q ⟨k, P, w, q⟩ => q () [] H w (Same.refl H) rfl
theorem jb_cons {e : Expr} {es : List Expr} {A : Ty α} {T : ATy τ} {w : (α → Prop) → Prop} {u : (τ → Prop) → Prop} (ha : JE X F g e (rB A) w) (hr : JAb X F g es T u)
    (hs : starEach (e :: es) X.env = (false, eval e X.env) :: starEach es X.env := by rfl) : JAb X F g (e :: es) (aC A T) (fun k => w fun a => u fun t => k (a, t)) :=
  paW (pa_cons ha hr hs) fun σ H Q ⟨k, P, w, q⟩ => ⟨k, _, w, fun x v H1 w1 s1 r1 => ⟨k.step s1, _, w1, fun t vs H2 w2 s2 r2 => q (x, t) (v :: vs) H2 w2 (s1.trans s2) ⟨v, vs, rfl, A.same s2 r1, r2⟩⟩⟩
theorem ja_as {es : List Expr} {S : ATy α} {T : ATy τ} {f : α → τ} {w : (α → Prop) → Prop} (h : JA X F g es S w) (hf : ∀ H vs a, S.rel H vs a → T.rel H vs (f a)) : JA X F g es T (fun k => w fun a => k (f a)) :=
  paW h fun σ H Q ⟨k, P, w, q⟩ => ⟨k, _, w, fun a vs H1 p s r => q (f a) vs H1 p s (hf _ _ _ r)⟩
theorem a2_of {A : Ty α} {B : Ty β} : ∀ H vs (t : α × β × Unit), (aC A (aC B aN)).rel H vs t → (a2 A B).rel H vs (t.1, t.2.1)
  | _, _, _, ⟨x, _, e, h1, y, _, e2, h2, e3⟩ => ⟨x, y, by rw [e, e2, (e3 : _ = [])], h1, h2⟩
theorem a3_of {A : Ty α} {B : Ty β} {C : Ty γ} : ∀ H vs (t : α × β × γ × Unit), (aC A (aC B (aC C aN))).rel H vs t → (a3 A B C).rel H vs (t.1, t.2.1, t.2.2.1)
  | _, _, _, ⟨x, _, e, h1, y, _, e2, h2, z, _, e3, h3, e4⟩ => ⟨x, y, z, by rw [e, e2, e3, (e4 : _ = [])], h1, h2, h3⟩
theorem a4_of {A : Ty α} {B : Ty β} {C : Ty γ} {E : Ty δ} : ∀ H vs (t : α × β × γ × δ × Unit), (aC A (aC B (aC C (aC E aN)))).rel H vs t → (a4 A B C E).rel H vs (t.1, t.2.1, t.2.2.1, t.2.2.2.1)
  | _, _, _, ⟨x, _, e, h1, y, _, e2, h2, z, _, e3, h3, u, _, e4, h4, e5⟩ => ⟨x, y, z, u, by rw [e, e2, e3, e4, (e5 : _ = [])], h1, h2, h3, h4⟩
theorem ja_nilV {A : Ty α} : JA X F g [] (aV A) (fun k => k []) := paW pa_nil fun σ H Q ⟨k, P, w, q⟩ => q [] [] H w (Same.refl H) .nil
theorem ja_consV {e : Expr} {es : List Expr} {A : Ty α} {w : (α → Prop) → Prop} {u : (List α → Prop) → Prop} (ha : JE X F g e (rO A) w) (hr : JA X F g es (aV A) u)
    (hs : starEach (e :: es) X.env = (false, eval e X.env) :: starEach es X.env := by rfl) : JA X F g (e :: es) (aV A) (fun k => w fun a => u fun t => k (a :: t)) :=
  paW (pa_cons ha hr hs) fun σ H Q ⟨k, P, w, q⟩ => ⟨k, _, w, fun x v H1 w1 s1 r1 => ⟨k.step s1, _, w1, fun t vs H2 w2 s2 r2 => q (x :: t) (v :: vs) H2 w2 (s1.trans s2) (.cons (A.same (Gm.mono s2) r1) r2)⟩⟩
theorem je_tup {es : List Expr} {j : Nat} {pos : Pos} {T : ATy τ} {w : (τ → Prop) → Prop} (h : JA X F g es T w) (hl : ∀ H vs t, T.rel H vs t → vs.length ≤ 1000) : JE X F g (.Tuple es j pos) (rO (tT X.K T)) w :=
  peW (pe_tup h) fun σ H Q ⟨k, P, w, q⟩ => ⟨k, P, w, fun t vs H1 p s1 r1 => ⟨Nat.le_trans (hl _ _ _ r1) (by decide), fun l hl => q t (.ref l) _ p (s1.trans (same_upd hl)) ⟨l, vs, rfl, .inl (.inl ((k.step s1).bs_new hl)), T.same (Gm.mono (same_upd hl)) r1⟩⟩⟩
theorem je_tup2 {a b : Expr} {j : Nat} {pos : Pos} {A : Ty α} {B : Ty β} {wa : (α → Prop) → Prop} {wb : (β → Prop) → Prop} (ha : JE X F g a (rO A) wa) (hb : JE X F g b (rO B) wb)
    (h1 : starEach [a, b] X.env = (false, eval a X.env) :: starEach [b] X.env := by rfl) (h2 : starEach [b] X.env = (false, eval b X.env) :: starEach [] X.env := by rfl) :
    JE X F g (.Tuple [a, b] j pos) (rO (tT X.K (a2 A B))) (fun k => wa fun x => wb fun y => k (x, y)) :=
  je_tup (ja_as (ja_cons ha (ja_cons hb ja_nil h2) h1) a2_of) fun _ _ _ ⟨_, _, e, _⟩ => by rw [e]; show 2 ≤ 1000; omega
theorem je_tup3 {a b c : Expr} {j : Nat} {pos : Pos} {A : Ty α} {B : Ty β} {C : Ty γ} {wa : (α → Prop) → Prop} {wb : (β → Prop) → Prop} {wc : (γ → Prop) → Prop} (ha : JE X F g a (rO A) wa) (hb : JE X F g b (rO B) wb) (hc : JE X F g c (rO C) wc)
    (h1 : starEach [a, b, c] X.env = (false, eval a X.env) :: starEach [b, c] X.env := by rfl) (h2 : starEach [b, c] X.env = (false, eval b X.env) :: starEach [c] X.env := by rfl) (h3 : starEach [c] X.env = (false, eval c X.env) :: starEach [] X.env := by rfl) :
    JE X F g (.Tuple [a, b, c] j pos) (rO (tT X.K (a3 A B C))) (fun k => wa fun x => wb fun y => wc fun z => k (x, y, z)) :=
  je_tup (ja_as (ja_cons ha (ja_cons hb (ja_cons hc ja_nil h3) h2) h1) a3_of) fun _ _ _ ⟨_, _, _, e, _⟩ => by rw [e]; show 3 ≤ 1000; omega
theorem je_tup4 {a b c d : Expr} {j : Nat} {pos : Pos} {A : Ty α} {B : Ty β} {C : Ty γ} {E : Ty δ} {wa : (α → Prop) → Prop} {wb : (β → Prop) → Prop} {wc : (γ → Prop) → Prop} {wd : (δ → Prop) → Prop} (ha : JE X F g a (rO A) wa) (hb : JE X F g b (rO B) wb) (hc : JE X F g c (rO C) wc) (hd : JE X F g d (rO E) wd)
    (h1 : starEach [a, b, c, d] X.env = (false, eval a X.env) :: starEach [b, c, d] X.env := by rfl) (h2 : starEach [b, c, d] X.env = (false, eval b X.env) :: starEach [c, d] X.env := by rfl) (h3 : starEach [c, d] X.env = (false, eval c X.env) :: starEach [d] X.env := by rfl) (h4 : starEach [d] X.env = (false, eval d X.env) :: starEach [] X.env := by rfl) :
    JE X F g (.Tuple [a, b, c, d] j pos) (rO (tT X.K (a4 A B C E))) (fun k => wa fun x => wb fun y => wc fun z => wd fun u => k (x, y, z, u)) :=
  je_tup (ja_as (ja_cons ha (ja_cons hb (ja_cons hc (ja_cons hd ja_nil h4) h3) h2) h1) a4_of) fun _ _ _ ⟨_, _, _, _, e, _⟩ => by rw [e]; show 4 ≤ 1000; omega
theorem je_tupV {es : List Expr} {j : Nat} {pos : Pos} {A : Ty α} {w : (List α → Prop) → Prop} (h : JA X F g es (aV A) w) : JE X F g (.Tuple es j pos) (rO (tT X.K (aV A))) (fun k => w fun t => t.length ≤ 1000 ∧ k t) :=
  peW (pe_tup h) fun σ H Q ⟨k, P, w, q⟩ => ⟨k, _, w, fun t vs H1 p s1 r1 => ⟨Nat.le_trans (by rw [Paired.len r1]; exact p.1) (by decide : 1000 ≤ sizeLine), fun l hl => q t (.ref l) _ p.2 (s1.trans (same_upd hl)) ⟨l, vs, rfl, .inl (.inl ((k.step s1).bs_new hl)), Paired.imp (fun _ _ r => A.same (Gm.mono (same_upd hl)) r) r1⟩⟩⟩
theorem je_lst {es : List Expr} {pos : Pos} {A : Ty α} {w : (List α → Prop) → Prop} (h : JA X F g es (aV A) w) : JE X F g (.List es pos) (rN A) (fun k => w fun t => t.length ≤ 1000 ∧ k t) :=
  peW (pe_lst h) fun σ H Q ⟨k, P, w, q⟩ => ⟨k, _, w, fun t vs H1 p s1 r1 => ⟨Nat.le_trans (by rw [Paired.len r1]; exact p.1) (by decide : 1000 ≤ sizeLine), fun l hl => q t (.ref l) _ p.2 (s1.trans (same_upd hl)) ⟨l, vs, rfl, s1.free hl, (k.step s1).bs_new hl, Paired.imp (fun _ _ r => A.same ((k.step s1).rm_new hl) r) r1⟩⟩⟩
theorem je_lst0 {pos : Pos} {A : Ty α} : JE X F g (.List [] pos) (rN A) (fun k => k []) :=
  peW (pe_lst pa_nil) fun σ H Q ⟨k, P, w, q⟩ => ⟨Nat.zero_le _, fun l hl => q [] (.ref l) _ w (same_upd hl) ⟨l, [], rfl, hl, k.bs_new hl, .nil⟩⟩

/-! ### calls -/
/-- a call whose arguments may be kept -/
theorem je_call {f : Addr} {fd : FuncData} {ps : List Str} {T : ATy τ} {R : Res ρ} {w : τ → (ρ → Prop) → Prop} {n : Nat} {x : Str} {e : Expr} {es : List Expr} {p pos : Pos} {wa : (τ → Prop) → Prop}
    (Fn : FnOk X.prog X.w X.K X.mg X.base CX0 n f fd ps (spJ T R w)) (hr : Room n X.A) (hg : Gl X x) (hm : X.mg x = some (.ref f)) (hk : PySem.W.keepIn X.K (.ref f) = true) (hb : Binds X.K fd ps [])
    (ha : JA X F g (e :: es) T wa) (hdb : (x == ("__debug__" : Str)) = false := by decide) (he : starEach (e :: es) X.env = (false, eval e X.env) :: starEach es X.env := by rfl) (hpl : (backTo pos (starEach es X.env)).any (·.1) = false := by rfl) :
    JE X F g (.Call (.Name x p) (e :: es) [] pos) R (fun k => wa fun t => w t k) :=
  peW (pe_call Fn hr hg hm hk hb .nil pass0 ha hdb he hpl) fun σ H Q ⟨k, P, w, q⟩ => ⟨k, _, w, fun t vs H1 w1 s1 r1 => ⟨t, P, (k.step s1).fr, rfl, by rw [List.append_nil]; exact r1, w1, fun r v H2 p s2 r2 => q r v H2 p (s1.trans s2) (R.pre s1 (R.same ((k.step s1).back s2) (Same.refl _) r2))⟩⟩
/-- a call whose arguments are only read -/
theorem je_callb {f : Addr} {fd : FuncData} {ps : List Str} {T : ATy τ} {R : Res ρ} [hR : RIm R] {w : τ → (ρ → Prop) → Prop} {n : Nat} {x : Str} {e : Expr} {es : List Expr} {p pos : Pos} {wa : (τ → Prop) → Prop}
    (Fn : FnOk X.prog X.w X.K X.mg X.base CX0 n f fd ps (spJ T R w)) (hr : Room n X.A) (hg : Gl X x) (hm : X.mg x = some (.ref f)) (hk : PySem.W.keepIn X.K (.ref f) = true) (hb : Binds X.K fd ps [])
    (ha : JAb X F g (e :: es) T wa) (hdb : (x == ("__debug__" : Str)) = false := by decide) (he : starEach (e :: es) X.env = (false, eval e X.env) :: starEach es X.env := by rfl) (hpl : (backTo pos (starEach es X.env)).any (·.1) = false := by rfl) :
    JE X F g (.Call (.Name x p) (e :: es) [] pos) R (fun k => wa fun t => w t k) :=
  peW (pe_call Fn hr hg hm hk hb .nil pass0 ha hdb he hpl) fun σ H Q ⟨k, P, w, q⟩ => ⟨k, _, w, fun t vs H1 w1 s1 r1 => ⟨t, P, Fr.all H1, rfl, by rw [List.append_nil]; exact r1, w1, fun r v H2 p s2 r2 => q r v H2 p (s1.trans s2) (R.pre s1 ((k.step s1).backB s2 r2))⟩⟩
def CallOk (F : Fr) (g : Gm) (T : ATy τ) (R : Res ρ) (r : List V → Hp → VK → Prop) (C : τ → (ρ → Prop) → Prop) : Prop := ∀ σ t H vs (P : ρ → Prop) Q, g.Ok F σ H → T.rel H vs t → C t P → (∀ z v' H', P z → Same H H' → R.rel H (g.bs F H') H' v' z → Q v' H') → r vs H Q
theorem je_callB {r : List V → Hp → VK → Prop} {id : String} {x : Str} {e : Expr} {es : List Expr} {p pos : Pos} {T : ATy τ} {wa : (τ → Prop) → Prop} {R : Res ρ} {C : τ → (ρ → Prop) → Prop} (hc : CallR X (.builtin id) r) (hr : CallOk F g T R r C)
    (hg : Gl X x) (hm : X.mg x = none) (hv : bootBuiltins x = some (.builtin id)) (ha : JAb X F g (e :: es) T wa) (hn : x ≠ "__name__" := by decide) (hdb : (x == ("__debug__" : Str)) = false := by decide)
    (he : starEach (e :: es) X.env = (false, eval e X.env) :: starEach es X.env := by rfl) (hpl : (backTo pos (starEach es X.env)).any (·.1) = false := by rfl) : JE X F g (.Call (.Name x p) (e :: es) [] pos) R (fun k => wa fun t => C t k) :=
  peW (pe_callB hc hg hm hv ha hn hdb he hpl) fun σ H Q ⟨k, P, w, q⟩ => ⟨k, _, w, fun t vs H1 w1 s1 r1 => hr σ t H1 vs P Q (k.step s1) r1 w1 fun z v H2 p s2 r2 => q z v H2 p (s1.trans s2) (R.pre s1 r2)⟩
theorem je_callTy {r : List V → Hp → VK → Prop} {id : String} {x : Str} {e : Expr} {es : List Expr} {p pos : Pos} {T : ATy τ} {wa : (τ → Prop) → Prop} {R : Res ρ} {C : τ → (ρ → Prop) → Prop} (hc : CallR X (.type id) r) (hr : CallOk F g T R r C)
    (hg : Gl X x) (hm : X.mg x = none) (hv : bootBuiltins x = some (.type id)) (ha : JAb X F g (e :: es) T wa) (hn : x ≠ "__name__" := by decide) (hdb : (x == ("__debug__" : Str)) = false := by decide)
    (he : starEach (e :: es) X.env = (false, eval e X.env) :: starEach es X.env := by rfl) (hpl : (backTo pos (starEach es X.env)).any (·.1) = false := by rfl) : JE X F g (.Call (.Name x p) (e :: es) [] pos) R (fun k => wa fun t => C t k) :=
  peW (pe_callTy hc hg hm hv ha hn hdb he hpl) fun σ H Q ⟨k, P, w, q⟩ => ⟨k, _, w, fun t vs H1 w1 s1 r1 => hr σ t H1 vs P Q (k.step s1) r1 w1 fun z v H2 p s2 r2 => q z v H2 p (s1.trans s2) (R.pre s1 r2)⟩
theorem je_callM {r : List V → Hp → VK → Prop} {id : String} {x : Str} {e : Expr} {es : List Expr} {p pos : Pos} {T : ATy τ} {wa : (τ → Prop) → Prop} {R : Res ρ} {C : τ → (ρ → Prop) → Prop} (hc : CallR X (.builtin id) r) (hr : CallOk F g T R r C)
    (hg : Gl X x) (hm : X.mg x = some (.builtin id)) (ha : JAb X F g (e :: es) T wa) (hdb : (x == ("__debug__" : Str)) = false := by decide)
    (he : starEach (e :: es) X.env = (false, eval e X.env) :: starEach es X.env := by rfl) (hpl : (backTo pos (starEach es X.env)).any (·.1) = false := by rfl) : JE X F g (.Call (.Name x p) (e :: es) [] pos) R (fun k => wa fun t => C t k) :=
  peW (pe_callBfun hc hg hm ha hdb he hpl) fun σ H Q ⟨k, P, w, q⟩ => ⟨k, _, w, fun t vs H1 w1 s1 r1 => hr σ t H1 vs P Q (k.step s1) r1 w1 fun z v H2 p s2 r2 => q z v H2 p (s1.trans s2) (R.pre s1 r2)⟩
section
variable {e e2 : Expr} {p pos : Pos} {he : starEach [e] X.env = (false, eval e X.env) :: starEach [] X.env} {hpl : (backTo pos (starEach [] X.env)).any (·.1) = false}
theorem je_int1 {w : (Int → Prop) → Prop} (hg : Gl X "int") (hm : X.mg "int" = none) (ha : JE X F g e (rO tI) w) (he : starEach [e] X.env = (false, eval e X.env) :: starEach [] X.env := by rfl) (hpl : (backTo pos (starEach [] X.env)).any (·.1) = false := by rfl) :
    JE X F g (.Call (.Name "int" p) [e] [] pos) (rO tI) w :=
  je_callTy (T := aC tI aN) (C := fun t k => k t.1) call_int1 (fun _ t H vs P Q k ⟨v, r, e1, r1, e2⟩ c q => .inl ⟨t.1, by rw [e1, (e2 : r = []), (r1 : v = _)], q _ _ H c (Same.refl H) rfl⟩) hg hm (by decide +kernel) (jb_cons (je_b ha) jb_nil he) (by decide) (by decide) he hpl
theorem je_intB {w : (Bool → Prop) → Prop} (hg : Gl X "int") (hm : X.mg "int" = none) (ha : JE X F g e (rO tB) w) (he : starEach [e] X.env = (false, eval e X.env) :: starEach [] X.env := by rfl) (hpl : (backTo pos (starEach [] X.env)).any (·.1) = false := by rfl) :
    JE X F g (.Call (.Name "int" p) [e] [] pos) (rO tI) (fun k => w fun b => k (if b then 1 else 0)) :=
  je_callTy (T := aC tB aN) (C := fun t k => k (if t.1 then (1 : Int) else 0)) call_int1 (fun _ t H vs P Q k ⟨v, r, e1, r1, e2⟩ c q => .inr ⟨t.1, by rw [e1, (e2 : r = []), (r1 : v = _)], q _ _ H c (Same.refl H) rfl⟩) hg hm (by decide +kernel) (jb_cons (je_b ha) jb_nil he) (by decide) (by decide) he hpl
theorem je_abs {w : (Int → Prop) → Prop} (hg : Gl X "abs") (hm : X.mg "abs" = none) (ha : JE X F g e (rO tI) w) (he : starEach [e] X.env = (false, eval e X.env) :: starEach [] X.env := by rfl) (hpl : (backTo pos (starEach [] X.env)).any (·.1) = false := by rfl) :
    JE X F g (.Call (.Name "abs" p) [e] [] pos) (rO tI) (fun k => w fun i => k (if i < 0 then -i else i)) :=
  je_callB (T := aC tI aN) (C := fun t k => k (if t.1 < 0 then -t.1 else t.1)) call_abs (fun _ t H vs P Q k ⟨v, r, e1, r1, e2⟩ c q => ⟨t.1, by rw [e1, (e2 : r = []), (r1 : v = _)], q _ _ H c (Same.refl H) rfl⟩) hg hm (by decide +kernel) (jb_cons (je_b ha) jb_nil he) (by decide) (by decide) he hpl
theorem je_lenL {A : Ty α} {w : (List α → Prop) → Prop} (hg : Gl X "len") (hm : X.mg "len" = none) (ha : JE X F g e (rB (tL X.K A)) w) (he : starEach [e] X.env = (false, eval e X.env) :: starEach [] X.env := by rfl) (hpl : (backTo pos (starEach [] X.env)).any (·.1) = false := by rfl) :
    JE X F g (.Call (.Name "len" p) [e] [] pos) (rO tI) (fun k => w fun xs => k (xs.length : Int)) :=
  je_callB (T := aC (tL X.K A) aN) (C := fun t k => k (t.1.length : Int)) call_len_seq (fun _ t H vs P Q k ⟨v, r, e1, ⟨a, us, ev, hs, hp⟩, e2⟩ c q => ⟨a, us, by rw [e1, (e2 : r = []), ev], .inl hs, by rw [Paired.len hp]; exact q _ _ H c (Same.refl H) rfl⟩) hg hm PySem.boot_len (jb_cons ha jb_nil he) (by decide) (by decide) he hpl
theorem je_lenT {T : ATy τ} {w : (τ → Prop) → Prop} {f : τ → Nat} (hg : Gl X "len") (hm : X.mg "len" = none) (ha : JE X F g e (rO (tT X.K T)) w) (hf : ∀ H vs t, T.rel H vs t → vs.length = f t) (he : starEach [e] X.env = (false, eval e X.env) :: starEach [] X.env := by rfl) (hpl : (backTo pos (starEach [] X.env)).any (·.1) = false := by rfl) :
    JE X F g (.Call (.Name "len" p) [e] [] pos) (rO tI) (fun k => w fun t => k (f t : Int)) :=
  je_callB (T := aC (tT X.K T) aN) (C := fun t k => k (f t.1 : Int)) call_len_seq (fun _ t H vs P Q k ⟨v, r, e1, ⟨a, us, ev, hs, hp⟩, e2⟩ c q => ⟨a, us, by rw [e1, (e2 : r = []), ev], .inr hs, by rw [hf _ _ _ hp]; exact q _ _ H c (Same.refl H) rfl⟩) hg hm PySem.boot_len (jb_cons (je_b ha) jb_nil he) (by decide) (by decide) he hpl
theorem je_gcd {w u : (Int → Prop) → Prop} (hg : Gl X "gcd") (hm : X.mg "gcd" = some (.builtin "math.gcd")) (ha : JE X F g e (rO tI) w) (hb : JE X F g e2 (rO tI) u)
    (he : starEach [e, e2] X.env = (false, eval e X.env) :: starEach [e2] X.env := by rfl) (he2 : starEach [e2] X.env = (false, eval e2 X.env) :: starEach [] X.env := by rfl) (hpl : (backTo pos (starEach [e2] X.env)).any (·.1) = false := by rfl) :
    JE X F g (.Call (.Name "gcd" p) [e, e2] [] pos) (rO tI) (fun k => w fun a => u fun b => k ((Nat.gcd a.natAbs b.natAbs : Nat) : Int)) :=
  je_callM (T := aC tI (aC tI aN)) (C := fun t k => k ((Nat.gcd t.1.natAbs t.2.1.natAbs : Nat) : Int)) cr_gcd (fun _ t H vs P Q k ⟨v, r, e1, r1, v2, r', e2, r2, e3⟩ c q => ⟨t.1, t.2.1, by rw [e1, e2, (e3 : r' = []), (r1 : v = _), (r2 : v2 = _)], q _ _ H c (Same.refl H) rfl⟩) hg hm (jb_cons (je_b ha) (jb_cons (je_b hb) jb_nil he2) he) (by decide) he hpl
/-- isinstance(x, T): T a built-in type, x of a kind that is known -/
def TyOfA (K : PySem.W.Frag) (A : Ty α) (t : String) : Prop := ∀ H v a, A.rel H v a → TyX K H v (.type t)
theorem je_isi {A : Ty α} {w : (α → Prop) → Prop} {T t : String} {b : Bool} {c : Expr} (hg : Gl X "isinstance") (hm : X.mg "isinstance" = none) (ht : TyOfA X.K A t) (hk : kitB t T = some b) (ha : JE X F g e (rB A) w) (hT : PE X c (tC (.ty T)))
    (he : starEach [e, c] X.env = (false, eval e X.env) :: starEach [c] X.env := by rfl) (he2 : starEach [c] X.env = (false, eval c X.env) :: starEach [] X.env := by rfl) (hpl : (backTo pos (starEach [c] X.env)).any (·.1) = false := by rfl) :
    JE X F g (.Call (.Name "isinstance" p) [e, c] [] pos) (rO tB) (fun k => w fun _ => k b) :=
  peW (pe_callB call_isi hg hm (by decide +kernel) (pa_cons ha (pa_cons hT pa_nil he2) he) (by decide) (by decide) he hpl) fun σ H Q ⟨k, P, w, q⟩ => ⟨k, _, w, fun a v H1 w1 s1 r1 =>
    ⟨v, .ty T, .type t, .type T, b, rfl, .ty T, ht _ _ _ r1, kit_ty hk, q b _ H1 w1 s1 rfl⟩⟩
end
end
end J
/-! A3: items, statements, loops -/
namespace J
open PySem PySem.Spec L2
theorem ixI_at {α : Type} {xs : List α} {i : Int} {x : α} (h : ixI xs i = some x) : atI xs i = some x := by
  unfold ixI at h
  unfold atI ixN
  by_cases h0 : 0 ≤ i
  · rw [if_pos h0] at h
    have hl := (List.getElem?_eq_some_iff.mp h).1
    rw [if_pos h0, if_pos (by omega)]
    exact h
  · rw [if_neg h0] at h
    by_cases h1 : 0 ≤ i + xs.length
    · rw [if_pos h1] at h
      rw [if_neg h0, if_pos (by omega)]
      exact h
    · rw [if_neg h1] at h
      cases h
theorem atI_pair {α β : Type} {F : α → β → Prop} {vs : List α} {xs : List β} (p : Paired F vs xs) {i : Int} {x : β} (h : ixI xs i = some x) : ∃ v, atI vs i = some v ∧ F v x := by
  have e := Paired.len p
  unfold ixI at h
  by_cases h0 : 0 ≤ i
  · rw [if_pos h0] at h
    obtain ⟨v, h1, h2⟩ := Paired.at p h
    exact ⟨v, ixI_at (by unfold ixI; rw [if_pos h0]; exact h1), h2⟩
  · rw [if_neg h0] at h
    by_cases h1 : 0 ≤ i + xs.length
    · rw [if_pos h1] at h
      obtain ⟨v, h3, h2⟩ := Paired.at p h
      refine ⟨v, ixI_at ?_, h2⟩
      unfold ixI
      rw [if_neg h0, e, if_pos h1]
      exact h3
    · rw [if_neg h1] at h
      cases h
section
variable {X : Cx} {F : Fr} {g : Gm} {α β γ δ ρ τ : Type}

/-! ### items -/
theorem je_ixR {a b : Expr} {pos : Pos} {r : R2} {S : Res α} {T : Res β} {R : Res ρ} {wa : (α → Prop) → Prop} {wb : (β → Prop) → Prop} {C : α → β → (ρ → Prop) → Prop} (ho : IxR X r)
    (hr : ∀ σ x y Ha Hb H v u (P : ρ → Prop) Q, g.Ok F σ H → S.rel Ha (g.bs F H) H v x → T.rel Hb (g.bs F H) H u y → C x y P → (∀ z v' H', P z → Same H H' → R.rel H (g.bs F H') H' v' z → Q v' H') → r v u H Q)
    (ha : JE X F g a S wa) (hb : JE X F g b T wb) (hs : PlainIx b) : JE X F g (.Subscript a b pos) R (fun k => wa fun x => wb fun y => C x y k) :=
  peW (pe_ix ho ha hb hs) fun σ H Q ⟨k, P, w, q⟩ => ⟨k, _, w, fun x v H1 w1 s1 r1 => ⟨k.step s1, _, w1, fun y u H2 w2 s2 r2 =>
    hr σ x y _ _ H2 v u P Q (k.step (s1.trans s2)) (S.same (Gm.mono s2) s2 r1) r2 w2 fun z v' H' p s' r' => q z v' H' p ((s1.trans s2).trans s') (R.pre (s1.trans s2) r')⟩⟩
theorem je_ixL {a b : Expr} {pos : Pos} {A : Ty α} {wa : (List α → Prop) → Prop} {wb : (Int → Prop) → Prop} (ha : JE X F g a (rE X.K A) wa) (hb : JE X F g b (rO tI) wb) (hs : PlainIx b := by exact fun _ _ => rfl) :
    JE X F g (.Subscript a b pos) (rO A) (fun k => wa fun xs => wb fun i => ∃ x, ixI xs i = some x ∧ k x) :=
  je_ixR (C := fun xs i k => ∃ x, ixI xs i = some x ∧ k x) ix_list (fun _ xs i _ _ H v u P Q k h1 h2 ⟨x, hx, p⟩ q => by
    obtain ⟨l, vs, e, hl, hp⟩ := h1
    obtain ⟨y, hy, ry⟩ := atI_pair hp hx
    exact ⟨l, vs, i, y, e, h2, hl, hy, q x y H p (Same.refl H) ry⟩) ha hb hs
theorem je_ixV {a b : Expr} {pos : Pos} {A : Ty α} {wa : (List α → Prop) → Prop} {wb : (Int → Prop) → Prop} (ha : JE X F g a (rO (tT X.K (aV A))) wa) (hb : JE X F g b (rO tI) wb) (hs : PlainIx b := by exact fun _ _ => rfl) :
    JE X F g (.Subscript a b pos) (rO A) (fun k => wa fun xs => wb fun i => ∃ x, ixI xs i = some x ∧ k x) :=
  je_ixR (C := fun xs i k => ∃ x, ixI xs i = some x ∧ k x) ix_tup (fun _ xs i _ _ H v u P Q k h1 h2 ⟨x, hx, p⟩ q => by
    obtain ⟨l, vs, e, hl, hp⟩ := h1
    obtain ⟨y, hy, ry⟩ := atI_pair hp hx
    exact ⟨l, vs, i, y, e, h2, k.le.sqT' hl, hy, q x y H p (Same.refl H) ry⟩) ha hb hs
/-- a written place of a tuple -/
theorem je_ixK {T : ATy τ} {A : Ty α} {n : Int} {m : Nat} {f : τ → α} {a : Expr} {j : Nat} {p2 pos : Pos} {w : (τ → Prop) → Prop} (hn : n = (m : Int)) (hf : ∀ H vs t, T.rel H vs t → ∃ v, vs[m]? = some v ∧ A.rel H v (f t)) (ha : JE X F g a (rO (tT X.K T)) w)
    (hs : PlainIx (.Constant (.int n) j p2) := by exact fun _ _ => rfl) : JE X F g (.Subscript a (.Constant (.int n) j p2) pos) (rO A) (fun k => w fun t => k (f t)) :=
  je_ixR (T := rO (tIc n)) (C := fun t _ k => k (f t)) ix_tup (fun _ t _ _ _ H v u P Q k h1 h2 p q => by
    obtain ⟨l, vs, e, hl, hp⟩ := h1
    obtain ⟨y, hy, ry⟩ := hf _ _ _ hp
    exact ⟨l, vs, n, y, e, h2, k.le.sqT' hl, by rw [hn]; exact atI_nat hy, q _ y H p (Same.refl H) ry⟩) ha je_lit hs
section
variable {a : Expr} {j : Nat} {p2 pos : Pos} {A : Ty α} {B : Ty β} {C : Ty γ} {E : Ty δ}
theorem je_2a {w : (α × β → Prop) → Prop} (ha : JE X F g a (rO (tT X.K (a2 A B))) w) (hs : PlainIx (.Constant (.int 0) j p2) := by exact fun _ _ => rfl) : JE X F g (.Subscript a (.Constant (.int 0) j p2) pos) (rO A) (fun k => w fun t => k t.1) :=
  je_ixK (T := a2 A B) (m := 0) rfl (fun H vs t ⟨x, y, e, h1, h2⟩ => ⟨x, by rw [e]; rfl, h1⟩) ha hs
theorem je_2b {w : (α × β → Prop) → Prop} (ha : JE X F g a (rO (tT X.K (a2 A B))) w) (hs : PlainIx (.Constant (.int 1) j p2) := by exact fun _ _ => rfl) : JE X F g (.Subscript a (.Constant (.int 1) j p2) pos) (rO B) (fun k => w fun t => k t.2) :=
  je_ixK (T := a2 A B) (m := 1) rfl (fun H vs t ⟨x, y, e, h1, h2⟩ => ⟨y, by rw [e]; rfl, h2⟩) ha hs
theorem je_3a {w : (α × β × γ → Prop) → Prop} (ha : JE X F g a (rO (tT X.K (a3 A B C))) w) (hs : PlainIx (.Constant (.int 0) j p2) := by exact fun _ _ => rfl) : JE X F g (.Subscript a (.Constant (.int 0) j p2) pos) (rO A) (fun k => w fun t => k t.1) :=
  je_ixK (T := a3 A B C) (m := 0) rfl (fun H vs t ⟨x, y, z, e, h1, h2, h3⟩ => ⟨x, by rw [e]; rfl, h1⟩) ha hs
theorem je_3b {w : (α × β × γ → Prop) → Prop} (ha : JE X F g a (rO (tT X.K (a3 A B C))) w) (hs : PlainIx (.Constant (.int 1) j p2) := by exact fun _ _ => rfl) : JE X F g (.Subscript a (.Constant (.int 1) j p2) pos) (rO B) (fun k => w fun t => k t.2.1) :=
  je_ixK (T := a3 A B C) (m := 1) rfl (fun H vs t ⟨x, y, z, e, h1, h2, h3⟩ => ⟨y, by rw [e]; rfl, h2⟩) ha hs
theorem je_3c {w : (α × β × γ → Prop) → Prop} (ha : JE X F g a (rO (tT X.K (a3 A B C))) w) (hs : PlainIx (.Constant (.int 2) j p2) := by exact fun _ _ => rfl) : JE X F g (.Subscript a (.Constant (.int 2) j p2) pos) (rO C) (fun k => w fun t => k t.2.2) :=
  je_ixK (T := a3 A B C) (m := 2) rfl (fun H vs t ⟨x, y, z, e, h1, h2, h3⟩ => ⟨z, by rw [e]; rfl, h3⟩) ha hs
end
/-- a pair seen as a row of one kind -/
theorem je_2V {e : Expr} {A : Ty α} {w : (α × α → Prop) → Prop} (h : JE X F g e (rO (tT X.K (a2 A A))) w) : JE X F g e (rO (tT X.K (aV A))) (fun k => w fun t => k [t.1, t.2]) :=
  je_as (A := tT X.K (a2 A A)) (B := tT X.K (aV A)) (f := fun t => [t.1, t.2]) h fun H v t ⟨a, vs, e, hs, x, y, e2, h1, h2⟩ => ⟨a, vs, e, hs, by rw [e2]; exact .cons h1 (.cons h2 .nil)⟩

/-! ### statements -/
theorem JSs.mono {sts : List Stmt} {w : Prop} {D D' : Ends} (h : JSs X F g sts D w) (l : Le D D') : JSs X F g sts D' w :=
  pssW h fun E σ H ⟨e, o, q⟩ => ⟨⟨fun a b z => e.nx a b (l.nx a b z), fun a b z => e.rt a b (l.rt a b z), fun a b z => e.bk a b (l.bk a b z), fun a b z => e.ct a b (l.ct a b z)⟩, o, q⟩
theorem JSs.sub {sts : List Stmt} {w : Prop} {D : Ends} {g' : Gm} (h : JSs X F g' sts D w) (k : Sub g g') : JSs X F g sts D w := pssW h fun D' σ H ⟨e, o, q⟩ => ⟨e, k.ok o, q⟩
theorem JSs.imp {sts : List Stmt} {w w' : Prop} {D : Ends} (h : JSs X F g sts D w) (k : w' → w) : JSs X F g sts D w' := pssW h fun D' σ H ⟨e, o, q⟩ => ⟨e, o, k q⟩
section
variable {rest : List Stmt} {nx bk ct : L2.St → Hp → Prop} {rt : VK} {pos : Pos}
theorem js_end {S : τ → Gm} {N : τ → Prop} (s : τ) (h : Sub g (S s)) : JSs X F g [] ⟨phi F S N, rt, bk, ct⟩ (N s) := pssW pss_nil fun D σ H ⟨e, o, q⟩ => e.nx _ _ ⟨s, h.ok o, q⟩
theorem js_endN {P : Unit → Prop} (h : ∀ σ H, Same F.H H → P () → nx σ H) : JSs X F g [] ⟨nx, rt, bk, ct⟩ (P ()) := pssW pss_nil fun D σ H ⟨e, o, q⟩ => e.nx _ _ (h σ H o.same q)
theorem js_pass {D : Ends} {w : Prop} (h : JSs X F g rest D w) : JSs X F g (.Pass pos :: rest) D w := pssW (pss_cons ps_pass h) fun D' σ H q => q
theorem js_cont {S : τ → Gm} {N : τ → Prop} (s : τ) (h : Sub g (S s)) : JSs X F g (.Continue pos :: rest) ⟨nx, rt, bk, phi F S N⟩ (N s) := pssW (pss_cons ps_continue pss_never) fun D σ H ⟨e, o, q⟩ => e.ct _ _ ⟨s, h.ok o, q⟩
theorem js_break {S : τ → Gm} {N : τ → Prop} (s : τ) (h : Sub g (S s)) : JSs X F g (.Break pos :: rest) ⟨nx, rt, phi F S N, ct⟩ (N s) := pssW (pss_cons ps_break pss_never) fun D σ H ⟨e, o, q⟩ => e.bk _ _ ⟨s, h.ok o, q⟩
/-- a way that is never taken -/
theorem js_never {st : Stmt} {D : Ends} : JSs X F g (st :: rest) D False := pssW pss_never fun D' σ H ⟨e, o, q⟩ => q
theorem js_ret {R : Res ρ} {P : ρ → Prop} {e : Expr} {w : (ρ → Prop) → Prop} (hrt : RtOk F R P rt) (he : JE X F g e R w) : JSs X F g (.Return (some e) pos :: rest) ⟨nx, rt, bk, ct⟩ (w P) :=
  pssW (pss_cons (ps_ret he) pss_never) fun D σ H ⟨e, o, q⟩ => ⟨o, P, q, fun a v H' p s r => e.rt _ _ (hrt a v H' p (o.same.trans s) (R.pre o.same (R.same Gm.out (Same.refl _) r)))⟩
theorem js_retN {P : Unit → Prop} (hrt : RtOk F (rO tN) P rt) : JSs X F g (.Return none pos :: rest) ⟨nx, rt, bk, ct⟩ (P ()) :=
  pssW (pss_cons ps_retN pss_never) fun D σ H ⟨e, o, q⟩ => e.rt _ _ (hrt () _ H q o.same rfl)
/-- the list of a cell is handed back -/
theorem js_retC {i j : Nat} {p : Addr} {A : Ty α} {xs : List α} {P : List α → Prop} {x : Str} {px : Pos} (hrt : RtOk F (rN A) P rt) (hs : g.s[i]? = some (.at p)) (hc : g.c[j]? = some (.lst p A xs)) (hN : X.N[i]? = some x := by rfl) (hv : Vis X.env.scope x := by first | exact Or.inl rfl | exact Or.inr (Or.inl rfl) | exact Or.inr (Or.inr rfl))
    (hd : (x == ("__debug__" : Str)) = false := by decide) (hcd : (x == ("__classdict__" : Str)) = false := by decide) : JSs X F g (.Return (some (.Name x px)) pos :: rest) ⟨nx, rt, bk, ct⟩ (P xs) :=
  pssW (pss_cons (ps_ret (pe_var hN hv hd hcd)) pss_never) fun D σ H ⟨e, k, q⟩ => by
    have m := List.mem_of_getElem? hc
    obtain ⟨h0, vs, hp, r⟩ := k.cells _ m
    have pm := Gm.mem_ad m (p := p) rfl
    have mo : Same (g.bs F H) (rm (F.out H) p) := fun a o z => by
      have ne : a ≠ p := fun y => (bsA_nil z).1 (by rw [y]; exact pm)
      unfold rm
      rw [if_neg ne]
      exact Gm.out _ _ z
    exact ⟨.ref p, k.ref hs, e.rt _ _ (hrt xs _ H q k.same ⟨p, vs, rfl, h0, bsA_of (fun z => by cases z) h0 hp, Paired.imp (fun _ _ r => A.same mo r) r⟩)⟩
theorem js_if {c : Expr} {a b : List Stmt} {D : Ends} {wc : Prop → Prop → Prop} {wa wb : Prop} (hc : JT X F g c wc) (ha : JSs X F g a D wa) (hb : JSs X F g b D wb) : JSs X F g [.If c a b pos] D (wc wa wb) :=
  pssW (pss_one (ps_if hc ha hb)) fun D' σ H ⟨e, o, q⟩ => ⟨o, _, _, q, fun x H' s => by
      show RS F g D wa D' σ H'
      exact ⟨e, o.step s, x⟩, fun x H' s => by
      show RS F g D wb D' σ H'
      exact ⟨e, o.step s, x⟩⟩
/-- the body never goes on: what follows stands alone -/
theorem js_ifX {c : Expr} {a : List Stmt} {wc : Prop → Prop → Prop} {wa wr : Prop} (hc : JT X F g c wc) (ha : JSs X F g a ⟨fun _ _ => False, rt, bk, ct⟩ wa) (hr : JSs X F g rest ⟨nx, rt, bk, ct⟩ wr) : JSs X F g (.If c a [] pos :: rest) ⟨nx, rt, bk, ct⟩ (wc wa wr) :=
  pssW (pss_cons (ps_if hc ha pss_nil) hr) fun D' σ H ⟨e, o, q⟩ => ⟨o, _, _, q, fun x H' s => by
      show RS F g _ wa _ σ H'
      exact ⟨⟨fun _ _ z => z.elim, e.rt, e.bk, e.ct⟩, o.step s, x⟩, fun x H' s => by
      show RS F g _ wr _ σ H'
      exact ⟨e, o.step s, x⟩⟩
theorem js_if_a {c : Expr} {a b : List Stmt} {D : Ends} {wc : Prop → Prop → Prop} {wa wb : Prop} (hc : JT X F g c wc) (ha : JSs X F g a D wa) (hb : JSs X F g b D wb) : JSs X F g [.If c a b pos] D (wCut wa fun kA => wc kA wb) := js_if hc ha hb
theorem js_if_b {c : Expr} {a b : List Stmt} {D : Ends} {wc : Prop → Prop → Prop} {wa wb : Prop} (hc : JT X F g c wc) (ha : JSs X F g a D wa) (hb : JSs X F g b D wb) : JSs X F g [.If c a b pos] D (wCut wb fun kB => wc wa kB) := js_if hc ha hb
theorem js_if_ab {c : Expr} {a b : List Stmt} {D : Ends} {wc : Prop → Prop → Prop} {wa wb : Prop} (hc : JT X F g c wc) (ha : JSs X F g a D wa) (hb : JSs X F g b D wb) : JSs X F g [.If c a b pos] D (wCut wa fun kA => wCut wb fun kB => wc kA kB) := js_if hc ha hb
theorem js_ifX_a {c : Expr} {a : List Stmt} {wc : Prop → Prop → Prop} {wa wr : Prop} (hc : JT X F g c wc) (ha : JSs X F g a ⟨fun _ _ => False, rt, bk, ct⟩ wa) (hr : JSs X F g rest ⟨nx, rt, bk, ct⟩ wr) : JSs X F g (.If c a [] pos :: rest) ⟨nx, rt, bk, ct⟩ (wCut wa fun kA => wc kA wr) := js_ifX hc ha hr
theorem js_ifX_b {c : Expr} {a : List Stmt} {wc : Prop → Prop → Prop} {wa wr : Prop} (hc : JT X F g c wc) (ha : JSs X F g a ⟨fun _ _ => False, rt, bk, ct⟩ wa) (hr : JSs X F g rest ⟨nx, rt, bk, ct⟩ wr) : JSs X F g (.If c a [] pos :: rest) ⟨nx, rt, bk, ct⟩ (wCut wr fun kB => wc wa kB) := js_ifX hc ha hr
theorem js_ifX_ab {c : Expr} {a : List Stmt} {wc : Prop → Prop → Prop} {wa wr : Prop} (hc : JT X F g c wc) (ha : JSs X F g a ⟨fun _ _ => False, rt, bk, ct⟩ wa) (hr : JSs X F g rest ⟨nx, rt, bk, ct⟩ wr) : JSs X F g (.If c a [] pos :: rest) ⟨nx, rt, bk, ct⟩ (wCut wa fun kA => wCut wr fun kB => wc kA kB) := js_ifX hc ha hr
/-- ways that meet behind an if -/
theorem js_ifJ {c : Expr} {a b : List Stmt} {S : τ → Gm} {wr : τ → Prop} {wc : Prop → Prop → Prop} {wa wb : (τ → Prop) → Prop} (hc : JT X F g c wc) (ha : ∀ J : τ → Prop, JSs X F g a ⟨phi F S J, rt, bk, ct⟩ (wa J)) (hb : ∀ J : τ → Prop, JSs X F g b ⟨phi F S J, rt, bk, ct⟩ (wb J))
    (hr : ∀ s, JSs X F (S s) rest ⟨nx, rt, bk, ct⟩ (wr s)) : JSs X F g (.If c a b pos :: rest) ⟨nx, rt, bk, ct⟩ (wJoin wr fun J => wc (wa J) (wb J)) :=
  pssW (pss_cons (ps_if hc (ha wr) (hb wr)) (pssE hr)) fun D' σ H ⟨e, o, q⟩ => ⟨o, _, _, q, fun x H' s => by
      show RS F g _ (wa wr) _ σ H'
      exact ⟨⟨fun _ _ ⟨s, o, q⟩ => ⟨s, e, o, q⟩, e.rt, e.bk, e.ct⟩, o.step s, x⟩, fun x H' s => by
      show RS F g _ (wb wr) _ σ H'
      exact ⟨⟨fun _ _ ⟨s, o, q⟩ => ⟨s, e, o, q⟩, e.rt, e.bk, e.ct⟩, o.step s, x⟩⟩
theorem js_ifJ_a {c : Expr} {a b : List Stmt} {S : τ → Gm} {wr : τ → Prop} {wc : Prop → Prop → Prop} {wa wb : (τ → Prop) → Prop} (hc : JT X F g c wc) (ha : ∀ J : τ → Prop, JSs X F g a ⟨phi F S J, rt, bk, ct⟩ (wa J)) (hb : ∀ J : τ → Prop, JSs X F g b ⟨phi F S J, rt, bk, ct⟩ (wb J))
    (hr : ∀ s, JSs X F (S s) rest ⟨nx, rt, bk, ct⟩ (wr s)) : JSs X F g (.If c a b pos :: rest) ⟨nx, rt, bk, ct⟩ (wJoin wr fun J => wCut (wa J) fun kA => wc kA (wb J)) := js_ifJ hc ha hb hr
theorem js_ifJ_b {c : Expr} {a b : List Stmt} {S : τ → Gm} {wr : τ → Prop} {wc : Prop → Prop → Prop} {wa wb : (τ → Prop) → Prop} (hc : JT X F g c wc) (ha : ∀ J : τ → Prop, JSs X F g a ⟨phi F S J, rt, bk, ct⟩ (wa J)) (hb : ∀ J : τ → Prop, JSs X F g b ⟨phi F S J, rt, bk, ct⟩ (wb J))
    (hr : ∀ s, JSs X F (S s) rest ⟨nx, rt, bk, ct⟩ (wr s)) : JSs X F g (.If c a b pos :: rest) ⟨nx, rt, bk, ct⟩ (wJoin wr fun J => wCut (wb J) fun kB => wc (wa J) kB) := js_ifJ hc ha hb hr
theorem js_ifJ_ab {c : Expr} {a b : List Stmt} {S : τ → Gm} {wr : τ → Prop} {wc : Prop → Prop → Prop} {wa wb : (τ → Prop) → Prop} (hc : JT X F g c wc) (ha : ∀ J : τ → Prop, JSs X F g a ⟨phi F S J, rt, bk, ct⟩ (wa J)) (hb : ∀ J : τ → Prop, JSs X F g b ⟨phi F S J, rt, bk, ct⟩ (wb J))
    (hr : ∀ s, JSs X F (S s) rest ⟨nx, rt, bk, ct⟩ (wr s)) : JSs X F g (.If c a b pos :: rest) ⟨nx, rt, bk, ct⟩ (wJoin wr fun J => wCut (wa J) fun kA => wCut (wb J) fun kB => wc kA kB) := js_ifJ hc ha hb hr
/-! targets -/
def TgOk (A : Ty α) (gT : TG) (tr : Gm → α → Gm) : Prop := ∀ (F : Fr) (g : Gm) (σ : L2.St) (H : Hp) (v : V) (a : α) (Q : L2.St → Hp → Prop), g.Ok F σ H → A.rel (g.bs F H) v a → (∀ σ', (tr g a).Ok F σ' H → Q σ' H) → gT v σ H Q
theorem tg_name {i : Nat} {A : Ty α} : TgOk A (gName i) (fun g a => g.set i (.val A a)) := fun F g σ H v a Q k r q => q _ (k.set ⟨v, rfl, r⟩)
theorem tg_pair {K : PySem.W.Frag} {A : Ty α} {B : Ty β} {gA gB : TG} {trA : Gm → α → Gm} {trB : Gm → β → Gm} (hA : TgOk A gA trA) (hB : TgOk B gB trB) (hk : ∀ g a, (trA g a).c = g.c := by intro _ _; rfl) : TgOk (tT K (a2 A B)) (gTup K 2 (gCons gA (gCons gB gNil))) (fun g t => trB (trA g t.1) t.2) :=
  fun F g σ H v t Q k r q => by
    obtain ⟨l, vs, e, hs, x, y, e2, h1, h2⟩ := r
    subst e2
    exact ⟨l, _, e, k.le.sqT' hs, rfl, x, [y], rfl, hA F g σ H x t.1 _ k h1 fun σ1 k1 => ⟨y, [], rfl, hB F _ σ1 H y t.2 _ k1 (by show B.rel (bsA F ((trA g t.1).c.filterMap Cell.addr) H) y t.2; rw [hk]; exact h2) fun σ2 k2 => ⟨rfl, q σ2 k2⟩⟩⟩
theorem tg_tri {K : PySem.W.Frag} {A : Ty α} {B : Ty β} {C : Ty γ} {gA gB gC : TG} {trA : Gm → α → Gm} {trB : Gm → β → Gm} {trC : Gm → γ → Gm} (hA : TgOk A gA trA) (hB : TgOk B gB trB) (hC : TgOk C gC trC) (hk : ∀ g a, (trA g a).c = g.c := by intro _ _; rfl) (hk2 : ∀ g a, (trB g a).c = g.c := by intro _ _; rfl) :
    TgOk (tT K (a3 A B C)) (gTup K 3 (gCons gA (gCons gB (gCons gC gNil)))) (fun g t => trC (trB (trA g t.1) t.2.1) t.2.2) :=
  fun F g σ H v t Q k r q => by
    obtain ⟨l, vs, e, hs, x, y, z, e2, h1, h2, h3⟩ := r
    subst e2
    exact ⟨l, _, e, k.le.sqT' hs, rfl, x, [y, z], rfl, hA F g σ H x t.1 _ k h1 fun σ1 k1 => ⟨y, [z], rfl, hB F _ σ1 H y t.2.1 _ k1 (by show B.rel (bsA F ((trA g t.1).c.filterMap Cell.addr) H) y t.2.1; rw [hk]; exact h2) fun σ2 k2 => ⟨z, [], rfl, hC F _ σ2 H z t.2.2 _ k2 (by show C.rel (bsA F ((trB (trA g t.1) t.2.1).c.filterMap Cell.addr) H) z t.2.2; rw [hk2, hk]; exact h3) fun σ3 k3 => ⟨rfl, q σ3 k3⟩⟩⟩⟩
theorem js_asg {i : Nat} {A : Ty α} {x : Str} {px : Pos} {e : Expr} {we : (α → Prop) → Prop} {wr : α → Prop} {D : Ends} (he : JE X F g e (rO A) we) (hr : ∀ a, JSs X F (g.set i (.val A a)) rest D (wr a)) (hN : X.N.Nodup)
    (hi : X.N[i]? = some x := by rfl) (hx : Loc X.env.scope x := by first | exact Or.inl rfl | exact Or.inr rfl) (hs : swapsWith e (some (.Name x px)) pos.line X.env = pure false := by rfl) (hf : X.fn x = true ∨ X.env.scope.names.lookup x = some .local := by first | exact .inl rfl | exact .inr rfl) :
    JSs X F g (.Assign [.Name x px] e pos :: rest) D (we fun a => wLet a wr) :=
  pssW (pss_cons (ps_set hN hi hx he hs hf) (pssE hr)) fun D' σ H ⟨e, o, q⟩ => ⟨o, wr, q, fun a v H1 p s r => ⟨a, e, (o.step s).set ⟨v, rfl, r⟩, p⟩⟩
theorem js_asgT {tg e : Expr} {A : Ty α} {gT : TG} {tr : Gm → α → Gm} {we : (α → Prop) → Prop} {wr : α → Prop} {D : Ends} (he : JE X F g e (rO A) we) (hg : PG X tg gT) (ht : TgOk A gT tr) (hr : ∀ a, JSs X F (tr g a) rest D (wr a))
    (hs : swapsWithSole [tg] e pos.line X.env = pure false := by rfl) (hw : swappedStores [tg] e X.env = pure none := by rfl) (h1 : (assignEach [tg] X.env).map (·.2) = [assign tg X.env] := by rfl) :
    JSs X F g (.Assign [tg] e pos :: rest) D (we fun a => wLet a wr) :=
  pssW (pss_cons (ps_asg he hg hs hw h1) (pssE hr)) fun D' σ H ⟨e, o, q⟩ => ⟨o, wr, q, fun a v H1 p s r => ht F g σ H1 v a _ (o.step s) r fun σ' k => ⟨a, e, k, p⟩⟩
/-- a, b = x, y -/
theorem js_par {i j : Nat} {A : Ty α} {B : Ty β} {x y : Str} {a b : Expr} {px py pt : Pos} {kt k2 : Nat} {pt2 : Pos} {wa : (α → Prop) → Prop} {wb : (β → Prop) → Prop} {wr : α → β → Prop} {D : Ends} (ha : JE X F g a (rO A) wa) (hb : JE X F g b (rO B) wb)
    (hr : ∀ u v, JSs X F ((g.set i (.val A u)).set j (.val B v)) rest D (wr u v)) (hN : X.N.Nodup) (hc : X.calm = true := by rfl) (hi : X.N[i]? = some x := by rfl) (hj : X.N[j]? = some y := by rfl) (hij : i ≠ j := by decide)
    (hx : X.env.scope.names.lookup x = some .local := by rfl) (hy : X.env.scope.names.lookup y = some .local := by rfl) (hs1 : starEach [a, b] X.env = (false, eval a X.env) :: starEach [b] X.env := by rfl) (hs2 : starEach [b] X.env = (false, eval b X.env) :: starEach [] X.env := by rfl)
    (hw : swappedStores [.Tuple [.Name x px, .Name y py] kt pt] (.Tuple [a, b] k2 pt2) X.env = pure (some [x, y]) := by rfl)
    (hs : swapsWithSole [.Tuple [.Name x px, .Name y py] kt pt] (.Tuple [a, b] k2 pt2) pos.line X.env = pure false := by rfl) :
    JSs X F g (.Assign [.Tuple [.Name x px, .Name y py] kt pt] (.Tuple [a, b] k2 pt2) pos :: rest) D (wa fun u => wb fun v => wLet u fun u => wLet v fun v => wr u v) :=
  pssW (pss_cons (ps_par hc hN hi hj hij hx hy (ja_cons ha (ja_cons hb ja_nil hs2) hs1) hw hs) (pssE (t := fun (pr : α × β) => RS F ((g.set i (.val A pr.1)).set j (.val B pr.2)) D (wr pr.1 pr.2)) fun pr => hr pr.1 pr.2)) fun D' σ H ⟨e, o, q⟩ => by
    refine ⟨o, fun t => wr t.1 t.2.1, q, fun t vs H1 p s ⟨v, r, e1, r1, v2, r', e2, r2, e3⟩ => ⟨v, v2, by rw [e1, e2, (e3 : r' = [])], (t.1, t.2.1), e, ?_, p⟩⟩
    have k1 : (g.set i (.val A t.1)).Ok F (σ.set i (some v)) H1 := (o.step s).set (t := .val A t.1) ⟨v, rfl, r1⟩
    exact k1.set (t := .val B t.2.1) ⟨v2, rfl, r2⟩
theorem js_expr {e : Expr} {A : Ty α} {we : (α → Prop) → Prop} {wr : Prop} {D : Ends} (he : JE X F g e (rO A) we) (hr : JSs X F g rest D wr) (hs : swapsWith e none pos.line X.env = pure false := by rfl) : JSs X F g (.Expr e pos :: rest) D (we fun _ => wr) :=
  pssW (pss_cons (ps_expr he hs) hr) fun D' σ H ⟨e, o, q⟩ => ⟨o, _, q, fun a v H1 p s r => ⟨e, o.step s, p⟩⟩
/-- xs.append(e) -/
theorem js_app {i j : Nat} {l : Addr} {A : Ty α} {xs : List α} {call : Expr} {we : (α → Prop) → Prop} {wr : α → Prop} {D : Ends} (hm : PE X call (tBM X.K "list" rAppend (tVar i) (tCons (RJ F g (rO A) we) tNil)))
    (hr : ∀ a, JSs X F ⟨g.s, g.c.set j (.lst l A (xs ++ [a]))⟩ rest D (wr a)) (hs : g.s[i]? = some (.at l)) (hc : g.c[j]? = some (.lst l A xs)) (hsw : swapsWith call none pos.line X.env = pure false := by rfl) :
    JSs X F g (.Expr call pos :: rest) D (we fun a => xs.length < 1000000 ∧ wLet a wr) := by
  refine pssW (pss_cons (ps_expr hm hsw) (pssE hr)) fun D' σ H ⟨e, k, q⟩ => ?_
  obtain ⟨vs, hp, r⟩ := k.cell hc
  refine ⟨_, k.ref hs, .inl ⟨rfl, vs, .inl (.inl hp)⟩, k, _, q, fun a v H1 p s ra => ⟨l, vs, v, rfl, rfl, s _ _ hp, ?_, a, e, ?_⟩⟩
  · rw [Paired.len r]
    exact Nat.lt_of_lt_of_le p.1 (by decide)
  · exact ⟨((k.step s).mut hc (Paired.app (Paired.imp (fun _ _ z => A.same (Gm.mono s) z) r) (.cons ra .nil))), p.2⟩
/-! ### loops -/
theorem for_core {K : PySem.W.Frag} {l : Addr} {S : τ → Gm} {xs : List α} {A : Ty α} {b : α → τ → (τ → Prop) → (τ → Prop) → Prop} {wr : τ → Prop} (hp : ∀ s σ H, (S s).Ok F σ H → ∃ vs, SqL K H l vs ∧ Paired (A.rel ((S s).bs F H)) vs xs)
    {gT : TG} {tb : TS} {D : Ends} {σ : L2.St} {H : Hp} {s0 : τ} (h0 : (S s0).Ok F σ H) (hw : wFor b wr xs s0) (hD : ∀ σ H s, (S s).Ok F σ H → wr s → D.nx σ H)
    (hb : ∀ (N : τ → Prop) x v s σ H, (S s).Ok F σ H → A.rel ((S s).bs F H) v x → b x s N wr → gT v σ H fun σ2 H2 => tb ⟨phi F S N, D.rt, D.nx, phi F S N⟩ σ2 H2) :
    ∃ W : Nat → Nat → L2.St → Hp → Prop, (∃ m, W 0 m σ H) ∧ ∀ i m σ H, W i m σ H →
      ((Itl K l).stop i H ∧ D.nx σ H) ∨ ((Itl K l).go i H ∧ ∃ N : L2.St → Hp → Prop, (∀ σ' H', N σ' H' → ∃ m', m' < m ∧ W (i + 1) m' σ' H') ∧ ∀ x H', (Itl K l).yld i H x H' → gT x σ H' fun σ2 H2 => tb { D with nx := N, ct := N, bk := D.nx } σ2 H2) := by
  refine ⟨fun i m σ H => m = xs.length - i ∧ i ≤ xs.length ∧ ∃ s, (S s).Ok F σ H ∧ wFor b wr (xs.drop i) s, ⟨xs.length, by simp, Nat.zero_le _, s0, h0, hw⟩, ?_⟩
  rintro i m σ H ⟨rfl, hi, s, o, w⟩
  obtain ⟨vs, hq, hpr⟩ := hp s σ H o
  by_cases hlt : i < xs.length
  · have hx : xs[i]? = some xs[i] := List.getElem?_eq_getElem hlt
    obtain ⟨v, hv, rv⟩ := Paired.at hpr hx
    rw [List.drop_eq_getElem_cons hlt] at w
    refine .inr ⟨⟨vs, v, hq, hv⟩, phi F S fun s' => wFor b wr (xs.drop (i + 1)) s', fun σ' H' ⟨s', o', w'⟩ => ⟨xs.length - (i + 1), by omega, rfl, hlt, s', o', w'⟩, fun x H' y => ?_⟩
    obtain ⟨e, y⟩ := y
    subst e
    have ev : x = v := Option.some.inj ((y vs hq).symm.trans hv)
    subst ev
    exact hb _ _ _ s _ _ o rv w
  · have e : i = xs.length := by omega
    refine .inl ⟨⟨vs, hq, by rw [Paired.len hpr]; omega⟩, hD σ H s o ?_⟩
    rw [List.drop_of_length_le (by omega)] at w
    exact w
theorem forT_core {K : PySem.W.Frag} {l : Addr} {S : τ → Gm} {xs : List α} {A : Ty α} {b : α → τ → (τ → Prop) → (τ → Prop) → Prop} {wr : τ → Prop} (hp : ∀ s σ H, (S s).Ok F σ H → ∃ vs, SqT K H l vs ∧ Paired (A.rel ((S s).bs F H)) vs xs)
    {gT : TG} {tb : TS} {D : Ends} {σ : L2.St} {H : Hp} {s0 : τ} (h0 : (S s0).Ok F σ H) (hw : wFor b wr xs s0) (hD : ∀ σ H s, (S s).Ok F σ H → wr s → D.nx σ H)
    (hb : ∀ (N : τ → Prop) x v s σ H, (S s).Ok F σ H → A.rel ((S s).bs F H) v x → b x s N wr → gT v σ H fun σ2 H2 => tb ⟨phi F S N, D.rt, D.nx, phi F S N⟩ σ2 H2) :
    ∃ W : Nat → Nat → L2.St → Hp → Prop, (∃ m, W 0 m σ H) ∧ ∀ i m σ H, W i m σ H →
      ((Itt K l).stop i H ∧ D.nx σ H) ∨ ((Itt K l).go i H ∧ ∃ N : L2.St → Hp → Prop, (∀ σ' H', N σ' H' → ∃ m', m' < m ∧ W (i + 1) m' σ' H') ∧ ∀ x H', (Itt K l).yld i H x H' → gT x σ H' fun σ2 H2 => tb { D with nx := N, ct := N, bk := D.nx } σ2 H2) := by
  refine ⟨fun i m σ H => m = xs.length - i ∧ i ≤ xs.length ∧ ∃ s, (S s).Ok F σ H ∧ wFor b wr (xs.drop i) s, ⟨xs.length, by simp, Nat.zero_le _, s0, h0, hw⟩, ?_⟩
  rintro i m σ H ⟨rfl, hi, s, o, w⟩
  obtain ⟨vs, hq, hpr⟩ := hp s σ H o
  by_cases hlt : i < xs.length
  · have hx : xs[i]? = some xs[i] := List.getElem?_eq_getElem hlt
    obtain ⟨v, hv, rv⟩ := Paired.at hpr hx
    rw [List.drop_eq_getElem_cons hlt] at w
    refine .inr ⟨⟨vs, v, hq, hv⟩, phi F S fun s' => wFor b wr (xs.drop (i + 1)) s', fun σ' H' ⟨s', o', w'⟩ => ⟨xs.length - (i + 1), by omega, rfl, hlt, s', o', w'⟩, fun x H' y => ?_⟩
    obtain ⟨e, y⟩ := y
    subst e
    have ev : x = v := Option.some.inj ((y vs hq).symm.trans hv)
    subst ev
    exact hb _ _ _ s _ _ o rv w
  · have e : i = xs.length := by omega
    refine .inl ⟨⟨vs, hq, by rw [Paired.len hpr]; omega⟩, hD σ H s o ?_⟩
    rw [List.drop_of_length_le (by omega)] at w
    exact w
theorem range_getI {lo : Int} {n i : Nat} (h : i < n) : ((List.range n).map fun (j : Nat) => lo + (j : Int))[i]? = some (lo + (i : Int)) := by
  rw [List.getElem?_map, List.getElem?_range h]
  rfl
theorem forR_core {S : τ → Gm} {lo : Int} {n : Nat} {b : Int → τ → (τ → Prop) → (τ → Prop) → Prop} {wr : τ → Prop}
    {gT : TG} {tb : TS} {D : Ends} {σ : L2.St} {H : Hp} {s0 : τ} (h0 : (S s0).Ok F σ H) (hw : wFor b wr ((List.range n).map fun (j : Nat) => lo + (j : Int)) s0) (hD : ∀ σ H s, (S s).Ok F σ H → wr s → D.nx σ H)
    (hb : ∀ (N : τ → Prop) x s σ H, (S s).Ok F σ H → b x s N wr → gT (.int x) σ H fun σ2 H2 => tb ⟨phi F S N, D.rt, D.nx, phi F S N⟩ σ2 H2) :
    ∃ W : Nat → Nat → L2.St → Hp → Prop, (∃ m, W 0 m σ H) ∧ ∀ i m σ H, W i m σ H →
      ((Itr lo n).stop i H ∧ D.nx σ H) ∨ ((Itr lo n).go i H ∧ ∃ N : L2.St → Hp → Prop, (∀ σ' H', N σ' H' → ∃ m', m' < m ∧ W (i + 1) m' σ' H') ∧ ∀ x H', (Itr lo n).yld i H x H' → gT x σ H' fun σ2 H2 => tb { D with nx := N, ct := N, bk := D.nx } σ2 H2) := by
  have hl : ((List.range n).map fun (j : Nat) => lo + (j : Int)).length = n := by rw [List.length_map, List.length_range]
  refine ⟨fun i m σ H => m = n - i ∧ i ≤ n ∧ ∃ s, (S s).Ok F σ H ∧ wFor b wr (((List.range n).map fun (j : Nat) => lo + (j : Int)).drop i) s, ⟨n, by simp, Nat.zero_le _, s0, h0, hw⟩, ?_⟩
  rintro i m σ H ⟨rfl, hi, s, o, w⟩
  by_cases hlt : i < n
  · have hlt' : i < ((List.range n).map fun (j : Nat) => lo + (j : Int)).length := by rw [hl]; exact hlt
    rw [List.drop_eq_getElem_cons hlt'] at w
    have ex : ((List.range n).map fun (j : Nat) => lo + (j : Int))[i] = lo + (i : Int) := Option.some.inj ((List.getElem?_eq_getElem hlt').symm.trans (range_getI hlt))
    rw [ex] at w
    refine .inr ⟨hlt, phi F S fun s' => wFor b wr (((List.range n).map fun (j : Nat) => lo + (j : Int)).drop (i + 1)) s', fun σ' H' ⟨s', o', w'⟩ => ⟨n - (i + 1), by omega, rfl, hlt, s', o', w'⟩, fun x H' y => ?_⟩
    obtain ⟨e, y⟩ := y
    subst e y
    exact hb _ _ s _ _ o w
  · refine .inl ⟨by show n ≤ i; omega, hD σ H s o ?_⟩
    rw [List.drop_of_length_le (by omega)] at w
    exact w
section
variable {tg iter : Expr} {body : List Stmt} {A : Ty α} {gT : TG} {tr : Gm → α → Gm} {b : α → τ → (τ → Prop) → (τ → Prop) → Prop} {wr : τ → Prop} {s0 : τ} {wl : (List α → Prop) → Prop}
/-- for x in the list of a name's cell, that the loop leaves as it is -/
theorem js_forC {S : τ → Gm} {i j : Nat} {l : Addr} {xs : List α} {x : Str} {px : Pos} (hs : g.s[i]? = some (.at l)) (hS : Sub g (S s0)) (hc : ∀ s, (S s).c[j]? = some (.lst l A xs))
    (hg : PG X tg gT) (ht : TgOk A gT tr) (hb : ∀ (N B : τ → Prop) a s, JSs X F (tr (S s) a) body ⟨phi F S N, rt, phi F S B, phi F S N⟩ (b a s N B)) (hr : ∀ s, JSs X F (S s) rest ⟨nx, rt, bk, ct⟩ (wr s))
    (hpo : PassesOwn (model X.prog X.w) X.A X.env X.xe) (hN : X.N[i]? = some x := by rfl) (hv : Vis X.env.scope x := by first | exact Or.inl rfl | exact Or.inr (Or.inl rfl) | exact Or.inr (Or.inr rfl)) (hd : (x == ("__debug__" : Str)) = false := by decide) (hcd : (x == ("__classdict__" : Str)) = false := by decide)
    (hca : X.calm = true := by rfl) (hfs : ∀ y, foldedSetIterable (.Name x px) X.env y = pure y := by intro _; rfl) :
    JSs X F g (.For tg (.Name x px) body [] pos :: rest) ⟨nx, rt, bk, ct⟩ (wFor b wr xs s0) := by
  refine pssW (pss_cons (ps_for hpo hca (pi_list (pe_var hN hv hd hcd)) hg (pssE (t := fun (q : (τ → Prop) × α × τ) => RS F (tr (S q.2.2) q.2.1) ⟨phi F S q.1, rt, phi F S wr, phi F S q.1⟩ (b q.2.1 q.2.2 q.1 wr)) fun q => hb q.1 wr q.2.1 q.2.2) hfs) (pssE hr)) fun D σ H ⟨e, k, w⟩ => ?_
  have k0 := hS.ok k
  have hp : ∀ s σ H, (S s).Ok F σ H → ∃ vs, SqL X.K H l vs ∧ Paired (A.rel ((S s).bs F H)) vs xs := fun s σ H o => by
    obtain ⟨us, h2, r2⟩ := o.cell (hc s)
    exact ⟨us, .inl (.inl h2), r2⟩
  obtain ⟨us, h2, r2⟩ := hp _ _ _ k0
  refine ⟨.ref l, k.ref hs, l, rfl, ⟨us, h2⟩, for_core (A := A) (D := ⟨_, D.rt, D.bk, D.ct⟩) (S := S) hp k0 w ?_ fun N x u s σ H o ru q => ?_⟩
  · exact fun σ H s o q => ⟨s, e, o, q⟩
  exact ht F _ σ H u x _ o ru fun σ' o' => ⟨(N, x, s), ⟨fun _ _ z => z, e.rt, fun _ _ ⟨s, o, q⟩ => ⟨s, e, o, q⟩, fun _ _ z => z⟩, o', q⟩
/-- for x in a list that is not changed any more -/
theorem js_forL {S : V → List α → τ → Gm} {j : Nat} (hl : JE X F g iter (rO (tK A)) wl) (hS : ∀ v xs, Sub (g.push (.fix (tK A) v xs)) (S v xs s0)) (hc : ∀ v xs s, (S v xs s).c[j]? = some (.fix (tK A) v xs))
    (hg : PG X tg gT) (ht : TgOk A gT tr) (hb : ∀ v xs (N B : τ → Prop) a s, JSs X F (tr (S v xs s) a) body ⟨phi F (S v xs) N, rt, phi F (S v xs) B, phi F (S v xs) N⟩ (b a s N B)) (hr : ∀ v xs s, JSs X F (S v xs s) rest ⟨nx, rt, bk, ct⟩ (wr s))
    (hpo : PassesOwn (model X.prog X.w) X.A X.env X.xe) (hca : X.calm = true := by rfl) (hfs : ∀ x, foldedSetIterable iter X.env x = pure x := by intro _; rfl) :
    JSs X F g (.For tg iter body [] pos :: rest) ⟨nx, rt, bk, ct⟩ (wl fun xs => wLet xs fun xs => wFor b wr xs s0) := by
  refine pssW (pss_cons (ps_for hpo hca (pi_list hl) hg (pssE (t := fun (q : V × List α × (τ → Prop) × α × τ) => RS F (tr (S q.1 q.2.1 q.2.2.2.2) q.2.2.2.1) ⟨phi F (S q.1 q.2.1) q.2.2.1, rt, phi F (S q.1 q.2.1) wr, phi F (S q.1 q.2.1) q.2.2.1⟩ (b q.2.2.2.1 q.2.2.2.2 q.2.2.1 wr)) fun q => hb q.1 q.2.1 q.2.2.1 wr q.2.2.2.1 q.2.2.2.2) hfs)
    (pssE (t := fun (q : V × List α × τ) => RS F (S q.1 q.2.1 q.2.2) ⟨nx, rt, bk, ct⟩ (wr q.2.2)) fun q => hr q.1 q.2.1 q.2.2)) fun D σ H ⟨e, k, w⟩ => ?_
  refine ⟨k, _, w, fun xs v H1 w1 s1 r => ?_⟩
  obtain ⟨l, vs, ev, hq, hr1⟩ := id r
  refine ⟨l, ev, ⟨vs, .inl (.inl ((k.step s1).le _ _ hq))⟩, ?_⟩
  refine for_core (A := A) (D := ⟨_, D.rt, D.bk, D.ct⟩) (S := S v xs) (fun s σ H o => ?_) ((hS v xs).ok ((k.step s1).fixed r)) w1 ?_ fun N x u s σ H o ru q => ?_
  · obtain ⟨l2, us, e2, h2, r2⟩ := (show (tK A).rel ((S v xs s).bs F H) v xs from o.cells _ (List.mem_of_getElem? (hc v xs s)))
    rw [ev] at e2
    have e3 : l = l2 := V.ref.inj e2
    subst e3
    exact ⟨us, .inl (.inl (o.le _ _ h2)), r2⟩
  · exact fun σ H s o q => ⟨(v, xs, s), e, o, q⟩
  · exact ht F _ σ H u x _ o ru fun σ' o' => ⟨(v, xs, N, x, s), ⟨fun _ _ z => z, e.rt, fun _ _ ⟨s, o, q⟩ => ⟨(v, xs, s), e, o, q⟩, fun _ _ z => z⟩, o', q⟩
/-- for x in a tuple -/
theorem js_forT {S : V → List α → τ → Gm} {j : Nat} (hl : JE X F g iter (rO (tT X.K (aV A))) wl) (hS : ∀ v xs, Sub (g.push (.fix (tT X.K (aV A)) v xs)) (S v xs s0)) (hc : ∀ v xs s, (S v xs s).c[j]? = some (.fix (tT X.K (aV A)) v xs))
    (hg : PG X tg gT) (ht : TgOk A gT tr) (hb : ∀ v xs (N B : τ → Prop) a s, JSs X F (tr (S v xs s) a) body ⟨phi F (S v xs) N, rt, phi F (S v xs) B, phi F (S v xs) N⟩ (b a s N B)) (hr : ∀ v xs s, JSs X F (S v xs s) rest ⟨nx, rt, bk, ct⟩ (wr s))
    (hpo : PassesOwn (model X.prog X.w) X.A X.env X.xe) (hca : X.calm = true := by rfl) (hfs : ∀ x, foldedSetIterable iter X.env x = pure x := by intro _; rfl) :
    JSs X F g (.For tg iter body [] pos :: rest) ⟨nx, rt, bk, ct⟩ (wl fun xs => wLet xs fun xs => wFor b wr xs s0) := by
  refine pssW (pss_cons (ps_for hpo hca (pi_tup hl) hg (pssE (t := fun (q : V × List α × (τ → Prop) × α × τ) => RS F (tr (S q.1 q.2.1 q.2.2.2.2) q.2.2.2.1) ⟨phi F (S q.1 q.2.1) q.2.2.1, rt, phi F (S q.1 q.2.1) wr, phi F (S q.1 q.2.1) q.2.2.1⟩ (b q.2.2.2.1 q.2.2.2.2 q.2.2.1 wr)) fun q => hb q.1 q.2.1 q.2.2.1 wr q.2.2.2.1 q.2.2.2.2) hfs)
    (pssE (t := fun (q : V × List α × τ) => RS F (S q.1 q.2.1 q.2.2) ⟨nx, rt, bk, ct⟩ (wr q.2.2)) fun q => hr q.1 q.2.1 q.2.2)) fun D σ H ⟨e, k, w⟩ => ?_
  refine ⟨k, _, w, fun xs v H1 w1 s1 r => ?_⟩
  obtain ⟨l, vs, ev, hq, hr1⟩ := id r
  refine ⟨l, ev, ⟨vs, (k.step s1).le.sqT' hq⟩, ?_⟩
  refine forT_core (A := A) (D := ⟨_, D.rt, D.bk, D.ct⟩) (S := S v xs) (fun s σ H o => ?_) ((hS v xs).ok ((k.step s1).fixed r)) w1 ?_ fun N x u s σ H o ru q => ?_
  · obtain ⟨l2, us, e2, h2, r2⟩ := (show (tT X.K (aV A)).rel ((S v xs s).bs F H) v xs from o.cells _ (List.mem_of_getElem? (hc v xs s)))
    rw [ev] at e2
    have e3 : l = l2 := V.ref.inj e2
    subst e3
    exact ⟨us, o.le.sqT' h2, r2⟩
  · exact fun σ H s o q => ⟨(v, xs, s), e, o, q⟩
  · exact ht F _ σ H u x _ o ru fun σ' o' => ⟨(v, xs, N, x, s), ⟨fun _ _ z => z, e.rt, fun _ _ ⟨s, o, q⟩ => ⟨(v, xs, s), e, o, q⟩, fun _ _ z => z⟩, o', q⟩
end
section
variable {tg : Expr} {body : List Stmt} {gT : TG} {tr : Gm → Int → Gm} {b : Int → τ → (τ → Prop) → (τ → Prop) → Prop} {wr : τ → Prop} {s0 : τ}
/-- for i in range(n), range(a, b) -/
theorem js_forR {S : τ → Gm} {e : Expr} {p pr : Pos} {we : (Int → Prop) → Prop} (hg0 : Gl X "range") (hm : X.mg "range" = none) (he : JE X F g e (rO tI) we) (hS : Sub g (S s0)) (hg : PG X tg gT) (ht : TgOk tI gT tr)
    (hb : ∀ (N B : τ → Prop) a s, JSs X F (tr (S s) a) body ⟨phi F S N, rt, phi F S B, phi F S N⟩ (b a s N B)) (hr : ∀ s, JSs X F (S s) rest ⟨nx, rt, bk, ct⟩ (wr s))
    (hpo : PassesOwn (model X.prog X.w) X.A X.env X.xe) (hca : X.calm = true := by rfl) (hst : starEach [e] X.env = (false, eval e X.env) :: starEach [] X.env := by rfl) (hst2 : starEach [e] X.env = [(false, eval e X.env)] := by rfl) (hfs : ∀ y, foldedSetIterable (.Call (.Name "range" p) [e] [] pr) X.env y = pure y := by intro _; rfl) :
    JSs X F g (.For tg (.Call (.Name "range" p) [e] [] pr) body [] pos :: rest) ⟨nx, rt, bk, ct⟩ (we fun n => (-(2 ^ 62) ≤ n ∧ n < 2 ^ 62) ∧ wFor b wr (rangeI 0 n) s0) := by
  refine pssW (pss_cons (ps_for hpo hca (pi_range1 hg0 hm (pa_cons he pa_nil hst) hst2) hg (pssE (t := fun (q : (τ → Prop) × Int × τ) => RS F (tr (S q.2.2) q.2.1) ⟨phi F S q.1, rt, phi F S wr, phi F S q.1⟩ (b q.2.1 q.2.2 q.1 wr)) fun q => hb q.1 wr q.2.1 q.2.2) hfs) (pssE hr)) fun D σ H ⟨e, k, w⟩ => ?_
  refine ⟨k, _, w, fun n v H1 ⟨⟨w1, w2⟩, w3⟩ s1 r1 => ⟨n, by rw [(r1 : v = _)], w1, w2, ?_⟩⟩
  have en : (n - 0).toNat = n.toNat := by rw [Int.sub_zero]
  unfold rangeI at w3
  rw [en] at w3
  refine forR_core (D := ⟨_, D.rt, D.bk, D.ct⟩) (S := S) (hS.ok (k.step s1)) w3 ?_ fun N x s σ H o q => ?_
  · exact fun σ H s o q => ⟨s, e, o, q⟩
  exact ht F _ σ H (.int x) x _ o rfl fun σ' o' => ⟨(N, x, s), ⟨fun _ _ z => z, e.rt, fun _ _ ⟨s, o, q⟩ => ⟨s, e, o, q⟩, fun _ _ z => z⟩, o', q⟩
theorem js_forR2 {S : τ → Gm} {e e2 : Expr} {p pr : Pos} {we we2 : (Int → Prop) → Prop} (hg0 : Gl X "range") (hm : X.mg "range" = none) (he : JE X F g e (rO tI) we) (he2 : JE X F g e2 (rO tI) we2) (hS : Sub g (S s0)) (hg : PG X tg gT) (ht : TgOk tI gT tr)
    (hb : ∀ (N B : τ → Prop) a s, JSs X F (tr (S s) a) body ⟨phi F S N, rt, phi F S B, phi F S N⟩ (b a s N B)) (hr : ∀ s, JSs X F (S s) rest ⟨nx, rt, bk, ct⟩ (wr s)) (hpi : PI X tg (.Call (.Name "range" p) [e, e2] [] pr) (iRng2 (tCons (RJ F g (rO tI) we) (tCons (RJ F g (rO tI) we2) tNil))))
    (hpo : PassesOwn (model X.prog X.w) X.A X.env X.xe) (hca : X.calm = true := by rfl) (hfs : ∀ y, foldedSetIterable (.Call (.Name "range" p) [e, e2] [] pr) X.env y = pure y := by intro _; rfl) :
    JSs X F g (.For tg (.Call (.Name "range" p) [e, e2] [] pr) body [] pos :: rest) ⟨nx, rt, bk, ct⟩ (we fun n => we2 fun m => (-(2 ^ 62) ≤ n ∧ n < 2 ^ 62 ∧ -(2 ^ 62) ≤ m ∧ m < 2 ^ 62) ∧ wFor b wr (rangeI n m) s0) := by
  refine pssW (pss_cons (ps_for hpo hca hpi hg (pssE (t := fun (q : (τ → Prop) × Int × τ) => RS F (tr (S q.2.2) q.2.1) ⟨phi F S q.1, rt, phi F S wr, phi F S q.1⟩ (b q.2.1 q.2.2 q.1 wr)) fun q => hb q.1 wr q.2.1 q.2.2) hfs) (pssE hr)) fun D σ H ⟨e, k, w⟩ => ?_
  refine ⟨k, _, w, fun n v H1 w1 s1 r1 => ⟨k.step s1, _, w1, fun m v2 H2 ⟨w2, w3⟩ s2 r2 => ⟨n, m, by rw [(r1 : v = _), (r2 : v2 = _)], w2, ?_⟩⟩⟩
  unfold rangeI at w3
  refine forR_core (D := ⟨_, D.rt, D.bk, D.ct⟩) (S := S) (hS.ok (k.step (s1.trans s2))) w3 ?_ fun N x s σ H o q => ?_
  · exact fun σ H s o q => ⟨s, e, o, q⟩
  exact ht F _ σ H (.int x) x _ o rfl fun σ' o' => ⟨(N, x, s), ⟨fun _ _ z => z, e.rt, fun _ _ ⟨s, o, q⟩ => ⟨s, e, o, q⟩, fun _ _ z => z⟩, o', q⟩
end
theorem ptE {e : Expr} {t : τ → TT} (h : ∀ a, PT X e (t a)) : PT X e (fun σ H Q => ∃ a, t a σ H Q) := ⟨fun p s σ H Q I ⟨a, q⟩ => (h a).run p s σ H Q I q⟩
theorem js_while {test : Expr} {body : List Stmt} {S : τ → Gm} {s0 : τ} {wt : τ → Prop → Prop → Prop} {b : τ → (τ → Prop) → (τ → Prop) → Prop} {wr : τ → Prop} (hS : Sub g (S s0)) (ht : ∀ s, JT X F (S s) test (wt s))
    (hb : ∀ (N B : τ → Prop) s, JSs X F (S s) body ⟨phi F S N, rt, phi F S B, phi F S N⟩ (b s N B)) (hr : ∀ s, JSs X F (S s) rest ⟨nx, rt, bk, ct⟩ (wr s)) (hpo : PassesOwn (model X.prog X.w) X.A X.env X.xe) :
    JSs X F g (.While test body [] pos :: rest) ⟨nx, rt, bk, ct⟩ (wWhile wt b wr s0) := by
  refine pssW (pss_cons (ps_while hpo (ptE ht) (pssE (t := fun (q : (τ → Prop) × τ) => RS F (S q.2) ⟨phi F S q.1, rt, phi F S wr, phi F S q.1⟩ (b q.2 q.1 wr)) fun q => hb q.1 wr q.2)) (pssE hr)) fun D σ H ⟨e, k, I, m, i0, turn⟩ => ?_
  refine ⟨fun n σ H => ∃ s, (S s).Ok F σ H ∧ I s ∧ n = m s, ⟨m s0, s0, hS.ok k, i0, rfl⟩, ?_⟩
  rintro n σ1 H1 ⟨s, o, hi, rfl⟩
  refine ⟨s, o, _, _, turn s hi, fun x H2 s2 => ?_, fun x H2 s2 => ?_⟩
  · show ∃ N : L2.St → Hp → Prop, _
    refine ⟨phi F S fun s' => I s' ∧ m s' < m s, fun σ' H' ⟨s', o', i', l'⟩ => ⟨m s', l', s', o', i', rfl⟩, ?_⟩
    exact ⟨(fun s' => I s' ∧ m s' < m s, s), ⟨fun _ _ z => z, e.rt, fun _ _ ⟨s, o, q⟩ => ⟨s, e, o, q⟩, fun _ _ z => z⟩, o.step s2, x⟩
  · show ∃ a, _
    exact ⟨s, e, o.step s2, x⟩
end
end
end J
/-! A4: kinds seen by isinstance, options, ends -/
namespace J
open PySem PySem.Spec L2
section
variable {X : Cx} {F : Fr} {g : Gm} {α β γ δ ρ τ : Type} {K : PySem.W.Frag}
theorem tyI : TyOfA K tI "int" := fun H v a h => by
  have e : v = .int a := h
  subst e
  exact .base (.int a)
theorem tyB : TyOfA K tB "bool" := fun H v a h => by
  have e : v = .bl a := h
  subst e
  exact .base (.bl a)
theorem tyS : TyOfA K tS "str" := fun H v a h => by
  have e : v = .str a := h
  subst e
  exact .base (.str a)
theorem tyT {T : ATy τ} : TyOfA K (tT K T) "tuple" := fun H v t ⟨a, vs, e, h, r⟩ => by
  subst e
  rcases h with (h | ⟨o, h⟩) | ⟨o, its, n, h1, h2, _⟩
  · exact .base (.tup h)
  · exact .fTuple h
  · exact .kTuple h1 h2
theorem tyL {A : Ty α} : TyOfA K (tL K A) "list" := fun H v t ⟨a, vs, e, h, r⟩ => by
  subst e
  rcases h with (h | ⟨o, h⟩) | ⟨o, its, n, h1, h2, _⟩
  · exact .base (.lst h)
  · exact .base (.frz h)
  · exact .kList h1 h2
theorem tyK {A : Ty α} : TyOfA K (tK A) "list" := fun H v t ⟨a, vs, e, h, r⟩ => by
  subst e
  exact .base (.lst h)
/-- an option that is there -/
theorem je_get {A : Ty α} {e : Expr} {w : (Option α → Prop) → Prop} (h : JE X F g e (rO (tO A)) w) : JE X F g e (rO A) (fun k => w fun o => ∃ a, o = some a ∧ k a) :=
  peW h fun σ H Q ⟨k, P, hw, q⟩ => ⟨k, _, hw, fun o v H' ⟨a, e, p⟩ s r => by
    subst e
    exact q a v H' p s r.1⟩
theorem nn_T {T : ATy τ} : ∀ (H : Hp) (a : τ), ¬ (tT K T).rel H .non a := fun H a ⟨_, _, e, _⟩ => by cases e
theorem nn_I : ∀ (H : Hp) (a : Int), ¬ (tI).rel H .non a := fun H a e => by cases (e : V.non = V.int a)
theorem nn_K {A : Ty α} : ∀ (H : Hp) (a : List α), ¬ (tK A).rel H .non a := fun H a ⟨_, _, e, _⟩ => by cases e
theorem nn_L {A : Ty α} : ∀ (H : Hp) (a : List α), ¬ (tL K A).rel H .non a := fun H a ⟨_, _, e, _⟩ => by cases e
/-- lengths of tuples -/
theorem len_a2 {A : Ty α} {B : Ty β} : ∀ H vs t, (a2 A B).rel H vs t → vs.length = (fun _ => 2) t := fun H vs t ⟨_, _, e, _⟩ => by rw [e]; rfl
theorem len_a3 {A : Ty α} {B : Ty β} {C : Ty γ} : ∀ H vs t, (a3 A B C).rel H vs t → vs.length = (fun _ => 3) t := fun H vs t ⟨_, _, _, e, _⟩ => by rw [e]; rfl
theorem len_a4 {A : Ty α} {B : Ty β} {C : Ty γ} {E : Ty δ} : ∀ H vs t, (a4 A B C E).rel H vs t → vs.length = (fun _ => 4) t := fun H vs t ⟨_, _, _, _, e, _⟩ => by rw [e]; rfl
theorem len_aV {A : Ty α} : ∀ H vs (t : List α), (aV A).rel H vs t → vs.length = (fun (t : List α) => t.length) t := fun H vs t h => Paired.len h
end
/-- the promise of a law's own def -/
def spLaw (K : PySem.W.Frag) : Sp := fun vs H Q _ => ∃ (a : Addr) (ns : List Int), vs = [.ref a] ∧ SqL K H a (ns.map V.int) ∧ ns.length ≤ 63 ∧ ∀ H', Q (.bl true) H'
theorem law_of {K : PySem.W.Frag} {w : List Int × Unit → (Bool → Prop) → Prop} (h : ∀ ns : List Int, ns.length ≤ 63 → w (ns, ()) (fun b => b = true)) : ∀ vs H Q E, spLaw K vs H Q E → spJ (aC (tL K tI) aN) (rO tB) w vs H Q E :=
  fun vs H Q E ⟨a, ns, e, hs, hl, q⟩ => ⟨(ns, ()), fun b => b = true, Fr.all H, rfl, ⟨.ref a, [], e, ⟨a, _, rfl, hs, paired_ints ns⟩, rfl⟩, h ns hl, fun r v H' p s rr => by
    have e1 : v = .bl r := rr
    subst e1
    rw [p]
    exact q H'⟩
end J
/-! A5: list comprehensions -/
namespace J
open PySem PySem.Spec L2
section
variable {X : Cx} {F : Fr} {g : Gm} {α β γ δ ρ τ : Type}
def tExE (t : τ → TE) : TE := fun σ H Q => ∃ a, t a σ H Q
theorem peE {e : Expr} {t : τ → TE} (h : ∀ a, PE X e (t a)) : PE X e (tExE t) := ⟨fun p s σ H Q I ⟨a, q⟩ => (h a).run p s σ H Q I q⟩
theorem piW {tg e : Expr} {w w' : TI} (h : PI X tg e w) (k : ∀ σ H R, w' σ H R → w σ H R) : PI X tg e w' := ⟨fun p s σ H R I q => h.run p s σ H R I (k _ _ _ q)⟩
/-- what an iterator shows of a list of data; as: the addresses of what may change -/
def ItAt (F : Fr) (as : List Addr) (J : It) (A : Ty α) (xs : List α) (H : Hp) : Prop :=
  (∀ i x, xs[i]? = some x → J.go i H ∧ ∀ v H', J.yld i H v H' → Same H H' ∧ A.rel (bsA F as H') v x) ∧ ∀ i, xs.length ≤ i → J.stop i H
theorem itl_at {as : List Addr} {K : PySem.W.Frag} {l : Addr} {vs : List V} {xs : List α} {A : Ty α} {H : Hp} (h : SqL K H l vs) (r : Paired (A.rel (bsA F as H)) vs xs) : ItAt F as (Itl K l) A xs H :=
  ⟨fun i x e => by
    obtain ⟨v, hv, rv⟩ := Paired.at r e
    refine ⟨⟨vs, v, h, hv⟩, fun u H' ⟨e1, e2⟩ => ?_⟩
    subst e1
    refine ⟨Same.refl _, ?_⟩
    have := Option.some.inj ((e2 vs h).symm.trans hv)
    rw [this]
    exact rv, fun i hi => ⟨vs, h, by rw [Paired.len r]; exact hi⟩⟩
theorem itt_at {as : List Addr} {K : PySem.W.Frag} {l : Addr} {vs : List V} {xs : List α} {A : Ty α} {H : Hp} (h : SqT K H l vs) (r : Paired (A.rel (bsA F as H)) vs xs) : ItAt F as (Itt K l) A xs H :=
  ⟨fun i x e => by
    obtain ⟨v, hv, rv⟩ := Paired.at r e
    refine ⟨⟨vs, v, h, hv⟩, fun u H' ⟨e1, e2⟩ => ?_⟩
    subst e1
    refine ⟨Same.refl _, ?_⟩
    have := Option.some.inj ((e2 vs h).symm.trans hv)
    rw [this]
    exact rv, fun i hi => ⟨vs, h, by rw [Paired.len r]; exact hi⟩⟩
theorem itr_at {as : List Addr} {lo hi : Int} {H : Hp} : ItAt F as (Itr lo (hi - lo).toNat) tI (rangeI lo hi) H := by
  have hl : (rangeI lo hi).length = (hi - lo).toNat := by unfold rangeI; rw [List.length_map, List.length_range]
  refine ⟨fun i x e => ?_, fun i h => by rw [hl] at h; exact h⟩
  have h1 := (List.getElem?_eq_some_iff.mp e).1
  rw [hl] at h1
  have e2 : (rangeI lo hi)[i]? = some (lo + (i : Int)) := range_getI h1
  rw [e] at e2
  have e3 := Option.some.inj e2
  refine ⟨h1, fun v H' ⟨a, b⟩ => ?_⟩
  subst a
  exact ⟨Same.refl _, by rw [e3]; exact b⟩
def wipeS (s : List Slot) : List Nat → List Slot
  | [] => s
  | v :: vs => (wipeS s vs).set v .any
abbrev wipeG (g : Gm) (vs : List Nat) : Gm := ⟨wipeS g.s vs, g.c⟩
theorem par_wipe {H : Hp} {σ : L2.St} {s : List Slot} (h : Par H σ s) : ∀ vs, Par H (wipe σ vs) (wipeS s vs)
  | [] => h
  | v :: vs => Par.set (t := .any) trivial v (par_wipe h vs)
theorem Gm.Ok.wipe {σ : L2.St} {H : Hp} (k : g.Ok F σ H) (vs : List Nat) : (wipeG g vs).Ok F (wipe σ vs) H := ⟨k.same, par_wipe k.slots vs, k.nd, k.cells⟩
/-- what a comprehension walks -/
def RI (F : Fr) (g : Gm) (A : Ty α) (wl : (List α → Prop) → Prop) (vs : List Nat) : TI := fun σ H R => g.Ok F σ H ∧ ∃ P, wl P ∧ ∀ xs J cs H', P xs → Same H H' → (∀ c ∈ cs, Cell.addr c = none) → (⟨g.s, cs ++ g.c⟩ : Gm).Ok F σ H' →
  (∀ σ H (l : List Cell), (wipeG ⟨g.s, l ++ (cs ++ g.c)⟩ vs).Ok F σ H → ItAt F (⟨g.s, l ++ (cs ++ g.c)⟩ : Gm).ad J A xs H) → R J H'
section
variable {tg iter : Expr} {A : Ty α} {wl : (List α → Prop) → Prop} {vs : List Nat}
theorem mem_mid {c : Cell} {l cs r : List Cell} : c ∈ l ++ ((c :: cs) ++ r) := List.mem_append_right _ (List.mem_append_left _ List.mem_cons_self)
theorem ji_L (hl : JE X F g iter (rO (tK A)) wl) : PI X tg iter (RI F g A wl vs) :=
  piW (pi_list hl) fun σ H R ⟨k, P, w, q⟩ => ⟨k, P, w, fun xs v H1 p s r => by
    obtain ⟨l, us, ev, h1, _⟩ := id r
    refine ⟨l, ev, ⟨us, .inl (.inl ((k.step s).le _ _ h1))⟩, q xs _ [.fix (tK A) v xs] H1 p s (fun c hc => by cases List.mem_singleton.mp hc; rfl) ((k.step s).fixed r) fun σ' H' l' o => ?_⟩
    obtain ⟨l2, ws, e2, h2, r2⟩ := (show (tK A).rel _ v xs from o.cells (.fix (tK A) v xs) mem_mid)
    rw [ev] at e2
    have e3 : l = l2 := V.ref.inj e2
    subst e3
    exact itl_at (.inl (.inl (o.le _ _ h2))) r2⟩
theorem ji_C {i j : Nat} {l : Addr} {xs : List α} {x : Str} {px : Pos} (hs : g.s[i]? = some (.at l)) (hc : g.c[j]? = some (.lst l A xs)) (hN : X.N[i]? = some x := by rfl) (hv : Vis X.env.scope x := by first | exact Or.inl rfl | exact Or.inr (Or.inl rfl) | exact Or.inr (Or.inr rfl)) (hd : (x == ("__debug__" : Str)) = false := by decide) (hcd : (x == ("__classdict__" : Str)) = false := by decide) :
    PI X tg (.Name x px) (RI F g A (fun k => k xs) vs) :=
  piW (pi_list (pe_var hN hv hd hcd)) fun σ H R ⟨k, P, w, q⟩ => by
    obtain ⟨us, h2, r2⟩ := k.cell hc
    refine ⟨.ref l, k.ref hs, l, rfl, ⟨us, .inl (.inl h2)⟩, q xs _ [] H w (Same.refl H) (fun c hc => by cases hc) k fun σ' H' l' o => ?_⟩
    obtain ⟨_, ws, h3, r3⟩ := o.cells _ (List.mem_append_right _ (List.mem_append_right _ (List.mem_of_getElem? hc)))
    exact itl_at (.inl (.inl h3)) r3
theorem ji_T (hl : JE X F g iter (rO (tT X.K (aV A))) wl) : PI X tg iter (RI F g A wl vs) :=
  piW (pi_tup hl) fun σ H R ⟨k, P, w, q⟩ => ⟨k, P, w, fun xs v H1 p s r => by
    obtain ⟨l, us, ev, hq, hr⟩ := id r
    refine ⟨l, ev, ⟨us, (k.step s).le.sqT' hq⟩, q xs _ [.fix (tT X.K (aV A)) v xs] H1 p s (fun c hc => by cases List.mem_singleton.mp hc; rfl) ((k.step s).fixed r) fun σ' H' l' o => ?_⟩
    obtain ⟨l2, ws, e2, h2, r2⟩ := (show (tT X.K (aV A)).rel _ v xs from o.cells (.fix (tT X.K (aV A)) v xs) mem_mid)
    rw [ev] at e2
    have e3 : l = l2 := V.ref.inj e2
    subst e3
    exact itt_at (o.le.sqT' h2) r2⟩
theorem ji_R {e : Expr} {p pr : Pos} {we : (Int → Prop) → Prop} (hg0 : Gl X "range") (hm : X.mg "range" = none) (he : JE X F g e (rO tI) we) (hst : starEach [e] X.env = (false, eval e X.env) :: starEach [] X.env := by rfl) (hst2 : starEach [e] X.env = [(false, eval e X.env)] := by rfl) :
    PI X tg (.Call (.Name "range" p) [e] [] pr) (RI F g tI (fun k => we fun n => (-(2 ^ 62) ≤ n ∧ n < 2 ^ 62) ∧ k (rangeI 0 n)) vs) :=
  piW (pi_range1 hg0 hm (pa_cons he pa_nil hst) hst2) fun σ H R ⟨k, P, w, q⟩ => ⟨k, _, w, fun n v H1 ⟨⟨w1, w2⟩, w3⟩ s r1 => ⟨n, by rw [(r1 : v = _)], w1, w2, by
    have := q (rangeI 0 n) (Itr 0 (n - 0).toNat) [] H1 w3 s (fun c hc => by cases hc) (k.step s) fun σ' H' l' o => itr_at
    rw [Int.sub_zero] at this
    exact this⟩⟩
theorem ji_R2 {e e2 : Expr} {p pr : Pos} {we we2 : (Int → Prop) → Prop} (hg0 : Gl X "range") (hm : X.mg "range" = none) (he : JE X F g e (rO tI) we) (he2 : JE X F g e2 (rO tI) we2)
    (hs : starEach [e, e2] X.env = [(false, eval e X.env), (false, eval e2 X.env)] := by rfl) (hs2 : starEach [e2] X.env = [(false, eval e2 X.env)] := by rfl) (hst : starEach [e2] X.env = (false, eval e2 X.env) :: starEach [] X.env := by rfl) (hst1 : starEach [e, e2] X.env = (false, eval e X.env) :: starEach [e2] X.env := by rfl) :
    PI X tg (.Call (.Name "range" p) [e, e2] [] pr) (RI F g tI (fun k => we fun n => we2 fun m => (-(2 ^ 62) ≤ n ∧ n < 2 ^ 62 ∧ -(2 ^ 62) ≤ m ∧ m < 2 ^ 62) ∧ k (rangeI n m)) vs) :=
  piW (pi_range2 hg0 hm (pa_cons he (pa_cons he2 pa_nil hst) hst1) hs hs2) fun σ H R ⟨k, P, w, q⟩ => ⟨k, _, w, fun n v H1 w1 s1 r1 => ⟨k.step s1, _, w1, fun m v2 H2 ⟨w2, w3⟩ s2 r2 => ⟨n, m, by rw [(r1 : v = _), (r2 : v2 = _)], w2,
    q (rangeI n m) (Itr n (m - n).toNat) [] H2 w3 (s1.trans s2) (fun c hc => by cases hc) (k.step (s1.trans s2)) fun σ' H' l' o => itr_at⟩⟩⟩
end
def TgW (A : Ty α) (gT : TG) (tr : Gm → α → Gm) (vs : List Nat) : Prop := ∀ (F : Fr) (g : Gm) (σ : L2.St) (H : Hp) (v : V) (a : α) (Q : L2.St → Hp → Prop), g.Ok F (wipe σ vs) H → A.rel (g.bs F H) v a → (∀ σ', (tr g a).Ok F σ' H → wipe σ' vs = wipe σ vs → Q σ' H) → gT v (wipe σ vs) H Q
theorem tgw_name {i : Nat} {A : Ty α} : TgW A (gName i) (fun g a => g.set i (.val A a)) [i] := fun F g σ H v a Q k r q => q _ (k.set ⟨v, rfl, r⟩) (by
  show ((σ.set i none).set i (some v)).set i none = σ.set i none
  rw [List.set_set, List.set_set])
theorem wipe_set {σ : L2.St} : ∀ {vs : List Nat} {i : Nat} {o : Option V}, i ∈ vs → wipe (σ.set i o) vs = wipe σ vs
  | v :: vs, i, o, h => by
    show (wipe (σ.set i o) vs).set v none = (wipe σ vs).set v none
    by_cases e : i ∈ vs
    · rw [wipe_set e]
    · rcases List.mem_cons.mp h with z | z
      · subst z
        have comm : ∀ (ws : List Nat), i ∉ ws → wipe (σ.set i o) ws = (wipe σ ws).set i o := by
          intro ws
          induction ws with
          | nil => intro _; rfl
          | cons w ws ih =>
            intro hw
            show (wipe (σ.set i o) ws).set w none = ((wipe σ ws).set w none).set i o
            rw [ih (fun z => hw (List.mem_cons_of_mem _ z)), List.set_comm _ _ (fun z => hw (by rw [z]; exact List.mem_cons_self))]
        rw [comm vs e, List.set_set]
      · exact absurd z e
theorem wipe_wipe {σ : L2.St} : ∀ (vs ws : List Nat), (∀ v ∈ ws, v ∈ vs) → wipe (wipe σ ws) vs = wipe σ vs
  | vs, [], _ => rfl
  | vs, w :: ws, h => by
    show wipe ((wipe σ ws).set w none) vs = _
    rw [wipe_set (h w List.mem_cons_self), wipe_wipe vs ws fun v hv => h v (List.mem_cons_of_mem _ hv)]
theorem tgw_pair {K : PySem.W.Frag} {i j : Nat} {A : Ty α} {B : Ty β} : TgW (tT K (a2 A B)) (gTup K 2 (gCons (gName i) (gCons (gName j) gNil))) (fun g a => (g.set i (.val A a.1)).set j (.val B a.2)) [i, j] :=
  fun F g σ H v a Q k r q => by
    obtain ⟨l, vs, e, hs, x, y, e2, h1, h2⟩ := r
    subst e2
    have k1 : (g.set i (.val A a.1)).Ok F ((wipe σ [i, j]).set i (some x)) H := k.set (t := .val A a.1) ⟨x, rfl, h1⟩
    refine ⟨l, _, e, k.le.sqT' hs, rfl, x, [y], rfl, y, [], rfl, rfl, q _ (k1.set (t := .val B a.2) ⟨y, rfl, h2⟩) ?_⟩
    rw [wipe_set (by simp), wipe_set (by simp), wipe_wipe _ _ fun v hv => hv]
theorem tgw_tri {K : PySem.W.Frag} {i j m : Nat} {A : Ty α} {B : Ty β} {C : Ty γ} : TgW (tT K (a3 A B C)) (gTup K 3 (gCons (gName i) (gCons (gName j) (gCons (gName m) gNil)))) (fun g a => ((g.set i (.val A a.1)).set j (.val B a.2.1)).set m (.val C a.2.2)) [i, j, m] :=
  fun F g σ H v a Q k r q => by
    obtain ⟨l, vs, e, hs, x, y, z, e2, h1, h2, h3⟩ := r
    subst e2
    have k1 : (g.set i (.val A a.1)).Ok F ((wipe σ [i, j, m]).set i (some x)) H := k.set (t := .val A a.1) ⟨x, rfl, h1⟩
    have k2 := k1.set (t := .val B a.2.1) (v := y) (i := j) ⟨y, rfl, h2⟩
    refine ⟨l, _, e, k.le.sqT' hs, rfl, x, [y, z], rfl, y, [z], rfl, z, [], rfl, rfl, q _ (k2.set (t := .val C a.2.2) ⟨z, rfl, h3⟩) ?_⟩
    rw [wipe_set (by simp), wipe_set (by simp), wipe_set (by simp), wipe_wipe _ _ fun v hv => hv]
theorem ad_mid {D : Addr} {A : Ty α} {xs : List α} {cs r : List Cell} (h : cs.filterMap Cell.addr = []) : (Cell.lst D A xs :: (cs ++ r)).filterMap Cell.addr = D :: r.filterMap Cell.addr := by
  show D :: (cs ++ r).filterMap Cell.addr = _
  rw [List.filterMap_append, h]
  rfl
theorem wipeG_push {g : Gm} {c : Cell} {vs : List Nat} : wipeG (g.push c) vs = (wipeG g vs).push c := rfl
theorem lc_read {J : It} {gT : TG} {tr : Gm → α → Gm} {A : Ty α} {B : Ty β} {vs : List Nat} {wt : α → Prop → Prop → Prop} {we : α → (β → Prop) → Prop} {tt : TT} {te : TE} {xs : List α} {cs : List Cell} {P : List β → Prop} {σ : L2.St} {H1 : Hp} {D : Addr} {Qd : Hp → Prop}
    (hcs : ∀ c ∈ cs, Cell.addr c = none) (hJ : ∀ σ H (l : List Cell), (wipeG ⟨g.s, l ++ (cs ++ g.c)⟩ vs).Ok F σ H → ItAt F (⟨g.s, l ++ (cs ++ g.c)⟩ : Gm).ad J A xs H) (ht : TgW A gT tr vs)
    (htt : ∀ acc a σ H Q, RT F (tr (wipeG (g.push (.lst D B acc)) vs) a) (wt a) σ H Q → tt σ H Q) (hte : ∀ acc a σ H Q, RJ F (tr (wipeG (g.push (.lst D B acc)) vs) a) (rO B) (we a) σ H Q → te σ H Q) (htr : ∀ g a, (tr g a).c = g.c)
    (hl : xs.length < 1000000) (k : (⟨g.s, cs ++ g.c⟩ : Gm).Ok F σ H1) (hD : H1 D = none) (w : wCompF wt we xs [] P)
    (hd : ∀ ys H, P ys → Same H1 H → (⟨g.s, .lst D B ys :: (cs ++ g.c)⟩ : Gm).Ok F σ H → Qd H) :
    ∃ W : Nat → Nat → Hp → Prop, (∃ m, W 0 m (upd H1 D (.lst []))) ∧ ∀ i m H, W i m H →
      (J.stop i H ∧ Qd H) ∨ (J.go i H ∧ ∃ Nx : Hp → Prop, (∀ H', Nx H' → ∃ m', m' < m ∧ W (i + 1) m' H') ∧ ∀ x H', J.yld i H x H' → gT x (wipe σ vs) H' fun σ2 H2 => wipe σ2 vs = wipe σ vs ∧ tt σ2 H2 fun b H3 =>
        if b = true then te σ2 H3 fun y H4 => ∃ acc, H4 D = some (.lst acc) ∧ acc.length < sizeLine ∧ Nx (upd H4 D (.lst (acc ++ [y]))) else Nx H3) := by
  have adcs : cs.filterMap Cell.addr = [] := List.filterMap_eq_nil_iff.mpr hcs
  have k0 : (⟨g.s, .lst D B [] :: (cs ++ g.c)⟩ : Gm).Ok F σ (upd H1 D (.lst [])) := k.new (A := B) (xs := []) (same_upd hD) hD (k.bs_new hD) .nil
  refine ⟨fun i m H => m = xs.length - i ∧ i ≤ xs.length ∧ Same H1 H ∧ ∃ acc, (⟨g.s, .lst D B acc :: (cs ++ g.c)⟩ : Gm).Ok F σ H ∧ acc.length ≤ i ∧ wCompF wt we (xs.drop i) acc P, ⟨xs.length, by simp, Nat.zero_le _, same_upd hD, [], k0, Nat.le_refl _, w⟩, ?_⟩
  rintro i m H ⟨rfl, hi, sm, acc, k1, la, w⟩
  have it := hJ _ _ [.lst D B acc] (k1.wipe vs)
  by_cases hlt : i < xs.length
  · have hx : xs[i]? = some xs[i] := List.getElem?_eq_getElem hlt
    obtain ⟨hgo, hy⟩ := it.1 i _ hx
    rw [List.drop_eq_getElem_cons hlt] at w
    refine .inr ⟨hgo, fun H' => Same H1 H' ∧ ∃ acc, (⟨g.s, .lst D B acc :: (cs ++ g.c)⟩ : Gm).Ok F σ H' ∧ acc.length ≤ i + 1 ∧ wCompF wt we (xs.drop (i + 1)) acc P, fun H' ⟨s, h⟩ => ⟨xs.length - (i + 1), by omega, rfl, hlt, s, h⟩, fun v H' y => ?_⟩
    obtain ⟨sy, rv⟩ := hy v H' y
    have k2 := k1.step sy
    have sb : Sub (wipeG ⟨g.s, .lst D B acc :: (cs ++ g.c)⟩ vs) (wipeG (g.push (.lst D B acc)) vs) := ⟨SubS.refl _, List.Sublist.cons₂ _ (List.sublist_append_right _ _)⟩
    have k3 : (wipeG (g.push (.lst D B acc)) vs).Ok F (wipe σ vs) H' := sb.ok (k2.wipe vs)
    have rv' : A.rel ((wipeG (g.push (.lst D B acc)) vs).bs F H') v xs[i] := A.same (bsA_sub fun a ha => by
      show a ∈ (_ :: (cs ++ g.c)).filterMap Cell.addr
      rw [ad_mid adcs]
      exact ha) rv
    refine ht F _ σ H' v _ _ k3 rv' fun σ' k4 ew => ⟨ew, ?_⟩
    refine htt acc _ σ' H' _ ⟨k4, _, _, w, fun w1 H3 s3 => ?_, fun w2 H3 s3 => ?_⟩
    · show te σ' H3 _
      refine hte acc _ σ' H3 _ ⟨k4.step s3, _, w1, fun b u H4 p s4 r4 => ?_⟩
      have k5 := k2.step (s3.trans s4)
      obtain ⟨us, eD, pr⟩ := k5.cell (j := 0) rfl
      refine ⟨us, eD, ?_, Same.mut (((sm.trans sy).trans s3).trans s4) hD, acc ++ [b], ?_, ?_, p⟩
      · rw [Paired.len pr]
        exact Nat.lt_of_lt_of_le (Nat.lt_of_le_of_lt la (Nat.lt_trans hlt hl)) (by decide)
      · refine k5.mut (j := 0) rfl (Paired.app pr (.cons (B.same (bsA_sub fun a ha => ?_) r4) .nil))
        show a ∈ (tr (wipeG (g.push (.lst D B acc)) vs) xs[i]).c.filterMap Cell.addr
        rw [htr]
        have ha' : a ∈ (.lst D B acc :: (cs ++ g.c)).filterMap Cell.addr := ha
        rw [ad_mid adcs] at ha'
        exact ha'
      · rw [List.length_append, List.length_singleton]
        omega
    · show (Same H1 H3 ∧ _)
      exact ⟨(sm.trans sy).trans s3, acc, k2.step s3, Nat.le_succ_of_le la, w2⟩
  · rw [List.drop_of_length_le (by omega)] at w
    exact .inl ⟨it.2 i (by omega), hd acc H w sm k1⟩
section
variable {elt tg iter : Expr} {scope : Scope} {own : List (Str × Nat)} {pos : Pos} {A : Ty α} {B : Ty β} {gT : TG} {tr : Gm → α → Gm} {wl : (List α → Prop) → Prop} {wt : α → Prop → Prop → Prop} {we : α → (β → Prop) → Prop} {ifs : List Expr} {tt : TT}
theorem lc_all (ht : TgW A gT tr (own.map (·.2))) (htr : ∀ g a, (tr g a).c = g.c) (htt : ∀ D acc a σ H Q, RT F (tr (wipeG (g.push (.lst D B acc)) (own.map (·.2))) a) (wt a) σ H Q → tt σ H Q) : ∀ (σ : L2.St) (H : Hp) (Q : VK), RJ F g (rN B) (fun k => wl fun xs => xs.length < 1000000 ∧ wCompF wt we xs [] k) σ H Q →
    tLc (RI F g A wl (own.map (·.2))) gT tt (tExE fun (q : Addr × List β × α) => RJ F (tr (wipeG (g.push (.lst q.1 B q.2.1)) (own.map (·.2))) q.2.2) (rO B) (we q.2.2)) (own.map (·.2)) σ H Q := fun σ H Q ⟨k, P, w, q⟩ =>
  ⟨k, _, w, fun xs J cs H1 ⟨hl, w1⟩ s1 hcs k1 hJ D hD => lc_read (Qd := fun H' => Q (.ref D) H') hcs hJ ht (htt D) (fun acc a _ _ _ h => ⟨(D, acc, a), h⟩) htr hl k1 hD w1 fun ys H' p s2 k2 => by
    obtain ⟨us, eD, pr⟩ := k2.cell (j := 0) rfl
    have adcs : cs.filterMap Cell.addr = [] := List.filterMap_eq_nil_iff.mpr hcs
    have nD : D ∉ g.ad := fun m => by
      obtain ⟨_, o, e, _⟩ := k1.ad_some (p := D) (by show D ∈ (cs ++ g.c).filterMap Cell.addr; rw [List.filterMap_append, adcs]; exact m)
      rw [hD] at e
      cases e
    refine q ys (.ref D) H' p (s1.trans s2) ⟨D, us, rfl, s1.free hD, bsA_of nD ((k.same.trans s1).free hD) eD, Paired.imp (fun _ _ r => B.same ?_ r) pr⟩
    show Same (bsA F _ H') (rm (bsA F g.ad H') D)
    rw [← bsA_cons]
    exact bsA_sub fun a ha => by
      show a ∈ (_ :: (cs ++ g.c)).filterMap Cell.addr
      rw [ad_mid adcs]
      exact ha⟩
abbrev wYes : Prop → Prop → Prop := fun A _ => A
theorem wYes_eq : ∀ (xs : List α) (acc : List β) (k : List β → Prop), wComp we xs acc k → wCompF (fun _ => wYes) we xs acc k
  | [], _, _, h => h
  | x :: r, acc, k, h => by
    show we x fun y => wCompF (fun _ => wYes) we r (acc ++ [y]) k
    have e : (fun y => wCompF (fun _ => wYes) we r (acc ++ [y]) k) = fun y => wComp we r (acc ++ [y]) k := funext fun y => propext ⟨fun z => wYes_bk r _ k z, fun z => wYes_eq r _ k z⟩
    rw [e]
    exact h
where wYes_bk : ∀ (xs : List α) (acc : List β) (k : List β → Prop), wCompF (fun _ => wYes) we xs acc k → wComp we xs acc k
  | [], _, _, h => h
  | x :: r, acc, k, h => by
    show we x fun y => wComp we r (acc ++ [y]) k
    have e : (fun y => wComp we r (acc ++ [y]) k) = fun y => wCompF (fun _ => wYes) we r (acc ++ [y]) k := funext fun y => propext ⟨fun z => wYes_eq r _ k z, fun z => wYes_bk r _ k z⟩
    rw [e]
    exact h
theorem wYes_iff {xs : List α} {acc : List β} {k : List β → Prop} : wCompF (fun _ => wYes) we xs acc k = wComp we xs acc k := propext ⟨wYes_eq.wYes_bk xs acc k, wYes_eq xs acc k⟩
theorem tYes_of {t : Gm} {a : α} : ∀ (σ : L2.St) (H : Hp) (Q : Bool → Hp → Prop), RT F t wYes σ H Q → tYes σ H Q := fun σ H Q ⟨k, A, B, w, qa, _⟩ => qa w H (Same.refl H)
theorem je_comp (hi : PI X tg iter (RI F g A wl (own.map (·.2)))) (hN : X.N.Nodup) (ok : BlkOk X.N X.env.scope scope own) (ht : TgW A gT tr (own.map (·.2)))
    (hg : ∀ (s : Shared) (H : Hp) (C : Addr) (cl : List (Str × Addr)) (fp : List Addr), PG (X.blk s H scope (compEnvC scope cl C X.env) fp) tg gT)
    (he : ∀ (D : Addr) (acc : List β) (a : α) (s : Shared) (H : Hp) (C : Addr) (cl : List (Str × Addr)) (fp : List Addr), JE (X.blk s H scope (compEnvC scope cl C X.env) fp) F (tr (wipeG (g.push (.lst D B acc)) (own.map (·.2))) a) elt (rO B) (we a))
    (htr : ∀ g a, (tr g a).c = g.c := by intro _ _; rfl) (hc : X.calm = true := by rfl) (hs : ∀ x, foldedSetIterable iter X.env x = pure x := by intro _; rfl) : JE X F g (.ListComp elt [⟨tg, iter, [], 0⟩] scope pos) (rN B) (fun k => wl fun xs => xs.length < 1000000 ∧ wComp we xs [] k) :=
  peW (pe_lc hc hN hi ok hg (fun _ _ _ _ _ => pts_nil) (fun s H C cl fp => peE fun (q : Addr × List β × α) => he q.1 q.2.1 q.2.2 s H C cl fp) hs) fun σ H Q h => lc_all (wt := fun _ => wYes) ht htr (fun _ _ _ σ H Q h => tYes_of (a := ()) σ H Q h) σ H Q (by
    simp only [wYes_iff]
    exact h)
/-- with a test -/
theorem je_compF {c : Expr} (hi : PI X tg iter (RI F g A wl (own.map (·.2)))) (hN : X.N.Nodup) (ok : BlkOk X.N X.env.scope scope own) (ht : TgW A gT tr (own.map (·.2)))
    (hg : ∀ (s : Shared) (H : Hp) (C : Addr) (cl : List (Str × Addr)) (fp : List Addr), PG (X.blk s H scope (compEnvC scope cl C X.env) fp) tg gT)
    (htt : ∀ (D : Addr) (acc : List β) (a : α) (s : Shared) (H : Hp) (C : Addr) (cl : List (Str × Addr)) (fp : List Addr), JT (X.blk s H scope (compEnvC scope cl C X.env) fp) F (tr (wipeG (g.push (.lst D B acc)) (own.map (·.2))) a) c (wt a))
    (he : ∀ (D : Addr) (acc : List β) (a : α) (s : Shared) (H : Hp) (C : Addr) (cl : List (Str × Addr)) (fp : List Addr), JE (X.blk s H scope (compEnvC scope cl C X.env) fp) F (tr (wipeG (g.push (.lst D B acc)) (own.map (·.2))) a) elt (rO B) (we a))
    (htr : ∀ g a, (tr g a).c = g.c := by intro _ _; rfl) (hc : X.calm = true := by rfl) (hs : ∀ x, foldedSetIterable iter X.env x = pure x := by intro _; rfl) : JE X F g (.ListComp elt [⟨tg, iter, [c], 0⟩] scope pos) (rN B) (fun k => wl fun xs => xs.length < 1000000 ∧ wCompF wt we xs [] k) := by
  refine peW (pe_lc hc hN hi ok hg (fun s H C cl fp => pts_one (ptE (t := fun (q : Addr × List β × α) => RT F (tr (wipeG (g.push (.lst q.1 B q.2.1)) (own.map (·.2))) q.2.2) (wt q.2.2)) fun q => htt q.1 q.2.1 q.2.2 s H C cl fp)) (fun s H C cl fp => peE fun (q : Addr × List β × α) => he q.1 q.2.1 q.2.2 s H C cl fp) hs) fun σ H Q h => ?_
  exact lc_all ht htr (fun D acc a σ H Q h => ⟨(D, acc, a), h⟩) σ H Q h
/-- name = [..] -/
theorem ps_lc {i : Nat} {y : Str} {py spos : Pos} (hi : PI X tg iter (RI F g A wl (own.map (·.2)))) (hN : X.N.Nodup) (ok : BlkOk X.N X.env.scope scope own) (ht : TgW A gT tr (own.map (·.2)))
    (hg : ∀ (s : Shared) (H : Hp) (C : Addr) (cl : List (Str × Addr)) (fp : List Addr), PG (X.blk s H scope (compEnvC scope cl C X.env) fp) tg gT)
    (he : ∀ (D : Addr) (acc : List β) (a : α) (s : Shared) (H : Hp) (C : Addr) (cl : List (Str × Addr)) (fp : List Addr), JE (X.blk s H scope (compEnvC scope cl C X.env) fp) F (tr (wipeG (g.push (.lst D B acc)) (own.map (·.2))) a) elt (rO B) (we a))
    (hsw : swapsWith (.ListComp elt [⟨tg, iter, [], 0⟩] scope pos) (some (.Name y py)) spos.line X.env = pure true)
    (htr : ∀ g a, (tr g a).c = g.c := by intro _ _; rfl) (hy : X.N[i]? = some y := by rfl) (hyl : X.env.scope.names.lookup y = some .local := by rfl) (hc : X.calm = true := by rfl) (hs : ∀ x, foldedSetIterable iter X.env x = pure x := by intro _; rfl) :
    PS X (.Assign [.Name y py] (.ListComp elt [⟨tg, iter, [], 0⟩] scope pos) spos) (tAsg (RJ F g (rN B) (fun k => wl fun xs => xs.length < 1000000 ∧ wComp we xs [] k)) (gName i)) :=
  psW (ps_setLc (i := i) hc hN hy hyl hsw hi ok hg (fun _ _ _ _ _ => pts_nil) (fun s H C cl fp => peE fun (q : Addr × List β × α) => he q.1 q.2.1 q.2.2 s H C cl fp) hs) fun D σ H h => lc_all (wt := fun _ => wYes) ht htr (fun _ _ _ σ H Q h => tYes_of (a := ()) σ H Q h) σ H (fun x H1 => gName i x σ H1 D.nx) (by
    simp only [wYes_iff]
    exact h)
theorem ps_lcF {c : Expr} {i : Nat} {y : Str} {py spos : Pos} (hi : PI X tg iter (RI F g A wl (own.map (·.2)))) (hN : X.N.Nodup) (ok : BlkOk X.N X.env.scope scope own) (ht : TgW A gT tr (own.map (·.2)))
    (hg : ∀ (s : Shared) (H : Hp) (C : Addr) (cl : List (Str × Addr)) (fp : List Addr), PG (X.blk s H scope (compEnvC scope cl C X.env) fp) tg gT)
    (htt : ∀ (D : Addr) (acc : List β) (a : α) (s : Shared) (H : Hp) (C : Addr) (cl : List (Str × Addr)) (fp : List Addr), JT (X.blk s H scope (compEnvC scope cl C X.env) fp) F (tr (wipeG (g.push (.lst D B acc)) (own.map (·.2))) a) c (wt a))
    (he : ∀ (D : Addr) (acc : List β) (a : α) (s : Shared) (H : Hp) (C : Addr) (cl : List (Str × Addr)) (fp : List Addr), JE (X.blk s H scope (compEnvC scope cl C X.env) fp) F (tr (wipeG (g.push (.lst D B acc)) (own.map (·.2))) a) elt (rO B) (we a))
    (hsw : swapsWith (.ListComp elt [⟨tg, iter, [c], 0⟩] scope pos) (some (.Name y py)) spos.line X.env = pure true)
    (htr : ∀ g a, (tr g a).c = g.c := by intro _ _; rfl) (hy : X.N[i]? = some y := by rfl) (hyl : X.env.scope.names.lookup y = some .local := by rfl) (hc : X.calm = true := by rfl) (hs : ∀ x, foldedSetIterable iter X.env x = pure x := by intro _; rfl) :
    PS X (.Assign [.Name y py] (.ListComp elt [⟨tg, iter, [c], 0⟩] scope pos) spos) (tAsg (RJ F g (rN B) (fun k => wl fun xs => xs.length < 1000000 ∧ wCompF wt we xs [] k)) (gName i)) :=
  psW (ps_setLc (i := i) hc hN hy hyl hsw hi ok hg (fun s H C cl fp => pts_one (ptE (t := fun (q : Addr × List β × α) => RT F (tr (wipeG (g.push (.lst q.1 B q.2.1)) (own.map (·.2))) q.2.2) (wt q.2.2)) fun q => htt q.1 q.2.1 q.2.2 s H C cl fp)) (fun s H C cl fp => peE fun (q : Addr × List β × α) => he q.1 q.2.1 q.2.2 s H C cl fp) hs) fun D σ H h => lc_all ht htr (fun D acc a σ H Q h => ⟨(D, acc, a), h⟩) σ H (fun x H1 => gName i x σ H1 D.nx) h
end
section
variable {rest : List Stmt} {st : Stmt} {i : Nat} {A : Ty α}
/-- a new list at a name: one that will be changed, one that will not -/
theorem js_stN {we : (List α → Prop) → Prop} {wr : List α → Prop} {D : Ends} (p : PS X st (tAsg (RJ F g (rN A) we) (gName i))) (hr : ∀ p xs, JSs X F ((g.push (.lst p A xs)).set i (.at p)) rest D (wr xs)) : JSs X F g (st :: rest) D (we fun xs => wLet xs wr) :=
  pssW (pss_cons p (pssE (t := fun (pr : Addr × List α) => RS F ((g.push (.lst pr.1 A pr.2)).set i (.at pr.1)) D (wr pr.2)) fun pr => hr pr.1 pr.2)) fun D' σ H ⟨e, o, q⟩ =>
    ⟨o, wr, q, fun xs v H1 p s ⟨l, vs, ev, h0, h1, r⟩ => ⟨(l, xs), e, (o.new s h0 h1 r).set (t := .at l) (v := v) (by rw [ev]; rfl), p⟩⟩
theorem js_stF {we : (List α → Prop) → Prop} {wr : List α → Prop} {D : Ends} (p : PS X st (tAsg (RJ F g (rN A) we) (gName i))) (hr : ∀ xs, JSs X F (g.set i (.val (tK A) xs)) rest D (wr xs)) : JSs X F g (st :: rest) D (we fun xs => wLet xs wr) :=
  pssW (pss_cons p (pssE hr)) fun D' σ H ⟨e, o, q⟩ => ⟨o, wr, q, fun xs v H1 p s ⟨l, vs, ev, h0, h1, r⟩ => ⟨xs, e, (o.step s).set ⟨v, rfl, l, vs, ev, h1, Paired.imp (fun _ _ r => A.same rm_le r) r⟩, p⟩⟩
/-- from here on the list of cell j is not changed any more -/
theorem js_frz {j : Nat} {p : Addr} {sts : List Stmt} {xs : List α} {w : Prop} {D : Ends} (hs : g.s[i]? = some (.at p)) (hj : g.c[j]? = some (.lst p A xs)) (h : JSs X F ⟨g.s.set i (.val (tK A) xs), g.c.eraseIdx j⟩ sts D w) : JSs X F g sts D w :=
  pssW h fun D' σ H ⟨e, o, q⟩ => ⟨e, o.freeze hs hj, q⟩
end
end
end J
/-! A6: data compared, lists joined, cut, copied -/
namespace J
open PySem PySem.Spec L2
section
variable {X : Cx} {F : Fr} {g : Gm} {α β γ δ ρ τ : Type} {K : PySem.W.Frag}

/-! ### == of data -/
class Dat (K : PySem.W.Frag) (A : Ty α) [POk α] [DecidableEq α] where
  enc : α → PyData
  dp : ∀ {H : Hp} {v : V} {a : α}, A.rel H v a → Dp K H v (enc a)
  lay : ∀ a, POk.pok a → (enc a).canLay0 = true
  n : Nat
  dep : ∀ a, POk.pok a → (enc a).depth ≤ n
  eqv : ∀ a b, PyData.eqv (enc a) (enc b) = decide (a = b)
instance : Dat K tI where
  enc := .int
  dp := fun h => by
    cases h
    exact .int _
  lay := fun _ _ => by simp [PyData.canLay0]
  n := 0
  dep := fun _ _ => by simp [PyData.depth]
  eqv := fun a b => by simp [PyData.eqv, Bool.beq_eq_decide_eq]
instance : Dat K tB where
  enc := .bool
  dp := fun h => by
    cases h
    exact .bl _
  lay := fun _ _ => by simp [PyData.canLay0]
  n := 0
  dep := fun _ _ => by simp [PyData.depth]
  eqv := fun a b => by simp [PyData.eqv, Bool.beq_eq_decide_eq]
instance : Dat K tS where
  enc := .str
  dp := fun h => by
    cases h
    exact .str _
  lay := fun a h => by
    have h' : PyData.strOk a = true := h
    simp [PyData.canLay0, h']
  n := 0
  dep := fun _ _ => by simp [PyData.depth]
  eqv := fun a b => by
    unfold PyData.eqv
    by_cases h : a = b
    · subst h
      simp
    · rw [decide_eq_false h]
      exact beq_false_of_ne h
instance {A : Ty α} {B : Ty β} [POk α] [DecidableEq α] [POk β] [DecidableEq β] [dA : Dat K A] [dB : Dat K B] : Dat K (tT K (a2 A B)) where
  enc := fun t => .tuple [dA.enc t.1, dB.enc t.2]
  dp := fun ⟨a, vs, e, hs, x, y, e2, h1, h2⟩ => by
    subst e e2
    exact .tup hs (.cons (dA.dp h1) (.cons (dB.dp h2) .nil))
  lay := fun t h => by
    simp [PyData.canLay0, PyData.canLayAll0, dA.lay _ h.1, dB.lay _ h.2]
  n := max dA.n dB.n + 1
  dep := fun t hp => by
    have h1 := dA.dep t.1 hp.1
    have h2 := dB.dep t.2 hp.2
    simp only [PyData.depth, PyData.depthAll]
    omega
  eqv := fun s t => by
    have h1 := dA.eqv s.1 t.1
    have h2 := dB.eqv s.2 t.2
    obtain ⟨a, b⟩ := s
    obtain ⟨c, d⟩ := t
    simp only [PyData.eqv, PyData.eqvAll, h1, h2]
    by_cases e1 : a = c <;> by_cases e2 : b = d <;> simp [e1, e2]
instance {A : Ty α} {B : Ty β} {C : Ty γ} [POk α] [DecidableEq α] [POk β] [DecidableEq β] [POk γ] [DecidableEq γ] [dA : Dat K A] [dB : Dat K B] [dC : Dat K C] : Dat K (tT K (a3 A B C)) where
  enc := fun t => .tuple [dA.enc t.1, dB.enc t.2.1, dC.enc t.2.2]
  dp := fun ⟨a, vs, e, hs, x, y, z, e2, h1, h2, h3⟩ => by
    subst e e2
    exact .tup hs (.cons (dA.dp h1) (.cons (dB.dp h2) (.cons (dC.dp h3) .nil)))
  lay := fun t h => by
    simp [PyData.canLay0, PyData.canLayAll0, dA.lay _ h.1, dB.lay _ h.2.1, dC.lay _ h.2.2]
  n := max dA.n (max dB.n dC.n) + 1
  dep := fun t hp => by
    have h1 := dA.dep t.1 hp.1
    have h2 := dB.dep t.2.1 hp.2.1
    have h3 := dC.dep t.2.2 hp.2.2
    simp only [PyData.depth, PyData.depthAll]
    omega
  eqv := fun s t => by
    have h1 := dA.eqv s.1 t.1
    have h2 := dB.eqv s.2.1 t.2.1
    have h3 := dC.eqv s.2.2 t.2.2
    obtain ⟨a, b, c⟩ := s
    obtain ⟨d, e, f⟩ := t
    simp only [PyData.eqv, PyData.eqvAll, h1, h2, h3]
    by_cases e1 : a = d <;> by_cases e2 : b = e <;> by_cases e3 : c = f <;> simp [e1, e2, e3]
theorem all_dp {A : Ty α} [POk α] [DecidableEq α] [dA : Dat K A] {H : Hp} : ∀ {vs : List V} {xs : List α}, Paired (A.rel H) vs xs → DpAll K H vs (xs.map dA.enc)
  | _, _, .nil => .nil
  | _, _, .cons h r => .cons (dA.dp h) (all_dp r)
theorem all_lay {A : Ty α} [POk α] [DecidableEq α] [dA : Dat K A] : ∀ {xs : List α}, (∀ x ∈ xs, POk.pok x) → PyData.canLayAll0 (xs.map dA.enc) = true
  | [], _ => by simp [PyData.canLayAll0]
  | x :: r, h => by
    have h1 := dA.lay x (h x List.mem_cons_self)
    have h2 := all_lay (dA := dA) (xs := r) fun y hy => h y (List.mem_cons_of_mem _ hy)
    simp [PyData.canLayAll0, h1, h2]
theorem all_dep {A : Ty α} [POk α] [DecidableEq α] [dA : Dat K A] : ∀ (xs : List α), (∀ x ∈ xs, POk.pok x) → PyData.depthAll (xs.map dA.enc) ≤ dA.n
  | [], _ => by simp [PyData.depthAll]
  | x :: r, hp => by
    have h1 := dA.dep x (hp x List.mem_cons_self)
    have h2 := all_dep (dA := dA) r fun y hy => hp y (List.mem_cons_of_mem _ hy)
    simp only [List.map_cons, PyData.depthAll]
    omega
theorem all_eqv {A : Ty α} [POk α] [DecidableEq α] [dA : Dat K A] : ∀ (xs ys : List α), PyData.eqvAll (xs.map dA.enc) (ys.map dA.enc) = decide (xs = ys)
  | [], [] => by simp [PyData.eqvAll]
  | [], _ :: _ => by simp [PyData.eqvAll]
  | _ :: _, [] => by simp [PyData.eqvAll]
  | x :: r, y :: t => by
    have h1 := dA.eqv x y
    have h2 := all_eqv (dA := dA) r t
    simp only [List.map_cons, PyData.eqvAll, h1, h2]
    by_cases e1 : x = y <;> by_cases e2 : r = t <;> simp [e1, e2]
instance {A : Ty α} [POk α] [DecidableEq α] [dA : Dat K A] : Dat K (tL K A) where
  enc := fun xs => .list (xs.map dA.enc)
  dp := fun ⟨a, vs, e, hs, r⟩ => by
    subst e
    exact .lst hs (all_dp r)
  lay := fun xs h => by
    simp only [PyData.canLay0]
    exact all_lay h
  n := dA.n + 1
  dep := fun xs hp => by
    have := all_dep (dA := dA) xs hp
    simp only [PyData.depth]
    omega
  eqv := fun xs ys => by
    simp only [PyData.eqv]
    exact all_eqv xs ys
instance {A : Ty α} [POk α] [DecidableEq α] [dA : Dat K A] : Dat K (tK A) where
  enc := fun xs => .list (xs.map dA.enc)
  dp := fun ⟨a, vs, e, hs, r⟩ => by
    subst e
    exact .lst (.inl (.inl hs)) (all_dp r)
  lay := fun xs h => by
    simp only [PyData.canLay0]
    exact all_lay h
  n := dA.n + 1
  dep := fun xs hp => by
    have := all_dep (dA := dA) xs hp
    simp only [PyData.depth]
    omega
  eqv := fun xs ys => by
    simp only [PyData.eqv]
    exact all_eqv xs ys
instance {A : Ty α} [POk α] [DecidableEq α] [dA : Dat K A] : Dat K (tT K (aV A)) where
  enc := fun xs => .tuple (xs.map dA.enc)
  dp := fun ⟨a, vs, e, hs, r⟩ => by
    subst e
    exact .tup hs (all_dp r)
  lay := fun xs h => by
    simp only [PyData.canLay0]
    exact all_lay h
  n := dA.n + 1
  dep := fun xs hp => by
    have := all_dep (dA := dA) xs hp
    simp only [PyData.depth]
    omega
  eqv := fun xs ys => by
    simp only [PyData.eqv]
    exact all_eqv xs ys
theorem shaped_of {A : Ty α} [POk α] [DecidableEq α] [dA : Dat K A] (hn : dA.n ≤ 64) {a : α} (h : POk.pok a) : SeqAt.shaped (dA.enc a) = true := by
  have h1 := dA.lay a h
  have h2 := dA.dep a h
  have h3 : decide ((dA.enc a).depth ≤ 64) = true := decide_eq_true (by omega)
  unfold SeqAt.shaped
  rw [h1, h3]
  rfl
section
variable {a b : Expr} {pos : Pos} {A : Ty α} {wa wb : (α → Prop) → Prop}
theorem eqD_r {A : Ty α} [POk α] [DecidableEq α] [dA : Dat K A] (hn : dA.n ≤ 64) : CmpOk F g (rB A) (rB A) (rEqD K) (fun x y k => POk.pok x ∧ POk.pok y ∧ k (decide (x = y))) :=
  fun _ x y _ _ H v u P Q _ h1 h2 ⟨p1, p2, p⟩ q => ⟨_, _, dA.dp h1, dA.dp h2, shaped_of hn p1, shaped_of hn p2, by rw [dA.eqv]; exact q _ H p (Same.refl H)⟩
theorem neD_r {A : Ty α} [POk α] [DecidableEq α] [dA : Dat K A] (hn : dA.n ≤ 64) : CmpOk F g (rB A) (rB A) (rNeD K) (fun x y k => POk.pok x ∧ POk.pok y ∧ k (!decide (x = y))) :=
  fun _ x y _ _ H v u P Q _ h1 h2 ⟨p1, p2, p⟩ q => ⟨_, _, dA.dp h1, dA.dp h2, shaped_of hn p1, shaped_of hn p2, by rw [dA.eqv]; exact q _ H p (Same.refl H)⟩
variable [POk α] [DecidableEq α] [dA : Dat K A]
theorem je_eqD (hu : X.A.units + 64 < cLine) (ha : JE X F g a (rB A) wa) (hb : JE X F g b (rB A) wb) (hK : X.K = K := by rfl) (hn : Nat.ble dA.n 64 = true := by rfl) : JE X F g (.Compare a [.Eq] [b] pos) (rO tB) (fun k => wa fun x => wb fun y => (POk.pok x ∧ POk.pok y ∧ k (decide (x = y)))) := by
  subst hK
  exact je_cmpR (C := fun x y k => POk.pok x ∧ POk.pok y ∧ k (decide (x = y))) (op_eqD hu) (eqD_r (Nat.le_of_ble_eq_true hn)) ha hb (nomark _)
theorem je_neD (hu : X.A.units + 64 < cLine) (ha : JE X F g a (rB A) wa) (hb : JE X F g b (rB A) wb) (hK : X.K = K := by rfl) (hn : Nat.ble dA.n 64 = true := by rfl) : JE X F g (.Compare a [.NotEq] [b] pos) (rO tB) (fun k => wa fun x => wb fun y => (POk.pok x ∧ POk.pok y ∧ k (!decide (x = y)))) := by
  subst hK
  exact je_cmpR (C := fun x y k => POk.pok x ∧ POk.pok y ∧ k (!decide (x = y))) (op_neD hu) (neD_r (Nat.le_of_ble_eq_true hn)) ha hb (nomark _)
theorem jt_eqD (hu : X.A.units + 64 < cLine) (ha : JE X F g a (rB A) wa) (hb : JE X F g b (rB A) wb) (hK : X.K = K := by rfl) (hn : Nat.ble dA.n 64 = true := by rfl) : JT X F g (.Compare a [.Eq] [b] pos) (fun Ya No => wa fun x => wb fun y => (POk.pok x ∧ POk.pok y ∧ (((decide (x = y)) = true → Ya) ∧ ((decide (x = y)) = false → No)))) := by
  subst hK
  exact jt_cmpR (C := fun x y k => POk.pok x ∧ POk.pok y ∧ k (decide (x = y))) (op_eqD hu) (eqD_r (Nat.le_of_ble_eq_true hn)) ha hb (nomark _)
theorem jt_neD (hu : X.A.units + 64 < cLine) (ha : JE X F g a (rB A) wa) (hb : JE X F g b (rB A) wb) (hK : X.K = K := by rfl) (hn : Nat.ble dA.n 64 = true := by rfl) : JT X F g (.Compare a [.NotEq] [b] pos) (fun Ya No => wa fun x => wb fun y => (POk.pok x ∧ POk.pok y ∧ (((!decide (x = y)) = true → Ya) ∧ ((!decide (x = y)) = false → No)))) := by
  subst hK
  exact jt_cmpR (C := fun x y k => POk.pok x ∧ POk.pok y ∧ k (!decide (x = y))) (op_neD hu) (neD_r (Nat.le_of_ble_eq_true hn)) ha hb (nomark _)
end
/-! ### lists made of lists -/
section
variable {a b e : Expr} {pos p : Pos} {A : Ty α} {wa wb : (List α → Prop) → Prop}
theorem je_cat (ha : JE X F g a (rEK A) wa) (hb : JE X F g b (rEK A) wb) : JE X F g (.BinOp a .Add b pos) (rN A) (fun k => wa fun x => wb fun y => (x.length + y.length ≤ 1000000 ∧ k (x ++ y))) :=
  je_opR (S := rEK A) (T := rEK A) (R := rN A) (C := fun x y k => x.length + y.length ≤ 1000000 ∧ k (x ++ y)) op_cat (fun _ x y _ _ H v u P Q k ⟨l, vs, e1, h1, r1⟩ ⟨m, us, e2, h2, r2⟩ ⟨w1, w2⟩ q =>
    ⟨l, m, vs, us, e1, e2, h1, h2, Nat.le_trans (by rw [Paired.len r1, Paired.len r2]; exact w1) (by decide : 1000000 ≤ sizeLine), fun z hz => q (x ++ y) _ _ w2 (same_upd hz) ⟨z, _, rfl, hz, k.bs_new hz, Paired.app (Paired.imp (fun _ _ r => A.same (k.rm_new hz) r) r1) (Paired.imp (fun _ _ r => A.same (k.rm_new hz) r) r2)⟩⟩) ha hb
/-- arguments of any reading -/
def RA1 {ρ : Type} (F : Fr) (g : Gm) (S : Res ρ) (w : (ρ → Prop) → Prop) : TA := fun σ H Q => g.Ok F σ H ∧ ∃ P, w P ∧ ∀ t v H', P t → Same H H' → S.rel H (g.bs F H') H' v t → Q [v] H'
theorem ja_1 {S : Res ρ} {w : (ρ → Prop) → Prop} (ha : JE X F g e S w) (hs : starEach [e] X.env = (false, eval e X.env) :: starEach [] X.env) : PA X [e] (RA1 F g S w) :=
  paW (pa_cons ha pa_nil hs) fun σ H Q ⟨k, P, w, q⟩ => ⟨k, _, w, fun x v H1 w1 s1 r1 => q x v H1 w1 s1 r1⟩
theorem je_listL (hg : Gl X "list") (hm : X.mg "list" = none) (ha : JE X F g e (rE X.K A) wa) (he : starEach [e] X.env = (false, eval e X.env) :: starEach [] X.env := by rfl) (hpl : (backTo pos (starEach [] X.env)).any (·.1) = false := by rfl) :
    JE X F g (.Call (.Name "list" p) [e] [] pos) (rN A) wa :=
  peW (pe_callTy call_list_of hg hm (by decide +kernel) (ja_1 ha he) (by decide) (by decide) he hpl) fun σ H Q ⟨k, P, w, q⟩ => ⟨k, P, w, fun xs v H1 w1 s1 ⟨a, us, ev, hs, hp⟩ => ⟨a, us, by rw [ev], .inl hs, fun l hl => q xs _ _ w1 (s1.trans (same_upd hl)) ⟨l, us, rfl, s1.free hl, (k.step s1).bs_new hl, Paired.imp (fun _ _ r => A.same ((k.step s1).rm_new hl) r) hp⟩⟩⟩
theorem je_listT (hg : Gl X "list") (hm : X.mg "list" = none) (ha : JE X F g e (rO (tT X.K (aV A))) wa) (he : starEach [e] X.env = (false, eval e X.env) :: starEach [] X.env := by rfl) (hpl : (backTo pos (starEach [] X.env)).any (·.1) = false := by rfl) :
    JE X F g (.Call (.Name "list" p) [e] [] pos) (rN A) wa :=
  peW (pe_callTy call_list_of hg hm (by decide +kernel) (ja_1 ha he) (by decide) (by decide) he hpl) fun σ H Q ⟨k, P, w, q⟩ => ⟨k, P, w, fun xs v H1 w1 s1 ⟨a, us, ev, hs, hp⟩ => ⟨a, us, by rw [ev], .inr ((k.step s1).le.sqT' hs), fun l hl => q xs _ _ w1 (s1.trans (same_upd hl)) ⟨l, us, rfl, s1.free hl, (k.step s1).bs_new hl, Paired.imp (fun _ _ r => A.same ((k.step s1).rm_new hl) r) hp⟩⟩⟩
theorem je_tupleL (hg : Gl X "tuple") (hm : X.mg "tuple" = none) (ha : JE X F g e (rE X.K A) wa) (he : starEach [e] X.env = (false, eval e X.env) :: starEach [] X.env := by rfl) (hpl : (backTo pos (starEach [] X.env)).any (·.1) = false := by rfl) :
    JE X F g (.Call (.Name "tuple" p) [e] [] pos) (rO (tT X.K (aV A))) wa :=
  peW (pe_callTy call_tuple_of hg hm (by decide +kernel) (ja_1 ha he) (by decide) (by decide) he hpl) fun σ H Q ⟨k, P, w, q⟩ => ⟨k, P, w, fun xs v H1 w1 s1 ⟨a, us, ev, hs, hp⟩ => ⟨a, us, by rw [ev], .inl ⟨hs, fun l hl => q xs _ _ w1 (s1.trans (same_upd hl)) ⟨l, us, rfl, .inl (.inl ((k.step s1).bs_new hl)), Paired.imp (fun _ _ r => A.same (Gm.mono (same_upd hl)) r) hp⟩⟩⟩⟩
theorem je_listR {n : Expr} {w : (Int → Prop) → Prop} {p2 pos2 : Pos} (hg : Gl X "list") (hm : X.mg "list" = none) (hgr : Gl X "range") (hmr : X.mg "range" = none) (hn : JE X F g n (rO tI) w) (na0 : starEach [n] X.env = (false, eval n X.env) :: starEach [] X.env := by rfl) (hc : X.calm = true := by rfl)
    (na : starEach [.Call (.Name "range" p2) [n] [] pos2] X.env = (false, eval (.Call (.Name "range" p2) [n] [] pos2) X.env) :: starEach [] X.env := by rfl) : JE X F g (.Call (.Name "list" p) [.Call (.Name "range" p2) [n] [] pos2] [] pos) (rN tI) (fun k => w fun i => (-1000000 ≤ i ∧ i ≤ 1000000) ∧ k (rangeI 0 i)) :=
  peW (pe_listRg hc hg hm (prg_1 hgr hmr hn na0) na) fun σ H Q ⟨k, P, w, q⟩ => ⟨k, _, w, fun i v H1 ⟨w1, w2⟩ s1 r1 => ⟨i, r1, ⟨by omega, by omega, by omega, by omega, by omega⟩, fun l hl => q (rangeI 0 i) _ _ w2 (s1.trans (same_upd hl)) ⟨l, _, rfl, s1.free hl, (k.step s1).bs_new hl, by
    have e : rgV 0 i = (rangeI 0 i).map V.int := by
      unfold rgV rangeI
      rw [List.map_map]
      rfl
    rw [e]
    exact paired_ints _⟩⟩⟩
theorem je_sum {w : (List Int → Prop) → Prop} (hg : Gl X "sum") (hm : X.mg "sum" = none) (ha : JE X F g e (rB (tL X.K tI)) w) (hc : X.calm = true := by rfl) (he : starEach [e] X.env = (false, eval e X.env) :: starEach [] X.env := by rfl) (hpl : (backTo pos (starEach [] X.env)).any (·.1) = false := by rfl) :
    JE X F g (.Call (.Name "sum" p) [e] [] pos) (rO tI) (fun k => w fun xs => k xs.sum) :=
  je_callB (T := aC (tL X.K tI) aN) (C := fun t k => k t.1.sum) (cr_sum hc) (fun _ t H vs P Q _ ⟨v, r, e1, ⟨a, us, ev, hs, hp⟩, e2⟩ c q => ⟨a, t.1, by rw [e1, (e2 : r = []), ev], by rw [← paired_int hp]; exact hs, q _ _ H c (Same.refl H) rfl⟩) hg hm (by decide +kernel) (jb_cons ha jb_nil he) (by decide) (by decide) he hpl
theorem je_sorted {w : (List Int → Prop) → Prop} (hg : Gl X "sorted") (hm : X.mg "sorted" = none) (ha : JE X F g e (rB (tL X.K tI)) w) (he : starEach [e] X.env = (false, eval e X.env) :: starEach [] X.env := by rfl) (hpl : (backTo pos (starEach [] X.env)).any (·.1) = false := by rfl) :
    JE X F g (.Call (.Name "sorted" p) [e] [] pos) (rN tI) (fun k => w fun xs => ∀ ys : List Int, ys.Perm xs → ys.Pairwise (· ≤ ·) → k ys) :=
  je_callB (T := aC (tL X.K tI) aN) (R := rN tI) (C := fun t k => ∀ ys : List Int, ys.Perm t.1 → ys.Pairwise (· ≤ ·) → k ys) cr_sortedI (fun _ t H vs P Q k ⟨v, r, e1, ⟨a, us, ev, hs, hp⟩, e2⟩ c q => ⟨a, t.1, by rw [e1, (e2 : r = []), ev], by rw [← paired_int hp]; exact hs, fun ys l h1 h2 hl => q ys _ _ (c ys h1 h2) (same_upd hl) ⟨l, _, rfl, hl, k.bs_new hl, paired_ints ys⟩⟩) hg hm (by decide +kernel) (jb_cons ha jb_nil he) (by decide) (by decide) he hpl
end
/-! ### slices -/
theorem sIxJ_eq (n d : Nat) (o : Option Int) : HT.sIx n d o = sIxJ n d o := by cases o <;> rfl
theorem cut_pair {F : V → α → Prop} {vs : List V} {xs : List α} (h : Paired F vs xs) (lo hi : Option Int) : Paired F (cutV vs lo hi) (cutI xs lo hi) := by
  unfold cutV cutI
  rw [sIxJ_eq, sIxJ_eq, Paired.len h]
  exact Paired.take _ (Paired.drop _ h)
def RP (F : Fr) (g : Gm) (w : (Option Int → Prop) → Prop) : TO := fun σ H Q => g.Ok F σ H ∧ ∃ P, w P ∧ ∀ o H', P o → Same H H' → Q o H'
theorem poW {o : Option Expr} {t t' : TO} (h : PO X o t) (k : ∀ σ H Q, t' σ H Q → t σ H Q) : PO X o t' := ⟨fun p s σ H Q I q => h.run p s σ H Q I (k _ _ _ q)⟩
theorem jp_none : PO X none (RP F g fun k => k none) := poW po_none fun σ H Q ⟨k, P, w, q⟩ => q none H w (Same.refl H)
theorem jp_some {e : Expr} {w : (Int → Prop) → Prop} (h : JE X F g e (rO tI) w) : PO X (some e) (RP F g fun k => w fun i => k (some i)) :=
  poW (po_some h) fun σ H Q ⟨k, P, w, q⟩ => ⟨k, _, w, fun i v H1 p s r => ⟨i, r, q (some i) H1 p s⟩⟩
theorem je_slL {e : Expr} {lo hi : Option Expr} {p2 pos : Pos} {A : Ty α} {w : (List α → Prop) → Prop} {wl wh : (Option Int → Prop) → Prop} (he : JE X F g e (rE X.K A) w) (hl : PO X lo (RP F g wl)) (hh : PO X hi (RP F g wh)) :
    JE X F g (.Subscript e (.Slice lo hi none p2) pos) (rN A) (fun k => w fun xs => wl fun i => wh fun j => k (cutI xs i j)) :=
  peW (pe_slice sl_list he hl hh) fun σ H Q ⟨k, P, w, q⟩ => ⟨k, _, w, fun xs v H1 w1 s1 r1 => ⟨k.step s1, _, w1, fun i H2 w2 s2 => ⟨k.step (s1.trans s2), _, w2, fun j H3 w3 s3 => by
    obtain ⟨a, us, ev, hs, hp⟩ := (rE X.K A).same (Gm.mono (s2.trans s3)) (s2.trans s3) r1
    have k3 := k.step (s1.trans (s2.trans s3))
    exact ⟨a, us, ev, hs, fun l hl => q _ _ _ w3 ((s1.trans (s2.trans s3)).trans (same_upd hl)) ⟨l, _, rfl, (s1.trans (s2.trans s3)).free hl, k3.bs_new hl, cut_pair (Paired.imp (fun _ _ r => A.same (k3.rm_new hl) r) hp) i j⟩⟩⟩⟩⟩
theorem je_revL {e : Expr} {A : Ty α} {w : (List α → Prop) → Prop} {k : Nat} {p1 p2 p3 pos : Pos} (he : JE X F g e (rE X.K A) w) : JE X F g (.Subscript e (.Slice none none (some (.UnaryOp .USub (.Constant (.int 1) k p1) p2)) p3) pos) (rN A) (fun k => w fun xs => k xs.reverse) :=
  peW (pe_revL he) fun σ H Q ⟨k, P, w, q⟩ => ⟨k, _, w, fun xs v H1 w1 s1 ⟨a, us, ev, hs, hp⟩ => ⟨a, us, ev, hs, fun l hl => q _ _ _ w1 (s1.trans (same_upd hl)) ⟨l, _, rfl, s1.free hl, (k.step s1).bs_new hl, Paired.rev (Paired.imp (fun _ _ r => A.same ((k.step s1).rm_new hl) r) hp)⟩⟩⟩
/-! ### in a list or a tuple of flat things -/
class Flat (A : Ty α) [DecidableEq α] : Prop where
  flat : ∀ {H : Hp} {v : V} {a : α}, A.rel H v a → flatV v = true
  eqv : ∀ {H : Hp} {v u : V} {a b : α}, A.rel H v a → A.rel H u b → eqV v u = decide (a = b)
instance : Flat tI := ⟨fun h => by cases h; rfl, fun {H v u a b} h k => by
  cases h
  cases k
  show (a == b) = decide (a = b)
  exact Bool.beq_eq_decide_eq a b⟩
instance : Flat tS := ⟨fun h => by cases h; rfl, fun {H v u a b} h k => by
  cases h
  cases k
  show (a == b) = decide (a = b)
  by_cases e : a = b
  · subst e
    rw [decide_eq_true rfl]
    exact beq_self_eq_true a
  · rw [decide_eq_false e]
    exact beq_false_of_ne e⟩
theorem all_flat {A : Ty α} [DecidableEq α] [fA : Flat A] {H : Hp} : ∀ {vs : List V} {xs : List α}, Paired (A.rel H) vs xs → vs.all flatV = true
  | _, _, .nil => rfl
  | _, _, .cons h r => by rw [List.all_cons, fA.flat h, all_flat r]; rfl
theorem inV_eq {A : Ty α} [DecidableEq α] [fA : Flat A] {H : Hp} {v : V} {a : α} (h : A.rel H v a) : ∀ {vs : List V} {xs : List α}, Paired (A.rel H) vs xs → inV v vs = decide (a ∈ xs)
  | _, _, .nil => by
    show false = _
    rw [decide_eq_false (by simp)]
  | _, _, .cons (a := u) (b := b) hu r => by
    have ih := inV_eq h r
    unfold inV at ih ⊢
    rw [List.any_cons, ih, fA.eqv hu h]
    by_cases e : b = a
    · subst e
      simp
    · have e' : ¬ a = b := fun z => e z.symm
      simp [e, e']
section
variable {a b : Expr} {pos : Pos} {A : Ty α} [DecidableEq α] [fA : Flat A] {wa : (α → Prop) → Prop} {wb : (List α → Prop) → Prop}
theorem inL_r (neg : Bool) : CmpOk F g (rO A) (rB (tL K A)) (rIn K neg) (fun x y k => k (if neg then !memJ x y else memJ x y)) :=
  fun _ x y _ _ H v u P Q k h1 ⟨l, us, ev, hs, hp⟩ p q => ⟨l, us, ev, .inl hs, fA.flat h1, all_flat hp, by rw [inV_eq (A.same k.le h1) hp]; exact q _ H p (Same.refl H)⟩
theorem inT_r (neg : Bool) : CmpOk F g (rO A) (rB (tT K (aV A))) (rIn K neg) (fun x y k => k (if neg then !memJ x y else memJ x y)) :=
  fun _ x y _ _ H v u P Q k h1 ⟨l, us, ev, hs, hp⟩ p q => ⟨l, us, ev, .inr hs, fA.flat h1, all_flat hp, by rw [inV_eq (A.same k.le h1) hp]; exact q _ H p (Same.refl H)⟩
theorem je_inL (ha : JE X F g a (rO A) wa) (hb : JE X F g b (rB (tL X.K A)) wb) (hm : behindInMarks .In b = false := by rfl) : JE X F g (.Compare a [.In] [b] pos) (rO tB) (fun k => wa fun x => wb fun y => k (memJ x y)) := je_cmpR (C := fun x y k => k (memJ x y)) op_in_seq (inL_r false) ha hb hm
theorem je_niL (ha : JE X F g a (rO A) wa) (hb : JE X F g b (rB (tL X.K A)) wb) (hm : behindInMarks .NotIn b = false := by rfl) : JE X F g (.Compare a [.NotIn] [b] pos) (rO tB) (fun k => wa fun x => wb fun y => k (!memJ x y)) := je_cmpR (C := fun x y k => k (!memJ x y)) op_notIn_seq (inL_r true) ha hb hm
theorem je_inT (ha : JE X F g a (rO A) wa) (hb : JE X F g b (rB (tT X.K (aV A))) wb) (hm : behindInMarks .In b = false := by rfl) : JE X F g (.Compare a [.In] [b] pos) (rO tB) (fun k => wa fun x => wb fun y => k (memJ x y)) := je_cmpR (C := fun x y k => k (memJ x y)) op_in_seq (inT_r false) ha hb hm
theorem je_niT (ha : JE X F g a (rO A) wa) (hb : JE X F g b (rB (tT X.K (aV A))) wb) (hm : behindInMarks .NotIn b = false := by rfl) : JE X F g (.Compare a [.NotIn] [b] pos) (rO tB) (fun k => wa fun x => wb fun y => k (!memJ x y)) := je_cmpR (C := fun x y k => k (!memJ x y)) op_notIn_seq (inT_r true) ha hb hm
theorem jt_inL (ha : JE X F g a (rO A) wa) (hb : JE X F g b (rB (tL X.K A)) wb) (hm : behindInMarks .In b = false := by rfl) : JT X F g (.Compare a [.In] [b] pos) (fun Ya No => wa fun x => wb fun y => (((memJ x y) = true → Ya) ∧ ((memJ x y) = false → No))) := jt_cmpR (C := fun x y k => k (memJ x y)) op_in_seq (inL_r false) ha hb hm
theorem jt_niL (ha : JE X F g a (rO A) wa) (hb : JE X F g b (rB (tL X.K A)) wb) (hm : behindInMarks .NotIn b = false := by rfl) : JT X F g (.Compare a [.NotIn] [b] pos) (fun Ya No => wa fun x => wb fun y => (((!memJ x y) = true → Ya) ∧ ((!memJ x y) = false → No))) := jt_cmpR (C := fun x y k => k (!memJ x y)) op_notIn_seq (inL_r true) ha hb hm
theorem jt_inT (ha : JE X F g a (rO A) wa) (hb : JE X F g b (rB (tT X.K (aV A))) wb) (hm : behindInMarks .In b = false := by rfl) : JT X F g (.Compare a [.In] [b] pos) (fun Ya No => wa fun x => wb fun y => (((memJ x y) = true → Ya) ∧ ((memJ x y) = false → No))) := jt_cmpR (C := fun x y k => k (memJ x y)) op_in_seq (inT_r false) ha hb hm
theorem jt_niT (ha : JE X F g a (rO A) wa) (hb : JE X F g b (rB (tT X.K (aV A))) wb) (hm : behindInMarks .NotIn b = false := by rfl) : JT X F g (.Compare a [.NotIn] [b] pos) (fun Ya No => wa fun x => wb fun y => (((!memJ x y) = true → Ya) ∧ ((!memJ x y) = false → No))) := jt_cmpR (C := fun x y k => k (!memJ x y)) op_notIn_seq (inT_r true) ha hb hm
end
end
end J
/-! A7: lists changed by place, pop, small written dicts, is of bools, signs of a text -/
namespace J
open PySem PySem.Spec L2
section
variable {X : Cx} {F : Fr} {g : Gm} {α β γ δ ρ τ : Type} {K : PySem.W.Frag} {rest : List Stmt} {pos : Pos}
theorem ixW_N {n : Nat} {i : Int} {m : Nat} (h : ixW n i = some m) : ixN n i = some m := by
  unfold ixW at h
  unfold ixN
  by_cases h0 : 0 ≤ i
  · rw [if_pos h0]
    by_cases h1 : i < (n : Int)
    · rw [if_pos ⟨h0, h1⟩] at h
      rw [if_pos h1]
      exact h
    · rw [if_neg (by omega), if_neg (by omega)] at h
      cases h
  · rw [if_neg h0]
    rw [if_neg (by omega)] at h
    by_cases h1 : 0 ≤ i + (n : Int)
    · rw [if_pos ⟨by omega, h1⟩] at h
      rw [if_pos (by omega)]
      exact h
    · rw [if_neg (by omega)] at h
      cases h
theorem bs_mut {H : Hp} {j : Nat} {p : Addr} {A : Ty α} {xs ys : List α} {o : HO} (hj : g.c[j]? = some (.lst p A xs)) : (⟨g.s, g.c.set j (.lst p A ys)⟩ : Gm).bs F (upd H p o) = g.bs F H := by
  show bsA F ((g.c.set j (.lst p A ys)).filterMap Cell.addr) _ = bsA F g.ad H
  rw [ad_set (c' := .lst p A ys) hj rfl]
  exact bsA_upd (Gm.mem_ad (List.mem_of_getElem? hj) rfl)
/-- xs[k] = e -/
theorem js_setL {st : Stmt} {i j : Nat} {l : Addr} {A : Ty α} {xs : List α} {we : (α → Prop) → Prop} {wi : (Int → Prop) → Prop} {wr : List α → Prop} {D : Ends} (hp : PS X st (tAsg (RJ F g (rO A) we) (gSub (tVar i) (RJ F g (rO tI) wi) rSetL)))
    (hr : ∀ ys, JSs X F ⟨g.s, g.c.set j (.lst l A ys)⟩ rest D (wr ys)) (hs : g.s[i]? = some (.at l)) (hc : g.c[j]? = some (.lst l A xs)) :
    JSs X F g (st :: rest) D (we fun a => wi fun k => ∃ m, ixW xs.length k = some m ∧ wLet (xs.set m a) wr) := by
  refine pssW (pss_cons hp (pssE hr)) fun D' σ H ⟨e, k, w⟩ => ?_
  refine ⟨k, _, w, fun a v H1 w1 s1 ra => ?_⟩
  have k1 := k.step s1
  refine ⟨.ref l, k1.ref hs, k1, _, w1, fun n u H2 ⟨m, hm, w2⟩ s2 rn => ?_⟩
  have k2 := k1.step s2
  obtain ⟨vs, hl, pr⟩ := k2.cell hc
  have en : ixN vs.length n = some m := ixW_N (by rw [Paired.len pr]; exact hm)
  exact ⟨l, vs, n, m, rfl, rn, hl, en, xs.set m a, e, k2.mut hc (Paired.set (A.same (Gm.mono s2) ra) m pr), w2⟩
/-- ys.append(xs.pop(e)) -/
theorem js_appPop {call : Expr} {i j i2 j2 : Nat} {l l2 : Addr} {A : Ty α} {xs ys : List α} {we : (Int → Prop) → Prop} {wr : α → List α → Prop} {D : Ends}
    (hm : PE X call (tBM X.K "list" rAppend (tVar i) (tCons (tBM X.K "list" rPopAt (tVar i2) (tCons (RJ F g (rO tI) we) tNil)) tNil)))
    (hr : ∀ x zs, JSs X F ⟨g.s, (g.c.set j2 (.lst l2 A zs)).set j (.lst l A (ys ++ [x]))⟩ rest D (wr x zs)) (hs : g.s[i]? = some (.at l)) (hc : g.c[j]? = some (.lst l A ys)) (hs2 : g.s[i2]? = some (.at l2)) (hc2 : g.c[j2]? = some (.lst l2 A xs)) (hj : j2 ≠ j)
    (hsw : swapsWith call none pos.line X.env = pure false := by rfl) :
    JSs X F g (.Expr call pos :: rest) D (we fun k => (0 ≤ k ∧ k < (xs.length : Int)) ∧ ys.length < 1000000 ∧ xs.length < 1000000 ∧ ∃ x, xs[k.toNat]? = some x ∧ wLet (xs.eraseIdx k.toNat) (wr x)) := by
  refine pssW (pss_cons (ps_expr hm hsw) (pssE (t := fun (p : α × List α) => RS F ⟨g.s, (g.c.set j2 (.lst l2 A p.2)).set j (.lst l A (ys ++ [p.1]))⟩ D (wr p.1 p.2)) fun p => hr p.1 p.2)) fun D' σ H ⟨e, k, w⟩ => ?_
  obtain ⟨us, hl, pr⟩ := k.cell hc
  obtain ⟨us2, hl2, pr2⟩ := k.cell hc2
  refine ⟨_, k.ref hs, .inl ⟨rfl, us, .inl (.inl hl)⟩, _, k.ref hs2, .inl ⟨rfl, us2, .inl (.inl hl2)⟩, k, _, w, fun n v H1 ⟨⟨n0, n1⟩, y1, x1, x, hx, w1⟩ s1 rn => ?_⟩
  have k1 := k.step s1
  obtain ⟨vs, gl, qr⟩ := k1.cell hc
  obtain ⟨vs2, gl2, qr2⟩ := k1.cell hc2
  obtain ⟨u, hu, ru⟩ := Paired.at qr2 hx
  have e2 := Paired.len qr2
  have sq : seqIndex? n vs2.length = some n.toNat := by
    unfold seqIndex?
    have h1 : ¬ n < 0 := by omega
    have h2 : n < (vs2.length : Int) := by omega
    simp only [if_neg h1]
    rw [if_pos (by simp [n0, h2])]
  have ne : l ≠ l2 := fun z => by
    subst z
    exact hj (addr_of_get hc rfl k.nd j2 _ hc2 rfl)
  have er : Paired (A.rel (g.bs F H1)) (vs2.eraseIdx n.toNat) (xs.eraseIdx n.toNat) := by
    rw [List.eraseIdx_eq_take_drop_succ, List.eraseIdx_eq_take_drop_succ]
    exact Paired.app (Paired.take _ qr2) (Paired.drop _ qr2)
  have k2 := k1.mut hc2 er
  have gl' : (upd H1 l2 (.lst (vs2.eraseIdx n.toNat))) l = some (.lst vs) := by rw [upd_ne ne]; exact gl
  have hc' : (g.c.set j2 (.lst l2 A (xs.eraseIdx n.toNat)))[j]? = some (.lst l A ys) := by rw [List.getElem?_set_ne hj]; exact hc
  obtain ⟨vs', gl3, qr3⟩ := k2.cell hc'
  rw [gl'] at gl3
  have ev : vs = vs' := by
    injection gl3 with z
    injection z
  subst ev
  refine ⟨l2, vs2, n, n.toNat, u, rfl, by rw [(rn : v = _)], gl2, by omega, by omega, sq, hu, l, vs, u, rfl, rfl, gl', ?_, (x, xs.eraseIdx n.toNat), e, ?_⟩
  · rw [Paired.len qr]
    exact Nat.lt_of_lt_of_le y1 (by decide)
  · exact ⟨k2.mut hc' (Paired.app qr3 (.cons (by rw [bs_mut hc2]; exact ru) .nil)), w1⟩
/-- x = xs.pop() -/
theorem js_asgPop0 {i j i2 : Nat} {l : Addr} {A : Ty α} {xs : List α} {x : Str} {px : Pos} {call : Expr} {wr : α → Prop} {D : Ends} (hm : PE X call (tBM0 X.K "list" rPop (tVar i)))
    (hr : ∀ a, JSs X F ((⟨g.s, g.c.set j (.lst l A xs.dropLast)⟩ : Gm).set i2 (.val A a)) rest D (wr a)) (hs : g.s[i]? = some (.at l)) (hc : g.c[j]? = some (.lst l A xs)) (hN : X.N.Nodup) (hi : X.N[i2]? = some x := by rfl) (hx : Loc X.env.scope x := by first | exact Or.inl rfl | exact Or.inr rfl)
    (hsw : swapsWith call (some (.Name x px)) pos.line X.env = pure false := by rfl) (hf : X.fn x = true ∨ X.env.scope.names.lookup x = some .local := by first | exact .inl rfl | exact .inr rfl) :
    JSs X F g (.Assign [.Name x px] call pos :: rest) D (∃ a, xs.getLast? = some a ∧ wr a) := by
  refine pssW (pss_cons (ps_set hN hi hx hm hsw hf) (pssE hr)) fun D' σ H ⟨e, k, a, ha, w⟩ => ?_
  obtain ⟨us, hl, pr⟩ := k.cell hc
  rw [List.getLast?_eq_getElem?] at ha
  obtain ⟨u, hu, ru⟩ := Paired.at pr ha
  have e1 := Paired.len pr
  have dr : Paired (A.rel (g.bs F H)) us.dropLast xs.dropLast := by
    rw [List.dropLast_eq_take, List.dropLast_eq_take, e1]
    exact Paired.take _ pr
  refine ⟨_, k.ref hs, .inl ⟨rfl, us, .inl (.inl hl)⟩, l, us, u, rfl, rfl, hl, by rw [e1]; exact hu, a, e, ?_, w⟩
  exact (k.mut hc dr).set (t := .val A a) ⟨u, rfl, by rw [bs_mut hc]; exact ru⟩
/-! e is True .. -/
section
variable {a b : Expr} {wa wb : (Bool → Prop) → Prop}
theorem isB_r : CmpOk F g (rO tB) (rO tB) rIsB (fun x y k => k (decide (x = y))) := fun _ x y _ _ H v u P Q _ h1 h2 p q => ⟨x, y, h1, h2, q _ H p (Same.refl H)⟩
theorem notB_r : CmpOk F g (rO tB) (rO tB) rNotB (fun x y k => k (!decide (x = y))) := fun _ x y _ _ H v u P Q _ h1 h2 p q => ⟨x, y, h1, h2, q _ H p (Same.refl H)⟩
theorem je_isB (ha : JE X F g a (rO tB) wa) (hb : JE X F g b (rO tB) wb) : JE X F g (.Compare a [.Is] [b] pos) (rO tB) (fun k => wa fun x => wb fun y => k (decide (x = y))) := je_cmpR (C := fun x y k => k (decide (x = y))) op_isBl isB_r ha hb (nomark _)
theorem je_isnB (ha : JE X F g a (rO tB) wa) (hb : JE X F g b (rO tB) wb) : JE X F g (.Compare a [.IsNot] [b] pos) (rO tB) (fun k => wa fun x => wb fun y => k (!decide (x = y))) := je_cmpR (C := fun x y k => k (!decide (x = y))) op_notBl notB_r ha hb (nomark _)
theorem jt_isB (ha : JE X F g a (rO tB) wa) (hb : JE X F g b (rO tB) wb) : JT X F g (.Compare a [.Is] [b] pos) (fun A B => wa fun x => wb fun y => (decide (x = y) = true → A) ∧ (decide (x = y) = false → B)) := jt_cmpR (C := fun x y k => k (decide (x = y))) op_isBl isB_r ha hb (nomark _)
theorem jt_isnB (ha : JE X F g a (rO tB) wa) (hb : JE X F g b (rO tB) wb) : JT X F g (.Compare a [.IsNot] [b] pos) (fun A B => wa fun x => wb fun y => ((!decide (x = y)) = true → A) ∧ ((!decide (x = y)) = false → B)) := jt_cmpR (C := fun x y k => k (!decide (x = y))) op_notBl notB_r ha hb (nomark _)
end
/-- {k1: v1, k2: v2}[e], texts -/
theorem je_dict2 {k1 k2 v1 v2 : Str} {j1 j2 j3 j4 : Nat} {p1 p2 p3 p4 pd : Pos} {e : Expr} {we : (Str → Prop) → Prop} (hu : X.A.units + 1 < cLine) (hne : k1 ≠ k2) (he : JE X F g e (rO tS) we) (hs : NoSl e := by exact fun _ _ => rfl) :
    JE X F g (.Subscript (.Dict [some (.Constant (.str k1) j1 p1), some (.Constant (.str k2) j2 p2)] [.Constant (.str v1) j3 p3, .Constant (.str v2) j4 p4] pd) e pos) (rO tS) (fun k => we fun x => (x = k1 ∧ k v1) ∨ (x = k2 ∧ k v2)) :=
  peW (pe_dget hu (pe_disp (pps_cons pe_str pe_str (pps_cons pe_str pe_str pps_nil)) rfl rfl (fun z => by cases z) (by show 2 ≤ 15; omega)) he hs) fun σ H Q ⟨k, P, w, q⟩ => by
    intro p hp
    refine ⟨upd_same, [(Sum.inr k1, .str v1), (Sum.inr k2, .str v2)], rfl, by show 2 ≤ 15; omega, ?_⟩
    rw [upd_upd]
    have em : mergeK [] [((Sum.inr k1 : Key), V.str v1), (Sum.inr k2, .str v2)] = [((Sum.inr k1 : Key), V.str v1), (Sum.inr k2, .str v2)] := by
      have h : ¬ ((Sum.inr k1 : Key) = Sum.inr k2) := fun z => hne (Sum.inr.inj z)
      simp [mergeK, putK, h]
    rw [em]
    have sm : Same H (upd H p (.dK [((Sum.inr k1 : Key), V.str v1), (Sum.inr k2, .str v2)])) := same_upd hp
    refine ⟨k.step sm, _, w, fun x v H1 wx s1 rx => ?_⟩
    have hd : H1 p = some (.dK [((Sum.inr k1 : Key), V.str v1), (Sum.inr k2, .str v2)]) := s1 _ _ upd_same
    have ev : v = kV (Sum.inr x) := rx
    rcases wx with ⟨e1, wx⟩ | ⟨e1, wx⟩
    · refine ⟨p, .str v1, rfl, ?_, q v1 _ H1 wx (sm.trans s1) rfl⟩
      have z := DGet.k (k := Sum.inr x) hd
      have ez : valV [((Sum.inr k1 : Key), V.str v1), (Sum.inr k2, .str v2)] (Sum.inr x) = some (.str v1) := by
        rw [e1]
        simp [valV]
      rw [ez, ← ev] at z
      exact z
    · refine ⟨p, .str v2, rfl, ?_, q v2 _ H1 wx (sm.trans s1) rfl⟩
      have z := DGet.k (k := Sum.inr x) hd
      have ez : valV [((Sum.inr k1 : Key), V.str v1), (Sum.inr k2, .str v2)] (Sum.inr x) = some (.str v2) := by
        rw [e1]
        have h : ¬ ((Sum.inr k1 : Key) = Sum.inr k2) := fun z => hne (Sum.inr.inj z)
        simp [valV, h]
      rw [ez, ← ev] at z
      exact z
/-- the signs of a text -/
theorem ji_S {tg iter : Expr} {we : (Str → Prop) → Prop} {vs : List Nat} (he : JE X F g iter (rO tS) we) : PI X tg iter (RI F g tS (fun k => we fun z => k (signsJ z)) vs) :=
  piW (pi_str he) fun σ H R ⟨k, P, w, q⟩ => ⟨k, _, w, fun z v H1 p s r => ⟨z, r, q (signsJ z) (Its z) [] H1 p s (fun c hc => by cases hc) (k.step s) fun σ' H' _ _ => ⟨fun i x e => by
    unfold signsJ at e
    rw [List.getElem?_map] at e
    cases h : z.cps.toList[i]? with
    | none =>
      rw [h] at e
      cases e
    | some c =>
      rw [h] at e
      have e' := Option.some.inj e
      have hc : z.cps[i]? = some c := by
        rw [← Array.getElem?_toList]
        exact h
      have hi : i < z.cps.size := (Array.getElem?_eq_some_iff.mp hc).1
      refine ⟨hi, fun u H2 ⟨e1, d, hd, eu⟩ => ⟨by rw [e1]; exact Same.refl _, ?_⟩⟩
      rw [hc] at hd
      have := Option.some.inj hd
      subst this
      show u = .str x
      rw [eu, ← e'], fun i hi => by
    unfold signsJ at hi
    rw [List.length_map, Array.length_toList] at hi
    exact hi⟩⟩⟩
/-! in a list of data -/
section
variable {a b : Expr} {A : Ty α} {wa : (α → Prop) → Prop} {wb : (List α → Prop) → Prop} [POk α] [DecidableEq α]
theorem any_eqv [dA : Dat K A] (x : α) : ∀ ys : List α, ((ys.map dA.enc).any fun z => PyData.eqv z (dA.enc x)) = decide (x ∈ ys)
  | [] => by simp
  | y :: r => by
    have ih := any_eqv (dA := dA) x r
    rw [List.map_cons, List.any_cons, ih, dA.eqv]
    by_cases e : y = x
    · subst e
      simp
    · have e' : ¬ x = y := fun z => e z.symm
      simp [e, e']
theorem inD_r [dA : Dat K A] (hn : dA.n + 1 ≤ 64) : CmpOk F g (rB A) (rB (tL K A)) (rInD K) (fun x y k => POk.pok x ∧ POk.pok y ∧ k (memJ x y)) :=
  fun _ x y _ _ H v u P Q _ h1 h2 ⟨p1, p2, p⟩ q => by
    obtain ⟨l, vs, e, hs, hp⟩ := h2
    subst e
    have hs2 : SeqAt.shaped (.list (y.map dA.enc)) = true := by
      have l1 : PyData.canLay0 (.list (y.map dA.enc)) = true := by
        simp only [PyData.canLay0]
        exact all_lay p2
      have l2 : (PyData.list (y.map dA.enc)).depth ≤ 64 := by
        have := all_dep (dA := dA) y p2
        simp only [PyData.depth]
        omega
      unfold SeqAt.shaped
      rw [l1, decide_eq_true l2]
      rfl
    exact ⟨dA.enc x, y.map dA.enc, dA.dp h1, .lst hs (all_dp hp), shaped_of (by omega) p1, hs2, by rw [any_eqv]; exact q _ H p (Same.refl H)⟩
theorem niD_r [dA : Dat K A] (hn : dA.n + 1 ≤ 64) : CmpOk F g (rB A) (rB (tL K A)) (rNotInD K) (fun x y k => POk.pok x ∧ POk.pok y ∧ k (!memJ x y)) :=
  fun _ x y _ _ H v u P Q _ h1 h2 ⟨p1, p2, p⟩ q => by
    obtain ⟨l, vs, e, hs, hp⟩ := h2
    subst e
    have hs2 : SeqAt.shaped (.list (y.map dA.enc)) = true := by
      have l1 : PyData.canLay0 (.list (y.map dA.enc)) = true := by
        simp only [PyData.canLay0]
        exact all_lay p2
      have l2 : (PyData.list (y.map dA.enc)).depth ≤ 64 := by
        have := all_dep (dA := dA) y p2
        simp only [PyData.depth]
        omega
      unfold SeqAt.shaped
      rw [l1, decide_eq_true l2]
      rfl
    exact ⟨dA.enc x, y.map dA.enc, dA.dp h1, .lst hs (all_dp hp), shaped_of (by omega) p1, hs2, by rw [any_eqv]; exact q _ H p (Same.refl H)⟩
variable [dA : Dat K A]
theorem je_inD (hu : X.A.units + 65 < cLine) (ha : JE X F g a (rB A) wa) (hb : JE X F g b (rB (tL K A)) wb) (hK : X.K = K := by rfl) (hn : Nat.ble (dA.n + 1) 64 = true := by rfl) (hm : behindInMarks .In b = false := by rfl) : JE X F g (.Compare a [.In] [b] pos) (rO tB) (fun k => wa fun x => wb fun y => (POk.pok x ∧ POk.pok y ∧ k (memJ x y))) := by
  subst hK
  exact je_cmpR (C := fun x y k => POk.pok x ∧ POk.pok y ∧ k (memJ x y)) (op_inD hu) (inD_r (Nat.le_of_ble_eq_true hn)) ha hb hm
theorem je_niD (hu : X.A.units + 65 < cLine) (ha : JE X F g a (rB A) wa) (hb : JE X F g b (rB (tL K A)) wb) (hK : X.K = K := by rfl) (hn : Nat.ble (dA.n + 1) 64 = true := by rfl) (hm : behindInMarks .NotIn b = false := by rfl) : JE X F g (.Compare a [.NotIn] [b] pos) (rO tB) (fun k => wa fun x => wb fun y => (POk.pok x ∧ POk.pok y ∧ k (!memJ x y))) := by
  subst hK
  exact je_cmpR (C := fun x y k => POk.pok x ∧ POk.pok y ∧ k (!memJ x y)) (op_notInD hu) (niD_r (Nat.le_of_ble_eq_true hn)) ha hb hm
theorem jt_inD (hu : X.A.units + 65 < cLine) (ha : JE X F g a (rB A) wa) (hb : JE X F g b (rB (tL K A)) wb) (hK : X.K = K := by rfl) (hn : Nat.ble (dA.n + 1) 64 = true := by rfl) (hm : behindInMarks .In b = false := by rfl) : JT X F g (.Compare a [.In] [b] pos) (fun Ya No => wa fun x => wb fun y => (POk.pok x ∧ POk.pok y ∧ (((memJ x y) = true → Ya) ∧ ((memJ x y) = false → No)))) := by
  subst hK
  exact jt_cmpR (C := fun x y k => POk.pok x ∧ POk.pok y ∧ k (memJ x y)) (op_inD hu) (inD_r (Nat.le_of_ble_eq_true hn)) ha hb hm
theorem jt_niD (hu : X.A.units + 65 < cLine) (ha : JE X F g a (rB A) wa) (hb : JE X F g b (rB (tL K A)) wb) (hK : X.K = K := by rfl) (hn : Nat.ble (dA.n + 1) 64 = true := by rfl) (hm : behindInMarks .NotIn b = false := by rfl) : JT X F g (.Compare a [.NotIn] [b] pos) (fun Ya No => wa fun x => wb fun y => (POk.pok x ∧ POk.pok y ∧ (((!memJ x y) = true → Ya) ∧ ((!memJ x y) = false → No)))) := by
  subst hK
  exact jt_cmpR (C := fun x y k => POk.pok x ∧ POk.pok y ∧ k (!memJ x y)) (op_notInD hu) (niD_r (Nat.le_of_ble_eq_true hn)) ha hb hm
end
theorem hu65 {A : Around} {k : Nat} (h : Room k A) : A.units + 65 < cLine := by
  have := h.un
  omega
end
end J
/-! A8: instances that are made once and then read -/
namespace J
open PySem PySem.Spec L2 PyProof.Rows ClX
section
variable {X : Cx} {F : Fr} {g : Gm} {α β γ ρ τ κ : Type}
/-- an instance of C with the fields ns -/
def tC (C : Addr) (ns : List Str) (U : ATy κ) : Ty κ := ⟨fun H v t => ∃ a dx vs, v = .ref a ∧ H a = some (.ins C dx (ns.zip vs)) ∧ vs.length = ns.length ∧ U.rel H vs t, fun s ⟨a, dx, vs, e, h, l, r⟩ => ⟨a, dx, vs, e, s _ _ h, l, U.same s r⟩⟩
def a1 (A : Ty α) : ATy α := ⟨fun H vs t => ∃ x, vs = [x] ∧ A.rel H x t, fun s ⟨x, e, h1⟩ => ⟨x, e, A.same s h1⟩⟩
section
variable {C f p : Addr} {ns : List Str} {U : ATy κ} {A : Ty α} {B : Ty β} {e : Expr} {es : List Expr} {fl m x : Str} {pos apos np : Pos} {n : Nat} {fd : FuncData} {ps : List Str} {T : ATy τ} {R : Res ρ}
/-- e.fl -/
theorem je_fld {h : κ → α} {w : (κ → Prop) → Prop} (he : JE X F g e (rO (tC C ns U)) w) (c : Cls X.K C) (na : NoAttr X.K C fl) (hl : ∀ H vs t, U.rel H vs t → ∃ v, (ns.zip vs).lookup fl = some v ∧ A.rel H v (h t)) (hb : attributeBase e fl X.env (eval e X.env) = eval e X.env := by rfl) :
    JE X F g (.Attribute e fl pos) (rO A) (fun k => w fun t => k (h t)) :=
  peW (pe_fld he hb) fun σ H Q ⟨k, P, w, q⟩ => ⟨k, _, w, fun t v H1 p s ⟨a, dx, vs, e1, h1, _, r⟩ => by
    obtain ⟨y, hy, ry⟩ := hl _ _ _ r
    exact ⟨a, C, dx, _, y, e1, (k.step s).le _ _ h1, c, na, hy, q (h t) y H1 p s ry⟩⟩
/-- a property -/
theorem je_prop {w : κ × Unit → (ρ → Prop) → Prop} {wa : (κ → Prop) → Prop} (he : JE X F g e (rO (tC C ns U)) wa) (c : Cls X.K C) (hp : PropOf X.K C fl p f) (Fn : FnOk X.prog X.w X.K X.mg X.base CX0 n f fd ps (spJ (aC (tC C ns U) aN) R w)) (hr : Room (n + 1) X.A) (hb : Binds X.K fd ps [])
    (hab : attributeBase e fl X.env (eval e X.env) = eval e X.env := by rfl) : JE X F g (.Attribute e fl pos) R (fun k => wa fun t => w (t, ()) k) :=
  peW (pe_prop he c hp Fn hr hb .nil pass0 hab) fun σ H Q ⟨k, P, w, q⟩ => ⟨k, _, w, fun t v H1 w1 s1 r1 => by
    obtain ⟨a, dx, vs, e1, h1, hl, ht⟩ := r1
    have k1 := k.step s1
    exact ⟨a, dx, _, e1, k1.le _ _ h1, (t, ()), P, k1.fr, rfl, ⟨.ref a, [], rfl, ⟨a, dx, vs, rfl, h1, hl, ht⟩, rfl⟩, w1, fun r v H2 p s2 r2 => q r v H2 p (s1.trans s2) (R.pre s1 (R.same (k1.back s2) (Same.refl _) r2))⟩⟩
/-- o.m(e, ..): the arguments kept -/
theorem je_meth {w : κ × τ → (ρ → Prop) → Prop} {wo : (κ → Prop) → Prop} {wa : (τ → Prop) → Prop} {pl : Sem Bool} (he : JE X F g e (rO (tC C ns U)) wo) (c : Cls X.K C) (hm : Meth X.K C m f) (Fn : FnOk X.prog X.w X.K X.mg X.base CX0 n f fd ps (spJ (aC (tC C ns U) T) R w)) (hr : Room n X.A) (hb : Binds X.K fd ps [])
    {a0 : Expr} (ha : JA X F g (a0 :: es) T wa) (hl : ∀ vs : List V, vs.length = ns.length → (ns.zip vs).lookup m = none)
    (hst : starEach (a0 :: es) X.env = (false, eval a0 X.env) :: starEach es X.env := by rfl) (hpl : (backTo pos (starEach es X.env)).any (·.1) = false := by rfl)
    (ht : eval (.Call (.Attribute e m apos) (a0 :: es) [] pos) X.env = (do
      let ov ← eval e X.env
      standAt apos.atName
      let (f, first) ← holding [ov] (getMethod ov m pl)
      callWith pos f first (backTo pos (starEach (a0 :: es) X.env)) (backToKw pos (keywordEach [] X.env))) := by rfl) :
    JE X F g (.Call (.Attribute e m apos) (a0 :: es) [] pos) R (fun k => wo fun o => wa fun t => w (o, t) k) :=
  peW (pe_meth he c hm Fn hr hb .nil pass0 ha hst hpl ht) fun σ H Q ⟨k, P, w, q⟩ => ⟨k, _, w, fun o v H1 w1 s1 r1 => by
    obtain ⟨a, dx, vs, e1, h1, hn, ho⟩ := r1
    exact ⟨a, dx, _, e1, (k.step s1).le _ _ h1, hl vs hn, k.step s1, _, w1, fun t us H2 w2 s2 r2 => ⟨(o, t), P, (k.step (s1.trans s2)).fr, rfl, ⟨v, us, by rw [List.append_nil, e1], ⟨a, dx, vs, e1, Gm.mono s2 _ _ h1, hn, U.same (Gm.mono s2) ho⟩, r2⟩, w2, fun r v H3 p s3 r3 => q r v H3 p (s1.trans (s2.trans s3)) (R.pre (s1.trans s2) (R.same ((k.step (s1.trans s2)).back s3) (Same.refl _) r3))⟩⟩⟩
/-- the arguments read alone -/
theorem je_methb [hR : RIm R] {w : κ × τ → (ρ → Prop) → Prop} {wo : (κ → Prop) → Prop} {wa : (τ → Prop) → Prop} {pl : Sem Bool} (he : JE X F g e (rO (tC C ns U)) wo) (c : Cls X.K C) (hm : Meth X.K C m f) (Fn : FnOk X.prog X.w X.K X.mg X.base CX0 n f fd ps (spJ (aC (tC C ns U) T) R w)) (hr : Room n X.A) (hb : Binds X.K fd ps [])
    {a0 : Expr} (ha : JAb X F g (a0 :: es) T wa) (hl : ∀ vs : List V, vs.length = ns.length → (ns.zip vs).lookup m = none)
    (hst : starEach (a0 :: es) X.env = (false, eval a0 X.env) :: starEach es X.env := by rfl) (hpl : (backTo pos (starEach es X.env)).any (·.1) = false := by rfl)
    (ht : eval (.Call (.Attribute e m apos) (a0 :: es) [] pos) X.env = (do
      let ov ← eval e X.env
      standAt apos.atName
      let (f, first) ← holding [ov] (getMethod ov m pl)
      callWith pos f first (backTo pos (starEach (a0 :: es) X.env)) (backToKw pos (keywordEach [] X.env))) := by rfl) :
    JE X F g (.Call (.Attribute e m apos) (a0 :: es) [] pos) R (fun k => wo fun o => wa fun t => w (o, t) k) :=
  peW (pe_meth he c hm Fn hr hb .nil pass0 ha hst hpl ht) fun σ H Q ⟨k, P, w, q⟩ => ⟨k, _, w, fun o v H1 w1 s1 r1 => by
    obtain ⟨a, dx, vs, e1, h1, hn, ho⟩ := r1
    have l1 := (k.step s1).le
    exact ⟨a, dx, _, e1, l1 _ _ h1, hl vs hn, k.step s1, _, w1, fun t us H2 w2 s2 r2 => ⟨(o, t), P, Fr.all H2, rfl, ⟨v, us, by rw [List.append_nil, e1], ⟨a, dx, vs, e1, s2 _ _ (l1 _ _ h1), hn, U.same (l1.trans s2) ho⟩, r2⟩, w2, fun r v H3 p s3 r3 => q r v H3 p (s1.trans (s2.trans s3)) (R.pre (s1.trans s2) ((k.step (s1.trans s2)).backB s3 r3))⟩⟩⟩
/-- o.m() -/
theorem je_meth0 {w : κ × Unit → (ρ → Prop) → Prop} {wo : (κ → Prop) → Prop} {pl : Sem Bool} (he : JE X F g e (rO (tC C ns U)) wo) (c : Cls X.K C) (hm : Meth X.K C m f) (Fn : FnOk X.prog X.w X.K X.mg X.base CX0 n f fd ps (spJ (aC (tC C ns U) aN) R w)) (hr : Room n X.A) (hb : Binds X.K fd ps [])
    (hl : ∀ vs : List V, vs.length = ns.length → (ns.zip vs).lookup m = none)
    (ht : eval (.Call (.Attribute e m apos) [] [] pos) X.env = (do
      let ov ← eval e X.env
      standAt apos.atName
      let (f, first) ← holding [ov] (getMethod ov m pl)
      callWith pos f first (backTo pos (starEach [] X.env)) (backToKw pos (keywordEach [] X.env))) := by rfl) :
    JE X F g (.Call (.Attribute e m apos) [] [] pos) R (fun k => wo fun o => w (o, ()) k) :=
  peW (pe_meth0 he c hm Fn hr hb .nil pass0 ht) fun σ H Q ⟨k, P, w, q⟩ => ⟨k, _, w, fun o v H1 w1 s1 r1 => by
    obtain ⟨a, dx, vs, e1, h1, hn, ho⟩ := r1
    have k1 := k.step s1
    exact ⟨a, dx, _, e1, k1.le _ _ h1, hl vs hn, (o, ()), P, k1.fr, rfl, ⟨v, [], by rw [e1]; rfl, ⟨a, dx, vs, e1, h1, hn, ho⟩, rfl⟩, w1, fun r v H3 p s3 r3 => q r v H3 p (s1.trans s3) (R.pre s1 (R.same (k1.back s3) (Same.refl _) r3))⟩⟩
/-! ### the making -/
/-- what __init__ promises: at a new instance; F.H is the heap ahead of it -/
def spI (C : Addr) (ns : List Str) (T : ATy τ) (U : ATy κ) (w : τ → (κ → Prop) → Prop) : Sp := fun vs H Q _ => ∃ (x dx : Addr) (ws : List V) (t : τ) (P : κ → Prop) (F : Fr), vs = .ref x :: ws ∧ F.H x = none ∧ F.H dx = none ∧ dx ≠ x ∧ H = upd (upd F.H dx (.own x)) x (.ins C dx []) ∧ T.rel F.B ws t ∧ w t P ∧
  ∀ u H2, P u → Same F.H H2 → (tC C ns U).rel (F.out H2) (.ref x) u → Q .non H2
theorem je_make {w : τ → (κ → Prop) → Prop} {wa : (τ → Prop) → Prop} (M : Mk X.K C f) (Fn : FnOk X.prog X.w X.K X.mg X.base CX0 n f fd ps (spI C ns T U w)) (hr : Room (n + 1) X.A) (hg : Gl X x) (hm : X.mg x = some (.ref C)) (hb : Binds X.K fd ps [])
    {a0 : Expr} (ha : JA X F g (a0 :: es) T wa) (hdb : (x == ("__debug__" : Str)) = false := by decide) (he : starEach (a0 :: es) X.env = (false, eval a0 X.env) :: starEach es X.env := by rfl) (hpl : (backTo pos (starEach es X.env)).any (·.1) = false := by rfl) :
    JE X F g (.Call (.Name x np) (a0 :: es) [] pos) (rO (tC C ns U)) (fun k => wa fun t => w t k) :=
  peW (pe_make M Fn hr hg hm hb .nil pass0 ha hdb he hpl) fun σ H Q ⟨k, P, w, q⟩ => ⟨k, _, w, fun t vs H1 w1 s1 r1 x dx hx hdx hne => ⟨x, dx, vs, t, P, (k.step s1).fr, by rw [List.append_nil], hx, hdx, hne, rfl, r1, w1, fun u H2 p s2 r2 => ⟨rfl, q u (.ref x) H2 p (s1.trans s2) ((tC C ns U).same ((k.step s1).back s2) r2)⟩⟩⟩
/-- within __init__: what stands at its start -/
theorem init_ok {F : Fr} {x dx : Addr} {σ : L2.St} {sl : List Slot} (hx : F.H x = none) (hdx : F.H dx = none) (hne : dx ≠ x) (hp : Par F.B σ sl) : (⟨sl, [.ins x dx C [] aN ()]⟩ : Gm).Ok F σ (upd (upd F.H dx (.own x)) x (.ins C dx [])) := by
  have s1 : Same F.H (upd (upd F.H dx (.own x)) x (.ins C dx [])) := (same_upd hdx).trans (same_upd (by rw [upd_ne (Ne.symm hne)]; exact hx))
  refine ⟨s1, Par.imp (fun _ _ h => Slot.ok_same (fun a o z => ?_) h) hp, (by show List.Nodup [x]; simp), fun c hc => ?_⟩
  · refine bsA_ofB (fun m => ?_) z
    have e : a = x := List.mem_singleton.mp m
    rw [e] at z
    have := F.le _ _ z
    rw [hx] at this
    cases this
  · cases List.mem_singleton.mp hc
    exact ⟨hx, [], upd_same, rfl, rfl⟩
def aSnoc (U : ATy κ) (A : Ty α) : ATy (κ × α) := ⟨fun H vs t => ∃ us v, vs = us ++ [v] ∧ U.rel H us t.1 ∧ A.rel H v t.2, fun s ⟨us, v, e, h1, h2⟩ => ⟨us, v, e, U.same s h1, A.same s h2⟩⟩
theorem putF_zip {f : Str} {v : V} : ∀ {ns : List Str} {vs : List V}, vs.length = ns.length → f ∉ ns → putF f v (ns.zip vs) = (ns ++ [f]).zip (vs ++ [v])
  | [], [], _, _ => rfl
  | n :: ns, u :: vs, h, hf => by
    show (if n = f then (n, v) :: ns.zip vs else (n, u) :: putF f v (ns.zip vs)) = (n, u) :: (ns ++ [f]).zip (vs ++ [v])
    rw [if_neg (fun z => hf (by rw [z]; exact List.mem_cons_self)), putF_zip (Nat.succ.inj h) (fun z => hf (List.mem_cons_of_mem _ z))]
  | [], _ :: _, h, _ => by cases h
  | _ :: _, [], h, _ => by cases h
/-- self.f = e -/
theorem js_fld {i j : Nat} {x dx : Addr} {t : κ} {we : (α → Prop) → Prop} {wr : α → Prop} {rest : List Stmt} {D : Ends} {sx : Str} {p2 p3 : Pos} (c : Cls X.K C) (na : NoAttr X.K C fl) (he : JE X F g e (rO A) we)
    (hr : ∀ a, JSs X F ⟨g.s, g.c.set j (.ins x dx C (ns ++ [fl]) (aSnoc U A) (t, a))⟩ rest D (wr a)) (hs : g.s[i]? = some (.at x)) (hc : g.c[j]? = some (.ins x dx C ns U t)) (hf : fl ∉ ns := by decide) (hn : ns.length < 1000 := by decide)
    (hN : X.N[i]? = some sx := by rfl) (hv : Vis X.env.scope sx := by first | exact Or.inl rfl | exact Or.inr (Or.inl rfl) | exact Or.inr (Or.inr rfl)) (hd : (sx == ("__debug__" : Str)) = false := by decide) (hcd : (sx == ("__classdict__" : Str)) = false := by decide)
    (hsw : swapsWith e (some (.Attribute (.Name sx p2) fl p3)) pos.line X.env = pure false := by rfl) :
    JSs X F g (.Assign [.Attribute (.Name sx p2) fl p3] e pos :: rest) D (we fun a => wLet a wr) :=
  pssW (pss_cons (ps_fld (f := fl) (pe_var hN hv hd hcd) he hsw) (pssE hr)) fun D' σ H ⟨e, k, w⟩ => ⟨k, _, w, fun a v H1 w1 s1 ra => by
    have k1 := k.step s1
    have m := List.mem_of_getElem? hc
    obtain ⟨n0, vs, hx, hl, hu⟩ := k1.cells _ m
    refine ⟨_, k1.ref hs, x, C, dx, _, rfl, hx, c, na, ?_, a, e, ?_, w1⟩
    · rw [List.length_zip]
      omega
    · rw [putF_zip hl hf]
      exact k1.mutC hc rfl rfl ⟨n0, vs ++ [v], upd_same, by rw [List.length_append, List.length_append, hl]; rfl, vs, v, rfl, hu, ra⟩⟩
/-- at the end of __init__ -/
theorem init_end {F : Fr} {σ : L2.St} {H : Hp} {x dx : Addr} {V : ATy τ} {t : τ} {u : κ} {j : Nat} (k : g.Ok F σ H) (hc : g.c[j]? = some (.ins x dx C ns V t)) (hv : ∀ H vs, V.rel H vs t → U.rel H vs u) : (tC C ns U).rel (F.out H) (.ref x) u := by
  have m := List.mem_of_getElem? hc
  obtain ⟨n0, vs, hx, hl, hu⟩ := k.cells _ m
  exact ⟨x, dx, vs, rfl, bsA_of (fun z => by cases z) n0 hx, hl, U.same Gm.out (hv _ _ hu)⟩
/-! ### the class itself -/
/-- C.fl, a constant -/
theorem je_cval {mc : Value} {v : V} {u : Value} {a : α} (hg : Gl X x) (hm : X.mg x = some (.ref C)) (r : CRead X.K C mc) (k : CVal X.K C mc fl v u) (ha : ∀ H, A.rel H v a) (hdb : (x == ("__debug__" : Str)) = false := by decide)
    (hb : attributeBase (.Name x np) fl X.env (eval (.Name x np) X.env) = eval (.Name x np) X.env := by rfl) : JE X F g (.Attribute (.Name x np) fl pos) (rO A) (fun k => k a) :=
  peW (pe_cval (pe_glob hg hm (v := .ref C) rfl hdb) hb) fun σ H Q ⟨k', P, w, q⟩ => ⟨C, mc, v, u, rfl, r, k, q a v H w (Same.refl H) (ha _)⟩
end
end
/-- C.m is a staticmethod: its record at p, its def at f -/
structure SMet (K : PySem.W.Frag) (C : Addr) (mc : Value) (m : Str) (p f : Addr) : Prop where
  at_ : PySem.W.findCls K (.ref C) mc m = some (.get (.builtin "staticmethod.__get__") (.ref p) .none (.ref C))
  rc : ∃ rest, PySem.W.recIn K p "staticmethod" = some (.ref f :: rest)
  hd : PySem.W.handedIn (.ref f) = true
  kp : PySem.W.keepIn K (.ref f) = true
section
variable {X : Cx} {CX : CXT} {C p f : Addr} {mc : Value} {m : Str} {k : Nat} {fd : FuncData} {ps : List Str} {sp : Sp} {E : XK} {o e : Expr} {es : List Expr} {ta : TE} {t : TA} {apos pos : Pos} {pl : Sem Bool}
def tSMeth (C : Addr) (sp : Sp) (E : XK) (ta : TE) (t : TA) : TE := fun σ H Q => ta σ H fun x H1 => x = .ref C ∧ t σ H1 fun vs H2 => sp vs H2 Q E
theorem pe_smeth (he : PE X o ta) (r : CRead X.K C mc) (c : SMet X.K C mc m p f) (Fn : FnOk X.prog X.w X.K X.mg X.base CX k f fd ps sp) (hr : Room k X.A) (hb : Binds X.K fd ps []) (hx : Passes CX X E) (ha : PA X (e :: es) t)
    (hst : starEach (e :: es) X.env = (false, eval e X.env) :: starEach es X.env := by rfl) (hpl : (backTo pos (starEach es X.env)).any (·.1) = false := by rfl)
    (ht : eval (.Call (.Attribute o m apos) (e :: es) [] pos) X.env = (do
      let ov ← eval o X.env
      standAt apos.atName
      let (f, first) ← holding [ov] (getMethod ov m pl)
      callWith pos f first (backTo pos (starEach (e :: es) X.env)) (backToKw pos (keywordEach [] X.env))) := by rfl) :
    PE X (.Call (.Attribute o m apos) (e :: es) [] pos) (tSMeth C sp E ta t) := by
  refine ⟨fun pins s σ H Q I h => ?_⟩
  refine PySem.W.methodCall_KW (pl := pl) (thn (he.run pins s σ H _ I h) fun u s1 ⟨x, H1, I1, rx, ex, q⟩ => ?_) ht
  subst ex
  obtain rfl : u = Value.ref C := rx
  obtain ⟨rest, hp⟩ := c.rc
  refine PySem.W.method_cls I1.kIn r.ga (PySem.W.cls_bind I1.kIn r.rd c.at_ (wpAny_call (PySem.W.sm_get (s := { s1 with toks := s1.toks + 1 }) I1.kIn hp (PySem.W.handed_on c.hd ?_))))
  have I2 := I1.tok (s1.toks + 1)
  refine PySem.W.callWith_K (first := []) (h₀ := X.base) I.ok.mod.kin c.kp (thn (ha.run pos pins _ σ H1 _ I2 q) fun us s2 ⟨vs, H2, I3, rv, q2⟩ => ⟨I3.kIn, ?_⟩) hst hpl
  exact run_fn Fn hr hb .nil hx I3 rv (by rw [List.append_nil]; exact q2)
end
section
variable {X : Cx} {F : Fr} {g : Gm} {α β γ ρ τ κ : Type} {C p f : Addr} {mc : Value} {m x : Str} {n : Nat} {fd : FuncData} {ps : List Str} {e : Expr} {es : List Expr} {apos pos np : Pos} {pl : Sem Bool} {T : ATy τ} {R : Res ρ}
theorem je_smeth {w : τ → (ρ → Prop) → Prop} {wa : (τ → Prop) → Prop} (hg : Gl X x) (hm : X.mg x = some (.ref C)) (r : CRead X.K C mc) (c : SMet X.K C mc m p f) (Fn : FnOk X.prog X.w X.K X.mg X.base CX0 n f fd ps (spJ T R w)) (hr : Room n X.A) (hb : Binds X.K fd ps []) (ha : JA X F g (e :: es) T wa)
    (hdb : (x == ("__debug__" : Str)) = false := by decide) (hst : starEach (e :: es) X.env = (false, eval e X.env) :: starEach es X.env := by rfl) (hpl : (backTo pos (starEach es X.env)).any (·.1) = false := by rfl)
    (ht : eval (.Call (.Attribute (.Name x np) m apos) (e :: es) [] pos) X.env = (do
      let ov ← eval (.Name x np) X.env
      standAt apos.atName
      let (f, first) ← holding [ov] (getMethod ov m pl)
      callWith pos f first (backTo pos (starEach (e :: es) X.env)) (backToKw pos (keywordEach [] X.env))) := by rfl) :
    JE X F g (.Call (.Attribute (.Name x np) m apos) (e :: es) [] pos) R (fun k => wa fun t => w t k) :=
  peW (pe_smeth (E := fun _ _ _ => False) (pe_glob hg hm (v := .ref C) rfl hdb) r c Fn hr hb pass0 ha hst hpl ht) fun σ H Q ⟨k, P, w, q⟩ => ⟨rfl, k, _, w, fun t vs H1 w1 s1 r1 => ⟨t, P, (k.step s1).fr, rfl, r1, w1, fun r v H2 p s2 r2 => q r v H2 p (s1.trans s2) (R.pre s1 (R.same ((k.step s1).back s2) (Same.refl _) r2))⟩⟩
end
/-! ### own operators -/
section
variable {X : Cx} {CX : CXT} {k : Nat} {C f : Addr} {fd : FuncData} {ps : List Str} {sp : Sp} {E : XK} {a b : Expr} {pos : Pos} {ta tb : TE}
def rIxO (C : Addr) (sp : Sp) (E : XK) : R2 := fun x y H Q => ∃ a dx fs, x = .ref a ∧ H a = some (.ins C dx fs) ∧ sp [.ref a, y] H Q E
theorem pe_subO (c : Cls X.K C) (hm : Meth X.K C "__getitem__" f) (hf : PySem.W.fnIn X.K f = true) (Fn : FnOk X.prog X.w X.K X.mg X.base CX k f fd ps sp) (hr : Room (k + 1) X.A) (hb : Binds X.K fd ps []) (hx : Passes CX X E) (ha : PE X a ta) (hbb : PE X b tb)
    (hs : ∀ x i, subscripted b true (.ref x) i = runValue (.builtin "lifetime.subscript" ⟨[.ref x, i], []⟩)) : PE X (.Subscript a b pos) (tOp (rIxO C sp E) ta tb) := by
  refine ⟨fun pins s σ H Q I h => ?_⟩
  refine Subscript_ (binT ha hbb I h fun v u s2 x y H2 I2 rx ry q => ?_)
  obtain ⟨o, dx, fs, rfl, ea, q⟩ := q
  obtain rfl : v = Value.ref o := rx
  obtain ⟨mA, O, _, _, _, _⟩ := ins_get I2.hok ea
  obtain ⟨od, J, _⟩ := O.look
  obtain ⟨m, fr⟩ := I2.fr
  refine PySem.W.sub_K fr I2.mod.kin J hm.at_ hf hm.fn (wpAny_call (codeAny_mono (Fn.run X.A.in1 X.stack s2 H2 ⟨[.ref o, u], []⟩ [.ref o, u] [.ref o, y] Q E hr.in1 I2.env0.in1 (hb _ [.ref o, u] I2.kIn ?_) (.cons rfl (.cons ry .nil)) q) fun r s' hq => ?_)) (hs _ _)
  · exact (Fn.len _ _ _ _ q)
  · cases r with
    | error er => exact hx pins σ H2 s2 er s' I2 hq
    | ok fl =>
      cases fl with
      | ret u' =>
        exact I2.after hq
      | next => exact False.elim hq
      | brk => exact False.elim hq
      | cont => exact False.elim hq
/-- an operator of a class between two of its instances -/
def rBinO (C : Addr) (sp : Sp) (E : XK) : R2 := fun x y H Q => ∃ a dx fs b dy gs, x = .ref a ∧ H a = some (.ins C dx fs) ∧ y = .ref b ∧ H b = some (.ins C dy gs) ∧ sp [.ref a, .ref b] H (fun v H' => (∀ u, RelV v u → u ≠ .notImplemented) ∧ Q v H') E
theorem op_own {op : Operator} (hm : Meth X.K C (PySem.dunder op.info.2) f) (hs : PySem.W.selfFirst X.K C = true) (Fn : FnOk X.prog X.w X.K X.mg X.base CX k f fd ps sp) (hr : Room k X.A) (hb : Binds X.K fd ps []) (hx : Passes CX X E) : OpR X (binaryOp op) (rBinO C sp E) := by
  intro pins s σ H x y v u Q I rx ry q
  obtain ⟨o, dx, fs, o2, dy, gs, rfl, ea, rfl, eb, q⟩ := q
  obtain rfl : v = Value.ref o := rx
  obtain rfl : u = Value.ref o2 := ry
  obtain ⟨mA, O, _, _, _, _⟩ := ins_get I.hok ea
  obtain ⟨od, J, _⟩ := O.look
  obtain ⟨mB, O2, _, _, _, _⟩ := ins_get I.hok eb
  obtain ⟨od2, J2, _⟩ := O2.look
  obtain ⟨m, fr⟩ := I.fr
  refine PySem.W.binop_K fr I.mod.kin J J2.type hs hm.at_ hm.fn (wpAny_mono (wpAny_call (codeAny_mono (Fn.run X.A X.stack s H ⟨[.ref o, .ref o2], []⟩ [.ref o, .ref o2] [.ref o, .ref o2] _ E hr I.env0 (hb _ [.ref o, .ref o2] I.kIn ?_) (.cons rfl (.cons rfl .nil)) q) (R' := fun r s' => match r with | .ok (.ret u) => PySem.W.CmpBack (EP X pins σ Q) u s' | .ok _ => False | .error e => X.xe e s') fun r s' hq => ?_)) (fun u s' h => h) (fun e s' h => h))
  · exact (Fn.len _ _ _ _ q)
  · cases r with
    | error er => exact hx pins σ H s er s' I hq
    | ok fl =>
      cases fl with
      | ret u' =>
        obtain ⟨v, H', I', rv, hn, hQ⟩ := I.after hq
        have hne := hn _ rv
        show PySem.W.CmpBack _ u' s'
        unfold PySem.W.CmpBack
        split
        · exact absurd rfl hne
        · exact ⟨v, H', I', rv, hQ⟩
      | next => exact False.elim hq
      | brk => exact False.elim hq
      | cont => exact False.elim hq
end
end J
/-! A9: more operators, chains, own ==, zip, texts -/
namespace J
open PySem PySem.Spec L2 PyProof.Rows ClX RZ
section
variable {X : Cx} {F : Fr} {g : Gm} {α β γ ρ τ κ : Type}
/-! ### own == -/
section
variable {CX : CXT} {k : Nat} {C f : Addr} {fd : FuncData} {ps : List Str} {sp : Sp} {E : XK} {a b : Expr} {pos : Pos}
theorem op_eqOwn (hu : X.A.units < cLine) (hm : Meth X.K C "__eq__" f) (Fn : FnOk X.prog X.w X.K X.mg X.base CX k f fd ps sp) (hr : Room k X.A) (hb : Binds X.K fd ps []) (hx : Passes CX X E) : OpR X (compareOp .Eq) (rBinO C sp E) := by
  intro pins s σ H x y v u Q I rx ry q
  obtain ⟨o, dx, fs, o2, dy, gs, rfl, ea, rfl, eb, q⟩ := q
  obtain rfl : v = Value.ref o := rx
  obtain rfl : u = Value.ref o2 := ry
  obtain ⟨mA, O, _, _, _, _⟩ := ins_get I.hok ea
  obtain ⟨od, J, _⟩ := O.look
  obtain ⟨mB, O2, _, _, _, _⟩ := ins_get I.hok eb
  obtain ⟨od2, J2, _⟩ := O2.look
  obtain ⟨m, fr⟩ := I.fr
  show wpAny _ _ (richCompare .Eq (.ref o) (.ref o2)) _ _ _
  refine PySem.W.cmp_K hu fr I.mod.kin J J2.type (by unfold PySem.W.notFirst; simp) hm.at_ hm.fn (wpAny_mono (wpAny_call (codeAny_mono (Fn.run X.A X.stack s H ⟨[.ref o, .ref o2], []⟩ [.ref o, .ref o2] [.ref o, .ref o2] _ E hr I.env0 (hb _ [.ref o, .ref o2] I.kIn ?_) (.cons rfl (.cons rfl .nil)) q) (R' := fun r s' => match r with | .ok (.ret u) => PySem.W.CmpBack (EP X pins σ Q) u s' | .ok _ => False | .error e => X.xe e s') fun r s' hq => ?_)) (fun u s' h => h) (fun e s' h => h))
  · exact (Fn.len _ _ _ _ q)
  · cases r with
    | error er => exact hx pins σ H s er s' I hq
    | ok fl =>
      cases fl with
      | ret u' =>
        obtain ⟨v, H', I', rv, hn, hQ⟩ := I.after hq
        have hne := hn _ rv
        show PySem.W.CmpBack _ u' s'
        unfold PySem.W.CmpBack
        split
        · exact absurd rfl hne
        · exact ⟨v, H', I', rv, hQ⟩
      | next => exact False.elim hq
      | brk => exact False.elim hq
      | cont => exact False.elim hq
variable {ns : List Str} {U : ATy κ} {R : Res ρ}
theorem bin_r {w : κ × κ × Unit → (ρ → Prop) → Prop} (hR : ∀ H B H' v a, R.rel H B H' v a → ∀ u, RelV v u → u ≠ .notImplemented) : ∀ (σ : L2.St) (x y : κ) (Ha Hb H : Hp) (v u : V) (P : ρ → Prop) (Q : VK), g.Ok F σ H → (rO (tC C ns U)).rel Ha (g.bs F H) H v x → (rO (tC C ns U)).rel Hb (g.bs F H) H u y → w (x, y, ()) P →
    (∀ z v' H', P z → Same H H' → R.rel H (g.bs F H') H' v' z → Q v' H') → rBinO C (spJ (aC (tC C ns U) (aC (tC C ns U) aN)) R w) (fun _ _ _ => False) v u H Q := fun σ x y Ha Hb H v u P Q k h1 h2 p q => by
  obtain ⟨a, dx, vs, e1, g1, l1, u1⟩ := id h1
  obtain ⟨b, dy, us, e2, g2, l2, u2⟩ := id h2
  exact ⟨a, dx, _, b, dy, _, e1, k.le _ _ g1, e2, k.le _ _ g2, (x, y, ()), P, k.fr, rfl, ⟨.ref a, [.ref b], rfl, by rw [← e1]; exact h1, .ref b, [], rfl, by rw [← e2]; exact h2, rfl⟩, p, fun r v' H' pr s rr =>
    ⟨hR _ _ _ _ _ rr, q r v' H' pr s (R.same (k.back s) (Same.refl _) rr)⟩⟩
theorem nni_ref {H B H' : Hp} {v : V} {a : κ} : (rO (tC C ns U)).rel H B H' v a → ∀ u, RelV v u → u ≠ .notImplemented := fun ⟨x, _, _, e, _⟩ u r z => by
  subst e
  obtain rfl : u = Value.ref x := r
  cases z
theorem nni_bl {H B H' : Hp} {v : V} {a : Bool} : (rO tB).rel H B H' v a → ∀ u, RelV v u → u ≠ .notImplemented := fun e u r z => by
  have e' : v = .bl a := e
  subst e'
  obtain rfl : u = Value.bool a := r
  cases z
/-- one * two and the like, of the class's own -/
theorem je_binO {op : Operator} {ns' : List Str} {C' : Addr} {κ' : Type} {U' : ATy κ'} {w : κ × κ × Unit → (κ' → Prop) → Prop} {wa wb : (κ → Prop) → Prop} (ha : JE X F g a (rO (tC C ns U)) wa) (hb' : JE X F g b (rO (tC C ns U)) wb) (hm : Meth X.K C (PySem.dunder op.info.2) f) (hs : PySem.W.selfFirst X.K C = true)
    (Fn : FnOk X.prog X.w X.K X.mg X.base CX0 k f fd ps (spJ (aC (tC C ns U) (aC (tC C ns U) aN)) (rO (tC C' ns' U')) w)) (hr : Room k X.A) (hb : Binds X.K fd ps []) : JE X F g (.BinOp a op b pos) (rO (tC C' ns' U')) (fun k => wa fun x => wb fun y => w (x, y, ()) k) :=
  je_opR (C := fun x y k => w (x, y, ()) k) (op_own hm hs Fn hr hb pass0) (bin_r fun _ _ _ _ _ h => nni_ref h) ha hb'
theorem je_eqO {w : κ × κ × Unit → (Bool → Prop) → Prop} {wa wb : (κ → Prop) → Prop} (hu : X.A.units < cLine) (ha : JE X F g a (rO (tC C ns U)) wa) (hb' : JE X F g b (rO (tC C ns U)) wb) (hm : Meth X.K C "__eq__" f)
    (Fn : FnOk X.prog X.w X.K X.mg X.base CX0 k f fd ps (spJ (aC (tC C ns U) (aC (tC C ns U) aN)) (rO tB) w)) (hr : Room k X.A) (hb : Binds X.K fd ps []) : JE X F g (.Compare a [.Eq] [b] pos) (rO tB) (fun k => wa fun x => wb fun y => w (x, y, ()) k) :=
  je_cmpR (C := fun x y k => w (x, y, ()) k) (op_eqOwn hu hm Fn hr hb pass0) (fun σ x y Ha Hb H v u P Q k h1 h2 p q => bin_r (R := rO tB) (fun _ _ _ _ _ h => nni_bl h) σ x y Ha Hb H v u P Q k h1 h2 p fun z v' H' pz s r => by
    have e : v' = .bl z := r
    rw [e]
    exact q z H' pz s) ha hb' (nomark _)
theorem jt_eqO {w : κ × κ × Unit → (Bool → Prop) → Prop} {wa wb : (κ → Prop) → Prop} (hu : X.A.units < cLine) (ha : JE X F g a (rO (tC C ns U)) wa) (hb' : JE X F g b (rO (tC C ns U)) wb) (hm : Meth X.K C "__eq__" f)
    (Fn : FnOk X.prog X.w X.K X.mg X.base CX0 k f fd ps (spJ (aC (tC C ns U) (aC (tC C ns U) aN)) (rO tB) w)) (hr : Room k X.A) (hb : Binds X.K fd ps []) : JT X F g (.Compare a [.Eq] [b] pos) (fun Ya No => wa fun x => wb fun y => w (x, y, ()) fun z => (z = true → Ya) ∧ (z = false → No)) :=
  jt_cmpR (C := fun x y k => w (x, y, ()) k) (op_eqOwn hu hm Fn hr hb pass0) (fun σ x y Ha Hb H v u P Q k h1 h2 p q => bin_r (R := rO tB) (fun _ _ _ _ _ h => nni_bl h) σ x y Ha Hb H v u P Q k h1 h2 p fun z v' H' pz s r => by
    have e : v' = .bl z := r
    rw [e]
    exact q z H' pz s) ha hb' (nomark _)
/-- o[e] by the class's own __getitem__ -/
theorem je_subO {A : Ty α} {w : κ × α × Unit → (ρ → Prop) → Prop} {wo : (κ → Prop) → Prop} {wa : (α → Prop) → Prop} (ho : JE X F g a (rO (tC C ns U)) wo) (c : Cls X.K C) (hm : Meth X.K C "__getitem__" f) (hf : PySem.W.fnIn X.K f = true)
    (Fn : FnOk X.prog X.w X.K X.mg X.base CX0 k f fd ps (spJ (aC (tC C ns U) (aC A aN)) R w)) (hr : Room (k + 1) X.A) (hb : Binds X.K fd ps []) (ha : JE X F g b (rO A) wa)
    (hs : ∀ x i, subscripted b true (.ref x) i = runValue (.builtin "lifetime.subscript" ⟨[.ref x, i], []⟩) := by intro _ _; rfl) : JE X F g (.Subscript a b pos) R (fun k => wo fun o => wa fun y => w (o, y, ()) k) :=
  peW (pe_subO (E := fun _ _ _ => False) c hm hf Fn hr hb pass0 ho ha hs) fun σ H Q ⟨k, P, w, q⟩ => ⟨k, _, w, fun o v H1 w1 s1 r1 => ⟨k.step s1, _, w1, fun y u H2 w2 s2 r2 => by
    obtain ⟨i, dx, vs, e1, h1, hl, hu⟩ := r1
    have k2 := k.step (s1.trans s2)
    exact ⟨i, dx, _, e1, k2.le _ _ (Gm.mono s2 _ _ h1), (o, y, ()), P, k2.fr, rfl, ⟨.ref i, [u], rfl, ⟨i, dx, vs, rfl, Gm.mono s2 _ _ h1, hl, U.same (Gm.mono s2) hu⟩, ⟨u, [], rfl, r2, rfl⟩⟩, w2, fun r v' H3 p s3 r3 => q r v' H3 p (s1.trans (s2.trans s3)) (R.pre (s1.trans s2) (R.same (k2.back s3) (Same.refl _) r3))⟩⟩⟩
/-- isinstance(e, C) of an instance of C -/
theorem je_isC {x : Str} {e : Expr} {p p2 pos : Pos} {w : (κ → Prop) → Prop} (hg : Gl X "isinstance") (hm : X.mg "isinstance" = none) (he : JE X F g e (rO (tC C ns U)) w) (ic : C8.InsC X.K C) (hgx : Gl X x) (hmx : X.mg x = some (.ref C)) (hdb : (x == ("__debug__" : Str)) = false := by decide)
    (hst : starEach [e, .Name x p2] X.env = (false, eval e X.env) :: starEach [.Name x p2] X.env := by rfl) (hst2 : starEach [.Name x p2] X.env = (false, eval (.Name x p2) X.env) :: starEach [] X.env := by rfl) (hpl : (backTo pos (starEach [.Name x p2] X.env)).any (·.1) = false := by rfl) :
    JE X F g (.Call (.Name "isinstance" p) [e, .Name x p2] [] pos) (rO tB) (fun k => w fun _ => k true) :=
  peW (pe_callB (C8.call_isC ic) hg hm (by decide +kernel) (pa_cons he (pa_cons (pe_glob hgx hmx (v := .ref C) rfl hdb) pa_nil hst2) hst) (by decide) (by decide) hst hpl) fun σ H Q ⟨k, P, w, q⟩ => ⟨k, _, w, fun a v H1 w1 s1 ⟨i, dx, vs, e1, h1, _⟩ =>
    ⟨i, dx, _, by rw [e1], (k.step s1).le _ _ h1, q true _ H1 w1 s1 rfl⟩⟩
end
/-! ### bits -/
section
variable {a b c e o : Expr} {pos apos p : Pos} {wa wb wc : (Int → Prop) → Prop}
theorem bitOr_J {i j : Int} (hi : 0 ≤ i) (hj : 0 ≤ j) : Builtin.bitOr i j = orJ i j := L2.bitOr_nn hi hj
theorem bitAnd_J {i j : Int} (hi : 0 ≤ i) (hj : 0 ≤ j) : Builtin.bitAnd i j = andJ i j := by
  obtain ⟨m, rfl⟩ := Int.eq_ofNat_of_zero_le hi
  obtain ⟨n, rfl⟩ := Int.eq_ofNat_of_zero_le hj
  rfl
theorem xor_sum : ∀ m n : Nat, (m ^^^ n) + 2 * (m &&& n) = m + n := by
  intro m
  induction m using Nat.strongRecOn with
  | ind m ih =>
    intro n
    by_cases h0 : m = 0
    · subst h0
      simp
    · have e := ih (m / 2) (by omega) (n / 2)
      have h1 : (m ^^^ n) / 2 = m / 2 ^^^ n / 2 := Nat.xor_div_two
      have h2 : (m &&& n) / 2 = m / 2 &&& n / 2 := Nat.and_div_two
      have e := ih (m / 2) (by omega) (n / 2)
      rw [← h1, ← h2] at e
      have h3 : (m ^^^ n) % 2 = m % 2 ^^^ n % 2 := Nat.xor_mod_two_pow (n := 1)
      have h4 : (m &&& n) % 2 = m % 2 &&& n % 2 := Nat.and_mod_two_pow (n := 1)
      rcases Nat.mod_two_eq_zero_or_one m with a | a <;> rcases Nat.mod_two_eq_zero_or_one n with b | b <;> rw [a, b] at h3 h4 <;> simp only [Nat.xor_self, Nat.zero_xor, Nat.xor_zero, Nat.and_self, Nat.zero_and, Nat.and_zero] at h3 h4 <;> omega
theorem bitXor_J {i j : Int} (hi : 0 ≤ i) (hj : 0 ≤ j) : Builtin.bitXor i j = xorJ i j := by
  have e : Builtin.bitXor i j = orJ i j - andJ i j := by rw [← bitOr_J hi hj, ← bitAnd_J hi hj]; rfl
  have e2 : Builtin.bitOr i j = i + j - Builtin.bitAnd i j := PyProof.Rows.bitOr_and i j
  rw [bitOr_J hi hj, bitAnd_J hi hj] at e2
  have e3 := xor_sum i.toNat j.toNat
  rw [e, e2]
  unfold andJ xorJ
  omega
theorem je_or2 (ha : JE X F g a (rO tI) wa) (hb : JE X F g b (rO tI) wb) : JE X F g (.BinOp a .BitOr b pos) (rO tI) (fun k => wa fun x => wb fun y => (0 ≤ x ∧ 0 ≤ y) ∧ k (orJ x y)) :=
  je_opR (C := fun x y k => (0 ≤ x ∧ 0 ≤ y) ∧ k (orJ x y)) op_or (fun _ x y _ _ H v u P Q k h1 h2 w q => ⟨x, y, h1, h2, by show Q (.int (Builtin.bitOr x y)) H; rw [bitOr_J w.1.1 w.1.2]; exact q _ _ H w.2 (Same.refl H) rfl⟩) ha hb
theorem je_and2 (ha : JE X F g a (rO tI) wa) (hb : JE X F g b (rO tI) wb) : JE X F g (.BinOp a .BitAnd b pos) (rO tI) (fun k => wa fun x => wb fun y => (0 ≤ x ∧ 0 ≤ y) ∧ k (andJ x y)) :=
  je_opR (C := fun x y k => (0 ≤ x ∧ 0 ≤ y) ∧ k (andJ x y)) op_and (fun _ x y _ _ H v u P Q k h1 h2 w q => ⟨x, y, h1, h2, by show Q (.int (Builtin.bitAnd x y)) H; rw [bitAnd_J w.1.1 w.1.2]; exact q _ _ H w.2 (Same.refl H) rfl⟩) ha hb
theorem je_xor2 (ha : JE X F g a (rO tI) wa) (hb : JE X F g b (rO tI) wb) : JE X F g (.BinOp a .BitXor b pos) (rO tI) (fun k => wa fun x => wb fun y => (0 ≤ x ∧ 0 ≤ y) ∧ k (xorJ x y)) :=
  je_opR (C := fun x y k => (0 ≤ x ∧ 0 ≤ y) ∧ k (xorJ x y)) op_xor (fun _ x y _ _ H v u P Q k h1 h2 w q => ⟨x, y, h1, h2, by show Q (.int (Builtin.bitXor x y)) H; rw [bitXor_J w.1.1 w.1.2]; exact q _ _ H w.2 (Same.refl H) rfl⟩) ha hb
theorem je_shr (ha : JE X F g a (rO tI) wa) (hb : JE X F g b (rO tI) wb) : JE X F g (.BinOp a .RShift b pos) (rO tI) (fun k => wa fun x => wb fun y => 0 ≤ y ∧ k (x / 2 ^ y.toNat)) :=
  je_opR (C := fun x y k => 0 ≤ y ∧ k (x / 2 ^ y.toNat)) op_shr (fun _ x y _ _ H v u P Q k h1 h2 w q => ⟨x, y, h1, h2, w.1, q _ _ H w.2 (Same.refl H) rfl⟩) ha hb
theorem je_shl (ha : JE X F g a (rO tI) wa) (hb : JE X F g b (rO tI) wb) : JE X F g (.BinOp a .LShift b pos) (rO tI) (fun k => wa fun x => wb fun y => (0 ≤ y ∧ y ≤ 1000000 ∧ x.natAbs < 2 ^ 64) ∧ k (x * 2 ^ y.toNat)) :=
  je_opR (C := fun (x y : Int) k => (0 ≤ y ∧ y ≤ 1000000 ∧ x.natAbs < 2 ^ 64) ∧ k (x * 2 ^ y.toNat)) op_shl (fun _ x y _ _ H v u P Q k h1 h2 w q => ⟨x, y, h1, h2, w.1, q _ _ H w.2 (Same.refl H) rfl⟩) ha hb
theorem je_bits (ho : JE X F g o (rO tI) wa) (hbase : attributeBase o "bit_length" X.env (eval o X.env) = eval o X.env := by rfl) (hline : (apos.endLine == pos.line) = true := by rfl) : JE X F g (.Call (.Attribute o "bit_length" apos) [] [] pos) (rO tI) (fun k => wa fun x => k (Builtin.Int.intBits x : Nat)) :=
  peW (pe_bits ho hbase hline) fun σ H Q ⟨k, P, w, q⟩ => ⟨k, _, w, fun x v H1 w1 s1 r1 => ⟨x, r1, q _ _ H1 w1 s1 rfl⟩⟩
/-! ### max, min -/
theorem je_max2 (hg : Gl X "max") (hm : X.mg "max" = none) (ha : JE X F g a (rO tI) wa) (hb : JE X F g b (rO tI) wb) (hc : X.calm = true := by rfl) (he : starEach [a, b] X.env = (false, eval a X.env) :: starEach [b] X.env := by rfl) (he2 : starEach [b] X.env = (false, eval b X.env) :: starEach [] X.env := by rfl) (hpl : (backTo pos (starEach [b] X.env)).any (·.1) = false := by rfl) :
    JE X F g (.Call (.Name "max" p) [a, b] [] pos) (rO tI) (fun k => wa fun x => wb fun y => k (if y > x then y else x)) :=
  je_callB (T := aC tI (aC tI aN)) (C := fun t k => k (if t.2.1 > t.1 then t.2.1 else t.1)) (call_max2 hc) (fun _ t H vs P Q k ⟨v, r, e1, r1, v2, r', e2, r2, e3⟩ c q => ⟨t.1, t.2.1, by rw [e1, e2, (e3 : r' = []), (r1 : v = _), (r2 : v2 = _)], q _ _ H c (Same.refl H) rfl⟩) hg hm (by decide +kernel) (jb_cons (je_b ha) (jb_cons (je_b hb) jb_nil he2) he) (by decide) (by decide) he hpl
theorem je_min2 (hg : Gl X "min") (hm : X.mg "min" = none) (ha : JE X F g a (rO tI) wa) (hb : JE X F g b (rO tI) wb) (hc : X.calm = true := by rfl) (he : starEach [a, b] X.env = (false, eval a X.env) :: starEach [b] X.env := by rfl) (he2 : starEach [b] X.env = (false, eval b X.env) :: starEach [] X.env := by rfl) (hpl : (backTo pos (starEach [b] X.env)).any (·.1) = false := by rfl) :
    JE X F g (.Call (.Name "min" p) [a, b] [] pos) (rO tI) (fun k => wa fun x => wb fun y => k (if y < x then y else x)) :=
  je_callB (T := aC tI (aC tI aN)) (C := fun t k => k (if t.2.1 < t.1 then t.2.1 else t.1)) (call_min2 hc) (fun _ t H vs P Q k ⟨v, r, e1, r1, v2, r', e2, r2, e3⟩ c q => ⟨t.1, t.2.1, by rw [e1, e2, (e3 : r' = []), (r1 : v = _), (r2 : v2 = _)], q _ _ H c (Same.refl H) rfl⟩) hg hm (by decide +kernel) (jb_cons (je_b ha) (jb_cons (je_b hb) jb_nil he2) he) (by decide) (by decide) he hpl
theorem je_minL {w : (List Int → Prop) → Prop} (hg : Gl X "min") (hm : X.mg "min" = none) (ha : JE X F g e (rB (tL X.K tI)) w) (hc : X.calm = true := by rfl) (he : starEach [e] X.env = (false, eval e X.env) :: starEach [] X.env := by rfl) (hpl : (backTo pos (starEach [] X.env)).any (·.1) = false := by rfl) :
    JE X F g (.Call (.Name "min" p) [e] [] pos) (rO tI) (fun k => w fun xs => 0 < xs.length ∧ ∀ m, m ∈ xs → (∀ y, y ∈ xs → m ≤ y) → k m) :=
  je_callB (T := aC (tL X.K tI) aN) (C := fun t k => 0 < t.1.length ∧ ∀ m, m ∈ t.1 → (∀ y, y ∈ t.1 → m ≤ y) → k m) (cr_min hc) (fun _ t H vs P Q k ⟨v, r, e1, ⟨a, us, ev, hs, hp⟩, e2⟩ c q => ⟨a, t.1, by rw [e1, (e2 : r = []), ev], by rw [← paired_int hp]; exact hs, c.1, fun m h1 h2 => q _ _ H (c.2 m h1 h2) (Same.refl H) rfl⟩) hg hm (by decide +kernel) (jb_cons ha jb_nil he) (by decide) (by decide) he hpl
/-! ### chains of comparisons of ints -/
theorem lt_r : CmpOk F g (rO tI) (rO tI) (fun x y H Q => ∃ i j, x = .int i ∧ y = .int j ∧ Q (.bl (decide (i < j))) H) (fun x y k => k (decide (x < y))) := fun _ x y _ _ H v u P Q k h1 h2 p q => ⟨x, y, h1, h2, q _ H p (Same.refl H)⟩
theorem le_r : CmpOk F g (rO tI) (rO tI) (fun x y H Q => ∃ i j, x = .int i ∧ y = .int j ∧ Q (.bl (decide (i ≤ j))) H) (fun x y k => k (decide (x ≤ y))) := fun _ x y _ _ H v u P Q k h1 h2 p q => ⟨x, y, h1, h2, q _ H p (Same.refl H)⟩
theorem chain_core {op op' : CmpOp} {r r' : R2} {f f' : Int → Int → Bool} (hr : CmpOk F g (rO tI) (rO tI) r (fun x y k => k (f x y))) (hr' : CmpOk F g (rO tI) (rO tI) r' (fun x y k => k (f' x y))) {σ : L2.St} {H : Hp} {Q : VK} {P : Bool → Prop} {P0 : Prop}
    (k : g.Ok F σ H) (w : wa fun x => wb fun y => (f x y = true → wc fun z => P (f' y z)) ∧ (f x y = false → P0)) (q : ∀ z H', P z → Same H H' → Q (.bl z) H') (q0 : P0 → ∀ H', Same H H' → Q (.bl false) H') :
    tChain r r' (RJ F g (rO tI) wa) (RJ F g (rO tI) wb) (RJ F g (rO tI) wc) σ H Q :=
  ⟨k, _, w, fun x v H1 w1 s1 r1 => ⟨k.step s1, _, w1, fun y u H2 w2 s2 r2 => hr σ x y H H1 H2 v u (fun b => b = f x y) _ (k.step (s1.trans s2)) r1 r2 rfl fun z H3 ez s3 => ⟨z, rfl, by
    subst ez
    cases e : f x y with
    | true =>
      rw [if_pos rfl]
      exact ⟨k.step (s1.trans (s2.trans s3)), _, w2.1 e, fun t v' H4 w4 s4 r4 => hr' σ y t H1 H3 H4 u v' P Q (k.step (s1.trans (s2.trans (s3.trans s4)))) r2 r4 w4 fun z' H5 p5 s5 => q z' H5 p5 (s1.trans (s2.trans (s3.trans (s4.trans s5))))⟩
    | false =>
      rw [if_neg (by decide)]
      exact q0 (w2.2 e) H3 (s1.trans (s2.trans s3))⟩⟩⟩
variable (ha : JE X F g a (rO tI) wa) (hb : JE X F g b (rO tI) wb) (hc : JE X F g c (rO tI) wc)
include ha hb hc
theorem jt_chain {op op' : CmpOp} {r r' : R2} {f f' : Int → Int → Bool} (ho : OpR X (compareOp op) r) (ho' : OpR X (compareOp op') r') (hr : CmpOk F g (rO tI) (rO tI) r (fun x y k => k (f x y))) (hr' : CmpOk F g (rO tI) (rO tI) r' (fun x y k => k (f' x y))) (hm : lastMarks [op, op'] [b, c] = false) :
    JT X F g (.Compare a [op, op'] [b, c] pos) (fun Ya No => wa fun x => wb fun y => (f x y = true → wc fun z => (f' y z = true → Ya) ∧ (f' y z = false → No)) ∧ (f x y = false → No)) :=
  ptW (pt_chain ho ho' ha hb hc hm) fun σ H Q ⟨k, Ya, No, w, qa, qb⟩ => chain_core (op := op) (op' := op') (P := fun t => (t = true → Ya) ∧ (t = false → No)) (P0 := No) hr hr' k w (fun z H' p s => ⟨z, rfl, by
      cases z with
      | true => exact qa (p.1 rfl) H' s
      | false => exact qb (p.2 rfl) H' s⟩) fun p H' s => ⟨false, rfl, qb p H' s⟩
theorem jt_leLt (hm : lastMarks [.LtE, .Lt] [b, c] = false := by with_unfolding_all rfl) : JT X F g (.Compare a [.LtE, .Lt] [b, c] pos) (fun Ya No => wa fun x => wb fun y => (decide (x ≤ y) = true → wc fun z => (decide (y < z) = true → Ya) ∧ (decide (y < z) = false → No)) ∧ (decide (x ≤ y) = false → No)) := jt_chain ha hb hc op_le op_lt le_r lt_r hm
theorem jt_leLe (hm : lastMarks [.LtE, .LtE] [b, c] = false := by with_unfolding_all rfl) : JT X F g (.Compare a [.LtE, .LtE] [b, c] pos) (fun Ya No => wa fun x => wb fun y => (decide (x ≤ y) = true → wc fun z => (decide (y ≤ z) = true → Ya) ∧ (decide (y ≤ z) = false → No)) ∧ (decide (x ≤ y) = false → No)) := jt_chain ha hb hc op_le op_le le_r le_r hm
theorem jt_ltLt (hm : lastMarks [.Lt, .Lt] [b, c] = false := by with_unfolding_all rfl) : JT X F g (.Compare a [.Lt, .Lt] [b, c] pos) (fun Ya No => wa fun x => wb fun y => (decide (x < y) = true → wc fun z => (decide (y < z) = true → Ya) ∧ (decide (y < z) = false → No)) ∧ (decide (x < y) = false → No)) := jt_chain ha hb hc op_lt op_lt lt_r lt_r hm
end
end
end J
/-! A10: zip, copies of lists, slices of tuples and texts, displays with stars -/
namespace J
open PySem PySem.Spec L2 PyProof.Rows ClX RZ
section
variable {X : Cx} {F : Fr} {g : Gm} {α β γ ρ τ κ : Type}
/-! ### zip -/
theorem zip_get {xs : List α} {ys : List β} {i : Nat} {p : α × β} (h : (xs.zip ys)[i]? = some p) : xs[i]? = some p.1 ∧ ys[i]? = some p.2 := by
  rw [List.getElem?_zip_eq_some] at h
  exact h
theorem itz_at {as : List Addr} {K : PySem.W.Frag} {l m : Addr} {vs us : List V} {xs : List α} {ys : List β} {A : Ty α} {B : Ty β} {H : Hp} (hf : ∀ T, H T = none → T ∉ as ∧ F.H T = none) (h1 : SqL K H l vs) (h2 : SqL K H m us) (r1 : Paired (A.rel (bsA F as H)) vs xs) (r2 : Paired (B.rel (bsA F as H)) us ys) :
    ItAt F as (Itz K l m) (tT K (a2 A B)) (xs.zip ys) H :=
  ⟨fun i p e => by
    obtain ⟨e1, e2⟩ := zip_get e
    obtain ⟨v, hv, rv⟩ := Paired.at r1 e1
    obtain ⟨u, hu, ru⟩ := Paired.at r2 e2
    refine ⟨⟨vs, us, v, u, h1, h2, hv, hu⟩, fun t H' ⟨T, x, y, et, hT, eH, hx, hy⟩ => ?_⟩
    obtain rfl : x = v := Option.some.inj ((hx vs h1).symm.trans hv)
    obtain rfl : y = u := Option.some.inj ((hy us h2).symm.trans hu)
    subst eH
    obtain ⟨n1, n2⟩ := hf T hT
    exact ⟨same_upd hT, T, _, et, .inl (.inl (bsA_of n1 n2 upd_same)), x, y, rfl, A.same (bsA_mono (same_upd hT)) rv, B.same (bsA_mono (same_upd hT)) ru⟩, fun i hi => by
    rw [List.length_zip] at hi
    exact ⟨vs, us, h1, h2, by rw [Paired.len r1, Paired.len r2]; omega⟩⟩
theorem itzT_at {as : List Addr} {K : PySem.W.Frag} {l m : Addr} {vs us : List V} {xs : List α} {ys : List β} {A : Ty α} {B : Ty β} {H : Hp} (hf : ∀ T, H T = none → T ∉ as ∧ F.H T = none) (h1 : SqT K H l vs) (h2 : SqT K H m us) (r1 : Paired (A.rel (bsA F as H)) vs xs) (r2 : Paired (B.rel (bsA F as H)) us ys) :
    ItAt F as (ItzT K l m) (tT K (a2 A B)) (xs.zip ys) H :=
  ⟨fun i p e => by
    obtain ⟨e1, e2⟩ := zip_get e
    obtain ⟨v, hv, rv⟩ := Paired.at r1 e1
    obtain ⟨u, hu, ru⟩ := Paired.at r2 e2
    refine ⟨⟨vs, us, v, u, h1, h2, hv, hu⟩, fun t H' ⟨T, x, y, et, hT, eH, hx, hy⟩ => ?_⟩
    obtain rfl : x = v := Option.some.inj ((hx vs h1).symm.trans hv)
    obtain rfl : y = u := Option.some.inj ((hy us h2).symm.trans hu)
    subst eH
    obtain ⟨n1, n2⟩ := hf T hT
    exact ⟨same_upd hT, T, _, et, .inl (.inl (bsA_of n1 n2 upd_same)), x, y, rfl, A.same (bsA_mono (same_upd hT)) rv, B.same (bsA_mono (same_upd hT)) ru⟩, fun i hi => by
    rw [List.length_zip] at hi
    exact ⟨vs, us, h1, h2, by rw [Paired.len r1, Paired.len r2]; omega⟩⟩
section
variable {elts : List Expr} {kk : Nat} {tpos p pos : Pos} {e e2 : Expr} {A : Ty α} {B : Ty β} {wa : (List α → Prop) → Prop} {wb : (List β → Prop) → Prop} {vs : List Nat}
/-- over zip(a, b), two tuples -/
theorem ji_zipT (hg : Gl X "zip") (hm : X.mg "zip" = none) (ha : JE X F g e (rO (tT X.K (aV A))) wa) (hb : JE X F g e2 (rO (tT X.K (aV B))) wb)
    (hs : starEach [e, e2] X.env = (false, eval e X.env) :: starEach [e2] X.env := by rfl) (hs2 : starEach [e2] X.env = (false, eval e2 X.env) :: starEach [] X.env := by rfl) (hpl : (backTo pos (starEach [e2] X.env)).any (·.1) = false := by rfl) :
    PI X (.Tuple elts kk tpos) (.Call (.Name "zip" p) [e, e2] [] pos) (RI F g (tT X.K (a2 A B)) (fun k => wa fun xs => wb fun ys => k (xs.zip ys)) vs) :=
  piW (pi_zipA hg hm (pa_cons ha (pa_cons hb pa_nil hs2) hs) hs hpl) fun σ H R ⟨k, P, w, q⟩ => ⟨k, _, w, fun xs v H1 w1 s1 r1 => ⟨k.step s1, _, w1, fun ys u H2 w2 s2 r2 => by
    have k2 := k.step (s1.trans s2)
    have r1' := (tT X.K (aV A)).same (Gm.mono s2) r1
    obtain ⟨l, us, ev, hq, hr⟩ := r1'
    obtain ⟨m, ws, eu, hq2, hr2⟩ := r2
    refine ⟨l, m, us, ws, by rw [ev, eu], .inr ⟨k2.le.sqT' hq, k2.le.sqT' hq2, q (xs.zip ys) _ [.fix (tT X.K (aV A)) v xs, .fix (tT X.K (aV B)) u ys] H2 w2 (s1.trans s2) (fun c hc => ?_) ((k2.fixed ((⟨m, ws, eu, hq2, hr2⟩ : (tT X.K (aV B)).rel _ u ys))).fixed (⟨l, us, ev, hq, hr⟩ : (tT X.K (aV A)).rel _ v xs)) fun σ' H' l' o => ?_⟩⟩
    · rcases List.mem_cons.mp hc with rfl | hc
      · rfl
      · cases List.mem_singleton.mp hc
        rfl
    · obtain ⟨l2, w2, e2, h2, r2⟩ := (show (tT X.K (aV A)).rel _ v xs from o.cells (.fix (tT X.K (aV A)) v xs) (List.mem_append_right _ (List.mem_append_left _ List.mem_cons_self)))
      obtain ⟨m2, w3, e3, h3, r3⟩ := (show (tT X.K (aV B)).rel _ u ys from o.cells (.fix (tT X.K (aV B)) u ys) (List.mem_append_right _ (List.mem_append_left _ (List.mem_cons_of_mem _ List.mem_cons_self))))
      rw [ev] at e2
      rw [eu] at e3
      cases e2
      cases e3
      exact itzT_at (fun T hT => ⟨o.fresh hT, o.same.free hT⟩) (o.le.sqT' h2) (o.le.sqT' h3) r2 r3⟩⟩
theorem ji_zipL (hg : Gl X "zip") (hm : X.mg "zip" = none) (ha : JE X F g e (rO (tK A)) wa) (hb : JE X F g e2 (rO (tK B)) wb)
    (hs : starEach [e, e2] X.env = (false, eval e X.env) :: starEach [e2] X.env := by rfl) (hs2 : starEach [e2] X.env = (false, eval e2 X.env) :: starEach [] X.env := by rfl) (hpl : (backTo pos (starEach [e2] X.env)).any (·.1) = false := by rfl) :
    PI X (.Tuple elts kk tpos) (.Call (.Name "zip" p) [e, e2] [] pos) (RI F g (tT X.K (a2 A B)) (fun k => wa fun xs => wb fun ys => k (xs.zip ys)) vs) :=
  piW (pi_zipA hg hm (pa_cons ha (pa_cons hb pa_nil hs2) hs) hs hpl) fun σ H R ⟨k, P, w, q⟩ => ⟨k, _, w, fun xs v H1 w1 s1 r1 => ⟨k.step s1, _, w1, fun ys u H2 w2 s2 r2 => by
    have k2 := k.step (s1.trans s2)
    have r1' := (tK A).same (Gm.mono s2) r1
    obtain ⟨l, us, ev, hq, hr⟩ := r1'
    obtain ⟨m, ws, eu, hq2, hr2⟩ := r2
    refine ⟨l, m, us, ws, by rw [ev, eu], .inl ⟨.inl (.inl (k2.le _ _ hq)), .inl (.inl (k2.le _ _ hq2)), q (xs.zip ys) _ [.fix (tK A) v xs, .fix (tK B) u ys] H2 w2 (s1.trans s2) (fun c hc => ?_) ((k2.fixed ((⟨m, ws, eu, hq2, hr2⟩ : (tK B).rel _ u ys))).fixed (⟨l, us, ev, hq, hr⟩ : (tK A).rel _ v xs)) fun σ' H' l' o => ?_⟩⟩
    · rcases List.mem_cons.mp hc with rfl | hc
      · rfl
      · cases List.mem_singleton.mp hc
        rfl
    · obtain ⟨l2, w2, e2, h2, r2⟩ := (show (tK A).rel _ v xs from o.cells (.fix (tK A) v xs) (List.mem_append_right _ (List.mem_append_left _ List.mem_cons_self)))
      obtain ⟨m2, w3, e3, h3, r3⟩ := (show (tK B).rel _ u ys from o.cells (.fix (tK B) u ys) (List.mem_append_right _ (List.mem_append_left _ (List.mem_cons_of_mem _ List.mem_cons_self))))
      rw [ev] at e2
      rw [eu] at e3
      cases e2
      cases e3
      exact itz_at (fun T hT => ⟨o.fresh hT, o.same.free hT⟩) (.inl (.inl (o.le _ _ h2))) (.inl (.inl (o.le _ _ h3))) r2 r3⟩⟩
end
/-! ### copies of a list -/
section
variable {a b e : Expr} {pos p : Pos} {A : Ty α} {wa : (List α → Prop) → Prop} {wb : (Int → Prop) → Prop}
theorem flat_rep {γ δ : Type} {R : γ → δ → Prop} {vs : List γ} {xs : List δ} (h : Paired R vs xs) : ∀ n : Nat, Paired R (List.replicate n vs).flatten (List.replicate n xs).flatten
  | 0 => .nil
  | n + 1 => by
    rw [List.replicate_succ, List.replicate_succ, List.flatten_cons, List.flatten_cons]
    exact Paired.app h (flat_rep h n)
theorem je_rep (ha : JE X F g a (rEK A) wa) (hb : JE X F g b (rO tI) wb) : JE X F g (.BinOp a .Mult b pos) (rN A) (fun k => wa fun xs => wb fun n => (-1000000 ≤ n ∧ n ≤ 1000000 ∧ xs.length * n.toNat ≤ 1000000) ∧ k (List.replicate n.toNat xs).flatten) :=
  je_opR (S := rEK A) (T := rO tI) (R := rN A) (C := fun xs n k => (-1000000 ≤ n ∧ n ≤ 1000000 ∧ xs.length * n.toNat ≤ 1000000) ∧ k (List.replicate n.toNat xs).flatten) op_rep (fun _ x n _ _ H v u P Q k ⟨l, vs, e1, h1, r1⟩ h2 ⟨w1, w2⟩ q =>
    ⟨l, n, vs, e1, h2, h1, by omega, by omega, Nat.le_trans (by rw [Paired.len r1]; exact w1.2.2) (by decide : 1000000 ≤ sizeLine), fun z hz => q _ _ _ w2 (same_upd hz) ⟨z, _, rfl, hz, k.bs_new hz, flat_rep (Paired.imp (fun _ _ r => A.same (k.rm_new hz) r) r1) _⟩⟩) ha hb
/-- tuple(a tuple) -/
theorem je_tupleT (hg : Gl X "tuple") (hm : X.mg "tuple" = none) (ha : JE X F g e (rO (tT X.K (aV A))) wa) (he : starEach [e] X.env = (false, eval e X.env) :: starEach [] X.env := by rfl) (hpl : (backTo pos (starEach [] X.env)).any (·.1) = false := by rfl) :
    JE X F g (.Call (.Name "tuple" p) [e] [] pos) (rO (tT X.K (aV A))) wa :=
  peW (pe_callTy call_tuple_of hg hm (by decide +kernel) (ja_1 ha he) (by decide) (by decide) he hpl) fun σ H Q ⟨k, P, w, q⟩ => ⟨k, P, w, fun xs v H1 w1 s1 r => by
    obtain ⟨a, us, ev, hs, hp⟩ := id r
    exact ⟨a, us, by rw [ev], .inr ⟨(k.step s1).le.sqT' hs, by rw [← ev]; exact q xs v H1 w1 s1 r⟩⟩⟩
/-- t[lo:hi] of a tuple -/
theorem je_slT {lo hi : Option Expr} {p2 : Pos} {wl wh : (Option Int → Prop) → Prop} (he : JE X F g e (rO (tT X.K (aV A))) wa) (hl : PO X lo (RP F g wl)) (hh : PO X hi (RP F g wh)) :
    JE X F g (.Subscript e (.Slice lo hi none p2) pos) (rO (tT X.K (aV A))) (fun k => wa fun xs => wl fun i => wh fun j => k (cutI xs i j)) :=
  peW (pe_slice sl_tupA he hl hh) fun σ H Q ⟨k, P, w, q⟩ => ⟨k, _, w, fun xs v H1 w1 s1 r1 => ⟨k.step s1, _, w1, fun i H2 w2 s2 => ⟨k.step (s1.trans s2), _, w2, fun j H3 w3 s3 => by
    have s13 := s1.trans (s2.trans s3)
    have k3 := k.step s13
    have r3 := (tT X.K (aV A)).same (Gm.mono (s2.trans s3)) r1
    obtain ⟨a, us, ev, hs, hp⟩ := id r3
    refine ⟨a, us, ev, k3.le.sqT' hs, fun hw => ?_, fun _ l hl => q _ _ _ w3 (s13.trans (same_upd hl)) ⟨l, _, rfl, .inl (.inl (k3.bs_new hl)), cut_pair (Paired.imp (fun _ _ r => A.same (Gm.mono (same_upd hl)) r) hp) i j⟩⟩
    rw [← ev]
    have e : cutI xs i j = xs := by
      have ln := Paired.len hp
      rw [sIxJ_eq, sIxJ_eq, ln] at hw
      unfold cutI
      rw [hw.1, hw.2]
      simp
    refine q _ v H3 w3 s13 ?_
    rw [e]
    exact r3⟩⟩⟩
end
/-! ### texts -/
section
variable {a b e o : Expr} {pos apos p : Pos} {wo : (Str → Prop) → Prop}
theorem paired_str {vs : List V} {xs : List Str} (h : Paired (fun (v : V) (a : Str) => v = .str a) vs xs) : vs = xs.map V.str := by
  induction h with
  | nil => rfl
  | cons x _ ih => rw [x, ih]; rfl
theorem je_join {we : (List Str → Prop) → Prop} (ho : JE X F g o (rO tS) wo) (he : JE X F g e (rE X.K tS) we) (hs : starEach [e] X.env = [(false, eval e X.env)] := by rfl) (hbase : attributeBase o "join" X.env (eval o X.env) = eval o X.env := by rfl) (hline : (apos.endLine == pos.line) = true := by rfl) :
    JE X F g (.Call (.Attribute o "join" apos) [e] [] pos) (rO tS) (fun k => wo fun a => we fun ys => ((ys.map (·.length)).sum + ys.length * a.length ≤ 16777216 ∧ k (Str.join a ys))) :=
  peW (pe_join ho he hs hbase hline) fun σ H Q ⟨k, P, w, q⟩ => ⟨k, _, w, fun a v H1 w1 s1 r1 => ⟨⟨a, r1⟩, k.step s1, _, w1, fun ys u H2 ⟨w2, w3⟩ s2 r2 => by
    obtain ⟨p, us, ev, hq, hp⟩ := r2
    exact ⟨a, p, ys, r1, by rw [ev], .inl (by rw [← paired_str hp]; exact hq), w2, by rw [TL.join_eq]; exact q _ _ H2 w3 (s1.trans s2) rfl⟩⟩⟩
theorem je_addS {wa wb : (Str → Prop) → Prop} (ha : JE X F g a (rO tS) wa) (hb : JE X F g b (rO tS) wb) : JE X F g (.BinOp a .Add b pos) (rO tS) (fun k => wa fun x => wb fun y => (x.length + y.length ≤ 1000000 ∧ k (x ++ y))) :=
  je_opR (S := rO tS) (T := rO tS) (R := rO tS) (C := fun x y k => x.length + y.length ≤ 1000000 ∧ k (x ++ y)) op_add_str (fun _ x y _ _ H v u P Q k h1 h2 ⟨w1, w2⟩ q => ⟨x, y, h1, h2, Nat.le_trans w1 (by decide), q _ _ H w2 (Same.refl H) rfl⟩) ha hb
theorem je_countS {we : (Str → Prop) → Prop} (ho : JE X F g o (rO tS) wo) (he : JE X F g e (rO tS) we) (hs : starEach [e] X.env = [(false, eval e X.env)] := by rfl) (hbase : attributeBase o "count" X.env (eval o X.env) = eval o X.env := by rfl) (hline : (apos.endLine == pos.line) = true := by rfl) :
    JE X F g (.Call (.Attribute o "count" apos) [e] [] pos) (rO tI) (fun k => wo fun a => we fun b => k (Txt.count a b)) :=
  peW (pe_m1 PySem.F.slot_str_count PySem.F.type_str_count mt_count ho he hs hbase hline) fun σ H Q ⟨k, P, w, q⟩ => ⟨k, _, w, fun a v H1 w1 s1 r1 => ⟨⟨a, r1⟩, k.step s1, _, w1, fun b u H2 w2 s2 r2 => ⟨a, b, r1, by rw [(r2 : u = _)], q _ _ H2 w2 (s1.trans s2) rfl⟩⟩⟩
/-- z[lo:hi] -/
theorem je_slS {lo hi : Option Expr} {p2 : Pos} {wl wh : (Option Int → Prop) → Prop} (he : JE X F g e (rO tS) wo) (hl : PO X lo (RP F g wl)) (hh : PO X hi (RP F g wh)) :
    JE X F g (.Subscript e (.Slice lo hi none p2) pos) (rO tS) (fun k => wo fun z => wl fun i => wh fun j => (z.length ≤ 1000000 ∧ k (Txt.slice z i j))) :=
  peW (pe_slice C8.sl_txt he hl hh) fun σ H Q ⟨k, P, w, q⟩ => ⟨k, _, w, fun xs v H1 w1 s1 r1 => ⟨k.step s1, _, w1, fun i H2 w2 s2 => ⟨k.step (s1.trans s2), _, w2, fun j H3 w3 s3 => ⟨xs, r1, Nat.le_trans w3.1 (by decide), q _ _ _ w3.2 (s1.trans (s2.trans s3)) rfl⟩⟩⟩⟩
theorem je_lenS (hg : Gl X "len") (hm : X.mg "len" = none) (ha : JE X F g e (rO tS) wo) (he : starEach [e] X.env = (false, eval e X.env) :: starEach [] X.env := by rfl) (hpl : (backTo pos (starEach [] X.env)).any (·.1) = false := by rfl) :
    JE X F g (.Call (.Name "len" p) [e] [] pos) (rO tI) (fun k => wo fun z => (z.length ≤ 1000000 ∧ k (z.length : Int))) :=
  je_callB (T := aC tS aN) (C := fun t k => t.1.length ≤ 1000000 ∧ k (t.1.length : Int)) call_len_str (fun _ t H vs P Q k ⟨v, r, e1, r1, e2⟩ c q => ⟨t.1, by rw [e1, (e2 : r = []), (r1 : v = _)], Nat.le_trans c.1 (by decide), q _ _ H c.2 (Same.refl H) rfl⟩) hg hm PySem.boot_len (jb_cons (je_b ha) jb_nil he) (by decide) (by decide) he hpl
/-- z[::-1] -/
theorem je_revS {k : Nat} {p1 p2 p3 : Pos} (he : JE X F g e (rO tS) wo) : JE X F g (.Subscript e (.Slice none none (some (.UnaryOp .USub (.Constant (.int 1) k p1) p2)) p3) pos) (rO tS) (fun k => wo fun z => (z.length ≤ 1000000 ∧ k (revJ z))) := by
  refine ⟨fun pins s σ H Q I ⟨kk, P, w, q⟩ => ?_⟩
  refine Subscript_ (thn (he.run pins s σ H (fun v H1 => ∃ z, v = .str z ∧ z.length ≤ 1000000 ∧ P (revJ z) ∧ Same H H1) I ⟨kk, _, w, fun z v H1 w1 s1 r1 => ⟨z, r1, w1.1, w1.2, s1⟩⟩) fun v s1 ⟨x, H1, I1, r1, q1⟩ => ?_)
  obtain ⟨z, ex, hz, pz, sm⟩ := q1
  subst ex
  obtain ⟨tk, rfl⟩ := r1
  have hst : PO X (some (.UnaryOp .USub (.Constant (.int 1) k p1) p2)) (tPart (tUn (rU fun i => .int (-i)) (L2.tC (.int 1)))) := po_some (pe_un un_neg pe_int)
  refine wpAny_Slice (thn (po_none.run pins s1 σ H1 (fun o H2 => o = none ∧ H2 = H1) I1 ⟨rfl, rfl⟩) fun vl s2 ⟨l, H2, I2, pl, el, e2⟩ => ?_)
  subst el e2
  refine thn (po_none.run pins s2 σ H2 (fun o H3 => o = none ∧ H3 = H2) I2 ⟨rfl, rfl⟩) fun vu s3 ⟨u, H3, I3, pu, eu, e3⟩ => ?_
  subst eu e3
  refine thn (hst.run pins s3 σ H3 (fun o H4 => o = some (-1) ∧ H4 = H3) I3 ⟨1, rfl, -1, rfl, rfl, rfl⟩) fun vs s4 ⟨o, H4, I4, ps, eo, e4⟩ => ?_
  subst eo e4
  have I5 : Inv X pins σ H4 { s4 with heap := s4.heap.push { cls := .type "slice", data := .fields #[vl, vu, vs] } } := I4.kept (t' := s4.toks) fun b ob q => Heap.get?_push_of_some _ q
  obtain ⟨l1, rfl, h1⟩ := IsPart.raw pl
  obtain ⟨u1, rfl, h2⟩ := IsPart.raw pu
  obtain ⟨o1, rfl, h3⟩ := IsPart.raw ps
  show wpAny (model X.prog X.w) X.A (subscriptTail e (.Slice none none (some (.UnaryOp .USub (.Constant (.int 1) k p1) p2)) p3) (.str z tk) (.ref s4.heap.objs.size)) (EP X pins σ Q) X.xe _
  refine tail_any (ops := [.ref s4.heap.objs.size, .str z tk]) (typeIs_str _ _ _) (PySem.F.slot_str_getitem.lookup) ?_ (by with_unfolding_all rfl)
  refine wpAny_getItem_str_slice (l := l1) (u := u1) (st := o1) ⟨_, Heap.get?_push_size _ rfl, rfl, rfl⟩ (by rw [h3]; rfl) ?_
  unfold sliceMade slicePicked
  rw [h1, h2, h3]
  have hc : ¬ ((((some (-1 : Int)).getD 1 == 1) && (Builtin.Str.strSliceIndices none none ((some (-1 : Int)).getD 1) z.length).length == z.length) = true) := by
    show ¬ ((((-1 : Int) == 1) && _) = true)
    simp
  rw [if_neg hc]
  have e1 : (⟨((Builtin.Str.strSliceIndices none none ((some (-1 : Int)).getD 1) z.length).filterMap (z.cps[·]?)).toArray⟩ : Str) = revJ z := by
    show (⟨((Builtin.Str.strSliceIndices none none (-1) z.length).filterMap (z.cps[·]?)).toArray⟩ : Str) = revJ z
    rw [picked_rev]
    unfold revJ
    congr 1
    apply Array.toList_inj.mp
    rw [List.toList_toArray, Array.toList_reverse, filterMap_get z.cps _ (fun i hi => by
      obtain ⟨k, hk, rfl⟩ := List.mem_map.mp hi
      have hk' : k < z.length := List.mem_range.mp hk
      show z.length - 1 - k < z.length
      omega), List.map_map]
    refine List.ext_getElem (by simp [Str.length]) fun i i1 i2 => ?_
    have hi : i < z.cps.size := by simpa using i2
    rw [List.getElem_reverse]
    simp only [List.getElem_map, List.getElem_range, Function.comp, Array.getD, Str.length]
    rw [dif_pos (by omega)]
    rfl
  rw [e1]
  exact ⟨Nat.le_trans (by show z.cps.reverse.size ≤ 1000000; rw [Array.size_reverse]; exact hz) (by decide), .str _, H4, I5.tok _, ⟨_, rfl⟩, q (revJ z) _ H4 pz sm rfl⟩
end
end
end J
/-! A11: small bridges for the generator -/
namespace J
open PySem PySem.Spec L2
section
variable {X : Cx} {F : Fr} {g : Gm} {α β γ δ ρ τ κ : Type}
/-- a parameter at the def's start -/
theorem fr_in {A : Ty α} {s : List Slot} {H : Hp} {v : V} {a : α} (r : A.rel F.B v a) : A.rel (Gm.bs F ⟨s, []⟩ H) v a := A.same (fun _ _ h => bsA_ofB (fun z => by cases z) h) r
theorem sn1 {A : Ty α} {a : α} : ∀ H vs, (aSnoc aN A).rel H vs ((), a) → (a1 A).rel H vs a := fun H vs ⟨us, v, e, h0, h1⟩ => ⟨v, by rw [e, (h0 : us = [])]; rfl, h1⟩
theorem sn2 {A : Ty α} {B : Ty β} {a : α} {b : β} : ∀ H vs, (aSnoc (aSnoc aN A) B).rel H vs (((), a), b) → (a2 A B).rel H vs (a, b) := fun H vs ⟨us, v, e, ⟨ws, u, e2, h0, h1⟩, h2⟩ => ⟨u, v, by rw [e, e2, (h0 : ws = [])]; rfl, h1, h2⟩
theorem sn3 {A : Ty α} {B : Ty β} {C : Ty γ} {a : α} {b : β} {c : γ} : ∀ H vs, (aSnoc (aSnoc (aSnoc aN A) B) C).rel H vs ((((), a), b), c) → (a3 A B C).rel H vs (a, b, c) :=
  fun H vs ⟨us, v, e, ⟨ws, u, e2, ⟨xs, t, e3, h0, h1⟩, h2⟩, h3⟩ => ⟨t, u, v, by rw [e, e2, e3, (h0 : xs = [])]; rfl, h1, h2, h3⟩
theorem sn4 {A : Ty α} {B : Ty β} {C : Ty γ} {E : Ty δ} {a : α} {b : β} {c : γ} {d : δ} : ∀ H vs, (aSnoc (aSnoc (aSnoc (aSnoc aN A) B) C) E).rel H vs (((((), a), b), c), d) → (a4 A B C E).rel H vs (a, b, c, d) :=
  fun H vs ⟨us, v, e, ⟨ws, u, e2, ⟨xs, t, e3, ⟨ys, r, e4, h0, h1⟩, h2⟩, h3⟩, h4⟩ => ⟨r, t, u, v, by rw [e, e2, e3, e4, (h0 : ys = [])]; rfl, h1, h2, h3, h4⟩
theorem js_endI {P : κ → Prop} {u : κ} {nx bk ct : L2.St → Hp → Prop} {rt : VK} (h : ∀ σ H, g.Ok F σ H → P u → nx σ H) : JSs X F g [] ⟨nx, rt, bk, ct⟩ (P u) := pssW pss_nil fun D σ H ⟨e, o, q⟩ => e.nx _ _ (h σ H o q)
end
end J
/-! A12: sets of ints; the first two of a triple -/
namespace J
open PySem PySem.Spec L2 PyProof.Rows
section
variable {X : Cx} {F : Fr} {g : Gm} {α β γ ρ τ κ : Type} {rest : List Stmt} {pos : Pos}
def setJ (w : World) (p : Addr) (xs : List Int) : HO := SetO w p (fun j => memJ j xs) xs.length
theorem setJ_nil {w : World} {p : Addr} : setJ w p [] = SetO w p (fun _ => false) 0 := by
  unfold setJ
  congr 1
theorem setJ_add {w : World} {p : Addr} {xs : List Int} {k : Int} : setJ w p (addJ xs k) = SetO w p (fun j => memJ j xs || decide (j = k)) (if memJ k xs = true then xs.length else xs.length + 1) := by
  unfold setJ addJ
  by_cases h : memJ k xs = true
  · rw [if_pos h, if_pos h]
    congr 1
    funext j
    by_cases e : j = k
    · subst e
      rw [h]
      rfl
    · rw [decide_eq_false e, Bool.or_false]
  · rw [if_neg h, if_neg h]
    congr 1
    · funext j
      unfold memJ
      by_cases e : j = k <;> by_cases m : j ∈ xs <;> simp [e, m]
    · rw [List.length_append]
      rfl
theorem kit_self {K : PySem.W.Frag} {C : Addr} : PySem.W.kitOne K (.ref C) (.ref C) = some true := by
  unfold PySem.W.kitOne
  rw [if_pos]
  exact beq_self_eq_true _
/-- x = set() -/
theorem js_asgSet {i : Nat} {x : Str} {px np cp : Pos} {wr : Prop} {D : Ends} (hg : Gl X "set") (hm : X.mg "set" = none) (hr : ∀ p, JSs X F ((g.push (.raw p (setJ X.w p []))).set i (.at p)) rest D wr) (hN : X.N.Nodup) (hi : X.N[i]? = some x := by rfl) (hx : Loc X.env.scope x := by first | exact Or.inl rfl | exact Or.inr rfl)
    (hs : swapsWith (.Call (.Name "set" np) [] [] cp) (some (.Name x px)) pos.line X.env = pure false := by rfl) (hf : X.fn x = true ∨ X.env.scope.names.lookup x = some .local := by first | exact .inl rfl | exact .inr rfl) :
    JSs X F g (.Assign [.Name x px] (.Call (.Name "set" np) [] [] cp) pos :: rest) D wr :=
  pssW (pss_cons (ps_set hN hi hx (pe_callTy0 cr_set0 hg hm (by decide +kernel)) hs hf) (pssE hr)) fun D' σ H ⟨e, k, w⟩ => ⟨rfl, fun p hp => ⟨p, e, (k.push (c := .raw p (setJ X.w p [])) (same_upd hp) rfl hp ⟨k.same.free hp, rfl, by rw [setJ_nil]; exact upd_same⟩).set (t := .at p) rfl, w⟩⟩
def rS (w : World) : Res (List Int) := ⟨fun _ _ H v xs => ∃ p, v = .ref p ∧ H p = some (setJ w p xs), fun _ s ⟨p, e, h⟩ => ⟨p, e, s _ _ h⟩, fun _ h => h⟩
theorem Gm.Ok.raw {σ : L2.St} {H : Hp} (k : g.Ok F σ H) {j : Nat} {p : Addr} {o : HO} (hc : g.c[j]? = some (.raw p o)) : H p = some o := (k.cells _ (List.mem_of_getElem? hc)).2.2
theorem je_cellS {i j : Nat} {p : Addr} {xs : List Int} {x : Str} (hs : g.s[i]? = some (.at p)) (hc : g.c[j]? = some (.raw p (setJ X.w p xs))) (hN : X.N[i]? = some x := by rfl) (hv : Vis X.env.scope x := by first | exact Or.inl rfl | exact Or.inr (Or.inl rfl) | exact Or.inr (Or.inr rfl))
    (hd : (x == ("__debug__" : Str)) = false := by decide) (hcd : (x == ("__classdict__" : Str)) = false := by decide) : JE X F g (.Name x pos) (rS X.w) (fun k => k xs) :=
  peW (pe_var hN hv hd hcd) fun σ H Q ⟨k, P, w, q⟩ => ⟨.ref p, k.ref hs, q xs (.ref p) H w (Same.refl H) ⟨p, rfl, k.raw hc⟩⟩
section
variable {a b : Expr} {wa : (Int → Prop) → Prop} {wb : (List Int → Prop) → Prop}
theorem inS_r {w : World} : CmpOk F g (rO tI) (rS w) (rSIn w) (fun x y k => k (memJ x y)) := fun _ x y _ _ H v u P Q k h1 ⟨p, e, h⟩ pz q => ⟨x, p, _, _, h1, e, h, q _ H pz (Same.refl H)⟩
theorem niS_r {w : World} : CmpOk F g (rO tI) (rS w) (rSNotIn w) (fun x y k => k (!memJ x y)) := fun _ x y _ _ H v u P Q k h1 ⟨p, e, h⟩ pz q => ⟨x, p, _, _, h1, e, h, q _ H pz (Same.refl H)⟩
theorem je_inS (ha : JE X F g a (rO tI) wa) (hb : JE X F g b (rS X.w) wb) (hm : behindInMarks .In b = false := by rfl) : JE X F g (.Compare a [.In] [b] pos) (rO tB) (fun k => wa fun x => wb fun y => k (memJ x y)) := je_cmpR (C := fun x y k => k (memJ x y)) or_sin inS_r ha hb hm
theorem je_niS (ha : JE X F g a (rO tI) wa) (hb : JE X F g b (rS X.w) wb) (hm : behindInMarks .NotIn b = false := by rfl) : JE X F g (.Compare a [.NotIn] [b] pos) (rO tB) (fun k => wa fun x => wb fun y => k (!memJ x y)) := je_cmpR (C := fun x y k => k (!memJ x y)) or_snotin niS_r ha hb hm
theorem jt_inS (ha : JE X F g a (rO tI) wa) (hb : JE X F g b (rS X.w) wb) (hm : behindInMarks .In b = false := by rfl) : JT X F g (.Compare a [.In] [b] pos) (fun Ya No => wa fun x => wb fun y => (((memJ x y) = true → Ya) ∧ ((memJ x y) = false → No))) := jt_cmpR (C := fun x y k => k (memJ x y)) or_sin inS_r ha hb hm
theorem jt_niS (ha : JE X F g a (rO tI) wa) (hb : JE X F g b (rS X.w) wb) (hm : behindInMarks .NotIn b = false := by rfl) : JT X F g (.Compare a [.NotIn] [b] pos) (fun Ya No => wa fun x => wb fun y => (((!memJ x y) = true → Ya) ∧ ((!memJ x y) = false → No))) := jt_cmpR (C := fun x y k => k (!memJ x y)) or_snotin niS_r ha hb hm
end
/-- xs.add(e) -/
theorem js_setAdd {i j : Nat} {p : Addr} {xs : List Int} {call : Expr} {we : (Int → Prop) → Prop} {wr : List Int → Prop} {D : Ends} (hm : PE X call (tSAdd X.w (tVar i) (tCons (RJ F g (rO tI) we) tNil)))
    (hr : ∀ ys, JSs X F ⟨g.s, g.c.set j (.raw p (setJ X.w p ys))⟩ rest D (wr ys)) (hs : g.s[i]? = some (.at p)) (hc : g.c[j]? = some (.raw p (setJ X.w p xs))) (hsw : swapsWith call none pos.line X.env = pure false := by rfl) :
    JSs X F g (.Expr call pos :: rest) D (we fun a => xs.length < 4000 ∧ wLet (addJ xs a) wr) := by
  refine pssW (pss_cons (ps_expr hm hsw) (pssE hr)) fun D' σ H ⟨e, k, w⟩ => ?_
  refine ⟨_, k.ref hs, ⟨p, _, _, rfl, k.raw hc⟩, k, _, w, fun a v H1 ⟨hl, w1⟩ s1 ra => ?_⟩
  have k1 := k.step s1
  have ev : v = .int a := ra
  refine ⟨p, a, _, _, rfl, by rw [ev], k1.raw hc, by unfold scanBound; omega, addJ xs a, e, ?_, w1⟩
  refine k1.mutC hc rfl rfl ⟨(k1.ad_some (Gm.mem_ad (List.mem_of_getElem? hc) rfl)).1, rfl, ?_⟩
  rw [setJ_add]
  exact upd_same
/-- r[:2] of a triple -/
theorem je_cut3 {e : Expr} {A : Ty α} {C : Ty γ} {w : (α × α × γ → Prop) → Prop} {j : Nat} {p1 p2 : Pos} (he : JE X F g e (rO (tT X.K (a3 A A C))) w) :
    JE X F g (.Subscript e (.Slice none (some (.Constant (.int 2) j p1)) none p2) pos) (rO (tT X.K (aV A))) (fun k => w fun t => k [t.1, t.2.1]) :=
  peW (pe_slice sl_tupA he jp_none (jp_some je_int)) fun σ H Q ⟨k, P, w, q⟩ => ⟨k, _, w, fun t v H1 w1 s1 r1 => ⟨k.step s1, (fun o => o = none ∧ P [t.1, t.2.1]), ⟨rfl, w1⟩, fun i H2 ⟨ei, w2⟩ s2 => ⟨k.step (s1.trans s2), (fun o => o = some 2 ∧ P [t.1, t.2.1]), ⟨rfl, w2⟩, fun o H3 ⟨eo, w3⟩ s3 => by
    subst ei eo
    have s13 := s1.trans (s2.trans s3)
    have k3 := k.step s13
    obtain ⟨a, us, ev, hs, x, y, z, e2, h1, h2, h3⟩ := (tT X.K (a3 A A C)).same (Gm.mono (s2.trans s3)) r1
    subst e2
    refine ⟨a, _, ev, k3.le.sqT' hs, fun hw => ?_, fun _ l hl => q _ _ _ w3 (s13.trans (same_upd hl)) ⟨l, _, rfl, .inl (.inl (k3.bs_new hl)), ?_⟩⟩
    · exact absurd hw.2 (show ¬ ((2 : Nat) = 3) by decide)
    · exact .cons (A.same (Gm.mono (same_upd hl)) h1) (.cons (A.same (Gm.mono (same_upd hl)) h2) .nil)⟩⟩⟩
end
end J
/-! A13: own operators with a number on the right -/
namespace J
open PySem PySem.Spec L2 PyProof.Rows ClX RZ
section
variable {X : Cx} {F : Fr} {g : Gm} {α β γ ρ τ κ : Type}
variable {CX : CXT} {k : Nat} {C f : Addr} {fd : FuncData} {ps : List Str} {sp : Sp} {E : XK} {a b : Expr} {pos : Pos}
/-- what an operator of a class needs with a number on the right -/
structure PowOk (K : PySem.W.Frag) (C : Addr) (nm : String) : Prop where
  sf : PySem.W.selfFirst K C = true
  r : PySem.W.findIn K (.ref C) (dunderR nm) = some none
  a : ∃ fo, PySem.W.findIn K (.type "int") (PySem.dunder nm) = some fo
  b : ∃ ro, PySem.W.findIn K (.type "int") (dunderR nm) = some ro
  s : PySem.W.subIn K (.type "int") (.ref C) = some false
def rPowO (C : Addr) (sp : Sp) (E : XK) : R2 := fun x y H Q => ∃ a dx fs i, x = .ref a ∧ H a = some (.ins C dx fs) ∧ y = .int i ∧ sp [.ref a, .int i] H (fun v H' => (∀ u, RelV v u → u ≠ .notImplemented) ∧ Q v H') E
theorem op_pow {op : Operator} (hm : Meth X.K C (PySem.dunder op.info.2) f) (hs : PowOk X.K C op.info.2) (Fn : FnOk X.prog X.w X.K X.mg X.base CX k f fd ps sp) (hr : Room k X.A) (hb : Binds X.K fd ps []) (hx : Passes CX X E) : OpR X (binaryOp op) (rPowO C sp E) := by
  intro pins s σ H x y v u Q I rx ry q
  obtain ⟨o, dx, fs, i, rfl, ea, rfl, q⟩ := q
  obtain rfl : v = Value.ref o := rx
  obtain ⟨mA, O, _, _, _, _⟩ := ins_get I.hok ea
  obtain ⟨od, J, _⟩ := O.look
  obtain ⟨m, fr⟩ := I.fr
  obtain ⟨fo, h1⟩ := hs.a
  obtain ⟨ro, h2⟩ := hs.b
  obtain ⟨t, rfl⟩ := id ry
  refine PySem.W.ksp_binT fr I.mod.kin J (T := "int") rfl hs.sf hm.at_ hm.fn hs.r (.inl rfl) h1 h2 hs.s (wpAny_mono (wpAny_call (codeAny_mono (Fn.run X.A X.stack s H ⟨[.ref o, .int i t], []⟩ [.ref o, .int i t] [.ref o, .int i] _ E hr I.env0 (hb _ [.ref o, .int i t] I.kIn ?_) (.cons rfl (.cons ry .nil)) q) (R' := fun r s' => match r with | .ok (.ret u) => PySem.W.CmpBack (EP X pins σ Q) u s' | .ok _ => False | .error e => X.xe e s') fun r s' hq => ?_)) (fun u s' h => h) (fun e s' h => h))
  · exact (Fn.len _ _ _ _ q)
  · cases r with
    | error er => exact hx pins σ H s er s' I hq
    | ok fl =>
      cases fl with
      | ret u' =>
        obtain ⟨v, H', I', rv, hn, hQ⟩ := I.after hq
        have hne := hn _ rv
        show PySem.W.CmpBack _ u' s'
        unfold PySem.W.CmpBack
        split
        · exact absurd rfl hne
        · exact ⟨v, H', I', rv, hQ⟩
      | next => exact False.elim hq
      | brk => exact False.elim hq
      | cont => exact False.elim hq
variable {ns : List Str} {U : ATy κ}
/-- table ** number -/
theorem je_powO {op : Operator} {ns' : List Str} {C' : Addr} {κ' : Type} {U' : ATy κ'} {w : κ × Int × Unit → (κ' → Prop) → Prop} {wa : (κ → Prop) → Prop} {wb : (Int → Prop) → Prop} (ha : JE X F g a (rO (tC C ns U)) wa) (hb' : JE X F g b (rO tI) wb) (hm : Meth X.K C (PySem.dunder op.info.2) f) (hs : PowOk X.K C op.info.2)
    (Fn : FnOk X.prog X.w X.K X.mg X.base CX0 k f fd ps (spJ (aC (tC C ns U) (aC tI aN)) (rO (tC C' ns' U')) w)) (hr : Room k X.A) (hb : Binds X.K fd ps []) : JE X F g (.BinOp a op b pos) (rO (tC C' ns' U')) (fun k => wa fun x => wb fun y => w (x, y, ()) k) :=
  je_opR (C := fun x y k => w (x, y, ()) k) (op_pow hm hs Fn hr hb pass0) (fun σ x y Ha Hb H v u P Q kk h1 h2 p q => by
    obtain ⟨a, dx, vs, e1, g1, l1, u1⟩ := id h1
    have e2 : u = .int y := h2
    exact ⟨a, dx, _, y, e1, kk.le _ _ g1, e2, (x, y, ()), P, kk.fr, rfl, ⟨.ref a, [.int y], rfl, by rw [← e1]; exact h1, .int y, [], rfl, rfl, rfl⟩, p, fun r v' H' pr s rr =>
      ⟨nni_ref rr, q r v' H' pr s ((rO (tC C' ns' U')).same (kk.back s) (Same.refl _) rr)⟩⟩) ha hb'
end
end J
/-! A14: for over enumerate(a tuple) -/
namespace L2
open PySem PySem.Spec PyProof.Rows
open AutoSeq1 (wpAny_loadPart')
theorem meets_enumerate_newT (l : Addr) (items : Array Value) (n : Nat) (dct : Option Addr) (sl : Array (Option Value)) :
    Meets (Builtin.«enumerate.__new__» ⟨[.type "enumerate", .ref l], []⟩) (fun _ R s => s.heap.get? l = some { cls := .type "tuple", dict := dct, data := .seq items n, slots := sl } ∧
      R (.ok (.ret (.ref (s.heap.push { cls := .type "tuple_iterator", data := .fields #[.ref l, .int 0 0] }).objs.size)))
        { s with heap := (s.heap.push { cls := .type "tuple_iterator", data := .fields #[.ref l, .int 0 0] }).push { cls := .type "enumerate", data := .fields #[.none, .bool false, .ref s.heap.objs.size, rawInt 0, .none, .none] } }) :=
  .of_wp fun prog w A R s h => by
    obtain ⟨hp, g, d, tk, os⟩ := s; obtain ⟨hl, h⟩ := h
    have hsub := sub_enumerate
    have hL : Heap.IsTuple (Shared.heap ⟨hp, g, d, tk, os⟩) l items := ⟨_, hl, rfl, n, rfl⟩
    wp_walk using wpAny_loadPart' hl
    refine wpAny_stack_any fun st => wpAny_pure ?_
    split
    · rename_i c _ _ _ _ _
      cases (c == Value.type "enumerate")
      · wp_walk using wpAny_loadPart' hl, wpAny_pyIter_tuple hL
        exact ⟨_, rfl, h⟩
      · wp_walk using wpAny_loadPart' hl, wpAny_pyIter_tuple hL
        exact ⟨_, rfl, h⟩
    · wp_walk using wpAny_loadPart' hl, wpAny_pyIter_tuple hL
      exact ⟨_, rfl, h⟩

section
variable {prog : Program} {w : World} {A : Around} {E : Value → Shared → Prop} {s : Shared}
theorem call_enumerate_tup {l : Addr} {items : Array Value} {Q : Value → Shared → Prop} (hL : s.heap.IsTuple l items)
    (h : ∀ h', IsEnum h' (s.heap.objs.size + 1) s.heap.objs.size 0 .none → h'.IsTupleIter s.heap.objs.size l 0 → h'.objs.size = s.heap.objs.size + 2 →
      (∀ b o, s.heap.get? b = some o → h'.get? b = some o) → Q (.ref (s.heap.objs.size + 1)) { s with heap := h' }) :
    wpAny (model prog w) A (call (.type "enumerate") [.ref l]) Q E s := by
  obtain ⟨⟨c, dct, dt, sl⟩, hl, hc, n, hd⟩ := hL
  replace hc : c = .type "tuple" := hc
  replace hd : dt = .seq items n := hd
  subst hc hd
  refine callType_new F.called_enumerate (by decide) (F.typeCall_enumerate_1 _) (F.newCall_enumerate_1 _) (fun obj => F.args_object_init_2 obj _) F.entry_enumerate_new
    (meets_enumerate_newT l items n dct sl) ⟨hl, ?_⟩
  have hz : (s.heap.push { cls := .type "tuple_iterator", data := .fields #[.ref l, .int 0 0] }).objs.size = s.heap.objs.size + 1 := Heap.size_push ..
  show _ ∧ _
  rw [hz]
  have he : IsEnum ((s.heap.push { cls := .type "tuple_iterator", data := .fields #[.ref l, .int 0 0] }).push
      { cls := .type "enumerate", data := .fields #[.none, .bool false, .ref s.heap.objs.size, rawInt 0, .none, .none] }) (s.heap.objs.size + 1) s.heap.objs.size 0 .none := by
    have := Heap.get?_push_size (s.heap.push { cls := .type "tuple_iterator", data := .fields #[.ref l, .int 0 0] })
      (o := { cls := .type "enumerate", data := .fields #[.none, .bool false, .ref s.heap.objs.size, rawInt 0, .none, .none] }) rfl
    rw [hz] at this; exact this
  refine ⟨⟨_, he, rfl⟩, h _ he ⟨_, Heap.get?_push_of_some _ (Heap.get?_push_size _ rfl), rfl, rfl⟩ (by rw [Heap.size_push, hz]) fun b o x => Heap.get?_push_of_some _ (Heap.get?_push_of_some _ x)⟩
end
/-- the tuple at a, each item in a new pair with its place -/
def IteT (K : PySem.W.Frag) (a : Addr) : It :=
  ⟨fun i H => ∃ (xs : List V) (x : V), SqT K H a xs ∧ xs[i]? = some x, fun i H v H' => ∃ T x, v = .ref T ∧ H T = none ∧ H' = upd H T (.tup [.int (i : Nat), x]) ∧ ∀ xs, SqT K H a xs → xs[i]? = some x, fun i H => ∃ xs : List V, SqT K H a xs ∧ xs.length ≤ i⟩
theorem enum_ne_tup {h : Heap} {e it a : Addr} {i : Int} {old : Value} {items : Array Value} (he : IsEnum h e it i old) (p : h.IsTuple a items) : e ≠ a := fun z => by
  subst z
  obtain ⟨o, ho, hc, _⟩ := p
  have he' : h.get? e = some _ := he
  rw [ho] at he'
  have e := Option.some.inj he'
  rw [e] at hc
  exact absurd (Value.type.inj hc) (by decide)
theorem tupit_ne_tup {h : Heap} {it t a : Addr} {i : Nat} {items : Array Value} (hi : h.IsTupleIter it t i) (p : h.IsTuple a items) : a ≠ it := fun z => by
  subst z
  obtain ⟨o, ho, hc, _⟩ := p
  obtain ⟨o', ho', hc', _⟩ := hi
  rw [ho] at ho'
  cases ho'
  rw [hc] at hc'
  exact absurd (Value.type.inj hc') (by decide)
theorem enum_endT {prog : Program} {w : World} {A : Around} {E : Value → Shared → Prop} {s : Shared} {e it l : Addr} {i : Nat} {items : Array Value} {old : Value} {Q : Option Value → Shared → Prop} (hh : A.handled = none)
    (he : IsEnum s.heap e it i old) (hit : s.heap.IsTupleIter it l i) (hl : s.heap.IsTuple l items) (hx : items[i]? = none)
    (hQ : ∀ h', Heap.ExtBut it s.heap h' → Q none { s with heap := h' }) : wpAny (model prog w) A (pyNext (.ref e)) Q E s := by
  have hT : s.TypeIs (.ref e) "enumerate" := ⟨_, he, rfl⟩
  unfold pyNext
  refine wpAny_bind (wpAny_attempt (wpAny_callSpecial?_slot (name := Str.ofString "__next__") hT F.slot_enumerate_next
    (wpAny_call_entry F.slot_enumerate_next hT F.entry_enumerate_next ?_ (F.args_enumerate_next_1 _))))
  show wpAny _ _ (field (.ref e) 2 >>= _) _ _ _
  refine wpAny_bind (wpAny_field he rfl (x := .ref it) rfl ?_)
  refine wpAny_bind (wpAny_nextOf_tuple_end hh hit hl hx fun h' x he' hx' => ?_)
  obtain ⟨o, ho, hc⟩ := hx'
  refine wpAny_bind (wpAny_isInstance (T := "StopIteration") (b := true) ⟨o, ho, hc⟩ isSubtype_stop ?_)
  exact wpAny_pure (hQ _ he')
theorem turn_enumT {P : Program} {w : World} {K : PySem.W.Frag} {elts : List Expr} {kk : Nat} {tpos : Pos} (a e it : Addr) :
    Turn P w K (.Tuple elts kk tpos) (IteT K a) [e, it] e (fun i h => (∃ old, IsEnum h e it ((i : Nat) : Int) old) ∧ h.IsTupleIter it a i ∧ e ≠ it) where
  mem := by simp
  obj := fun i h st b hb => by
    obtain ⟨⟨old, he⟩, ⟨o, ho, hc, hd⟩, _⟩ := st
    have e' : b = e ∨ b = it := by simpa using hb
    rcases e' with z | z
    · rw [z]; exact ⟨_, he, fun v q => nomatch q⟩
    · rw [z]; exact ⟨o, ho, fun v q => by rw [hd] at q; cases q⟩
  keep := fun i h h' st k => let ⟨⟨old, he⟩, hi, hne⟩ := st; ⟨⟨old, k e (by simp) _ he⟩, hi.at fun o q => k it (by simp) o q, hne⟩
  item := by
    intro X hP hw hK hc i pins s σ H E I hf st hg
    subst hP hw hK
    obtain ⟨⟨old, he⟩, hit, hne⟩ := st
    obtain ⟨xs, x, hq, hx⟩ := hg
    obtain ⟨its, rv, p, hz⟩ := I.tuple hq
    have p' : s.heap.IsTuple a its.toArray := p
    obtain ⟨u, hu, ru⟩ := rv.get hx
    have hlt : i < its.toArray.size := by
      have := (List.getElem?_eq_some_iff.mp hu).1
      simpa using this
    have hel : e < s.heap.objs.size := Heap.lt_size he
    have hil : it < s.heap.objs.size := by obtain ⟨_, q, _⟩ := hit; exact Heap.lt_size q
    have n1 := enum_ne_tup he p'
    have n2 := tupit_ne_tup hit p'
    have D := Draws.tuple (prog := X.prog) (w := X.w) (A := X.A.in1) (I.ok.hd hc) it a n2 its.toArray
    refine wpAny_pyNext_enum_itemD D he ⟨hit, p'⟩ hlt hne (by simp [hne, n1]) fun x' h' tk hP ho hit' hT hsz hk => ?_
    obtain rfl : u = x' := by
      have h1 : its.toArray[i]? = some u := by simpa using hu
      rw [h1] at hP
      exact Option.some.inj hP
    refine ⟨_, rfl, wpAny_letOwnedTupleGo_enum (s := { s with heap := h', toks := tk + 1 }) ho fun h'' he' sb => ?_⟩
    have hT2 : h''.get? s.heap.objs.size = some { cls := .type "tuple", data := .seq #[.int i tk, u] } := (sb.2 _ (Nat.ne_of_gt hel)).trans hT
    have new : ObjOk X.prog X.w (upd H s.heap.objs.size (.tup [.int (i : Nat), x])) h'' s.heap.objs.size (.tup [.int (i : Nat), x]) :=
      ⟨by show 2 ≤ sizeLine; decide, [.int i tk, u], .cons ⟨_, rfl⟩ (.cons ru .nil), ⟨_, hT2, rfl, _, rfl⟩⟩
    have I1 : Inv X pins σ (upd H s.heap.objs.size (.tup [.int (i : Nat), x])) { s with heap := h'', toks := tk + 1 } :=
      I.turnedNew (ch := [e, it]) (fun b ob hb q => (sb.2 b (fun z => hb (by simp [z]))).trans (hk b ob (fun z => hb (by simp [z])) (fun z => hb (by simp [z])) q)) hf (Nat.le_refl _) new
    refine ⟨.ref s.heap.objs.size, _, I1, rfl, ⟨_, x, rfl, I.hok.fresh (Nat.le_refl _), rfl, fun ys hy => by rw [I.tuple_inj hy hq]; exact hx⟩, ⟨⟨u, ?_⟩, hit'.1.at fun o q => (sb.2 it (Ne.symm hne)).trans q, hne⟩, fun b hb => ?_⟩
    · have e1 : ((i + 1 : Nat) : Int) = (i : Int) + 1 := by omega
      rw [e1]; exact he'
    · have hb' : b < s.heap.objs.size := by
        have e' : b = e ∨ b = it := by simpa using hb
        rcases e' with z | z
        · rw [z]; exact hel
        · rw [z]; exact hil
      rw [upd_ne (Nat.ne_of_lt hb')]
      exact (hf b hb).1
  done := by
    intro X hP hw hK hc i pins s σ H E I hf st hg
    subst hP hw hK
    obtain ⟨⟨old, he⟩, hit, hne⟩ := st
    obtain ⟨xs, hq, hx⟩ := hg
    obtain ⟨its, rv, p, hz⟩ := I.tuple hq
    have p' : s.heap.IsTuple a its.toArray := p
    obtain ⟨f0, f1, f2, f3, f4, f5⟩ := hf it (by simp)
    have hl := rv.length
    exact enum_endT (I.ok.hd hc) he hit p' (by simp; omega) fun h' eb => ⟨rfl, I.turned (t' := s.toks) (fun b o hb q => eb b o hb q) f0 f1 f3 f4 f5⟩
  self := fun A i s Q E st h => let ⟨⟨_, he⟩, _⟩ := st; wpAny_pyIter_enum he h

def iEnumT (K : PySem.W.Frag) (ta : TA) : TI := fun σ H R => ta σ H fun vs H1 => ∃ a xs, vs = [.ref a] ∧ SqT K H1 a xs ∧ R (IteT K a) H1
theorem pi_enumT {X : Cx} {e : Expr} {ta : TA} {p pos tpos : Pos} {elts : List Expr} {kk : Nat} (hg : Gl X "enumerate") (hm : X.mg "enumerate" = none) (ha : PA X [e] ta) (hs : starEach [e] X.env = [(false, eval e X.env)] := by rfl) :
    PI X (.Tuple elts kk tpos) (.Call (.Name "enumerate" p) [e] [] pos) (iEnumT X.K ta) := by
  refine ⟨fun pins s σ H R I h => ?_⟩
  refine Call_ (ld_blt I hg hm boot_enumerate (PyProof.Rows.callWith_type1 (thn (ha.run pos pins s σ H _ I h) fun us s1 ⟨vs, H1, I1, r1, q1⟩ => ?_) hs rfl))
  obtain ⟨a, xs, ex, hq, q⟩ := q1
  subst ex
  cases r1 with
  | cons r rr =>
    cases rr
    cases r
    obtain ⟨its, rv, p', hz⟩ := I1.tuple hq
    refine call_enumerate_tup (show s1.heap.IsTuple a its.toArray from p') fun h' he hit hsz hk => wpAny_pyIter_enum he ?_
    have I2 : Inv X pins σ H1 { s1 with heap := h' } := I1.kept (t' := s1.toks) hk
    refine ⟨s1.heap.objs.size + 1, [s1.heap.objs.size + 1, s1.heap.objs.size], _, _, H1, rfl, I2, turn_enumT a (s1.heap.objs.size + 1) s1.heap.objs.size, ⟨⟨.none, he⟩, hit, Nat.succ_ne_self _⟩, fun b hb => ?_, q⟩
    have e' : b = s1.heap.objs.size + 1 ∨ b = s1.heap.objs.size := by simpa using hb
    have hle : s1.heap.objs.size ≤ b := by
      rcases e' with z | z
      · rw [z]; exact Nat.le_add_right _ _
      · rw [z]; exact Nat.le_refl _
    exact I1.fpOk hle (I1.hok.fresh hle)
end L2
namespace J
open PySem PySem.Spec L2 PyProof.Rows ClX RZ
section
variable {X : Cx} {F : Fr} {g : Gm} {α β γ ρ τ κ : Type}
theorem enumJ_len (xs : List α) : (enumJ xs).length = xs.length := by
  unfold enumJ rangeI
  rw [List.length_zip, List.length_map, List.length_range]
  omega
theorem enumJ_get {xs : List α} {i : Nat} {p : Int × α} (h : (enumJ xs)[i]? = some p) : p.1 = (i : Int) ∧ xs[i]? = some p.2 := by
  unfold enumJ at h
  obtain ⟨h1, h2⟩ := zip_get h
  refine ⟨?_, h2⟩
  unfold rangeI at h1
  rw [List.getElem?_map] at h1
  obtain ⟨j, hj, e⟩ := Option.map_eq_some_iff.mp h1
  have := List.getElem?_eq_some_iff.mp hj
  obtain ⟨_, e2⟩ := this
  rw [List.getElem_range] at e2
  omega
theorem forE_core {K : PySem.W.Frag} {l : Addr} {S : τ → Gm} {xs : List α} {A : Ty α} {b : Int × α → τ → (τ → Prop) → (τ → Prop) → Prop} {wr : τ → Prop} (hp : ∀ s σ H, (S s).Ok F σ H → ∃ vs, SqT K H l vs ∧ Paired (A.rel ((S s).bs F H)) vs xs)
    {gT : TG} {tb : TS} {D : Ends} {σ : L2.St} {H : Hp} {s0 : τ} (h0 : (S s0).Ok F σ H) (hw : wFor b wr (enumJ xs) s0) (hD : ∀ σ H s, (S s).Ok F σ H → wr s → D.nx σ H)
    (hb : ∀ (N : τ → Prop) (x : Int × α) v s σ H, (S s).Ok F σ H → (tT K (a2 tI A)).rel ((S s).bs F H) v x → b x s N wr → gT v σ H fun σ2 H2 => tb ⟨phi F S N, D.rt, D.nx, phi F S N⟩ σ2 H2) :
    ∃ W : Nat → Nat → L2.St → Hp → Prop, (∃ m, W 0 m σ H) ∧ ∀ i m σ H, W i m σ H →
      ((IteT K l).stop i H ∧ D.nx σ H) ∨ ((IteT K l).go i H ∧ ∃ N : L2.St → Hp → Prop, (∀ σ' H', N σ' H' → ∃ m', m' < m ∧ W (i + 1) m' σ' H') ∧ ∀ x H', (IteT K l).yld i H x H' → gT x σ H' fun σ2 H2 => tb { D with nx := N, ct := N, bk := D.nx } σ2 H2) := by
  have hlen := enumJ_len xs
  refine ⟨fun i m σ H => m = xs.length - i ∧ i ≤ xs.length ∧ ∃ s, (S s).Ok F σ H ∧ wFor b wr ((enumJ xs).drop i) s, ⟨xs.length, by simp, Nat.zero_le _, s0, h0, hw⟩, ?_⟩
  rintro i m σ H ⟨rfl, hi, s, o, w⟩
  obtain ⟨vs, hq, hpr⟩ := hp s σ H o
  by_cases hlt : i < xs.length
  · have hlt' : i < (enumJ xs).length := by rw [hlen]; exact hlt
    obtain ⟨e1, hx⟩ := enumJ_get (List.getElem?_eq_getElem hlt')
    obtain ⟨v, hv, rv⟩ := Paired.at hpr hx
    rw [List.drop_eq_getElem_cons hlt'] at w
    refine .inr ⟨⟨vs, v, hq, hv⟩, phi F S fun s' => wFor b wr ((enumJ xs).drop (i + 1)) s', fun σ' H' ⟨s', o', w'⟩ => ⟨xs.length - (i + 1), by omega, rfl, hlt, s', o', w'⟩, fun x H' y => ?_⟩
    obtain ⟨T, x2, et, hT, eH, hx2⟩ := y
    obtain rfl : x2 = v := Option.some.inj ((hx2 vs hq).symm.trans hv)
    subst eH et
    have s1 : Same H (upd H T (.tup [.int (i : Nat), x2])) := same_upd hT
    have k1 := o.step s1
    have n1 := o.fresh hT
    have n2 := o.same.free hT
    refine hb _ _ _ s _ _ k1 ⟨T, _, rfl, .inl (.inl (bsA_of n1 n2 upd_same)), .int (i : Nat), x2, rfl, ?_, A.same (bsA_mono s1) rv⟩ w
    show V.int (i : Nat) = V.int _
    rw [e1]
  · have e : i = xs.length := by omega
    refine .inl ⟨⟨vs, hq, by rw [Paired.len hpr]; omega⟩, hD σ H s o ?_⟩
    rw [List.drop_of_length_le (by omega)] at w
    exact w
section
variable {tg iter : Expr} {body rest : List Stmt} {pos : Pos} {A : Ty α} {gT : TG} {tr : Gm → Int × α → Gm} {b : Int × α → τ → (τ → Prop) → (τ → Prop) → Prop} {wr : τ → Prop} {s0 : τ} {wl : (List α → Prop) → Prop} {rt : VK} {nx bk ct : L2.St → Hp → Prop}
/-- for i, x in enumerate(a tuple) -/
theorem js_forET {S : V → List α → τ → Gm} {j : Nat} {elts : List Expr} {kk : Nat} {tpos p pr : Pos} (hg0 : Gl X "enumerate") (hm : X.mg "enumerate" = none) (hl : JE X F g iter (rO (tT X.K (aV A))) wl) (hS : ∀ v xs, Sub (g.push (.fix (tT X.K (aV A)) v xs)) (S v xs s0)) (hc : ∀ v xs s, (S v xs s).c[j]? = some (.fix (tT X.K (aV A)) v xs))
    (hg : PG X (.Tuple elts kk tpos) gT) (ht : TgOk (tT X.K (a2 tI A)) gT tr) (hb : ∀ v xs (N B : τ → Prop) a s, JSs X F (tr (S v xs s) a) body ⟨phi F (S v xs) N, rt, phi F (S v xs) B, phi F (S v xs) N⟩ (b a s N B)) (hr : ∀ v xs s, JSs X F (S v xs s) rest ⟨nx, rt, bk, ct⟩ (wr s))
    (hpo : PassesOwn (model X.prog X.w) X.A X.env X.xe) (hca : X.calm = true := by rfl) (hst : starEach [iter] X.env = (false, eval iter X.env) :: starEach [] X.env := by rfl) (hst2 : starEach [iter] X.env = [(false, eval iter X.env)] := by rfl) (hfs : ∀ y, foldedSetIterable (.Call (.Name "enumerate" p) [iter] [] pr) X.env y = pure y := by intro _; rfl) :
    JSs X F g (.For (.Tuple elts kk tpos) (.Call (.Name "enumerate" p) [iter] [] pr) body [] pos :: rest) ⟨nx, rt, bk, ct⟩ (wl fun xs => wLet xs fun xs => wFor b wr (enumJ xs) s0) := by
  refine pssW (pss_cons (ps_for hpo hca (pi_enumT hg0 hm (pa_cons hl pa_nil hst) hst2) hg (pssE (t := fun (q : V × List α × (τ → Prop) × (Int × α) × τ) => RS F (tr (S q.1 q.2.1 q.2.2.2.2) q.2.2.2.1) ⟨phi F (S q.1 q.2.1) q.2.2.1, rt, phi F (S q.1 q.2.1) wr, phi F (S q.1 q.2.1) q.2.2.1⟩ (b q.2.2.2.1 q.2.2.2.2 q.2.2.1 wr)) fun q => hb q.1 q.2.1 q.2.2.1 wr q.2.2.2.1 q.2.2.2.2) hfs)
    (pssE (t := fun (q : V × List α × τ) => RS F (S q.1 q.2.1 q.2.2) ⟨nx, rt, bk, ct⟩ (wr q.2.2)) fun q => hr q.1 q.2.1 q.2.2)) fun D σ H ⟨e, k, w⟩ => ?_
  refine ⟨k, _, w, fun xs v H1 w1 s1 r => ?_⟩
  obtain ⟨l, vs, ev, hq, hr1⟩ := id r
  refine ⟨l, vs, by rw [ev], (k.step s1).le.sqT' hq, ?_⟩
  refine forE_core (A := A) (D := ⟨_, D.rt, D.bk, D.ct⟩) (S := S v xs) (fun s σ H o => ?_) ((hS v xs).ok ((k.step s1).fixed r)) w1 ?_ fun N x u s σ H o ru q => ?_
  · obtain ⟨l2, us, e2, h2, r2⟩ := (show (tT X.K (aV A)).rel ((S v xs s).bs F H) v xs from o.cells _ (List.mem_of_getElem? (hc v xs s)))
    rw [ev] at e2
    have e3 : l = l2 := V.ref.inj e2
    subst e3
    exact ⟨us, o.le.sqT' h2, r2⟩
  · exact fun σ H s o q => ⟨(v, xs, s), e, o, q⟩
  exact ht F _ σ H u x _ o ru fun σ' o' => ⟨(v, xs, N, x, s), ⟨fun _ _ z => z, e.rt, fun _ _ ⟨s, o, q⟩ => ⟨(v, xs, s), e, o, q⟩, fun _ _ z => z⟩, o', q⟩
end
end
end J
/-! A15: sorted of a tuple of numbers -/
namespace SrtO
open PySem PyProof.Rows Srt
section
variable {prog : Program} {w : World} {A : Around} {E : Value → Shared → Prop} {s : Shared}
theorem collect_tupJ {l : Addr} {vs : List Value} {Q : List Value → Shared → Prop} (hl : s.heap.IsTuple l vs.toArray)
    (h : Q vs { s with heap := (s.heap.push (seqObj "list" #[] 0)).update s.heap.objs.size (Obj.mapSeq (· ++ vs.toArray)) }) (hsz : vs.length ≤ sizeLine) :
    wpAny (model prog w) A (collect (.ref l)) Q E s := by
  obtain ⟨o, ho, hc, n, hd⟩ := id hl
  unfold collect
  refine wpAny_bind (wpAny_runValue (codeAny_builtin entry_proto_collect' ?_))
  show wpAny _ _ (do again (.builtin "list.__iadd__" ⟨[← newList [], .ref l], []⟩)) _ _ s
  refine wpAny_bind (wpAny_newList (wpAny_pure ⟨Code.quiet_builtin _ (by decide +kernel), codeAny_builtin entry_list_iadd' ?_⟩))
  show wpAny _ _ (Builtin.List.listExtendWith (.ref s.heap.objs.size) (.ref l) (.ref s.heap.objs.size)) _ _ { s with heap := s.heap.push (seqObj "list" #[] 0) }
  unfold Builtin.List.listExtendWith
  have ho' : (s.heap.push (seqObj "list" #[] 0)).get? l = some o := Heap.get?_push_of_some _ ho
  refine wpAny_bind (wpAny_typeOf (T := "tuple") ⟨o, ho', hc⟩ ?_)
  have ht : (Value.type "tuple" == Value.type "tuple") = true := by rfl
  rw [if_pos (by rw [ht]; simp)]
  refine wpAny_bind (listItems_at ho' hd ?_)
  refine wpAny_bind (listItems_at (xs := #[]) (n := 0) (Heap.get?_push_size _ rfl) rfl ?_)
  rw [if_neg (by simp)]
  refine wpAny_bind (listUpdate_at (xs := #[]) (n := 0) (Heap.get?_push_size _ rfl) rfl ?_ (Nat.zero_le _) (by show (#[] ++ vs.toArray).size ≤ sizeLine + 1; simp only [Array.size_append, List.size_toArray, List.length_nil]; omega))
  refine wpAny_pure ?_
  show wpAny (model prog w) A (do
      let o ← load s.heap.objs.size
      match o.data with
      | .seq xs _ => pure xs.toList
      | _ => unsupported "internal:collect") Q E { s with heap := (s.heap.push (seqObj "list" #[] 0)).update s.heap.objs.size (Obj.mapSeq (· ++ vs.toArray)) }
  refine wpAny_bind (wpAny_load (get?_update_seq (Heap.get?_push_size _ rfl) _) ?_)
  show wpAny _ _ (pure ((#[] : Array Value) ++ vs.toArray).toList) Q E _
  rw [show ((#[] : Array Value) ++ vs.toArray).toList = vs by simp]
  exact wpAny_pure h
theorem sorted_ordT {l : Addr} {vs : List Value} {ltv : Value → Value → Bool} {Q : Value → Shared → Prop} (O : Swo ltv) (hl : s.heap.IsTuple l vs.toArray) (hz : vs.length ≤ sizeLine)
    (hS : 2 ≤ vs.length → ∀ (h₁ : Heap) (a : Addr), h₁.get? a = some (seqObj "list" vs.toArray 0) → (∀ b o, s.heap.get? b = some o → b ≠ a ∧ h₁.get? b = some o) → SortableO prog w A.in1.in1 { s with heap := h₁ } a vs ltv)
    (h : ∀ out : List Value, Srtd ltv out → Stb ltv out vs → Q (.ref (s.heap.objs.size + 1)) { s with heap := sortedAll s.heap vs out.toArray }) :
    wpAny (model prog w) A (call (.builtin "sorted") [.ref l]) Q E s := by
  refine Calls.call_function_entry kind_sorted plain_sorted entry_sorted (args_sorted1 _) ?_
  unfold Builtin.«sorted»
  refine wpAny_bind (m := checkCount "sorted" 1 1 _) (wpAny_pure ?_)
  refine wpAny_bind (collect_tupJ hl ?_ hz)
  refine wpAny_bind (wpAny_newList ?_ hz)
  have hsz : ((s.heap.push (seqObj "list" #[] 0)).update s.heap.objs.size (Obj.mapSeq (· ++ vs.toArray))).objs.size = s.heap.objs.size + 1 := by
    rw [Heap.size_update, size_push']
  have hoL : (((s.heap.push (seqObj "list" #[] 0)).update s.heap.objs.size (Obj.mapSeq (· ++ vs.toArray))).push (seqObj "list" vs.toArray 0)).get? (s.heap.objs.size + 1) = some (seqObj "list" vs.toArray 0) := by
    rw [← hsz]; exact Heap.get?_push_size _ rfl
  have keep : ∀ b o, s.heap.get? b = some o → b ≠ s.heap.objs.size + 1 ∧ (((s.heap.push (seqObj "list" #[] 0)).update s.heap.objs.size (Obj.mapSeq (· ++ vs.toArray))).push (seqObj "list" vs.toArray 0)).get? b = some o := fun b o q => by
    have hlt : b < s.heap.objs.size := Heap.lt_size q
    refine ⟨Nat.ne_of_lt (Nat.lt_succ_of_lt hlt), Heap.get?_push_of_some _ ?_⟩
    rw [Heap.get?_update_ne _ _ _ _ (Nat.ne_of_lt hlt)]
    exact Heap.get?_push_of_some _ q
  show wpAny _ _ _ _ _ { s with heap := ((s.heap.push (seqObj "list" #[] 0)).update s.heap.objs.size (Obj.mapSeq (· ++ vs.toArray))).push (seqObj "list" vs.toArray 0) }
  rw [hsz]
  refine wpAny_bind (wpAny_holding (wpAny_call_entry slot_list_sort ⟨_, hoL, rfl⟩ entry_list_sort (list_sort_ord O hoL hz (fun h2 => hS h2 _ _ hoL keep) fun out hs hb => ⟨_, rfl, ?_⟩) (args_list_sort _)))
  exact wpAny_pure ⟨_, rfl, h out hs hb⟩
end
end SrtO
namespace L2
open PySem PySem.Spec PyProof.Rows
def rSortedIT (K : PySem.W.Frag) : List V → Hp → VK → Prop := fun vs H Q => ∃ (a : Addr) (ns : List Int), vs = [V.ref a] ∧ SqT K H a (ns.map V.int) ∧
  ∀ (ns' : List Int) (p : Addr), ns'.Perm ns → ns'.Pairwise (· ≤ ·) → H p = none → Q (.ref p) (upd H p (.lst (ns'.map V.int)))
section
variable {X : Cx}
theorem cr_sortedIT : CallR X (.builtin "sorted") (rSortedIT X.K) := by
  intro pins s σ H vs us Q I r h
  obtain ⟨a, ns, rfl, hs, q⟩ := h
  obtain ⟨its, rv, hl, hz⟩ := I.tuple hs
  rw [Vals.ref1 r]
  have hi := rv.ints
  refine SrtO.sorted_ordT SrtO.swo_int (show s.heap.IsTuple a its.toArray from hl) (by rw [← rv.length]; exact hz) (fun h2 h₁ a' _ _ => SrtO.ints_sortable hi h2) fun out h1 h2 => ?_
  obtain ⟨k1, k2, k3⟩ := SrtO.ints_out hi h1 h2
  obtain ⟨ep, he'⟩ := PyProof.Rows.sortedAll_at s.heap its out.toArray
  have hlen : ((out.map SrtO.iv).map V.int).length ≤ sizeLine := by
    rw [List.length_map, k2.length_eq]
    rw [List.length_map] at hz
    exact hz
  exact ⟨.ref _, upd H (s.heap.objs.size + 1) (.lst ((out.map SrtO.iv).map V.int)), I.laid (t' := s.toks) (fun _ _ => PyProof.Rows.sortedAll_old) (Nat.le_succ _) ⟨hlen, out, ep, vals_of_ints k1, he'⟩, rfl, q _ _ k2 k3 (I.hok.fresh (Nat.le_succ _))⟩
end
end L2
namespace J
open PySem PySem.Spec L2 PyProof.Rows ClX RZ
section
variable {X : Cx} {F : Fr} {g : Gm} {e : Expr} {p pos : Pos}
theorem je_sortedT {w : (List Int → Prop) → Prop} (hg : Gl X "sorted") (hm : X.mg "sorted" = none) (ha : JE X F g e (rO (tT X.K (aV tI))) w) (he : starEach [e] X.env = (false, eval e X.env) :: starEach [] X.env := by rfl) (hpl : (backTo pos (starEach [] X.env)).any (·.1) = false := by rfl) :
    JE X F g (.Call (.Name "sorted" p) [e] [] pos) (rN tI) (fun k => w fun xs => ∀ ys : List Int, ys.Perm xs → ys.Pairwise (· ≤ ·) → k ys) :=
  je_callB (T := aC (tT X.K (aV tI)) aN) (R := rN tI) (C := fun t k => ∀ ys : List Int, ys.Perm t.1 → ys.Pairwise (· ≤ ·) → k ys) cr_sortedIT (fun _ t H vs P Q k ⟨v, r, e1, ⟨a, us, ev, hs, hp⟩, e2⟩ c q => ⟨a, t.1, by rw [e1, (e2 : r = []), ev], by rw [← paired_int hp]; exact hs, fun ys l h1 h2 hl => q ys _ _ (c ys h1 h2) (same_upd hl) ⟨l, _, rfl, hl, k.bs_new hl, paired_ints ys⟩⟩) hg hm (by decide +kernel) (jb_cons (je_b ha) jb_nil he) (by decide) (by decide) he hpl
end
end J
/-! A16: own errors without fields: raised, let through, caught -/
namespace L2
open PySem PySem.Spec PyProof.Rows
section
variable {X : Cx} {CX : CXT} {k : Nat} {f C : Addr} {fd : FuncData} {ps : List Str} {sp : Sp} {E : St → XK} {x m : Str} {p pos apos : Pos} {e o : Expr} {es : List Expr} {ta : TE} {t : TA}
theorem run_makeS {pins : List (Addr × Obj)} {σ : St} {H : Hp} {s : Shared} {Q : VK} {us : List Value} {vs : List V} (M : Mk X.K C f) (F : FnOk X.prog X.w X.K X.mg X.base CX k f fd ps sp) (hr : Room (k + 1) X.A) (hb : Binds X.K fd ps [])
    (hx : PassesAt CX X σ (E σ)) (I : Inv X pins σ H s) (r : Vals vs us)
    (h : ∀ x dx, H x = none → H dx = none → dx ≠ x → sp (.ref x :: vs) (upd (upd H dx (.own x)) x (.ins C dx [])) (fun v H2 => v = .non ∧ Q (.ref x) H2) (E σ)) :
    wpAny (model X.prog X.w) X.A (call (.ref C) us) (EP X pins σ Q) X.xe s := by
  have hq := h (s.heap.objs.size + 1) s.heap.objs.size (I.hok.fresh (Nat.le_succ _)) (I.hok.fresh (Nat.le_refl _)) (Nat.ne_of_lt (Nat.lt_succ_self _))
  have I2 := Inv.made (C := C) I
  have r2 : Vals (V.ref (s.heap.objs.size + 1) :: vs) (Value.ref (s.heap.objs.size + 1) :: us) := .cons rfl r
  have hl : (Value.ref (s.heap.objs.size + 1) :: us).length = ps.length := by
    have e := r2.length
    rw [F.len _ _ _ _ hq] at e
    exact e.symm
  have hbb := hb _ (Value.ref (s.heap.objs.size + 1) :: us) I2.kIn (by rw [List.append_nil]; exact hl)
  rw [List.append_nil] at hbb
  refine wpAny_call (make_map (f := f) I.kIn M.makes M.init (beq_iff_eq.mp M.fn) (codeAny_mono (F.run _ X.stack _ _ ⟨Value.ref (s.heap.objs.size + 1) :: us, []⟩ (Value.ref (s.heap.objs.size + 1) :: us) _ _ (E σ) (hr.make C us [])
    (I2.env0.make C us []) hbb r2 hq) fun r s' hq' => ?_))
  cases r with
  | error e => exact hx pins _ _ e s' I2 hq'
  | ok fl =>
    cases fl with
    | ret u =>
      obtain ⟨v, H', I3, rv, ev, q3⟩ := I2.after hq'
      subst ev
      exact ⟨rv, ⟨V.ref (s.heap.objs.size + 1), H', I3, rfl, q3⟩⟩
    | next => exact False.elim hq'
    | brk => exact False.elim hq'
    | cont => exact False.elim hq'
def tMakeS (C : Addr) (sp : Sp) (E : St → XK) (t : TA) : TE := fun σ H Q => t σ H fun vs H1 => ∀ x dx, H1 x = none → H1 dx = none → dx ≠ x →
  sp (.ref x :: vs) (upd (upd H1 dx (.own x)) x (.ins C dx [])) (fun v H2 => v = .non ∧ Q (.ref x) H2) (E σ)
theorem pe_makeS (M : Mk X.K C f) (F : FnOk X.prog X.w X.K X.mg X.base CX k f fd ps sp) (hr : Room (k + 1) X.A) (hg : Gl X x) (hm : X.mg x = some (.ref C)) (hb : Binds X.K fd ps []) (hx : ∀ σ, PassesAt CX X σ (E σ))
    (ha : PA X (e :: es) t) (hdb : (x == ("__debug__" : Str)) = false := by decide) (he : starEach (e :: es) X.env = (false, eval e X.env) :: starEach es X.env := by rfl) (hpl : (backTo pos (starEach es X.env)).any (·.1) = false := by rfl) :
    PE X (.Call (.Name x p) (e :: es) [] pos) (tMakeS C sp E t) := by
  refine ⟨fun pins s σ H Q I h => ?_⟩
  refine wpAny_Call_Name_kw (ld_glob I hg hm ?_ hdb)
  refine PySem.W.callWith_K (h₀ := X.base) I.ok.mod.kin M.kp (thn (ha.run pos pins s σ H _ I h) fun us s1 ⟨vs, H1, I1, r, q⟩ => ⟨I1.kIn, ?_⟩) he hpl
  exact run_makeS M F hr hb (hx σ) I1 r q
def tMethSJ (C : Addr) (m : Str) (sp : Sp) (E : St → XK) (ta : TE) (t : TA) : TE := fun σ H Q => ta σ H fun x H1 => ∃ a dx fs, x = .ref a ∧ H1 a = some (.ins C dx fs) ∧ fs.lookup m = none ∧
  t σ H1 fun vs H2 => sp (x :: vs) H2 Q (E σ)
theorem pe_methSJ {pl : Sem Bool} (he : PE X o ta) (c : Cls X.K C) (hm : Meth X.K C m f) (F : FnOk X.prog X.w X.K X.mg X.base CX k f fd ps sp) (hr : Room k X.A) (hb : Binds X.K fd ps []) (hx : ∀ σ, PassesAt CX X σ (E σ)) (ha : PA X (e :: es) t)
    (hst : starEach (e :: es) X.env = (false, eval e X.env) :: starEach es X.env := by rfl) (hpl : (backTo pos (starEach es X.env)).any (·.1) = false := by rfl)
    (ht : eval (.Call (.Attribute o m apos) (e :: es) [] pos) X.env = (do
      let ov ← eval o X.env
      standAt apos.atName
      let (f, first) ← holding [ov] (getMethod ov m pl)
      callWith pos f first (backTo pos (starEach (e :: es) X.env)) (backToKw pos (keywordEach [] X.env))) := by rfl) :
    PE X (.Call (.Attribute o m apos) (e :: es) [] pos) (tMethSJ C m sp E ta t) := by
  refine ⟨fun pins s σ H Q I h => ?_⟩
  refine PySem.W.methodCall_KW (pl := pl) (thn (he.run pins s σ H _ I h) fun u s1 ⟨x, H1, I1, rx, a, dx, fs, ex, ea, l, q⟩ => ?_) ht
  subst ex
  obtain rfl : u = Value.ref a := rx
  refine getmeth_ok I1 ea c hm l ?_
  refine PySem.W.callWith_K (first := [.ref a]) (h₀ := X.base) I.ok.mod.kin hm.kp (thn (ha.run pos pins s1 σ H1 _ I1 q) fun us s2 ⟨vs, H2, I2, r, q2⟩ => ⟨I2.kIn, ?_⟩) hst hpl
  exact run_fnS (us := .ref a :: us) (vs := .ref a :: vs) F hr hb (hx σ) I2 (.cons rfl r) q2
end
end L2
namespace J
open PySem PySem.Spec L2 PyProof.Rows ClX RZ
section
variable {X : Cx} {F : Fr} {g : Gm} {α β γ ρ τ κ : Type}
/-- the error's class at EC: what is raised, where N holds -/
def spIX (C : Addr) (ns : List Str) (T : ATy τ) (U : ATy κ) (EC : Addr) (w : τ → (κ → Prop) → Prop → Prop) : Sp := fun vs H Q E => ∃ (x dx : Addr) (ws : List V) (t : τ) (P : κ → Prop) (N : Prop) (F : Fr), vs = .ref x :: ws ∧ F.H x = none ∧ F.H dx = none ∧ dx ≠ x ∧ H = upd (upd F.H dx (.own x)) x (.ins C dx []) ∧ T.rel F.B ws t ∧ w t P N ∧
  (∀ u H2, P u → Same F.H H2 → (tC C ns U).rel (F.out H2) (.ref x) u → Q .non H2) ∧ (N → ∀ H2, Same F.H H2 → E (.ref EC) none H2)
def spJX {τ ρ : Type} (T : ATy τ) (R : Res ρ) (EC : Addr) (w : τ → (ρ → Prop) → Prop → Prop) : Sp := fun vs H Q E => ∃ (t : τ) (P : ρ → Prop) (N : Prop) (F : Fr), F.H = H ∧ T.rel F.B vs t ∧ w t P N ∧ RtOk F R P Q ∧ (N → ∀ H2, Same F.H H2 → E (.ref EC) none H2)
variable {f C EC : Addr} {m x : Str} {n : Nat} {fd : FuncData} {ps ns : List Str} {e : Expr} {es : List Expr} {apos pos np : Pos} {pl : Sem Bool} {T : ATy τ} {U : ATy κ} {R : Res ρ} {W : WX} {N : Prop}
theorem je_makeX {w : τ → (κ → Prop) → Prop → Prop} {wa : (τ → Prop) → Prop} (tk : Takes X W) (hW : ∀ σ H, g.Ok F σ H → N → W (.ref EC) none σ H) (M : Mk X.K C f) (Fn : FnOk X.prog X.w X.K X.mg X.base (L2.CX X.prog X.w) n f fd ps (spIX C ns T U EC w)) (hr : Room (n + 1) X.A) (hg : Gl X x) (hm : X.mg x = some (.ref C)) (hb : Binds X.K fd ps [])
    {a0 : Expr} (ha : JA X F g (a0 :: es) T wa) (hdb : (x == ("__debug__" : Str)) = false := by decide) (he : starEach (a0 :: es) X.env = (false, eval a0 X.env) :: starEach es X.env := by rfl) (hpl : (backTo pos (starEach es X.env)).any (·.1) = false := by rfl) :
    JE X F g (.Call (.Name x np) (a0 :: es) [] pos) (rO (tC C ns U)) (fun k => wa fun t => w t k N) :=
  peW (pe_makeS (E := WE W) M Fn hr hg hm hb (fun σ => passAt tk σ) ha hdb he hpl) fun σ H Q ⟨k, P, w, q⟩ => ⟨k, _, w, fun t vs H1 w1 s1 r1 x dx hx hdx hne => ⟨x, dx, vs, t, P, N, (k.step s1).fr, rfl, hx, hdx, hne, rfl, r1, w1, (fun u H2 p s2 r2 => ⟨rfl, q u (.ref x) H2 p (s1.trans s2) ((tC C ns U).same ((k.step s1).back s2) r2)⟩), fun nn H2 s2 => hW σ H2 (k.step (s1.trans s2)) nn⟩⟩
theorem je_methX {w : κ × τ → (ρ → Prop) → Prop → Prop} {wo : (κ → Prop) → Prop} {wa : (τ → Prop) → Prop} {a0 : Expr} (tk : Takes X W) (hW : ∀ σ H, g.Ok F σ H → N → W (.ref EC) none σ H) (he : JE X F g e (rO (tC C ns U)) wo) (c : Cls X.K C) (hm : Meth X.K C m f) (Fn : FnOk X.prog X.w X.K X.mg X.base (L2.CX X.prog X.w) n f fd ps (spJX (aC (tC C ns U) T) R EC w)) (hr : Room n X.A) (hb : Binds X.K fd ps []) (ha : JA X F g (a0 :: es) T wa)
    (hl : ∀ vs : List V, vs.length = ns.length → (ns.zip vs).lookup m = none)
    (hst : starEach (a0 :: es) X.env = (false, eval a0 X.env) :: starEach es X.env := by rfl) (hpl : (backTo pos (starEach es X.env)).any (·.1) = false := by rfl)
    (ht : eval (.Call (.Attribute e m apos) (a0 :: es) [] pos) X.env = (do
      let ov ← eval e X.env
      standAt apos.atName
      let (f, first) ← holding [ov] (getMethod ov m pl)
      callWith pos f first (backTo pos (starEach (a0 :: es) X.env)) (backToKw pos (keywordEach [] X.env))) := by rfl) :
    JE X F g (.Call (.Attribute e m apos) (a0 :: es) [] pos) R (fun k => wo fun o => wa fun t => w (o, t) k N) :=
  peW (pe_methSJ (E := WE W) he c hm Fn hr hb (fun σ => passAt tk σ) ha hst hpl ht) fun σ H Q ⟨k, P, w, q⟩ => ⟨k, _, w, fun o v H1 w1 s1 r1 => by
    obtain ⟨a, dx, vs, e1, h1, hn, ho⟩ := r1
    exact ⟨a, dx, _, e1, (k.step s1).le _ _ h1, hl vs hn, k.step s1, _, w1, fun t us H2 w2 s2 r2 => ⟨(o, t), P, N, (k.step (s1.trans s2)).fr, rfl, ⟨v, us, by rw [e1], ⟨a, dx, vs, e1, Gm.mono s2 _ _ h1, hn, U.same (Gm.mono s2) ho⟩, r2⟩, w2, (fun r v H3 p s3 r3 => q r v H3 p (s1.trans (s2.trans s3)) (R.pre (s1.trans s2) (R.same ((k.step (s1.trans s2)).back s3) (Same.refl _) r3))), fun nn H3 s3 => hW σ H3 (k.step (s1.trans (s2.trans s3))) nn⟩⟩⟩
/-- raise EC("..") -/
theorem js_raiseX {ex : Expr} {rest : List Stmt} {D : Ends} (hc : X.calm = true) (tk : Takes X W) (hW : ∀ σ H, g.Ok F σ H → N → W (.ref EC) none σ H) (he : PMk X ex (fun _ H Q => Q (.ref EC) none H)) : JSs X F g (.Raise (some ex) none pos :: rest) D N :=
  pssW (pss_cons (ps_raise hc tk he) pss_never) fun D' σ H ⟨e, k, nn⟩ => hW σ H k nn

/-- the error that the suite holds -/
def tRf (a : Addr) : Ty Unit := ⟨fun _ v _ => v = .ref a, fun _ h => h⟩
theorem Gm.Ok.clr {F : Fr} {σ : L2.St} {H : Hp} (k : g.Ok F σ H) {i : Nat} (o : Option V) : (g.set i .any).Ok F (σ.set i o) H :=
  ⟨k.same, Par.set (t := .any) trivial i k.slots, k.nd, k.cells⟩
theorem set_selfJ {α : Type 1} {l : List α} {i : Nat} {a : α} (h : l[i]? = some a) : l.set i a = l := by
  obtain ⟨hi, e⟩ := List.getElem?_eq_some_iff.mp h
  rw [← e]
  exact List.set_getElem_self hi
theorem set_any2 {g : Gm} {i : Nat} {t : Slot} (h : g.s[i]? = some .any) : (g.set i t).set i .any = g := by
  show (⟨(g.s.set i t).set i .any, g.c⟩ : Gm) = g
  rw [List.set_set, set_selfJ h]
/-- at the end of a part of a try -/
theorem js_endZ {Z : L2.St → Hp → Prop} {R : Prop} {bk ct : L2.St → Hp → Prop} {rt : VK} (h : ∀ σ H, g.Ok F σ H → Z σ H) : JSs X F g [] ⟨fun σ H => Z σ H ∧ R, rt, bk, ct⟩ R := pssW pss_nil fun D σ H ⟨e, o, q⟩ => e.nx _ _ ⟨h σ H o, q⟩
theorem clr_try {F : Fr} {i : Nat} {t : Slot} (hany : g.s[i]? = some .any) {σ : L2.St} {H : Hp} (k : (g.set i t).Ok F σ H) : g.Ok F (σ.set i none) H := by
  have := k.clr (i := i) none
  rw [set_any2 hany] at this
  exact this
theorem js_tryX {i : Nat} {nE xC : Str} {c : Value} {body suite rest : List Stmt} {b₀ : Stmt} {nx bk ct : L2.St → Hp → Prop} {rt : VK} {wr : Prop} {ws' : Prop → Prop} {wb : Prop → Prop → Prop} {pos' : Pos} (hs : X.stack = X.env :: X.outer) (hf : X.env.frame = some X.env.locals) (hN : X.N.Nodup) (hi : X.N[i]? = some nE) (hln : X.env.kindOf nE = some .local) (hc : Names X xC c)
    (hex : PySem.W.exmOne X.K (.ref EC) c = some true) (hany : g.s[i]? = some .any)
    (hb : ∀ (R N : Prop) (W : WX) (pn : List (Addr × Obj)) (xe : Value → Shared → Prop), Takes (X.tr pn xe) W → (∀ σ H, g.Ok F σ H → N → W (.ref EC) none σ H) → JSs (X.tr pn xe) F g body ⟨fun σ H => g.Ok F σ H ∧ R, rt, fun _ _ => False, fun _ _ => False⟩ (wb R N))
    (hC : ExcC X.K EC)
    (hsu : ∀ (R : Prop) (a : Addr) (oe : Obj) (pn : List (Addr × Obj)), CallR (X.suite a ((a, oe) :: pn)) (.builtin "isinstance") (rIsE X.K EC a) → JSs (X.suite a ((a, oe) :: pn)) F (g.set i (.val (tRf a) ())) (b₀ :: suite) ⟨fun σ H => g.Ok F (σ.set i none) H ∧ R, rt, fun _ _ => False, fun _ _ => False⟩ (ws' R))
    (hr : JSs X F g rest ⟨nx, rt, bk, ct⟩ wr) : JSs X F g (.Try body [.ExceptHandler (some (.Name xC np)) (some nE) (b₀ :: suite) pos'] [] [] pos :: rest) ⟨nx, rt, bk, ct⟩ (wCut wr fun R => wCut (ws' R) fun N => wb R N) := by
  refine pssW (pss_cons (ps_try_as (np := np) (pos := pos) (tb := fun W => fun D σ H => ∃ q : Prop × Prop, (∀ σ H, g.Ok F σ H → q.2 → W (.ref EC) none σ H) ∧ RS F g ⟨fun σ H => g.Ok F σ H ∧ q.1, rt, fun _ _ => False, fun _ _ => False⟩ (wb q.1 q.2) D σ H)
    (ts := fun a cls d => fun D σ H => cls = .ref EC ∧ d = none ∧ ∃ R : Prop, RS F (g.set i (.val (tRf a) ())) ⟨fun σ H => g.Ok F (σ.set i none) H ∧ R, rt, fun _ _ => False, fun _ _ => False⟩ (ws' R) D σ H)
    (Wout := fun _ _ _ _ => False) hs hf hN hi hln hc takes0 (fun W pn xe tk _ => ?_) (fun a oe cls d pn hz hv => ?_)) hr) fun D σ H ⟨e, k, w⟩ => ?_
  · exact ⟨fun p s σ H D I ⟨q, hW, h⟩ => (hb q.1 q.2 W pn xe tk hW).run p s σ H D I h⟩
  · refine ⟨fun p s σ H D I ⟨e1, e2, R, h⟩ => ?_⟩
    subst e1 e2
    exact (hsu R a oe pn (call_isE hC hz hv)).run p s σ H D I h
  · refine ⟨(wr, ws' wr), fun σ H k n => ⟨true, hex, fun _ a ha => ⟨rfl, rfl, wr, ⟨fun σ H ⟨k, r⟩ => ⟨e, k, r⟩, e.rt, fun _ _ z => z.elim, fun _ _ z => z.elim⟩, k.set (t := .val (tRf a) ()) ⟨_, rfl, rfl⟩, n⟩, fun z => by cases z⟩, ⟨⟨fun σ H ⟨k, r⟩ => ⟨e, k, r⟩, e.rt, fun _ _ z => z.elim, fun _ _ z => z.elim⟩, k, w⟩⟩

/-! ### isinstance of the error -/
theorem kit_yes {K : PySem.W.Frag} {C D : Addr} (h1 : PySem.W.isClsIn K D = true) (h2 : PySem.W.typeIn K (.ref D) = some (.type "type")) (h3 : PySem.W.subIn K (.ref C) (.ref D) = some true) : PySem.W.kitOne K (.ref C) (.ref D) = some true := by
  unfold PySem.W.kitOne
  split
  · rfl
  · unfold PySem.W.kitCls
    have h1' : (PySem.W.clsIn K D).isSome = true := h1
    dsimp only
    rw [if_pos (by rw [h1', h2]; rfl)]
    exact h3
theorem kit_no {K : PySem.W.Frag} {C D : Addr} (h1 : PySem.W.isClsIn K D = true) (h2 : PySem.W.typeIn K (.ref D) = some (.type "type")) (h3 : PySem.W.subIn K (.ref C) (.ref D) = some false) (h4 : PySem.W.subIn K (.ref C) (.ref C) = some true) : PySem.W.kitOne K (.ref C) (.ref D) = some false := by
  unfold PySem.W.kitOne
  split
  · rename_i e
    have e1 := beq_iff_eq.mp e
    rw [← e1, h4] at h3
    cases h3
  · unfold PySem.W.kitCls
    have h1' : (PySem.W.clsIn K D).isSome = true := h1
    dsimp only
    rw [if_pos (by rw [h1', h2]; rfl)]
    exact h3
theorem kit_tyE {K : PySem.W.Frag} {C : Addr} {T : String} {b : Bool} (h1 : PySem.W.kitMeta T = true) (h3 : PySem.W.subIn K (.ref C) (.type T) = some b) : PySem.W.kitOne K (.ref C) (.type T) = some b := by
  unfold PySem.W.kitOne
  rw [if_neg (by intro z; cases beq_iff_eq.mp z)]
  unfold PySem.W.kitCls
  dsimp only
  rw [if_pos h1]
  exact h3
section
variable {a D : Addr} {oe : Obj} {pn : List (Addr × Obj)} {c : Expr} {p : Pos} {cV : V} {cv : Value} {b : Bool}
theorem je_isE {K : PySem.W.Frag} (hI : CallR X (.builtin "isinstance") (rIsE K EC a)) (hg : Gl X "isinstance") (hm : X.mg "isinstance" = none) {w : (Unit → Prop) → Prop} (ha : JE X F g e (rO (tRf a)) w) (hT : PE X c (L2.tC cV)) (hcv : ∀ u, RelV cV u → u = cv) (hk : PySem.W.kitOne K (.ref EC) cv = some b)
    (he : starEach [e, c] X.env = (false, eval e X.env) :: starEach [c] X.env := by rfl) (he2 : starEach [c] X.env = (false, eval c X.env) :: starEach [] X.env := by rfl) (hpl : (backTo pos (starEach [c] X.env)).any (·.1) = false := by rfl) :
    JE X F g (.Call (.Name "isinstance" p) [e, c] [] pos) (rO tB) (fun k => w fun _ => k b) :=
  peW (pe_callB hI hg hm (by decide +kernel) (pa_cons ha (pa_cons hT pa_nil he2) he) (by decide) (by decide) he hpl) fun σ H Q ⟨k, P, w, q⟩ => ⟨k, _, w, fun x v H1 w1 s1 r1 =>
    ⟨cV, cv, b, by rw [(r1 : v = _)], hcv, hk, q b _ H1 w1 s1 rfl⟩⟩
theorem je_isER {K : PySem.W.Frag} {D : Addr} (b : Bool) (hI : CallR X (.builtin "isinstance") (rIsE K EC a)) (hg : Gl X "isinstance") (hm : X.mg "isinstance" = none) {w : (Unit → Prop) → Prop} (ha : JE X F g e (rO (tRf a)) w) (hT : PE X c (L2.tC (.ref D))) (hk : PySem.W.kitOne K (.ref EC) (.ref D) = some b)
    (he : starEach [e, c] X.env = (false, eval e X.env) :: starEach [c] X.env := by rfl) (he2 : starEach [c] X.env = (false, eval c X.env) :: starEach [] X.env := by rfl) (hpl : (backTo pos (starEach [c] X.env)).any (·.1) = false := by rfl) :
    JE X F g (.Call (.Name "isinstance" p) [e, c] [] pos) (rO tB) (fun k => w fun _ => wLet b k) := je_isE hI hg hm ha hT (fun _ r => r) hk he he2 hpl
theorem je_isET {K : PySem.W.Frag} {T : String} (b : Bool) (hI : CallR X (.builtin "isinstance") (rIsE K EC a)) (hg : Gl X "isinstance") (hm : X.mg "isinstance" = none) {w : (Unit → Prop) → Prop} (ha : JE X F g e (rO (tRf a)) w) (hT : PE X c (L2.tC (.ty T))) (hk : PySem.W.kitOne K (.ref EC) (.type T) = some b)
    (he : starEach [e, c] X.env = (false, eval e X.env) :: starEach [c] X.env := by rfl) (he2 : starEach [c] X.env = (false, eval c X.env) :: starEach [] X.env := by rfl) (hpl : (backTo pos (starEach [c] X.env)).any (·.1) = false := by rfl) :
    JE X F g (.Call (.Name "isinstance" p) [e, c] [] pos) (rO tB) (fun k => w fun _ => wLet b k) := je_isE hI hg hm ha hT (fun _ r => r) hk he he2 hpl
end
end
end J
namespace J
open PySem PySem.Spec L2 PyProof.Rows ClX RZ
section
variable {X : Cx} {F : Fr} {g : Gm} {α : Type} {rest : List Stmt} {pos : Pos}
abbrev rInsJ : V → List V → Hp → VK → Prop := fun x vs H Q => ∃ (l : Addr) (xs : List V) (i : Int) (y : V), x = .ref l ∧ vs = [.int i, y] ∧ H l = some (.lst xs) ∧ xs.length < sizeLine ∧ 0 ≤ i ∧ i < 2 ^ 63 ∧
    Q .non (upd H l (.lst (xs.take i.toNat ++ [y] ++ xs.drop i.toNat)))
/-- xs.insert(k, e) -/
theorem js_ins {i j : Nat} {l : Addr} {A : Ty α} {xs : List α} {call : Expr} {wk : (Int → Prop) → Prop} {we : (α → Prop) → Prop} {wr : List α → Prop} {D : Ends} (hm : PE X call (tBM X.K "list" rInsJ (tVar i) (tCons (RJ F g (rO tI) wk) (tCons (RJ F g (rO A) we) tNil))))
    (hr : ∀ ys, JSs X F ⟨g.s, g.c.set j (.lst l A ys)⟩ rest D (wr ys)) (hs : g.s[i]? = some (.at l)) (hc : g.c[j]? = some (.lst l A xs)) (hsw : swapsWith call none pos.line X.env = pure false := by rfl) :
    JSs X F g (.Expr call pos :: rest) D (wk fun n => we fun a => (xs.length < 1000000 ∧ 0 ≤ n ∧ n < 1000000) ∧ wLet (xs.take n.toNat ++ [a] ++ xs.drop n.toNat) wr) := by
  refine pssW (pss_cons (ps_expr hm hsw) (pssE hr)) fun D' σ H ⟨e, k, q⟩ => ?_
  obtain ⟨vs, hp, r⟩ := k.cell hc
  refine ⟨_, k.ref hs, .inl ⟨rfl, vs, .inl (.inl hp)⟩, k, _, q, fun n u H1 p s rn => ⟨k.step s, _, p, fun a v H2 p2 s2 ra => ⟨l, vs, n, v, rfl, by rw [(rn : u = _)], (s.trans s2) _ _ hp, ?_, p2.1.2.1, by have := p2.1.2.2; omega, xs.take n.toNat ++ [a] ++ xs.drop n.toNat, e, ?_⟩⟩⟩
  · rw [Paired.len r]
    exact Nat.lt_of_lt_of_le p2.1.1 (by decide)
  · have r2 := Paired.imp (fun _ _ z => A.same (Gm.mono (s.trans s2)) z) r
    exact ⟨((k.step (s.trans s2)).mut hc (Paired.app (Paired.app (Paired.take _ r2) (.cons ra .nil)) (Paired.drop _ r2))), p2.2⟩
end
end J
/-! A17: an own operator that may raise -/
namespace L2
open PySem PySem.Spec PyProof.Rows ClX
section
variable {X : Cx} {CX : CXT} {k : Nat} {C f : Addr} {fd : FuncData} {ps : List Str} {sp : Sp} {E : St → XK} {a b : Expr} {pos : Pos} {ta tb : TE}
def rBinOS (C : Addr) (sp : Sp) (E : XK) : R2 := fun x y H Q => ∃ a dx fs b dy gs, x = .ref a ∧ H a = some (.ins C dx fs) ∧ y = .ref b ∧ H b = some (.ins C dy gs) ∧ sp [.ref a, .ref b] H (fun v H' => (∀ u, RelV v u → u ≠ .notImplemented) ∧ Q v H') E
theorem pe_binOS {op : Operator} (hm : Meth X.K C (PySem.dunder op.info.2) f) (hs : PySem.W.selfFirst X.K C = true) (Fn : FnOk X.prog X.w X.K X.mg X.base CX k f fd ps sp) (hr : Room k X.A) (hb : Binds X.K fd ps []) (hx : ∀ σ, PassesAt CX X σ (E σ)) (ha : PE X a ta) (hbb : PE X b tb) :
    PE X (.BinOp a op b pos) (fun σ H Q => ta σ H fun x H1 => tb σ H1 fun y H2 => rBinOS C sp (E σ) x y H2 Q) := by
  refine ⟨fun pins s0 σ H0 Q I0 h => ?_⟩
  refine wpAny_BinOp (binT ha hbb I0 h fun v u s x y H I rx ry q => ?_)
  obtain ⟨o, dx, fs, o2, dy, gs, rfl, ea, rfl, eb, q⟩ := q
  obtain rfl : v = Value.ref o := rx
  obtain rfl : u = Value.ref o2 := ry
  obtain ⟨mA, O, _, _, _, _⟩ := ins_get I.hok ea
  obtain ⟨od, J, _⟩ := O.look
  obtain ⟨mB, O2, _, _, _, _⟩ := ins_get I.hok eb
  obtain ⟨od2, J2, _⟩ := O2.look
  obtain ⟨m, fr⟩ := I.fr
  refine PySem.W.binop_K fr I.mod.kin J J2.type hs hm.at_ hm.fn (wpAny_mono (wpAny_call (codeAny_mono (Fn.run X.A X.stack s H ⟨[.ref o, .ref o2], []⟩ [.ref o, .ref o2] [.ref o, .ref o2] _ (E σ) hr I.env0 (hb _ [.ref o, .ref o2] I.kIn ?_) (.cons rfl (.cons rfl .nil)) q) (R' := fun r s' => match r with | .ok (.ret u) => PySem.W.CmpBack (EP X _ σ Q) u s' | .ok _ => False | .error e => X.xe e s') fun r s' hq => ?_)) (fun u s' h => h) (fun e s' h => h))
  · exact (Fn.len _ _ _ _ q)
  · cases r with
    | error er => exact hx σ _ H s er s' I hq
    | ok fl =>
      cases fl with
      | ret u' =>
        obtain ⟨v, H', I', rv, hn, hQ⟩ := I.after hq
        have hne := hn _ rv
        show PySem.W.CmpBack _ u' s'
        unfold PySem.W.CmpBack
        split
        · exact absurd rfl hne
        · exact ⟨v, H', I', rv, hQ⟩
      | next => exact False.elim hq
      | brk => exact False.elim hq
      | cont => exact False.elim hq
end
end L2
namespace J
open PySem PySem.Spec L2 PyProof.Rows ClX RZ
section
variable {X : Cx} {F : Fr} {g : Gm} {α β γ ρ τ κ : Type} {C f EC : Addr} {n : Nat} {fd : FuncData} {ps ns : List Str} {U : ATy κ} {W : WX} {N : Prop} {a b : Expr} {pos : Pos}
theorem je_binOX {op : Operator} {ns' : List Str} {C' : Addr} {κ' : Type} {U' : ATy κ'} {w : κ × κ × Unit → (κ' → Prop) → Prop → Prop} {wa wb : (κ → Prop) → Prop} (tk : Takes X W) (hW : ∀ σ H, g.Ok F σ H → N → W (.ref EC) none σ H) (ha : JE X F g a (rO (tC C ns U)) wa) (hb' : JE X F g b (rO (tC C ns U)) wb) (hm : Meth X.K C (PySem.dunder op.info.2) f) (hs : PySem.W.selfFirst X.K C = true)
    (Fn : FnOk X.prog X.w X.K X.mg X.base (L2.CX X.prog X.w) n f fd ps (spJX (aC (tC C ns U) (aC (tC C ns U) aN)) (rO (tC C' ns' U')) EC w)) (hr : Room n X.A) (hb : Binds X.K fd ps []) : JE X F g (.BinOp a op b pos) (rO (tC C' ns' U')) (fun k => wa fun x => wb fun y => w (x, y, ()) k N) :=
  peW (pe_binOS (E := WE W) hm hs Fn hr hb (fun σ => passAt tk σ) ha hb') fun σ H Q ⟨k, P, w, q⟩ => ⟨k, _, w, fun x v H1 w1 s1 r1 => ⟨k.step s1, _, w1, fun y u H2 w2 s2 r2 => by
    have k2 := k.step (s1.trans s2)
    have r1' := (tC C ns U).same (Gm.mono s2) r1
    obtain ⟨o, dx, vs, e1, g1, l1, u1⟩ := id r1'
    obtain ⟨o2, dy, us, e2, g2, l2, u2⟩ := id r2
    exact ⟨o, dx, _, o2, dy, _, e1, k2.le _ _ g1, e2, k2.le _ _ g2, (x, y, ()), P, N, k2.fr, rfl, ⟨.ref o, [.ref o2], rfl, by rw [← e1]; exact r1', .ref o2, [], rfl, by rw [← e2]; exact r2, rfl⟩, w2, (fun r v' H' pr s rr =>
      ⟨nni_ref rr, q r v' H' pr ((s1.trans s2).trans s) ((rO (tC C' ns' U')).same (k2.back s) (Same.refl _) rr)⟩), fun nn H' s => hW σ H' (k2.step s) nn⟩⟩⟩
end
end J
namespace J
open PySem PySem.Spec L2 PyProof.Rows ClX RZ
section
variable {X : Cx} {F : Fr} {g : Gm} {α : Type} {A : Ty α} {e : Expr} {es : List Expr} {p pos : Pos} {wa u : (List α → Prop) → Prop}
theorem ja_starT (he : JE X F g e (rO (tT X.K (aV A))) wa) (hr : JA X F g es (aV A) u) (hs : starEach (.Starred e p :: es) X.env = (true, eval e X.env) :: starEach es X.env := by rfl) : JA X F g (.Starred e p :: es) (aV A) (fun k => wa fun xs => u fun t => k (xs ++ t)) :=
  paW (StX.pa_star he hr hs) fun σ H Q ⟨k, P, w, q⟩ => ⟨k, _, w, fun xs v H1 w1 s1 r1 => by
    obtain ⟨l, us, ev, hq, hp⟩ := id r1
    exact ⟨l, us, ev, .inl ((k.step s1).le.sqT' hq), k.step s1, _, w1, fun t vs H2 w2 s2 r2 => q (xs ++ t) (us ++ vs) H2 w2 (s1.trans s2) (Paired.app (Paired.imp (fun _ _ r => A.same (Gm.mono s2) r) hp) r2)⟩⟩
theorem ja_starL (he : JE X F g e (rE X.K A) wa) (hr : JA X F g es (aV A) u) (hs : starEach (.Starred e p :: es) X.env = (true, eval e X.env) :: starEach es X.env := by rfl) : JA X F g (.Starred e p :: es) (aV A) (fun k => wa fun xs => u fun t => k (xs ++ t)) :=
  paW (StX.pa_star he hr hs) fun σ H Q ⟨k, P, w, q⟩ => ⟨k, _, w, fun xs v H1 w1 s1 r1 => by
    obtain ⟨l, us, ev, hq, hp⟩ := id r1
    exact ⟨l, us, ev, .inr hq, k.step s1, _, w1, fun t vs H2 w2 s2 r2 => q (xs ++ t) (us ++ vs) H2 w2 (s1.trans s2) (Paired.app (Paired.imp (fun _ _ r => A.same (Gm.mono s2) r) hp) r2)⟩⟩
theorem je_lstS (h : JA X F g es (aV A) u) : JE X F g (.List es pos) (rN A) (fun k => u fun t => t.length ≤ 1000000 ∧ k t) :=
  peW (pe_lst h) fun σ H Q ⟨k, P, w, q⟩ => ⟨k, _, w, fun t vs H1 p s1 r1 => ⟨Nat.le_trans (by rw [Paired.len r1]; exact p.1) (by decide : 1000000 ≤ sizeLine), fun l hl => q t (.ref l) _ p.2 (s1.trans (same_upd hl)) ⟨l, vs, rfl, s1.free hl, (k.step s1).bs_new hl, Paired.imp (fun _ _ r => A.same ((k.step s1).rm_new hl) r) r1⟩⟩⟩
end
end J
/-! A18: new instances, list.index -/
namespace J
open PySem PySem.Spec L2 PyProof.Rows ClX RZ
section
variable {X : Cx} {F : Fr} {g : Gm} {α β γ ρ τ κ : Type}
/-- a new instance -/
def rC (C : Addr) (ns : List Str) (U : ATy κ) : Res κ := ⟨fun H B _ v u => ∃ p, v = .ref p ∧ H p = none ∧ (tC C ns U).rel B v u, fun s _ ⟨p, e, h0, h1⟩ => ⟨p, e, h0, (tC C ns U).same s h1⟩, fun s ⟨p, e, h0, h1⟩ => ⟨p, e, s.free h0, h1⟩⟩
instance {C : Addr} {ns : List Str} {U : ATy κ} [hU : AIm U] : RIm (rC C ns U) := ⟨fun ⟨p, e, h0, a, dx, vs, e1, h1, hl, hu⟩ s i n => ⟨p, e, h0, a, dx, vs, e1, n _ _ (by
  rw [e] at e1
  cases e1
  exact h0) h1, hl, hU.imm i (U.same s hu)⟩⟩
variable {f C : Addr} {m x : Str} {n : Nat} {fd : FuncData} {ps ns : List Str} {e : Expr} {es : List Expr} {apos pos np : Pos} {pl : Sem Bool} {T : ATy τ} {U : ATy κ}
theorem je_nc {w : (κ → Prop) → Prop} (h : JE X F g e (rC C ns U) w) : JE X F g e (rO (tC C ns U)) w := je_res h fun _ _ _ _ _ _ ⟨_, _, _, r⟩ => r
theorem je_makeC {w : τ → (κ → Prop) → Prop} {wa : (τ → Prop) → Prop} (M : Mk X.K C f) (Fn : FnOk X.prog X.w X.K X.mg X.base CX0 n f fd ps (spI C ns T U w)) (hr : Room (n + 1) X.A) (hg : Gl X x) (hm : X.mg x = some (.ref C)) (hb : Binds X.K fd ps [])
    {a0 : Expr} (ha : JA X F g (a0 :: es) T wa) (hdb : (x == ("__debug__" : Str)) = false := by decide) (he : starEach (a0 :: es) X.env = (false, eval a0 X.env) :: starEach es X.env := by rfl) (hpl : (backTo pos (starEach es X.env)).any (·.1) = false := by rfl) :
    JE X F g (.Call (.Name x np) (a0 :: es) [] pos) (rC C ns U) (fun k => wa fun t => w t k) :=
  peW (pe_make M Fn hr hg hm hb .nil pass0 ha hdb he hpl) fun σ H Q ⟨k, P, w, q⟩ => ⟨k, _, w, fun t vs H1 w1 s1 r1 x dx hx hdx hne => ⟨x, dx, vs, t, P, (k.step s1).fr, by rw [List.append_nil], hx, hdx, hne, rfl, r1, w1, fun u H2 p s2 r2 => ⟨rfl, q u (.ref x) H2 p (s1.trans s2) ⟨x, rfl, s1.free hx, (tC C ns U).same ((k.step s1).back s2) r2⟩⟩⟩⟩
variable {EC : Addr} {W : WX} {N : Prop}
theorem je_makeXC {w : τ → (κ → Prop) → Prop → Prop} {wa : (τ → Prop) → Prop} (tk : Takes X W) (hW : ∀ σ H, g.Ok F σ H → N → W (.ref EC) none σ H) (M : Mk X.K C f) (Fn : FnOk X.prog X.w X.K X.mg X.base (L2.CX X.prog X.w) n f fd ps (spIX C ns T U EC w)) (hr : Room (n + 1) X.A) (hg : Gl X x) (hm : X.mg x = some (.ref C)) (hb : Binds X.K fd ps [])
    {a0 : Expr} (ha : JA X F g (a0 :: es) T wa) (hdb : (x == ("__debug__" : Str)) = false := by decide) (he : starEach (a0 :: es) X.env = (false, eval a0 X.env) :: starEach es X.env := by rfl) (hpl : (backTo pos (starEach es X.env)).any (·.1) = false := by rfl) :
    JE X F g (.Call (.Name x np) (a0 :: es) [] pos) (rC C ns U) (fun k => wa fun t => w t k N) :=
  peW (pe_makeS (E := WE W) M Fn hr hg hm hb (fun σ => passAt tk σ) ha hdb he hpl) fun σ H Q ⟨k, P, w, q⟩ => ⟨k, _, w, fun t vs H1 w1 s1 r1 x dx hx hdx hne => ⟨x, dx, vs, t, P, N, (k.step s1).fr, rfl, hx, hdx, hne, rfl, r1, w1, (fun u H2 p s2 r2 => ⟨rfl, q u (.ref x) H2 p (s1.trans s2) ⟨x, rfl, s1.free hx, (tC C ns U).same ((k.step s1).back s2) r2⟩⟩), fun nn H2 s2 => hW σ H2 (k.step (s1.trans s2)) nn⟩⟩
/-- xs.index(e), numbers -/
theorem je_idx {call : Expr} {wo : (List Int → Prop) → Prop} {we : (Int → Prop) → Prop} (hm : PE X call (tBM X.K "list" (rIndex X.K) (RJ F g (rE X.K tI) wo) (tCons (RJ F g (rO tI) we) tNil))) :
    JE X F g call (rO tI) (fun k => wo fun xs => we fun y => ∃ j : Nat, xs[j]? = some y ∧ (∀ (m : Nat) (z : Int), m < j → xs[m]? = some z → z ≠ y) ∧ k (j : Int)) :=
  peW hm fun σ H Q ⟨k, P, w, q⟩ => ⟨k, _, w, fun xs v H1 w1 s1 r1 => by
    obtain ⟨a, us, ev, hq, hp⟩ := id r1
    have eu : us = xs.map V.int := (paired_int hp)
    subst ev
    refine ⟨.inl ⟨rfl, us, hq⟩, k.step s1, _, w1, fun y u H2 w2 s2 r2 => ?_⟩
    obtain ⟨j, h1, h2, h3⟩ := w2
    have ey : u = .int y := r2
    refine ⟨a, us, u, j, .int y, rfl, rfl, s2.seq hq, by rw [ey]; rfl, ?_, ?_, ?_, ?_, q _ _ H2 h3 (s1.trans s2) rfl⟩
    · rw [eu]
      refine List.all_eq_true.mpr fun z hz => ?_
      obtain ⟨i, _, e⟩ := List.mem_map.mp hz
      rw [← e]
      rfl
    · rw [eu, List.getElem?_map, h1]
      rfl
    · rw [ey]
      show (y == y) = true
      simp
    · intro m z' hm hz
      rw [eu, List.getElem?_map] at hz
      obtain ⟨i, hi, e⟩ := Option.map_eq_some_iff.mp hz
      rw [← e, ey]
      have := h2 m i hm hi
      show (i == y) = false
      simpa using this⟩
end
end J
/-! A19: comprehensions over range(a, b) with numbers of any size -/
namespace L2
open PySem PySem.Spec PyProof.Rows
theorem turn_long {P : Program} {w : World} {K : PySem.W.Frag} {tg : Expr} (it : Addr) (lo : Int) (n : Nat) : Turn P w K tg (Itr lo n) [it] it (fun i h => IsLongIter h it (lo + (i : Nat) * 1) ((n : Int) - (i : Nat)) 1) where
  mem := by simp
  obj := fun i h st b hb => by
    have e : b = it := by simpa using hb
    subst e
    exact ⟨_, st, fun v z => by
      have z' : Data.fields _ = Data.cell v := z
      cases z'⟩
  keep := fun i h h' st k => k it (by simp) _ st
  item := by
    intro X hP hw hK hc i pins s σ H E I hf st hg
    subst hP hw hK
    obtain ⟨f0, f1, f2, f3, f4, f5⟩ := hf it (by simp)
    have W := Walks.longrange (prog := X.prog) (w := X.w) (I.ok.hd hc) it lo 1 n
    refine W.item i s _ _ hg st fun v h' tk hv st' kk => ?_
    obtain ⟨t, rfl⟩ := hv
    have I1 : Inv X pins σ H { s with heap := h', toks := tk } := I.turned (fun b o hb e => kk b o (by simpa using hb) e) f0 f1 f3 f4 f5
    refine ⟨_, rfl, go_of (s := { s with heap := h', toks := tk }) (n := "longrange_iterator") st' rfl rfl (by decide) ⟨.int (lo + i), H, I1, ⟨t, ?_⟩, ⟨rfl, rfl⟩, st', fun b hb => (hf b hb).1⟩⟩
    rw [Int.mul_one]
  done := by
    intro X hP hw hK hc i pins s σ H E I hf st hg
    subst hP hw hK
    obtain ⟨f0, f1, f2, f3, f4, f5⟩ := hf it (by simp)
    exact wpAny_pyNext_long_end (I.ok.hd hc) st (by have : n ≤ i := hg; omega) fun h' eb => ⟨rfl, I.turned (t' := s.toks) (fun b o hb e => eb b o hb e) f0 f1 f3 f4 f5⟩
  self := fun _ _ _ _ _ st h => wpAny_pyIter_longiter st h
section
variable {X : Cx} {tg : Expr}
theorem range_itL {pins : List (Addr × Obj)} {σ : St} {H : Hp} {s : Shared} {R : It → Hp → Prop} {E : Value → Shared → Prop} {lo hi : Int} {t u v : Tok} {tk : Nat} (I : Inv X pins σ H s)
    (q : R (Itr lo (hi - lo).toNat) H) : wpAny (model X.prog X.w) X.A (pyIter (.ref s.heap.objs.size)) (PIE X pins σ tg R) E { s with heap := s.heap.push { cls := .type "range", data := .fields #[.int lo t, .int hi u, .int 1 v] }, toks := tk } := by
  have I1 : Inv X pins σ H { s with heap := s.heap.push { cls := .type "range", data := .fields #[.int lo t, .int hi u, .int 1 v] }, toks := tk } := I.kept fun b o e => Heap.get?_push_of_some _ e
  have fin : ∀ b ∈ [(s.heap.push { cls := .type "range", data := .fields #[.int lo t, .int hi u, .int 1 v] }).objs.size], FpOk X pins H b := fun b hb => by
    have e : b = (s.heap.push { cls := .type "range", data := .fields #[.int lo t, .int hi u, .int 1 v] }).objs.size := by simpa using hb
    subst e
    exact I1.fpOk (Nat.le_refl _) (I1.hok.fresh (Nat.le_refl _))
  have e1 : lo + ((0 : Nat) : Int) * 1 = lo := by simp
  have e2 : (((hi - lo).toNat : Nat) : Int) - ((0 : Nat) : Int) = Builtin.Range.rangeSize lo hi 1 := by rw [rangeSize_one]; split <;> omega
  cases hsm : Builtin.Range.small lo hi 1 with
  | true =>
    refine wpAny_pyIter_range (IsRange.new ..) hsm ?_
    refine ⟨(s.heap.push { cls := .type "range", data := .fields #[.int lo t, .int hi u, .int 1 v] }).objs.size, [(s.heap.push { cls := .type "range", data := .fields #[.int lo t, .int hi u, .int 1 v] }).objs.size], _, _, H, rfl,
      I1.kept (t' := tk) fun b o e => Heap.get?_push_of_some _ e, turn_range _ lo (hi - lo).toNat, ?_, fin, q⟩
    show IsRangeIter _ _ (lo + ((0 : Nat) : Int) * 1) ((((hi - lo).toNat : Nat) : Int) - ((0 : Nat) : Int)) 1
    rw [e1, e2]
    exact Heap.get?_push_size _ rfl
  | false =>
    refine wpAny_pyIter_longrange (IsRange.new ..) hsm ?_
    refine ⟨(s.heap.push { cls := .type "range", data := .fields #[.int lo t, .int hi u, .int 1 v] }).objs.size, [(s.heap.push { cls := .type "range", data := .fields #[.int lo t, .int hi u, .int 1 v] }).objs.size], _, _, H, rfl,
      I1.kept (t' := tk) fun b o e => Heap.get?_push_of_some _ e, turn_long _ lo (hi - lo).toNat, ?_, fin, q⟩
    show IsLongIter _ _ (lo + ((0 : Nat) : Int) * 1) ((((hi - lo).toNat : Nat) : Int) - ((0 : Nat) : Int)) 1
    rw [e1, e2]
    exact Heap.get?_push_size _ rfl
def iRng2L (ta : TA) : TI := fun σ H R => ta σ H fun vs H1 => ∃ i j : Int, vs = [.int i, .int j] ∧ R (Itr i (j - i).toNat) H1
theorem pi_range2L {a b : Expr} {ta : TA} {p pos : Pos} (hg : Gl X "range") (hm : X.mg "range" = none) (ha : PA X [a, b] ta) (hs : starEach [a, b] X.env = [(false, eval a X.env), (false, eval b X.env)] := by rfl) (hs2 : starEach [b] X.env = [(false, eval b X.env)] := by rfl) :
    PI X tg (.Call (.Name "range" p) [a, b] [] pos) (iRng2L ta) := by
  refine ⟨fun pins s σ H R I h => ?_⟩
  refine Call_ (ld_blt I hg hm boot_range (PyProof.Rows.callWith_type1 (thn (ha.run pos pins s σ H _ I h) fun us s1 ⟨vs, H1, I1, r1, q1⟩ => ?_) (by rw [hs, hs2]) (by rw [hs2]; rfl)))
  obtain ⟨i, j, e, q⟩ := q1
  subst e
  cases r1 with
  | cons r rr =>
    cases rr with
    | cons r' rr =>
      cases rr
      obtain ⟨t, rfl⟩ := r
      obtain ⟨t', rfl⟩ := r'
      exact call_range_2 (range_itL I1 q)
end
end L2
namespace J
open PySem PySem.Spec L2 PyProof.Rows ClX RZ
section
variable {X : Cx} {F : Fr} {g : Gm} {tg : Expr} {vs : List Nat}
theorem ji_R3 {e e2 : Expr} {p pr : Pos} {we we2 : (Int → Prop) → Prop} (hg0 : Gl X "range") (hm : X.mg "range" = none) (he : JE X F g e (rO tI) we) (he2 : JE X F g e2 (rO tI) we2)
    (hs : starEach [e, e2] X.env = [(false, eval e X.env), (false, eval e2 X.env)] := by rfl) (hs2 : starEach [e2] X.env = [(false, eval e2 X.env)] := by rfl) (hst : starEach [e2] X.env = (false, eval e2 X.env) :: starEach [] X.env := by rfl) (hst1 : starEach [e, e2] X.env = (false, eval e X.env) :: starEach [e2] X.env := by rfl) :
    PI X tg (.Call (.Name "range" p) [e, e2] [] pr) (RI F g tI (fun k => we fun n => we2 fun m => m - n ≤ 1000000 ∧ k (rangeI n m)) vs) :=
  piW (pi_range2L hg0 hm (pa_cons he (pa_cons he2 pa_nil hst) hst1) hs hs2) fun σ H R ⟨k, P, w, q⟩ => ⟨k, _, w, fun n v H1 w1 s1 r1 => ⟨k.step s1, _, w1, fun m v2 H2 ⟨w2, w3⟩ s2 r2 => ⟨n, m, by rw [(r1 : v = _), (r2 : v2 = _)],
    q (rangeI n m) (Itr n (m - n).toNat) [] H2 w3 (s1.trans s2) (fun c hc => by cases hc) (k.step (s1.trans s2)) fun σ' H' l' o => itr_at⟩⟩⟩
end
end J
/-! A20: a list taken apart into two names; what is kept and never read -/
namespace J
open PySem PySem.Spec L2 PyProof.Rows ClX RZ
section
variable {X : Cx} {F : Fr} {g : Gm} {α β γ ρ τ κ : Type} {rest : List Stmt} {pos : Pos}
/-- kept, never looked at -/
def tAny : Ty Unit := ⟨fun _ _ _ => True, fun _ _ => trivial⟩
theorem je_any {e : Expr} {R : Res ρ} {w : (ρ → Prop) → Prop} (h : JE X F g e R w) : JE X F g e (rO tAny) (fun k => w fun _ => k ()) :=
  peW h fun σ H Q ⟨k, P, w, q⟩ => ⟨k, _, w, fun _ v H1 w1 s1 _ => q () v H1 w1 s1 trivial⟩
/-- a, b = a list of two -/
theorem js_asgL2 {i j : Nat} {e e1 e2 : Expr} {kt : Nat} {tpos : Pos} {A : Ty α} {we : (List α → Prop) → Prop} {wr : α → α → Prop} {D : Ends} (he : JE X F g e (rO (tK A)) we) (hp : PGs X [e1, e2] (gCons (gName i) (gCons (gName j) gNil))) (hr : ∀ a b, JSs X F ((g.set i (.val A a)).set j (.val A b)) rest D (wr a b))
    (hc : X.calm = true := by rfl) (hn : (assignEach [e1, e2] X.env).length = 2 := by rfl) (hst : (assignEach [e1, e2] X.env).findIdx? (·.1) = none := by rfl)
    (hs : swapsWithSole [.Tuple [e1, e2] kt tpos] e pos.line X.env = pure false := by rfl) (hw : swappedStores [.Tuple [e1, e2] kt tpos] e X.env = pure none := by rfl) (hm : (assignEach [.Tuple [e1, e2] kt tpos] X.env).map (·.2) = [assign (.Tuple [e1, e2] kt tpos) X.env] := by rfl) :
    JSs X F g (.Assign [.Tuple [e1, e2] kt tpos] e pos :: rest) D (we fun xs => ∃ a b, xs = [a, b] ∧ wr a b) :=
  pssW (pss_cons (ps_asg he (pg_lst hc hp hn hst) hs hw hm) (pssE (t := fun (q : α × α) => RS F ((g.set i (.val A q.1)).set j (.val A q.2)) D (wr q.1 q.2)) fun q => hr q.1 q.2)) fun D' σ H ⟨e, o, q⟩ => ⟨o, _, q, fun xs v H1 p s r => by
    obtain ⟨a, b, rfl, p⟩ := p
    obtain ⟨l, us, ev, hq, hp⟩ := r
    cases hp with
    | cons r1 hp =>
      cases hp with
      | cons r2 hp =>
        cases hp
        have k1 : (g.set i (.val A a)).Ok F (σ.set i (some _)) H1 := (o.step s).set (t := .val A a) ⟨_, rfl, r1⟩
        have k2 := k1.set (i := j) (t := .val A b) ⟨_, rfl, r2⟩
        exact ⟨l, _, ev, .inl (.inl ((o.step s).le _ _ hq)), rfl, _, [_], rfl, _, [], rfl, rfl, (a, b), e, k2, p⟩⟩
end
end J
/-! A21: own errors with fields: super().__init__(text), the fields' stores -/
namespace L2
open PySem PySem.Spec PyProof.Rows PySem.W

theorem lk_of_mem {y : Str} {u : Value} : ∀ {l : List (Str × Value)}, (l.map (·.1)).Nodup → (y, u) ∈ l → l.lookup y = some u
  | [], _, h => by cases h
  | (a, b) :: l, nd, h => by
    rw [List.map_cons, List.nodup_cons] at nd
    rcases List.mem_cons.mp h with e | e
    · cases e
      simp [List.lookup]
    · have ne : y ≠ a := fun z => nd.1 (z ▸ List.mem_map_of_mem (f := (·.1)) e)
      have : (y == a) = false := by simpa using ne
      simp only [List.lookup, this]
      exact lk_of_mem nd.2 e

/-- a method whose scope holds __class__ free, nothing captured -/
structure SupScope (N P : List Str) (sc : Scope) : Prop where
  kind : sc.kind = .function
  co : sc.isCoroutine = false
  gen : sc.isGenerator = false
  nd : N.Nodup
  pre : N.take P.length = P
  par : ∀ x ∈ P, sc.names.lookup x = some .local
  nocell : ∀ y ∈ sc.names, y.2 ≠ .cell
  free : ∀ y ∈ sc.names, y.2 = .free → y.1 = "__class__"

def cxSup (CX : CXT) (P : Program) (w : World) (K : PySem.W.Frag) (mg : Str → Option Value) (base : Heap) (N : List Str) (qual : Str) (scope : Scope) (f cc : Addr) (cd : Value) (A : Around) (outer : List Env) (s : Shared) (H : Hp) (E : XK) : Cx where
  prog := P
  w := w
  K := K
  mg := mg
  base := base
  A := A.deeper (envX qual scope s.heap.objs.size f cd [("__class__", cc)])
  N := N
  s_0 := s
  H_0 := H
  env := envX qual scope s.heap.objs.size f cd [("__class__", cc)]
  outer := outer
  stack := envX qual scope s.heap.objs.size f cd [("__class__", cc)] :: outer
  ex := []
  calm := true
  fn := fun x => x != "__class__"
  pn := []
  xe := fun e s' => wpAny (model P w) (A.deeper (envX qual scope s.heap.objs.size f cd [("__class__", cc)])) (leaving (envX qual scope s.heap.objs.size f cd [("__class__", cc)]) e) (fun _ s'' => CX outer H s E e s'') (fun e' s'' => CX outer H s E e' s'') s'

theorem lk1 {x : Str} {c cc : Addr} (h : List.lookup x [(("__class__" : Str), cc)] = some c) : x = "__class__" ∧ c = cc := by
  by_cases e : x = "__class__"
  · subst e
    simp [List.lookup] at h
    exact ⟨rfl, h.symm⟩
  · have : (x == ("__class__" : Str)) = false := by simpa using e
    simp [List.lookup, this] at h

theorem inv_sup {CX : CXT} {P : Program} {w : World} {K : PySem.W.Frag} {mg : Str → Option Value} {base : Heap} {N ps : List Str} {qual : Str} {scope : Scope} {f cc : Addr} {cd : Value} {A : Around} {outer : List Env} {s : Shared} {H : Hp} {E : XK} {us : List Value} {vs : List V} {h1 : Heap} {tk : Nat} {vc : Option Value}
    (S : SupScope N ps scope) (hd : A.handled = none) (e0 : Env0 P w K mg base A outer s H) (hl : vs.length = ps.length) (r : Vals vs us) (hc : base.IsCell cc vc)
    (hns : h1.Ns s.heap.objs.size (fun x => (ps.zip us).reverse.lookup x)) (hk : ∀ b o, s.heap.get? b = some o → h1.get? b = some o) :
    Inv (cxSup CX P w K mg base N qual scope f cc cd A outer s H E) [] (start N vs) H { s with heap := h1, toks := tk } := by
  have hpl : ps.length ≤ N.length := by have := congrArg List.length S.pre; rw [List.length_take] at this; omega
  obtain ⟨oc, hoc, hod⟩ := id hc
  obtain ⟨b1, b2⟩ := e0.bs _ _ hoc
  have noA : ∀ b : Addr, b ∉ (cxSup CX P w K mg base N qual scope f cc cd A outer s H E).ex := fun b z => absurd (show b ∈ ([] : List Addr) from z) (by simp)
  have hcs : cc ≠ s.heap.objs.size := Nat.ne_of_lt (Heap.lt_size b1)
  refine ⟨⟨e0.mod, S.kind, rfl, rfl, Nat.le_refl _, fun y z c h1 h2 => ?_, fun y hy => ?_, fun y c hf h => ?_, fun _ => hd, Around.frames_deeper e0.frames, .inr ⟨rfl, rfl⟩, fun b z => absurd z (noA b), e0.bs, e0.bsz, fun b _ _ => noA b, fun b z => absurd z (noA b), e0.funs, e0.frf⟩,
    rfl, e0.bare, Un.kept hk, ⟨_, hns, fun i y v h1 h2 h3 => ?_⟩, fun y c h => ?_, e0.hok.fresh (Nat.le_refl _), fun y c h => ?_, fun p hp => absurd (show p ∈ ([] : List (Addr × Obj)) from hp) (by simp), e0.hok.kept hk, ?_⟩
  · exact (lk1 h1).1.trans (lk1 h2).1.symm
  · have hy : scope.names.lookup y = some .cell ∨ scope.names.lookup y = some .free := hy
    rcases hy with hy | hy
    · exact absurd rfl (S.nocell _ (PySem.mem_of_lookup hy))
    · obtain rfl : y = "__class__" := S.free _ (PySem.mem_of_lookup hy) rfl
      exact ⟨cc, rfl⟩
  · have hf : (y != ("__class__" : Str)) = true := hf
    rw [(lk1 h).1] at hf
    exact absurd hf (by decide)
  · have hi : i < vs.length := by
      unfold start at h2
      by_cases hi : i < vs.length
      · exact hi
      · rw [List.getElem?_append_right (by simpa using hi)] at h2
        rw [List.getElem?_replicate] at h2
        split at h2 <;> cases h2
    have ha : vs[i]? = some v := by
      unfold start at h2
      rw [List.getElem?_append_left (by simpa using hi), List.getElem?_map] at h2
      cases e : vs[i]? with
      | none => rw [e] at h2; cases h2
      | some a => rw [e] at h2; cases h2; rfl
    obtain ⟨u, hu, rv⟩ := r.get ha
    have hp : ps[i]? = some y := by
      rw [← S.pre, List.getElem?_take_of_lt (by omega)]; exact h1
    have ndP : ps.Nodup := by rw [← S.pre]; exact S.nd.sublist (List.take_sublist _ _)
    refine ⟨u, rv, .inl ⟨S.par y (List.mem_of_getElem? hp), ?_⟩⟩
    have hlen : us.length = ps.length := by rw [← r.length]; exact hl
    have hz : (ps.zip us)[i]? = some (y, u) := by
      rw [List.getElem?_zip_eq_some]
      exact ⟨hp, hu⟩
    refine lk_of_mem ?_ (List.mem_reverse.mpr (List.mem_of_getElem? hz))
    rw [List.map_reverse]
    refine (List.reverse_perm _).nodup_iff.mpr ?_
    rw [List.map_fst_zip (Nat.le_of_eq hlen.symm)]
    exact ndP
  · obtain ⟨rfl, rfl⟩ := lk1 h
    exact ⟨vc, oc, hk _ _ b1, hod⟩
  · obtain ⟨rfl, rfl⟩ := lk1 h
    exact b2
  · unfold start
    show _ = N.length
    rw [List.length_append, List.length_map, List.length_replicate]
    omega

/-- what the class C says of super().__init__ in D's __init__ -/
structure SupCl (K : Frag) (C D : Addr) : Prop where
  T : OexC K C
  sup : ks_superIn K C D "__init__" = some (some (.builtin "ValueError.__init__"))
  isV : subIn K (.ref C) (.type "ValueError") = some true
  isD : mroIn K C (.ref D) = some true

section
variable {CX : CXT} {P : Program} {w : World} {K : PySem.W.Frag} {mg : Str → Option Value} {base : Heap} {k : Nat} {f cc D cda : Addr} {name qual : Str} {params : Arguments} {rest : List Stmt} {scope : Scope} {dV kV doc pm ct oc cl ccl : Value} {an od cld cdd : Option Addr}
  {osl csl ccs : Array (Option Value)} {N ps : List Str} {sp : Sp} {p0 p1 p2 p3 p4 : Pos} {e : Expr} {ar : Arg} {vsc : Array Value} {file : Str} {tf : Tok} {cdD : ClassData} {pl : Sem Bool}
/-- def __init__(self, ..): super().__init__(e); rest -/
theorem fn_sup (lk : K.lookup f = some ⟨oc, od, .func (fnX name qual params (.Expr (.Call (.Attribute (.Call (.Name "super" p0) [] [] p1) "__init__" p2) [e] [] p3) p4 :: rest) scope [("__class__", cc)] dV kV doc pm an (.ref cda) ct), osl⟩)
    (hcd : codeIn K (.ref cda) qual = true) (S : SupScope N ps scope)
    (hcell : K.lookup cc = some ⟨cl, cld, .cell (some (.ref D)), csl⟩) (hcode : K.lookup cda = some ⟨ccl, cdd, .fields vsc, ccs⟩) (hvs : vsc[2]? = some (.str file tf)) (hfile : ((P.main.file : Str) == file) = true)
    (hD : clsIn K D = some cdD) (hp : (params.posonlyargs ++ params.args).head? = some ar) (hN : N[0]? = some ar.arg)
    (hks : scope.names.lookup ("super" : Str) = some .globalImplicit) (hkc : scope.names.lookup ("__class__" : Str) = some .free) (hka : scope.names.lookup ar.arg = some .local)
    (htop : (P.main.scope.names.lookup ("super" : Str)).isSome = false) (hms : mg "super" = none) (hop : nsIn K cStatics "thirdparty.any" = some none)
    (he : ∀ L, eval (.Call (.Attribute (.Call (.Name "super" p0) [] [] p1) "__init__" p2) [e] [] p3) (envX qual scope L f (.ref cda) [("__class__", cc)]) = (do
      let ov ← attributeBase (.Call (.Name "super" p0) [] [] p1) "__init__" (envX qual scope L f (.ref cda) [("__class__", cc)]) (eval (.Call (.Name "super" p0) [] [] p1) (envX qual scope L f (.ref cda) [("__class__", cc)]))
      standAt p2.atName
      let (f', first) ← holding [ov] (getMethod ov "__init__" pl)
      callWith p3 f' first (backTo p3 (starEach [e] (envX qual scope L f (.ref cda) [("__class__", cc)]))) []))
    (hi : ∀ L, interactive (envX qual scope L f (.ref cda) [("__class__", cc)]) = false)
    (hsw : ∀ L, swapsWith (.Call (.Attribute (.Call (.Name "super" p0) [] [] p1) "__init__" p2) [e] [] p3) none p4.line (envX qual scope L f (.ref cda) [("__class__", cc)]) = pure false)
    (hst : ∀ env : Env, starEach [e] env = (false, eval e env) :: starEach [] env)
    (len : ∀ vs H Q E, sp vs H Q E → vs.length = ps.length)
    (hbody : ∀ (A : Around) (outer : List Env) (s : Shared) (H : Hp) (vs : List V) (Q : VK) (E : XK), Room k (A.deeper (envX qual scope s.heap.objs.size f (.ref cda) [("__class__", cc)])) → sp vs H Q E →
      ∃ (ta : TA) (t : TS) (a C : Addr), vs[0]? = some (.ref a) ∧ H a = some (exo a C none) ∧ SupCl K C D ∧ PA (cxSup CX P w K mg base N qual scope f cc (.ref cda) A outer s H E) [e] ta ∧ PSs (cxSup CX P w K mg base N qual scope f cc (.ref cda) A outer s H E) rest t ∧
        ta (start N vs) H (fun vs' H1 => vs'.length ≤ 1 ∧ H1 a = some (exo a C none) ∧ t { nx := fun _ H' => Q .non H', rt := Q } (start N vs) H1)) :
    FnOk P w K mg base CX (k + 1) f (fnX name qual params (.Expr (.Call (.Attribute (.Call (.Name "super" p0) [] [] p1) "__init__" p2) [e] [] p3) p4 :: rest) scope [("__class__", cc)] dV kV doc pm an (.ref cda) ct) ps sp := by
  refine ⟨len, fun A outer s H args us vs Q E hr e0 hb r hsp => ?_⟩
  have hl := len _ _ _ _ hsp
  have KX : K.In s.heap := e0.mod.kin.keeps fun b o e => (e0.bs b o e).1
  have lim : s.heap.NoLimit := e0.mod.nolimit.keeps fun b o e => (e0.bs b o e).1
  refine ks_codeAny_call_defAt hr.depth (KX _ _ lk) rfl lim (codeRec_of KX hcd) rfl hb S.nocell (fun y hy => S.par _ (List.of_mem_zip hy).1) (fun h1 hns hk => ?_) S.co S.gen S.kind
  obtain ⟨ta, t, a, C, hv0, hHa, SC, hpa, hps, hq⟩ := hbody A outer s H vs Q E (hr.deeper _) hsp
  have I : Inv (cxSup CX P w K mg base N qual scope f cc (.ref cda) A outer s H E) [] (start N vs) H { s with heap := h1, toks := s.toks + (ps.zip us).length } := inv_sup S hr.hd e0 hl r ⟨_, e0.mod.kin _ _ hcell, rfl⟩ hns hk
  obtain ⟨nm, q, Nn, bs, bm, sn, sub, ab, col, dd, k0, k1, k2, k3, k5, hC, hbm⟩ := SC.T.cls
  obtain ⟨oD, hD1, hD2⟩ : ∃ oD, K.lookup D = some oD ∧ oD.data = .cls cdD := by
    unfold clsIn at hD
    split at hD
    · rename_i c d cd' sl ho
      cases hD
      exact ⟨_, ho, rfl⟩
    · cases hD
  show _root_.PySem.wpAt _ _ _ (execs (.Expr (.Call (.Attribute (.Call (.Name "super" p0) [] [] p1) "__init__" p2) [e] [] p3) p4 :: rest) (envX qual scope s.heap.objs.size f (.ref cda) [("__class__", cc)])) _ _ _
  refine ks_wpAt_execs_cons (ks_wpAt_Expr_any (ks_wpAt_MethodCall (pl := pl) ?_ (he _)) (hi _) (hsw _))
  have X := I.kIn
  refine ks_wpAt_super_base (env := envX qual scope s.heap.objs.size f (.ref cda) [("__class__", cc)]) hks hkc (by decide) rfl (X _ _ lk) rfl hp rfl (X _ _ hcode) rfl hvs hfile htop ?_
  obtain ⟨mb, b1, b2⟩ := I.mod.blt
  refine ks_loadName_global (env := envX qual scope s.heap.objs.size f (.ref cda) [("__class__", cc)]) S.kind hks (Calls.loadGlobal_builtin (I.mod.glob.keeps I.bk) hms (b1.keeps I.bk) ((b2 "super" (by decide)).trans PyProof.Rows.Boot.«super») ⟨rfl, ?_⟩)
  refine wpAny_loadName_free (env := envX qual scope s.heap.objs.size f (.ref cda) [("__class__", cc)]) S.kind hkc rfl ⟨_, X _ _ hcell, rfl⟩ ?_
  obtain ⟨m, hm, hlk⟩ := id I.loc
  have hs0 : (start N vs)[0]? = some (some (.ref a)) := by
    obtain ⟨hlt, hv⟩ := List.getElem?_eq_some_iff.mp hv0
    unfold start
    rw [List.getElem?_append_left (by simpa using hlt), List.getElem?_map, hv0]
    rfl
  obtain ⟨ua, ra, lka⟩ := hlk 0 _ _ hN hs0 (.inl hka)
  obtain rfl : ua = Value.ref a := ra
  have hma : m ar.arg = some (.ref a) := by
    rcases lka with ⟨_, z⟩ | ⟨z, _⟩
    · exact z
    · rcases z with z | z <;> · have z : scope.names.lookup ar.arg = _ := z
                                rw [hka] at z
                                cases z
  refine wpAny_loadName_local (env := envX qual scope s.heap.objs.size f (.ref cda) [("__class__", cc)]) S.kind hka hm hma ?_
  refine ks_wpAny_isType_cls (X _ _ hD1) hD2 ⟨rfl, ?_⟩
  obtain ⟨t1, ho⟩ := exo_at I.hok hHa
  have hcl : clsIn K C = some { name := nm, bases := bs, mro := .ref C :: bm, ns := Nn, qualname := q, hasDict := true, slotNames := sn, subclasses := sub, abstract := ab, collection := col, hasDel := false } := by unfold clsIn; rw [hC] <;> rfl
  refine ks_wpAny_call_super (X _ _ hD1) hD2 ho rfl (fun c z => by cases z) (looks_mroIn X SC.isD) (fun h2 e2 k2 => ?_)
  have I2 := I.kept (t' := s.toks + (ps.zip us).length) k2
  have ho2 := k2 _ _ ho
  have X2 := I2.kIn
  have J2 : InstAt h2 a { cls := .ref C, dict := none, data := .fields #[.ref t1, .none, .none, .none, .bool false, .none] } C none := ⟨ho2, rfl, rfl, trivial⟩
  have hm' := SC.sup
  unfold ks_superIn at hm'
  rw [hcl] at hm'
  refine kxs_getMethod kxs_ValueError e2 (looks_opaque X2 hop) (l₀ := .ref C :: bm) ?_ rfl X2 hm' (J2.type.andThen (looks_subIn X2 SC.isV)) (ks_ne X2 J2 hcl) (by decide) ?_
  · exact fun A Q E s k q => wpAny_bind ((looks_clsIn X2 hcl) A _ E s k (wpAny_pure q))
  have I3 := ClX.pin_new (t' := s.toks + (ps.zip us).length + 1) (a := h2.objs.size) (o := kxs_mw "ValueError.__init__" a) (h' := h2.push (kxs_mw "ValueError.__init__" a)) I2 (fun b u z => Heap.get?_push_of_some _ z) (Nat.le_refl _) (Heap.get?_push_at rfl rfl) (fun v z => by cases z)
  show wpAny _ _ (callWith p3 (.ref h2.objs.size) [] (backTo p3 (starEach [e] (envX qual scope s.heap.objs.size f (.ref cda) [("__class__", cc)]))) []) _ _ _
  have run := hpa.run p3 _ _ (start N vs) H _ I3 hq
  change wpAny _ _ (spliced (backTo p3 (starEach [e] (envX qual scope s.heap.objs.size f (.ref cda) [("__class__", cc)])))) _ _ _ at run
  rw [hst] at run ⊢
  refine kxs_callWith (i := "ValueError.__init__") (x := a) rfl (Calls.evalArgs_plain ?_)
  refine wpAny_mono run (fun us' s4 z => ?_) (fun _ _ z => z)
  obtain ⟨vs', H1, I4, r4, hlen, hH1, hq4⟩ := z
  have hu := (I4.pin _ (List.mem_append_right _ List.mem_cons_self)).1
  refine ⟨hu, ?_⟩
  obtain ⟨t4, ho4⟩ := exo_at I4.hok hH1
  have hz : us'.length ≤ sizeLine := by
    rw [← Paired.length r4]
    exact Nat.le_trans hlen (by decide)
  obtain ⟨hh, g, d, tk, os⟩ := s4
  refine wpAny_call (codeAny_of_tree ?_)
  show wpAny _ ((cxSup CX P w K mg base N qual scope f cc (.ref cda) A outer s H E).A.in1) (callAny (.ref h2.objs.size) ⟨us', []⟩) _ _ _
  simp only [callAny]
  refine wpAny_bind (wpAny_load hu ?_)
  simp only [kxs_mw, show (Value.type "method-wrapper" == Value.type "method" || Value.type "method-wrapper" == Value.type "builtin_function_or_method" || Value.type "method-wrapper" == Value.type "method-wrapper") = true by decide, if_true]
  refine KFB.if_so (by decide) ?_
  refine wpAny_bind (check_bound_init F.excBase_ValueError.toExcCallFacts (I4.kIn _ _ hC) ho4 rfl ?_)
  refine wpAny_bind (wpAny_pure (wpAny_pure ?_))
  refine ⟨plainId_quiet F.excBase_ValueError.init.plain _, codeAny_builtin F.excBase_ValueError.initEntry ?_⟩
  refine exc_init_tree (cls := .ref C) (t0 := t4) (dv := none) (c2 := .none) (c3 := .none) (b4 := .bool false) ho4 hz (fun h' k5 e5 t5 => ?_)
  have J := I4.write (t' := tk) (x := a) (e := a) (o := exo a C none) (by rw [hH1]; exact True.intro) (.inl rfl) k5 ⟨_, e5⟩ (exo_ok e5)
  have eu : upd H1 a (exo a C none) = H1 := by
    funext b
    by_cases hb : b = a
    · rw [hb, upd_same, hH1]
    · rw [upd_ne hb]
  rw [eu] at J
  refine wpAt_of_wpAny ?_
  refine wpAny_mono (hps.run _ _ (start N vs) H1 _ (ClX.unpin J) hq4) (fun fl s' hs => ?_) fun e s' hs => hs
  have fin : ∀ {σ' : St} {H' : Hp} {v : V} {u : Value}, Inv (cxSup CX P w K mg base N qual scope f cc (.ref cda) A outer s H E) [] σ' H' s' → RelV v u → Q v H' → CE outer P w H s Q u s' :=
    fun {σ' H' v u} J rv q => ⟨v, H', J.os, J.bare, J.base, J.hok, rv, q⟩
  cases fl with
  | ret u =>
    obtain ⟨v, σ', H', J, rv, q⟩ := hs
    exact fin J rv q
  | next =>
    obtain ⟨σ', H', J, q⟩ := hs
    exact fin (v := V.non) (u := Value.none) J rfl q
  | brk =>
    obtain ⟨_, _, _, q⟩ := hs
    exact False.elim q
  | cont =>
    obtain ⟨_, _, _, q⟩ := hs
    exact False.elim q
end
end L2
namespace L2
open PySem PySem.Spec PyProof.Rows PySem.W

/-! ### the text of the message -/
def PartJ (σ : St) (t : TE) : Prop := ∀ (H : Hp) (Q : VK), (∀ (z : Str) (H2 : Hp), z.length ≤ 200 → Same H H2 → Q (.str z) H2) → t σ H Q
theorem msg_run {σ : St} : ∀ (ts : List TE), (∀ t ∈ ts, PartJ σ t) → ∀ (acc : Str) (H : Hp) (Q : Str → Hp → Prop), acc.length + 200 * ts.length ≤ 100000 → (∀ out H2, Same H H2 → Q out H2) → tJs ts acc σ H Q
  | [], _, acc, H, Q, _, h => h acc H (Same.refl _)
  | t :: ts, hp, acc, H, Q, hl, h => hp t List.mem_cons_self H _ fun z H2 hz s => ⟨z, rfl, by
      have e : (acc ++ z).length = acc.length + z.length := by
        show (acc.cps ++ z.cps).size = _
        rw [Array.size_append]
        rfl
      rw [List.length_cons] at hl
      rw [e]
      exact Nat.le_trans (by omega : acc.length + z.length ≤ 100000) (by decide), msg_run ts (fun t ht => hp t (List.mem_cons_of_mem _ ht)) (acc ++ z) H2 Q (by
      have e : (acc ++ z).length = acc.length + z.length := by
        show (acc.cps ++ z.cps).size = _
        rw [Array.size_append]
        rfl
      rw [List.length_cons] at hl
      rw [e]
      omega) fun out H3 s3 => h out H3 (s.trans s3)⟩
theorem part_str {σ : St} {m : Str} (h : m.length ≤ 200) : PartJ σ (tC (.str m)) := fun H Q q => q m H h (Same.refl _)
theorem part_fmt {σ : St} {t : TE} (h : PartJ σ t) : PartJ σ (tFmt t) := fun H Q q => h H _ fun z H2 hz s => .inl ⟨z, rfl, Nat.le_trans hz (by decide), q z H2 hz s⟩

/-- an own __init__'s promise: the instance at a is an exception of the class C that gets the fields fs -/
def spErr (C : Addr) (n : Nat) (fs : List V → List (Str × V)) : Sp := fun vs H Q _ => ∃ (a : Addr) (is : List Int), vs = .ref a :: is.map V.int ∧ is.length = n ∧ H a = some (exo a C none) ∧
  ∀ (d : Addr) (H' : Hp), H d = none → d ≠ a → H' a = some (exo a C (some d)) → H' d = some (exd d (fs (is.map V.int))) → (∀ b o, b ≠ a → H b = some o → H' b = some o) → Q .non H'

section
variable {CX : CXT} {P : Program} {w : World} {K : PySem.W.Frag} {mg : Str → Option Value} {base : Heap} {k : Nat} {f cc D C cda : Addr} {name qual f1 f2 : Str} {params : Arguments} {scope : Scope} {dV kV doc pm ct oc cl ccl : Value} {an od cld cdd : Option Addr}
  {osl csl ccs : Array (Option Value)} {N ps : List Str} {p0 p1 p2 p3 p4 p5 q1 q2 q3 q4 r1 r2 r3 r4 : Pos} {v1 v2 : Expr} {vr : List Expr} {ar : Arg} {vsc : Array Value} {file : Str} {tf : Tok} {cdD : ClassData} {pl : Sem Bool}
/-- one field -/
theorem err1 (lk : K.lookup f = some ⟨oc, od, .func (fnX name qual params [.Expr (.Call (.Attribute (.Call (.Name "super" p0) [] [] p1) "__init__" p2) [.JoinedStr (v1 :: v2 :: vr) p5] [] p3) p4, .Assign [.Attribute (.Name "self" q1) f1 q2] (.Name f1 q3) q4] scope [("__class__", cc)] dV kV doc pm an (.ref cda) ct), osl⟩)
    (hcd : codeIn K (.ref cda) qual = true) (S : SupScope ["self", f1] ["self", f1] scope)
    (hcell : K.lookup cc = some ⟨cl, cld, .cell (some (.ref D)), csl⟩) (hcode : K.lookup cda = some ⟨ccl, cdd, .fields vsc, ccs⟩) (hvs : vsc[2]? = some (.str file tf)) (hfile : ((P.main.file : Str) == file) = true)
    (hD : clsIn K D = some cdD) (hp : (params.posonlyargs ++ params.args).head? = some ar) (har : ar.arg = "self")
    (hks : scope.names.lookup ("super" : Str) = some .globalImplicit) (hkc : scope.names.lookup ("__class__" : Str) = some .free)
    (htop : (P.main.scope.names.lookup ("super" : Str)).isSome = false) (hms : mg "super" = none) (hop : nsIn K cStatics "thirdparty.any" = some none)
    (SC : SupCl K C D) (hno : findIn K (.ref C) f1 = some none) (hl0 : scope.names.lookup ("self" : Str) = some .local) (hl1 : scope.names.lookup f1 = some .local)
    (he : ∀ L, eval (.Call (.Attribute (.Call (.Name "super" p0) [] [] p1) "__init__" p2) [.JoinedStr (v1 :: v2 :: vr) p5] [] p3) (envX qual scope L f (.ref cda) [("__class__", cc)]) = (do
      let ov ← attributeBase (.Call (.Name "super" p0) [] [] p1) "__init__" (envX qual scope L f (.ref cda) [("__class__", cc)]) (eval (.Call (.Name "super" p0) [] [] p1) (envX qual scope L f (.ref cda) [("__class__", cc)]))
      standAt p2.atName
      let (f', first) ← holding [ov] (getMethod ov "__init__" pl)
      callWith p3 f' first (backTo p3 (starEach [.JoinedStr (v1 :: v2 :: vr) p5] (envX qual scope L f (.ref cda) [("__class__", cc)]))) []))
    (hi : ∀ L, interactive (envX qual scope L f (.ref cda) [("__class__", cc)]) = false)
    (hsw : ∀ L, swapsWith (.Call (.Attribute (.Call (.Name "super" p0) [] [] p1) "__init__" p2) [.JoinedStr (v1 :: v2 :: vr) p5] [] p3) none p4.line (envX qual scope L f (.ref cda) [("__class__", cc)]) = pure false)
    (hs1 : ∀ L, swapsWith (.Name f1 q3) (some (.Attribute (.Name "self" q1) f1 q2)) q4.line (envX qual scope L f (.ref cda) [("__class__", cc)]) = pure false) (hd1 : (f1 == ("__debug__" : Str)) = false) (hd2 : (f1 == ("__classdict__" : Str)) = false)
    (hparts : ∀ (A : Around) (outer : List Env) (s : Shared) (H : Hp) (E : XK), Room k (A.deeper (envX qual scope s.heap.objs.size f (.ref cda) [("__class__", cc)])) → ∃ ts, PJ (cxSup CX P w K mg base ["self", f1] qual scope f cc (.ref cda) A outer s H E) (v1 :: v2 :: vr) ts ∧ ts.length ≤ 400 ∧
      ∀ σ : St, (∃ i : Int, σ[1]? = some (some (.int i))) → ∀ t ∈ ts, PartJ σ t) :
    FnOk P w K mg base CX (k + 1) f (fnX name qual params [.Expr (.Call (.Attribute (.Call (.Name "super" p0) [] [] p1) "__init__" p2) [.JoinedStr (v1 :: v2 :: vr) p5] [] p3) p4, .Assign [.Attribute (.Name "self" q1) f1 q2] (.Name f1 q3) q4] scope [("__class__", cc)] dV kV doc pm an (.ref cda) ct)
      ["self", f1] (spErr C 1 fun is => [f1].zip is) := by
  refine fn_sup lk hcd S hcell hcode hvs hfile hD hp (by rw [har]; rfl) hks hkc (by rw [har]; exact hl0) htop hms hop he hi hsw (fun _ => rfl) ?_ ?_
  · rintro vs H Q E ⟨a, is, rfl, hl, _⟩
    simp [hl]
  · rintro A outer s H vs Q E hr ⟨a, is, rfl, hl, hHa, hq⟩
    obtain ⟨ts, hts, hn, hpart⟩ := hparts A outer s H E hr
    match is, hl with
    | [i], _ =>
      refine ⟨_, _, a, C, rfl, hHa, SC, pa_cons (pe_joined (pos := p5) hts) pa_nil rfl,
        pss_cons (ps_ost (f := f1) (pe_var (i := 0) (x := "self") rfl (.inl hl0)) (pe_var (i := 1) (x := f1) rfl (.inl hl1) hd1 hd2) (hs1 _)) pss_nil, ?_⟩
      refine msg_run ts (hpart _ ⟨i, rfl⟩) _ _ _ (by show 0 + 200 * ts.length ≤ 100000; omega) fun out H2 s2 => ?_
      refine ⟨Nat.le_refl _, s2 _ _ hHa, ?_⟩
      refine ⟨.int i, rfl, .ref a, rfl, a, C, rfl, SC.T, hno, .inl ⟨s2 _ _ hHa, fun dx hdx hne => ?_⟩⟩
      refine hq dx _ (s2.free hdx) hne upd_same ?_ fun b o hb ho => ?_
      · rw [upd_ne hne, upd_same]
        rfl
      · rw [upd_ne hb, upd_ne (ne_of_none (s2 _ _ ho) hdx)]
        exact s2 _ _ ho
/-- two fields -/
theorem err2 (lk : K.lookup f = some ⟨oc, od, .func (fnX name qual params [.Expr (.Call (.Attribute (.Call (.Name "super" p0) [] [] p1) "__init__" p2) [.JoinedStr (v1 :: v2 :: vr) p5] [] p3) p4, .Assign [.Attribute (.Name "self" q1) f1 q2] (.Name f1 q3) q4, .Assign [.Attribute (.Name "self" r1) f2 r2] (.Name f2 r3) r4] scope [("__class__", cc)] dV kV doc pm an (.ref cda) ct), osl⟩)
    (hcd : codeIn K (.ref cda) qual = true) (S : SupScope ["self", f1, f2] ["self", f1, f2] scope)
    (hcell : K.lookup cc = some ⟨cl, cld, .cell (some (.ref D)), csl⟩) (hcode : K.lookup cda = some ⟨ccl, cdd, .fields vsc, ccs⟩) (hvs : vsc[2]? = some (.str file tf)) (hfile : ((P.main.file : Str) == file) = true)
    (hD : clsIn K D = some cdD) (hp : (params.posonlyargs ++ params.args).head? = some ar) (har : ar.arg = "self")
    (hks : scope.names.lookup ("super" : Str) = some .globalImplicit) (hkc : scope.names.lookup ("__class__" : Str) = some .free)
    (htop : (P.main.scope.names.lookup ("super" : Str)).isSome = false) (hms : mg "super" = none) (hop : nsIn K cStatics "thirdparty.any" = some none)
    (SC : SupCl K C D) (hno : findIn K (.ref C) f1 = some none) (hno2 : findIn K (.ref C) f2 = some none) (hl0 : scope.names.lookup ("self" : Str) = some .local) (hl1 : scope.names.lookup f1 = some .local) (hl2 : scope.names.lookup f2 = some .local)
    (he : ∀ L, eval (.Call (.Attribute (.Call (.Name "super" p0) [] [] p1) "__init__" p2) [.JoinedStr (v1 :: v2 :: vr) p5] [] p3) (envX qual scope L f (.ref cda) [("__class__", cc)]) = (do
      let ov ← attributeBase (.Call (.Name "super" p0) [] [] p1) "__init__" (envX qual scope L f (.ref cda) [("__class__", cc)]) (eval (.Call (.Name "super" p0) [] [] p1) (envX qual scope L f (.ref cda) [("__class__", cc)]))
      standAt p2.atName
      let (f', first) ← holding [ov] (getMethod ov "__init__" pl)
      callWith p3 f' first (backTo p3 (starEach [.JoinedStr (v1 :: v2 :: vr) p5] (envX qual scope L f (.ref cda) [("__class__", cc)]))) []))
    (hi : ∀ L, interactive (envX qual scope L f (.ref cda) [("__class__", cc)]) = false)
    (hsw : ∀ L, swapsWith (.Call (.Attribute (.Call (.Name "super" p0) [] [] p1) "__init__" p2) [.JoinedStr (v1 :: v2 :: vr) p5] [] p3) none p4.line (envX qual scope L f (.ref cda) [("__class__", cc)]) = pure false)
    (hs1 : ∀ L, swapsWith (.Name f1 q3) (some (.Attribute (.Name "self" q1) f1 q2)) q4.line (envX qual scope L f (.ref cda) [("__class__", cc)]) = pure false) (hs2 : ∀ L, swapsWith (.Name f2 r3) (some (.Attribute (.Name "self" r1) f2 r2)) r4.line (envX qual scope L f (.ref cda) [("__class__", cc)]) = pure false) (hd1 : (f1 == ("__debug__" : Str)) = false) (hd2 : (f1 == ("__classdict__" : Str)) = false) (hd3 : (f2 == ("__debug__" : Str)) = false) (hd4 : (f2 == ("__classdict__" : Str)) = false)
    (hparts : ∀ (A : Around) (outer : List Env) (s : Shared) (H : Hp) (E : XK), Room k (A.deeper (envX qual scope s.heap.objs.size f (.ref cda) [("__class__", cc)])) → ∃ ts, PJ (cxSup CX P w K mg base ["self", f1, f2] qual scope f cc (.ref cda) A outer s H E) (v1 :: v2 :: vr) ts ∧ ts.length ≤ 400 ∧
      ∀ σ : St, (∃ i : Int, σ[1]? = some (some (.int i))) → (∃ i : Int, σ[2]? = some (some (.int i))) → ∀ t ∈ ts, PartJ σ t) :
    FnOk P w K mg base CX (k + 1) f (fnX name qual params [.Expr (.Call (.Attribute (.Call (.Name "super" p0) [] [] p1) "__init__" p2) [.JoinedStr (v1 :: v2 :: vr) p5] [] p3) p4, .Assign [.Attribute (.Name "self" q1) f1 q2] (.Name f1 q3) q4, .Assign [.Attribute (.Name "self" r1) f2 r2] (.Name f2 r3) r4] scope [("__class__", cc)] dV kV doc pm an (.ref cda) ct)
      ["self", f1, f2] (spErr C 2 fun is => ([f1, f2].zip is).reverse) := by
  refine fn_sup lk hcd S hcell hcode hvs hfile hD hp (by rw [har]; rfl) hks hkc (by rw [har]; exact hl0) htop hms hop he hi hsw (fun _ => rfl) ?_ ?_
  · rintro vs H Q E ⟨a, is, rfl, hl, _⟩
    simp [hl]
  · rintro A outer s H vs Q E hr ⟨a, is, rfl, hl, hHa, hq⟩
    obtain ⟨ts, hts, hn, hpart⟩ := hparts A outer s H E hr
    match is, hl with
    | [i, j], _ =>
      refine ⟨_, _, a, C, rfl, hHa, SC, pa_cons (pe_joined (pos := p5) hts) pa_nil rfl,
        pss_cons (ps_ost (f := f1) (pe_var (i := 0) (x := "self") rfl (.inl hl0)) (pe_var (i := 1) (x := f1) rfl (.inl hl1) hd1 hd2) (hs1 _)) (pss_cons (ps_ost (f := f2) (pe_var (i := 0) (x := "self") rfl (.inl hl0)) (pe_var (i := 2) (x := f2) rfl (.inl hl2) hd3 hd4) (hs2 _)) pss_nil), ?_⟩
      refine msg_run ts (hpart _ ⟨i, rfl⟩ ⟨j, rfl⟩) _ _ _ (by show 0 + 200 * ts.length ≤ 100000; omega) fun out H2 s2 => ?_
      refine ⟨Nat.le_refl _, s2 _ _ hHa, ?_⟩
      refine ⟨.int i, rfl, .ref a, rfl, a, C, rfl, SC.T, hno, .inl ⟨s2 _ _ hHa, fun dx hdx hne => ?_⟩⟩
      refine ⟨.int j, rfl, .ref a, rfl, a, C, rfl, SC.T, hno2, .inr ⟨dx, _, upd_same, by rw [upd_ne hne, upd_same], by show 1 ≤ 900; decide, ?_⟩⟩
      refine hq dx _ (s2.free hdx) hne (by rw [upd_ne (Ne.symm hne), upd_same]) (by rw [upd_same]; rfl) fun b o hb ho => ?_
      have nd := ne_of_none (s2 _ _ ho) hdx
      rw [upd_ne nd, upd_ne hb, upd_ne nd]
      exact s2 _ _ ho
end
end L2
/-! A22: errors with fields, raised, let through, caught -/
namespace L2
open PySem PySem.Spec PyProof.Rows PySem.W
/-! ### isinstance of an error that has a dict -/
section
variable {prog : Program} {w : World} {A : Around} {E : Value → Shared → Prop} {s : Shared} {K : Frag} {x D : Addr} {ox : Obj} {od : Option Obj}
theorem findObj_dataD {C : Addr} {name : Str} {a g : Value} (hc : (clsIn K C).isSome = true) (ha : findIn K (.ref C) name = some (some a)) (hg : specialIn K a "__get__" = some (some g)) (ht : takesIn K a = some true) : findObj K C od name = some (.bind g a) := by
  obtain ⟨cd, hc⟩ := Option.isSome_iff_exists.mp hc
  unfold findObj
  rw [hc, Option.bind_some, ha, Option.bind_some]
  simp [hg, ht]
theorem kin_classD {Q : Option Value → Shared → Prop} (hga : findIn K (.ref D) "__getattribute__" = some (some (.builtin "BaseException.__getattribute__"))) (hgt : findIn K (.ref D) "__getattr__" = some none) (hsub : subIn K (.ref D) (.type "BaseException") = some true)
    (hdct : hasDictIn K D = true) (ha : findIn K (.ref D) "__class__" = some (some (.builtin "object.__class__")))
    (hn : specialIn K (.builtin "object.__class__") "__get__" = some (some (.builtin "getset_descriptor.__get__"))) (htk : takesIn K (.builtin "object.__class__") = some true) (hm : mroIn K D (.type "object") = some true)
    (X : K.In s.heap) (I : InstAt s.heap x ox D od) (h : Q (some (.ref D)) { s with toks := s.toks + 1 }) : wpAny (model prog w) A (getAttr? (.ref x) "__class__") Q E s := by
  have hf : findObj K D od "__class__" = some (.bind (.builtin "getset_descriptor.__get__") (.builtin "object.__class__")) := findObj_dataD (by obtain ⟨cd, hc, _⟩ := any_some hdct; rw [hc]; rfl) ha hn htk
  obtain ⟨hp, g, d, t, os⟩ := s
  have L0 := I.type (M := model prog w)
  have L1 := looks_findIn (M := model prog w) X hga
  have L2 := looks_findIn (M := model prog w) X hgt
  have L3 := looks_find (M := model prog w) X I hf
  have sub : Looks (model prog w) hp (isInstance (.ref x) (.type "BaseException")) true := L0.andThen (looks_subIn X hsub)
  have hx0 : (false && onTheHeap (Value.builtin "BaseException.__getattribute__")) = false := rfl
  have hx2 : (Value.builtin "BaseException.__getattribute__" == Value.builtin "object.__getattribute__") = false := by decide +kernel
  have hx1 : (onTheHeap (Value.ref D) && Value.builtin "BaseException.__getattribute__" == Value.builtin "object.__getattribute__") = false := by rw [hx2]; rfl
  unfold getAttr? getAttrBy? getAttrBy
  refine wpAny_bind (wpAny_mkText (wpAny_bind (wpAny_attempt (wpAny_holding (wpAny_bind (L0.at (wpAny_bind (L1.at ?_))))))))
  show wpAny _ _ (if (onTheHeap (Value.ref D) && Value.builtin "BaseException.__getattribute__" == Value.builtin "object.__getattribute__") = true then _ else _) _ _ _
  rw [hx1, if_neg Bool.false_ne_true]
  unfold getAttrByItsOwn hookBefore
  refine wpAny_bind ?_
  rw [if_pos (show onTheHeap (Value.ref D) = true from rfl)]
  refine L2.at ?_
  refine wpAny_bind (wpAny_attempt (wpAny_holding ?_))
  unfold callGetattribute
  rw [hx0, if_neg Bool.false_ne_true]
  unfold boundAndCalled
  rw [PySem.F.excAttr_ValueError.ga.bind (.ref x)]
  refine wpAny_bind (wpAny_pure ?_)
  show wpAny _ _ (call (.builtin "BaseException.__getattribute__") [.ref x, .str "__class__" t]) _ _ _
  refine wpAny_call (codeAny_call_builtin PySem.F.excAttr_ValueError.ga.plain PySem.F.entry_bexc_ga ?_)
  refine @check_slot (model prog w) _ _ ⟨hp, g, d, t + 1, os⟩ "BaseException.__getattribute__" "BaseException" "__getattribute__" (.ref x) [.str "__class__" t] [] _ (by decide +kernel) (by decide +kernel) sub (PySem.F.args_bexc_ga (.ref x) (.str "__class__" t)) ?_
  unfold Builtin.«object.__getattribute__»
  refine wpAny_bind (wpAny_of_eq (a := ((Value.ref x : Value), [Value.str "__class__" t])) (by first | rfl | (simp only [slotArgs]; rfl)) ?_)
  refine wpAny_bind (wpAny_pure (wpAny_bind (L0.at (wpAny_bind (L3.at ?_)))))
  show wpAny _ _ (holding [Value.builtin "object.__class__"] (call (.builtin "getset_descriptor.__get__") [.builtin "object.__class__", .ref x, .ref D]) >>= ret) _ _ _
  refine wpAny_bind (wpAny_holding (wpAny_call (class_get (s := ⟨hp, g, d, t + 1, os⟩) (ox := ox) (od := od) X I hm ?_)))
  refine wpAny_pure ?_
  show wpAny _ _ (handedOut (.ref D)) _ _ _
  rw [handedOut_of (v := .ref D) rfl]
  first
    | exact wpAny_pure (wpAny_pure h)
    | exact wpAny_pure h
    | exact wpAny_pure (wpAny_bind (wpAny_pure (wpAny_pure h)))
theorem kitx_excD (hga : findIn K (.ref D) "__getattribute__" = some (some (.builtin "BaseException.__getattribute__"))) (hgt : findIn K (.ref D) "__getattr__" = some none) (hsub : subIn K (.ref D) (.type "BaseException") = some true) (hdct : hasDictIn K D = true) (ha : findIn K (.ref D) "__class__" = some (some (.builtin "object.__class__")))
    (hn : specialIn K (.builtin "object.__class__") "__get__" = some (some (.builtin "getset_descriptor.__get__"))) (htk : takesIn K (.builtin "object.__class__") = some true) (hm : mroIn K D (.type "object") = some true) :
    KitX K (.ref x) (.ref D) (fun h => InstAt h x ox D od) where
  ty := fun _ _ _ I => I.type
  it := fun _ _ X _ => by
    obtain ⟨cdD, hcD, _⟩ := any_some hdct
    unfold clsIn at hcD
    split at hcD
    · rename_i c' d' cd' sl' ho
      intro A' Q' E' s' k q
      unfold isType loadHead
      exact wpAny_bind (wpAny_loadPart (k _ _ (X _ _ ho)) (wpAny_pure q))
    · cases hcD
  ne := fun h tp dd its n sl X htp => by
    obtain ⟨cdD, hcD, _⟩ := any_some hdct
    refine Bool.eq_false_iff.mpr fun q => ?_
    have e : D = tp := Value.ref.inj (beq_iff_eq.mp q)
    subst e
    unfold clsIn at hcD
    split at hcD
    · rename_i c' d' cd' sl' ho
      have z := (X _ _ ho).symm.trans htp
      cases z
    · cases hcD
  ca := fun X I k => kin_classD hga hgt hsub hdct ha hn htk hm X I k
end
/-- the error's record: none, or a dict that holds its fields -/
def ErrOk (en : Nat → Int → Int → List (Str × V)) (c : Nat) (p q : Int) (d : Option Addr) (H : Hp) : Prop := match en c p q with
  | [] => d = none
  | fs => ∃ dd, d = some dd ∧ H dd = some (.xd fs)
theorem ErrOk.same {en : Nat → Int → Int → List (Str × V)} {c : Nat} {p q : Int} {d : Option Addr} {H H' : Hp} (s : Same H H') (h : ErrOk en c p q d H) : ErrOk en c p q d H' := by
  unfold ErrOk at h ⊢
  split at h
  · exact h
  · obtain ⟨dd, e, z⟩ := h
    exact ⟨dd, e, s _ _ z⟩
theorem ErrOk.mk {en : Nat → Int → Int → List (Str × V)} {c : Nat} {p q : Int} {dd : Addr} {H : Hp} {f : Str × V} {fs : List (Str × V)} (e : en c p q = f :: fs) (h : H dd = some (.xd (f :: fs))) : ErrOk en c p q (some dd) H := by
  unfold ErrOk
  rw [e]
  exact ⟨dd, rfl, h⟩
theorem ErrOk.nil {en : Nat → Int → Int → List (Str × V)} {c : Nat} {p q : Int} {H : Hp} (e : en c p q = []) : ErrOk en c p q none H := by
  unfold ErrOk
  rw [e]
theorem ErrOk.get {en : Nat → Int → Int → List (Str × V)} {c : Nat} {p q : Int} {d : Option Addr} {H : Hp} {f : Str × V} {fs : List (Str × V)} (e : en c p q = f :: fs) (h : ErrOk en c p q d H) : ∃ dd, d = some dd ∧ H dd = some (.xd (en c p q)) := by
  unfold ErrOk at h
  rw [e] at h
  obtain ⟨dd, h1, h2⟩ := h
  exact ⟨dd, h1, by rw [e]; exact h2⟩
/-- isinstance(e, c), e the error that the suite holds -/
def rIsF (K : PySem.W.Frag) (en : Nat → Int → Int → List (Str × V)) (c : Nat) (p q : Int) (D a : Addr) (d : Option Addr) : List V → Hp → VK → Prop := fun xs H Q => ∃ (t : V) (tv : Value) (b : Bool), xs = [.ref a, t] ∧ (∀ u, RelV t u → u = tv) ∧ PySem.W.kitOne K (.ref D) tv = some b ∧ ErrOk en c p q d H ∧ Q (.bl b) H
theorem call_isF {X : Cx} {en : Nat → Int → Int → List (Str × V)} {c : Nat} {p q : Int} {a D : Addr} {d : Option Addr} {oe : Obj} {pn : List (Addr × Obj)} (C : ExcC X.K D) (hz : Zc (.ref D) d oe) (hf : ∃ vs, oe.data = .fields vs) : CallR (X.suite a ((a, oe) :: pn)) (.builtin "isinstance") (rIsF X.K en c p q D a d) := by
  intro pins s σ H xs us Q I r h
  obtain ⟨t, tv, b, rfl, hcv, e, ho, q⟩ := h
  cases r with
  | cons rx rr =>
    cases rr with
    | cons rt rr =>
      cases rr
      cases rx
      have ec := hcv _ rt
      subst ec
      obtain ⟨hget, _⟩ := I.pin (a, oe) (List.mem_append.mpr (.inl List.mem_cons_self))
      obtain ⟨vs, hv⟩ := hf
      have J : ∃ od, PySem.W.InstAt s.heap a oe D od := by
        obtain ⟨oc, od, oda, osl⟩ := oe
        obtain ⟨h1, h2⟩ := hz
        dsimp only at h1 h2 hv
        subst h1 h2 hv
        unfold ErrOk at ho
        split at ho
        · subst ho
          exact ⟨none, hget, rfl, rfl, trivial⟩
        · obtain ⟨dd, ed, hx⟩ := ho
          subst ed
          have hx : ObjOk X.prog X.w H s.heap dd (.xd _) := I.hok dd _ hx
          obtain ⟨mA, hns, hr⟩ := hx
          obtain ⟨od, ho', _⟩ := lookIn_ns hns
          exact ⟨some od, hget, rfl, rfl, ho'⟩
      obtain ⟨od, J⟩ := J
      exact PySem.W.kia_one (kitx_excD C.hg C.hk C.hs C.hd C.ha C.hn C.ht C.hm) I.kIn J e (fun z => nomatch z) fun tk => ⟨.bl b, H, I.kept (t' := tk) fun _ _ z => z, rfl, q⟩
end L2
namespace J
open PySem PySem.Spec L2 PyProof.Rows ClX RZ
section
variable {X : Cx} {F : Fr} {g : Gm} {α β γ ρ τ κ : Type} {er : Nat → Addr} {en : Nat → Int → Int → List (Str × V)}
def spJF {τ ρ : Type} (T : ATy τ) (R : Res ρ) (er : Nat → Addr) (en : Nat → Int → Int → List (Str × V)) (w : τ → (ρ → Prop) → EK → Prop) : Sp := fun vs H Q E => ∃ (t : τ) (P : ρ → Prop) (N : EK) (F : Fr), F.H = H ∧ T.rel F.B vs t ∧ w t P N ∧ RtOk F R P Q ∧
  (∀ c p q, N c p q → ∀ d H2, Same F.H H2 → ErrOk en c p q d H2 → E (.ref (er c)) d H2)
def spIF (C : Addr) (ns : List Str) (T : ATy τ) (U : ATy κ) (er : Nat → Addr) (en : Nat → Int → Int → List (Str × V)) (w : τ → (κ → Prop) → EK → Prop) : Sp := fun vs H Q E => ∃ (x dx : Addr) (ws : List V) (t : τ) (P : κ → Prop) (N : EK) (F : Fr), vs = .ref x :: ws ∧ F.H x = none ∧ F.H dx = none ∧ dx ≠ x ∧ H = upd (upd F.H dx (.own x)) x (.ins C dx []) ∧ T.rel F.B ws t ∧ w t P N ∧
  (∀ u H2, P u → Same F.H H2 → (tC C ns U).rel (F.out H2) (.ref x) u → Q .non H2) ∧ (∀ c p q, N c p q → ∀ d H2, Same F.H H2 → ErrOk en c p q d H2 → E (.ref (er c)) d H2)
/-- the wish W takes what N asks -/
abbrev WishF (er : Nat → Addr) (en : Nat → Int → Int → List (Str × V)) (F : Fr) (g : Gm) (N : EK) (W : WX) : Prop := ∀ σ H, g.Ok F σ H → ∀ c p q, N c p q → ∀ d, ErrOk en c p q d H → W (.ref (er c)) d σ H
variable {f C : Addr} {m x : Str} {n : Nat} {fd : FuncData} {ps ns : List Str} {e : Expr} {es : List Expr} {apos pos np : Pos} {pl : Sem Bool} {T : ATy τ} {U : ATy κ} {R : Res ρ} {W : WX} {N : EK}
theorem je_callF {w : τ → (ρ → Prop) → EK → Prop} {wa : (τ → Prop) → Prop} {a0 : Expr} (tk : Takes X W) (hW : WishF er en F g N W) (Fn : FnOk X.prog X.w X.K X.mg X.base (L2.CX X.prog X.w) n f fd ps (spJF T R er en w)) (hr : Room n X.A) (hg : Gl X x) (hm : X.mg x = some (.ref f)) (hk : PySem.W.keepIn X.K (.ref f) = true) (hb : Binds X.K fd ps [])
    (ha : JA X F g (a0 :: es) T wa) (hdb : (x == ("__debug__" : Str)) = false := by decide) (he : starEach (a0 :: es) X.env = (false, eval a0 X.env) :: starEach es X.env := by rfl) (hpl : (backTo pos (starEach es X.env)).any (·.1) = false := by rfl) :
    JE X F g (.Call (.Name x np) (a0 :: es) [] pos) R (fun k => wa fun t => w t k N) :=
  peW (pe_callS (E := WE W) Fn hr hg hm hk hb (fun σ => passAt tk σ) ha hdb he hpl) fun σ H Q ⟨k, P, w, q⟩ => ⟨k, _, w, fun t vs H1 w1 s1 r1 => ⟨t, P, N, (k.step s1).fr, rfl, r1, w1, (fun r v H2 p s2 r2 => q r v H2 p (s1.trans s2) (R.pre s1 (R.same ((k.step s1).back s2) (Same.refl _) r2))), fun c p q nn d H2 s2 z => hW σ H2 (k.step (s1.trans s2)) c p q nn d z⟩⟩
theorem je_makeF {w : τ → (κ → Prop) → EK → Prop} {wa : (τ → Prop) → Prop} (tk : Takes X W) (hW : WishF er en F g N W) (M : Mk X.K C f) (Fn : FnOk X.prog X.w X.K X.mg X.base (L2.CX X.prog X.w) n f fd ps (spIF C ns T U er en w)) (hr : Room (n + 1) X.A) (hg : Gl X x) (hm : X.mg x = some (.ref C)) (hb : Binds X.K fd ps [])
    {a0 : Expr} (ha : JA X F g (a0 :: es) T wa) (hdb : (x == ("__debug__" : Str)) = false := by decide) (he : starEach (a0 :: es) X.env = (false, eval a0 X.env) :: starEach es X.env := by rfl) (hpl : (backTo pos (starEach es X.env)).any (·.1) = false := by rfl) :
    JE X F g (.Call (.Name x np) (a0 :: es) [] pos) (rO (tC C ns U)) (fun k => wa fun t => w t k N) :=
  peW (pe_makeS (E := WE W) M Fn hr hg hm hb (fun σ => passAt tk σ) ha hdb he hpl) fun σ H Q ⟨k, P, w, q⟩ => ⟨k, _, w, fun t vs H1 w1 s1 r1 x dx hx hdx hne => ⟨x, dx, vs, t, P, N, (k.step s1).fr, rfl, hx, hdx, hne, rfl, r1, w1, (fun u H2 p s2 r2 => ⟨rfl, q u (.ref x) H2 p (s1.trans s2) ((tC C ns U).same ((k.step s1).back s2) r2)⟩), fun c p q nn d H2 s2 z => hW σ H2 (k.step (s1.trans s2)) c p q nn d z⟩⟩
theorem je_methF {w : κ × τ → (ρ → Prop) → EK → Prop} {wo : (κ → Prop) → Prop} {wa : (τ → Prop) → Prop} {a0 : Expr} (tk : Takes X W) (hW : WishF er en F g N W) (he : JE X F g e (rO (tC C ns U)) wo) (c : Cls X.K C) (hm : Meth X.K C m f) (Fn : FnOk X.prog X.w X.K X.mg X.base (L2.CX X.prog X.w) n f fd ps (spJF (aC (tC C ns U) T) R er en w)) (hr : Room n X.A) (hb : Binds X.K fd ps []) (ha : JA X F g (a0 :: es) T wa)
    (hl : ∀ vs : List V, vs.length = ns.length → (ns.zip vs).lookup m = none)
    (hst : starEach (a0 :: es) X.env = (false, eval a0 X.env) :: starEach es X.env := by rfl) (hpl : (backTo pos (starEach es X.env)).any (·.1) = false := by rfl)
    (ht : eval (.Call (.Attribute e m apos) (a0 :: es) [] pos) X.env = (do
      let ov ← eval e X.env
      standAt apos.atName
      let (f, first) ← holding [ov] (getMethod ov m pl)
      callWith pos f first (backTo pos (starEach (a0 :: es) X.env)) (backToKw pos (keywordEach [] X.env))) := by rfl) :
    JE X F g (.Call (.Attribute e m apos) (a0 :: es) [] pos) R (fun k => wo fun o => wa fun t => w (o, t) k N) :=
  peW (pe_methSJ (E := WE W) he c hm Fn hr hb (fun σ => passAt tk σ) ha hst hpl ht) fun σ H Q ⟨k, P, w, q⟩ => ⟨k, _, w, fun o v H1 w1 s1 r1 => by
    obtain ⟨a, dx, vs, e1, h1, hn, ho⟩ := r1
    exact ⟨a, dx, _, e1, (k.step s1).le _ _ h1, hl vs hn, k.step s1, _, w1, fun t us H2 w2 s2 r2 => ⟨(o, t), P, N, (k.step (s1.trans s2)).fr, rfl, ⟨v, us, by rw [e1], ⟨a, dx, vs, e1, Gm.mono s2 _ _ h1, hn, U.same (Gm.mono s2) ho⟩, r2⟩, w2, (fun r v H3 p s3 r3 => q r v H3 p (s1.trans (s2.trans s3)) (R.pre (s1.trans s2) (R.same ((k.step (s1.trans s2)).back s3) (Same.refl _) r3))), fun c p q nn d H3 s3 z => hW σ H3 (k.step (s1.trans (s2.trans s3))) c p q nn d z⟩⟩⟩
/-- raise C(..), C's own __init__ storing fields -/
theorem js_raiseF {fI : Addr} {c k : Nat} {fs : List V → List (Str × V)} {a0 : Expr} {rest : List Stmt} {D : Ends} {wa : (τ → Prop) → Prop} {rp : Pos} {f1 : τ → Int} {f2 : τ → Int} (hc : X.calm = true) (tk : Takes X W) (hW : WishF er en F g N W)
    (TC : OexC X.K (er c)) (iC : PySem.W.findIn X.K (.ref (er c)) "__init__" = some (some (.ref fI))) (tI : PySem.W.typeIn X.K (.ref fI) = some (.type "function")) (F1 : FnOk X.prog X.w X.K X.mg X.base (L2.CX X.prog X.w) k fI fd ps (spErr (er c) n fs)) (hr : Room (k + 1) X.A) (hb : Binds X.K fd ps [])
    (hg : Gl X x) (hm : X.mg x = some (.ref (er c))) (ha : JA X F g (a0 :: es) T wa) (num : ∀ t H vs, T.rel H vs t → ∃ is : List Int, vs = is.map V.int ∧ is.length = n ∧ fs (is.map V.int) = en c (f1 t) (f2 t)) (hn : n ≤ 1000) (hne : ∀ p q, ∃ f l, en c p q = f :: l)
    (hdb : (x == ("__debug__" : Str)) = false := by decide) (he : starEach (a0 :: es) X.env = (false, eval a0 X.env) :: starEach es X.env := by rfl) (hpl : (backTo pos (starEach es X.env)).any (·.1) = false := by rfl) :
    JSs X F g (.Raise (some (.Call (.Name x np) (a0 :: es) [] pos)) none rp :: rest) D (wa fun t => N c (f1 t) (f2 t)) :=
  pssW (pss_cons (ps_raise hc tk (pmk_oex (dvs := []) TC iC tI F1 hr hb .nil passL hg hm ha hdb he hpl)) pss_never) fun D' σ H ⟨e, k, w⟩ => ⟨k, _, w, fun t vs H1 w1 s1 r1 => by
    obtain ⟨is, hvs, hl, hfs⟩ := num t _ vs r1
    subst hvs
    refine ⟨by rw [List.length_map]; omega, fun a ha => ⟨a, is, by rw [List.append_nil], hl, upd_same, fun d H' hd hda h1 h2 h3 => ⟨rfl, d, _, h1, h2, ?_, ?_⟩⟩⟩
    · rw [upd_ne hda] at hd
      exact hd
    · rw [upd_ne hda] at hd
      have hs : Same H1 (upd (del H' a) d (.xd (fs (is.map V.int)))) := fun b o hb => by
        have n1 : b ≠ a := ne_of_none hb ha
        rw [upd_ne (ne_of_none hb hd), del_ne n1]
        exact h3 b o n1 (by rw [upd_ne n1]; exact hb)
      obtain ⟨f, l, e2⟩ := hne (f1 t) (f2 t)
      exact hW σ _ (k.step (s1.trans hs)) c _ _ w1 _ (ErrOk.mk e2 (by rw [upd_same, hfs, e2]))⟩
/-- raise C("..") -/
theorem js_raiseF0 {ex : Expr} {rest : List Stmt} {D : Ends} {c : Nat} (hc : X.calm = true) (tk : Takes X W) (hW : WishF er en F g N W) (hne : en c 0 0 = []) (he : PMk X ex (fun _ H Q => Q (.ref (er c)) none H)) : JSs X F g (.Raise (some ex) none pos :: rest) D (N c 0 0) :=
  pssW (pss_cons (ps_raise hc tk he) pss_never) fun D' σ H ⟨e, k, nn⟩ => hW σ H k c 0 0 nn none (ErrOk.nil hne)

theorem errOk_imm {c : Nat} {p q : Int} {d : Option Addr} {H H' : Hp} (s : Imm H H') (h : ErrOk en c p q d H) : ErrOk en c p q d H' := by
  unfold ErrOk at h ⊢
  split at h
  · exact h
  · obtain ⟨dd, e, z⟩ := h
    exact ⟨dd, e, s _ _ rfl z⟩
/-- the error that the suite holds -/
def tEr (en : Nat → Int → Int → List (Str × V)) (c : Nat) (p q : Int) (a : Addr) (d : Option Addr) : Ty Unit := ⟨fun H v _ => v = .ref a ∧ ErrOk en c p q d H, fun s h => ⟨h.1, h.2.same s⟩⟩
theorem js_tryF {i : Nat} {nE xC : Str} {xc : Value} {body suite rest : List Stmt} {b₀ : Stmt} {nx bk ct : L2.St → Hp → Prop} {rt : VK} {wr : Prop} {wc : Prop → EK} {wb : Prop → EK → Prop} {pos' : Pos} {Wo : WX} (hs : X.stack = X.env :: X.outer) (hf : X.env.frame = some X.env.locals) (hN : X.N.Nodup) (hi : X.N[i]? = some nE) (hln : X.env.kindOf nE = some .local) (hc : Names X xC xc)
    (hany : g.s[i]? = some .any) (tko : Takes X Wo)
    (hb : ∀ (R : Prop) (N : EK) (W : WX) (pn : List (Addr × Obj)) (xe : Value → Shared → Prop), Takes (X.tr pn xe) W → WishF er en F g N W → JSs (X.tr pn xe) F g body ⟨fun σ H => g.Ok F σ H ∧ R, rt, fun _ _ => False, fun _ _ => False⟩ (wb R N))
    (hsu : ∀ (R : Prop) c p q, wc R c p q → (PySem.W.exmOne X.K (.ref (er c)) xc = some true ∧ ∃ ws : Prop, ws ∧ ∀ (a : Addr) (oe : Obj) (pn : List (Addr × Obj)) (d : Option Addr), Zc (.ref (er c)) d oe → (∃ vs, oe.data = .fields vs) →
        JSs (X.suite a ((a, oe) :: pn)) F (g.set i (.val (tEr en c p q a d) ())) (b₀ :: suite) ⟨fun σ H => g.Ok F (σ.set i none) H ∧ R, rt, fun _ _ => False, fun _ _ => False⟩ ws) ∨
      (PySem.W.exmOne X.K (.ref (er c)) xc = some false ∧ ∀ σ H, g.Ok F σ H → ∀ d, ErrOk en c p q d H → Wo (.ref (er c)) d σ H))
    (hr : JSs X F g rest ⟨nx, rt, bk, ct⟩ wr) : JSs X F g (.Try body [.ExceptHandler (some (.Name xC np)) (some nE) (b₀ :: suite) pos'] [] [] pos :: rest) ⟨nx, rt, bk, ct⟩ (wCut wr fun R => wLet (wc R) fun N => wb R N) := by
  refine pssW (pss_cons (ps_try_as (np := np) (pos := pos) (tb := fun W => fun D σ H => ∃ q : Prop × EK, WishF er en F g q.2 W ∧ RS F g ⟨fun σ H => g.Ok F σ H ∧ q.1, rt, fun _ _ => False, fun _ _ => False⟩ (wb q.1 q.2) D σ H)
    (ts := fun a cls d => fun D σ H => ∃ (R : Prop) (c : Nat) (p q : Int) (ws : Prop), cls = .ref (er c) ∧ (∀ (oe : Obj) (pn : List (Addr × Obj)), Zc (.ref (er c)) d oe → (∃ vs, oe.data = .fields vs) →
        JSs (X.suite a ((a, oe) :: pn)) F (g.set i (.val (tEr en c p q a d) ())) (b₀ :: suite) ⟨fun σ H => g.Ok F (σ.set i none) H ∧ R, rt, fun _ _ => False, fun _ _ => False⟩ ws) ∧ RS F (g.set i (.val (tEr en c p q a d) ())) ⟨fun σ H => g.Ok F (σ.set i none) H ∧ R, rt, fun _ _ => False, fun _ _ => False⟩ ws D σ H)
    (Wout := Wo) hs hf hN hi hln hc tko (fun W pn xe tk _ => ?_) (fun a oe cls d pn hz hv => ?_)) hr) fun D σ H ⟨e, k, w⟩ => ?_
  · exact ⟨fun p s σ H D I ⟨q, hW, h⟩ => (hb q.1 q.2 W pn xe tk hW).run p s σ H D I h⟩
  · refine ⟨fun p s σ H D I ⟨R, c, pp, qq, ws, e1, hj, h⟩ => ?_⟩
    subst e1
    exact (hj oe pn hz hv).run p s σ H D I h
  · refine ⟨(wr, wc wr), fun σ H k c p q nn d ho => ?_, ⟨⟨fun σ H ⟨k, r⟩ => ⟨e, k, r⟩, e.rt, fun _ _ z => z.elim, fun _ _ z => z.elim⟩, k, w⟩⟩
    rcases hsu wr c p q nn with ⟨hex, ws, hws, hj⟩ | ⟨hex, ho2⟩
    · exact ⟨true, hex, fun _ a ha => ⟨wr, c, p, q, ws, rfl, fun oe pn hz hv => hj a oe pn d hz hv, ⟨fun σ H ⟨k, r⟩ => ⟨e, k, r⟩, e.rt, fun _ _ z => z.elim, fun _ _ z => z.elim⟩, k.set (t := .val (tEr en c p q a d) ()) ⟨_, rfl, rfl, errOk_imm k.fx ho⟩, hws⟩, fun z => by cases z⟩
    · exact ⟨false, hex, ⟨fun z => (nomatch z), fun _ => ho2 σ H k d ho⟩⟩
/-! ### in the suite -/
variable {a D : Addr} {c : Nat} {p q : Int} {d : Option Addr} {oe : Obj} {pn : List (Addr × Obj)} {cl : Expr} {pp : Pos} {cV : V} {cv : Value} {b : Bool}
theorem je_isF {X : Cx} {K : PySem.W.Frag} (hI : CallR X (.builtin "isinstance") (rIsF K en c p q D a d)) (hg : Gl X "isinstance") (hm : X.mg "isinstance" = none) {w : (Unit → Prop) → Prop} (ha : JE X F g e (rO (tEr en c p q a d)) w) (hT : PE X cl (L2.tC cV)) (hcv : ∀ u, RelV cV u → u = cv) (hk : PySem.W.kitOne K (.ref D) cv = some b)
    (he : starEach [e, cl] X.env = (false, eval e X.env) :: starEach [cl] X.env := by rfl) (he2 : starEach [cl] X.env = (false, eval cl X.env) :: starEach [] X.env := by rfl) (hpl : (backTo pos (starEach [cl] X.env)).any (·.1) = false := by rfl) :
    JE X F g (.Call (.Name "isinstance" pp) [e, cl] [] pos) (rO tB) (fun k => w fun _ => wLet b k) :=
  peW (pe_callB hI hg hm (by decide +kernel) (pa_cons ha (pa_cons hT pa_nil he2) he) (by decide) (by decide) he hpl) fun σ H Q ⟨k, P, w, qq⟩ => ⟨k, _, w, fun x v H1 w1 s1 r1 =>
    ⟨cV, cv, b, by rw [(r1.1 : v = _)], hcv, hk, r1.2.same (k.leT s1), qq b _ H1 w1 s1 rfl⟩⟩
theorem je_isFR {X : Cx} {K : PySem.W.Frag} {D2 : Addr} (b : Bool) (hI : CallR X (.builtin "isinstance") (rIsF K en c p q D a d)) (hg : Gl X "isinstance") (hm : X.mg "isinstance" = none) {w : (Unit → Prop) → Prop} (ha : JE X F g e (rO (tEr en c p q a d)) w) (hT : PE X cl (L2.tC (.ref D2))) (hk : PySem.W.kitOne K (.ref D) (.ref D2) = some b)
    (he : starEach [e, cl] X.env = (false, eval e X.env) :: starEach [cl] X.env := by rfl) (he2 : starEach [cl] X.env = (false, eval cl X.env) :: starEach [] X.env := by rfl) (hpl : (backTo pos (starEach [cl] X.env)).any (·.1) = false := by rfl) :
    JE X F g (.Call (.Name "isinstance" pp) [e, cl] [] pos) (rO tB) (fun k => w fun _ => wLet b k) := je_isF hI hg hm ha hT (fun _ r => r) hk he he2 hpl
theorem je_isFT {X : Cx} {K : PySem.W.Frag} {T : String} (b : Bool) (hI : CallR X (.builtin "isinstance") (rIsF K en c p q D a d)) (hg : Gl X "isinstance") (hm : X.mg "isinstance" = none) {w : (Unit → Prop) → Prop} (ha : JE X F g e (rO (tEr en c p q a d)) w) (hT : PE X cl (L2.tC (.ty T))) (hk : PySem.W.kitOne K (.ref D) (.type T) = some b)
    (he : starEach [e, cl] X.env = (false, eval e X.env) :: starEach [cl] X.env := by rfl) (he2 : starEach [cl] X.env = (false, eval cl X.env) :: starEach [] X.env := by rfl) (hpl : (backTo pos (starEach [cl] X.env)).any (·.1) = false := by rfl) :
    JE X F g (.Call (.Name "isinstance" pp) [e, cl] [] pos) (rO tB) (fun k => w fun _ => wLet b k) := je_isF hI hg hm ha hT (fun _ r => r) hk he he2 hpl
/-- e.f -/
theorem je_xf {X : Cx} {fl : Str} {v : Int} {ff : Str × V} {fs : List (Str × V)} (hD : XfC X.K D) (hno : PySem.W.findIn X.K (.ref D) fl = some none) (hz : Zc (.ref D) d oe) (hv : ∃ vs, oe.data = .fields vs) {w : (Unit → Prop) → Prop} (ha : JE (X.suite a ((a, oe) :: pn)) F g e (rO (tEr en c p q a d)) w) (hen : en c p q = ff :: fs) (hl : (en c p q).lookup fl = some (.int v))
    (hb : attributeBase e fl X.env (eval e X.env) = eval e X.env := by rfl) :
    JE (X.suite a ((a, oe) :: pn)) F g (.Attribute e fl pos) (rO tI) (fun k => w fun _ => k v) :=
  peW (pe_xf (pn := pn) hD hno hz hv ha hb) fun σ H Q ⟨k, P, w, qq⟩ => ⟨k, _, w, fun x vv H1 w1 s1 r1 => by
    obtain ⟨dd, e1, e2⟩ := ErrOk.get hen (r1.2.same (k.leT s1))
    exact ⟨r1.1, rfl, dd, _, .int v, e1, e2, hl, qq v _ H1 w1 s1 rfl⟩⟩
/-- str(i) -/
theorem je_strI {X : Cx} {w : (Int → Prop) → Prop} (hg : Gl X "str") (hm : X.mg "str" = none) (ha : JE X F g e (rO tI) w) (he : starEach [e] X.env = (false, eval e X.env) :: starEach [] X.env := by rfl) (hpl : (backTo pos (starEach [] X.env)).any (·.1) = false := by rfl) :
    JE X F g (.Call (.Name "str" pp) [e] [] pos) (rO tS) (fun k => w fun n => n.natAbs.log2 < 1920 ∧ k (strI n)) :=
  je_callTy (T := aC tI aN) (C := fun t k => t.1.natAbs.log2 < 1920 ∧ k (strI t.1)) call_str_int (fun _ t H vs P Q k ⟨v, r, e1, r1, e2⟩ c q => ⟨t.1, by rw [e1, (e2 : r = []), (r1 : v = _)], c.1, q _ _ H c.2 (Same.refl H) rfl⟩) hg hm (by decide +kernel) (jb_cons (je_b ha) jb_nil he) (by decide) (by decide) he hpl
/-- _shown(x): a short text -/
theorem pe_shown {X : Cx} {w : Int → (Str → Prop) → Prop} {i : Nat} {x y : Str} (hw : ∀ (n : Int) (P : Str → Prop), (∀ z : Str, z.length ≤ 200 → P z) → w n P) (Fn : FnOk X.prog X.w X.K X.mg X.base CX0 n f fd ps (spJ (aC tI aN) (rO tS) fun t => w t.1)) (hr : Room n X.A) (hg : Gl X x) (hm : X.mg x = some (.ref f)) (hk : PySem.W.keepIn X.K (.ref f) = true) (hb : Binds X.K fd ps [])
    (hN : X.N[i]? = some y) (hv : Vis X.env.scope y) (hdb : (x == ("__debug__" : Str)) = false := by decide) (hd1 : (y == ("__debug__" : Str)) = false := by decide) (hd2 : (y == ("__classdict__" : Str)) = false := by decide) :
    ∃ t, PE X (.Call (.Name x np) [.Name y pp] [] pos) t ∧ ∀ σ : L2.St, (∃ j : Int, σ[i]? = some (some (.int j))) → PartJ σ t :=
  ⟨_, pe_call Fn hr hg hm hk hb .nil pass0 (pa_cons (pe_var hN hv hd1 hd2) pa_nil) hdb, fun σ ⟨j, hj⟩ H Q h => ⟨_, hj, (j, ()), fun z => z.length ≤ 200, Fr.all H, rfl, ⟨_, _, rfl, rfl, rfl⟩, hw _ _ (fun z hz => hz), fun r v H2 p s2 r2 => by
    obtain rfl : v = .str r := r2
    exact h r H2 p s2⟩⟩
end
end J
/-! A23: errors with fields: what the top has written of them -/
namespace L2
open PySem PySem.Spec PyProof.Rows PySem.W
structure SupFun (P : Program) (K : Frag) (mg : Str → Option Value) (x qual : Str) (st : Stmt) (f D : Addr) (fd : FuncData) : Prop where
  ex : ∃ (oc : Value) (od : Option Addr) (kV doc pm : Value) (an : Option Addr) (cda : Addr) (ct : Value) (osl : Array (Option Value)) (cc : Addr) (cl : Value) (cld : Option Addr) (csl : Array (Option Value)) (ccl : Value) (cdd : Option Addr) (ccs : Array (Option Value)) (vsc : Array Value) (file : Str) (tf : Tok),
    fd = fnX x qual (defArgs st) (defBody st) (defScope st) [("__class__", cc)] .none kV doc pm an (.ref cda) ct ∧ K.lookup f = some ⟨oc, od, .func fd, osl⟩ ∧ codeIn K (.ref cda) qual = true ∧ K.lookup cc = some ⟨cl, cld, .cell (some (.ref D)), csl⟩ ∧ K.lookup cda = some ⟨ccl, cdd, .fields vsc, ccs⟩ ∧ vsc[2]? = some (.str file tf) ∧ ((P.main.file : Str) == file) = true
  cD : isClsIn K D = true
  top : (P.main.scope.names.lookup ("super" : Str)).isSome = false
  ms : mg "super" = none
  op : nsIn K cStatics "thirdparty.any" = some none
theorem SupFun.binds {P : Program} {K : Frag} {mg : Str → Option Value} {x qual : Str} {st : Stmt} {f D : Addr} {fd : FuncData} {ps : List Str} (F : SupFun P K mg x qual st f D fd)
    (h : ∀ (cc : Addr) (kV doc pm : Value) (an : Option Addr) (cdv ct : Value) (us : List Value), us.length = ps.length → bindArgs (fnX x qual (defArgs st) (defBody st) (defScope st) [("__class__", cc)] .none kV doc pm an cdv ct) ⟨us, []⟩ = pure (ps.zip us)) : Binds K fd ps [] := by
  obtain ⟨oc, od, kV, doc, pm, an, cda, ct, osl, cc, cl, cld, csl, ccl, cdd, ccs, vsc, file, tf, rfl, _⟩ := F.ex
  exact .all (h cc kV doc pm an (.ref cda) ct)
section
variable {CX : CXT} {P : Program} {w : World} {K : Frag} {mg : Str → Option Value} {base : Heap} {k : Nat} {f D C : Addr} {x qual f1 f2 : Str} {st : Stmt} {fd : FuncData} {p0 p1 p2 p3 p4 p5 q1 q2 q3 q4 r1 r2 r3 r4 : Pos} {v1 v2 : Expr} {vr : List Expr} {ar : Arg} {pl : Sem Bool}
theorem SupFun.ok1 (F : SupFun P K mg x qual st f D fd) (S : SupScope ["self", f1] ["self", f1] (defScope st))
    (eb : defBody st = [.Expr (.Call (.Attribute (.Call (.Name "super" p0) [] [] p1) "__init__" p2) [.JoinedStr (v1 :: v2 :: vr) p5] [] p3) p4, .Assign [.Attribute (.Name "self" q1) f1 q2] (.Name f1 q3) q4])
    (hp : ((defArgs st).posonlyargs ++ (defArgs st).args).head? = some ar) (har : ar.arg = "self") (hks : (defScope st).names.lookup ("super" : Str) = some .globalImplicit) (hkc : (defScope st).names.lookup ("__class__" : Str) = some .free)
    (SC : SupCl K C D) (hno : findIn K (.ref C) f1 = some none)
    (he : ∀ cda cc L, eval (.Call (.Attribute (.Call (.Name "super" p0) [] [] p1) "__init__" p2) [.JoinedStr (v1 :: v2 :: vr) p5] [] p3) (envX qual (defScope st) L f (.ref cda) [("__class__", cc)]) = (do
      let ov ← attributeBase (.Call (.Name "super" p0) [] [] p1) "__init__" (envX qual (defScope st) L f (.ref cda) [("__class__", cc)]) (eval (.Call (.Name "super" p0) [] [] p1) (envX qual (defScope st) L f (.ref cda) [("__class__", cc)]))
      standAt p2.atName
      let (f', first) ← holding [ov] (getMethod ov "__init__" pl)
      callWith p3 f' first (backTo p3 (starEach [.JoinedStr (v1 :: v2 :: vr) p5] (envX qual (defScope st) L f (.ref cda) [("__class__", cc)]))) []))
    (hi : ∀ cda cc L, interactive (envX qual (defScope st) L f (.ref cda) [("__class__", cc)]) = false)
    (hsw : ∀ cda cc L, swapsWith (.Call (.Attribute (.Call (.Name "super" p0) [] [] p1) "__init__" p2) [.JoinedStr (v1 :: v2 :: vr) p5] [] p3) none p4.line (envX qual (defScope st) L f (.ref cda) [("__class__", cc)]) = pure false)
    (hs1 : ∀ cda cc L, swapsWith (.Name f1 q3) (some (.Attribute (.Name "self" q1) f1 q2)) q4.line (envX qual (defScope st) L f (.ref cda) [("__class__", cc)]) = pure false) (hd1 : (f1 == ("__debug__" : Str)) = false) (hd2 : (f1 == ("__classdict__" : Str)) = false)
    (hparts : ∀ (cda cc : Addr) (A : Around) (outer : List Env) (s : Shared) (H : Hp) (E : XK), Room k (A.deeper (envX qual (defScope st) s.heap.objs.size f (.ref cda) [("__class__", cc)])) → ∃ ts, PJ (cxSup CX P w K mg base ["self", f1] qual (defScope st) f cc (.ref cda) A outer s H E) (v1 :: v2 :: vr) ts ∧ ts.length ≤ 400 ∧
      ∀ σ : St, (∃ i : Int, σ[1]? = some (some (.int i))) → ∀ t ∈ ts, PartJ σ t) : FnOk P w K mg base CX (k + 1) f fd ["self", f1] (spErr C 1 fun is => [f1].zip is) := by
  obtain ⟨oc, od, kV, doc, pm, an, cda, ct, osl, cc, cl, cld, csl, ccl, cdd, ccs, vsc, file, tf, rfl, lk, hcd, hcell, hcode, hvs, hfile⟩ := F.ex
  obtain ⟨cdD, hD⟩ := Option.isSome_iff_exists.mp (show (clsIn K D).isSome = true from F.cD)
  rw [eb] at lk ⊢
  exact err1 lk hcd S hcell hcode hvs hfile hD hp har hks hkc F.top F.ms F.op SC hno (S.par "self" (by simp)) (S.par f1 (by simp)) (he cda cc) (hi cda cc) (hsw cda cc) (hs1 cda cc) hd1 hd2 (hparts cda cc)
theorem SupFun.ok2 (F : SupFun P K mg x qual st f D fd) (S : SupScope ["self", f1, f2] ["self", f1, f2] (defScope st))
    (eb : defBody st = [.Expr (.Call (.Attribute (.Call (.Name "super" p0) [] [] p1) "__init__" p2) [.JoinedStr (v1 :: v2 :: vr) p5] [] p3) p4, .Assign [.Attribute (.Name "self" q1) f1 q2] (.Name f1 q3) q4, .Assign [.Attribute (.Name "self" r1) f2 r2] (.Name f2 r3) r4])
    (hp : ((defArgs st).posonlyargs ++ (defArgs st).args).head? = some ar) (har : ar.arg = "self") (hks : (defScope st).names.lookup ("super" : Str) = some .globalImplicit) (hkc : (defScope st).names.lookup ("__class__" : Str) = some .free)
    (SC : SupCl K C D) (hno : findIn K (.ref C) f1 = some none) (hno2 : findIn K (.ref C) f2 = some none)
    (he : ∀ cda cc L, eval (.Call (.Attribute (.Call (.Name "super" p0) [] [] p1) "__init__" p2) [.JoinedStr (v1 :: v2 :: vr) p5] [] p3) (envX qual (defScope st) L f (.ref cda) [("__class__", cc)]) = (do
      let ov ← attributeBase (.Call (.Name "super" p0) [] [] p1) "__init__" (envX qual (defScope st) L f (.ref cda) [("__class__", cc)]) (eval (.Call (.Name "super" p0) [] [] p1) (envX qual (defScope st) L f (.ref cda) [("__class__", cc)]))
      standAt p2.atName
      let (f', first) ← holding [ov] (getMethod ov "__init__" pl)
      callWith p3 f' first (backTo p3 (starEach [.JoinedStr (v1 :: v2 :: vr) p5] (envX qual (defScope st) L f (.ref cda) [("__class__", cc)]))) []))
    (hi : ∀ cda cc L, interactive (envX qual (defScope st) L f (.ref cda) [("__class__", cc)]) = false)
    (hsw : ∀ cda cc L, swapsWith (.Call (.Attribute (.Call (.Name "super" p0) [] [] p1) "__init__" p2) [.JoinedStr (v1 :: v2 :: vr) p5] [] p3) none p4.line (envX qual (defScope st) L f (.ref cda) [("__class__", cc)]) = pure false)
    (hs1 : ∀ cda cc L, swapsWith (.Name f1 q3) (some (.Attribute (.Name "self" q1) f1 q2)) q4.line (envX qual (defScope st) L f (.ref cda) [("__class__", cc)]) = pure false)
    (hs2 : ∀ cda cc L, swapsWith (.Name f2 r3) (some (.Attribute (.Name "self" r1) f2 r2)) r4.line (envX qual (defScope st) L f (.ref cda) [("__class__", cc)]) = pure false) (hd1 : (f1 == ("__debug__" : Str)) = false) (hd2 : (f1 == ("__classdict__" : Str)) = false) (hd3 : (f2 == ("__debug__" : Str)) = false) (hd4 : (f2 == ("__classdict__" : Str)) = false)
    (hparts : ∀ (cda cc : Addr) (A : Around) (outer : List Env) (s : Shared) (H : Hp) (E : XK), Room k (A.deeper (envX qual (defScope st) s.heap.objs.size f (.ref cda) [("__class__", cc)])) → ∃ ts, PJ (cxSup CX P w K mg base ["self", f1, f2] qual (defScope st) f cc (.ref cda) A outer s H E) (v1 :: v2 :: vr) ts ∧ ts.length ≤ 400 ∧
      ∀ σ : St, (∃ i : Int, σ[1]? = some (some (.int i))) → (∃ i : Int, σ[2]? = some (some (.int i))) → ∀ t ∈ ts, PartJ σ t) : FnOk P w K mg base CX (k + 1) f fd ["self", f1, f2] (spErr C 2 fun is => ([f1, f2].zip is).reverse) := by
  obtain ⟨oc, od, kV, doc, pm, an, cda, ct, osl, cc, cl, cld, csl, ccl, cdd, ccs, vsc, file, tf, rfl, lk, hcd, hcell, hcode, hvs, hfile⟩ := F.ex
  obtain ⟨cdD, hD⟩ := Option.isSome_iff_exists.mp (show (clsIn K D).isSome = true from F.cD)
  rw [eb] at lk ⊢
  exact err2 lk hcd S hcell hcode hvs hfile hD hp har hks hkc F.top F.ms F.op SC hno hno2 (S.par "self" (by simp)) (S.par f1 (by simp)) (S.par f2 (by simp)) (he cda cc) (hi cda cc) (hsw cda cc) (hs1 cda cc) (hs2 cda cc) hd1 hd2 hd3 hd4 (hparts cda cc)
/-- a piece that is one int's text -/
abbrev FvOk (X : Cx) (i : Nat) (e : Expr) : Prop := ∃ t, PE X e t ∧ ∀ σ : St, (∃ j : Int, σ[i]? = some (some (.int j))) → PartJ σ t
theorem parts2 {X : Cx} {m : Str} {j : Nat} {e : Expr} {p p' : Pos} (hm : m.length ≤ 200) (h : FvOk X 1 e) : ∃ ts, PJ X [.Constant (.str m) j p, .FormattedValue e (-1) none p'] ts ∧ ts.length ≤ 400 ∧ ∀ σ : St, (∃ i : Int, σ[1]? = some (some (.int i))) → ∀ t ∈ ts, PartJ σ t := by
  obtain ⟨t, h1, h2⟩ := h
  refine ⟨_, .cons pe_str (.cons (pe_fmt h1) .nil), by simp, fun σ hi u hu => ?_⟩
  rcases List.mem_cons.mp hu with rfl | hu
  · exact part_str hm
  · rcases List.mem_cons.mp hu with rfl | hu
    · exact part_fmt (h2 σ hi)
    · cases hu
theorem parts3 {X : Cx} {m m2 : Str} {j j2 : Nat} {e : Expr} {p p' p2 : Pos} (hm : m.length ≤ 200) (h : FvOk X 1 e) (hm2 : m2.length ≤ 200) : ∃ ts, PJ X [.Constant (.str m) j p, .FormattedValue e (-1) none p', .Constant (.str m2) j2 p2] ts ∧ ts.length ≤ 400 ∧ ∀ σ : St, (∃ i : Int, σ[1]? = some (some (.int i))) → ∀ t ∈ ts, PartJ σ t := by
  obtain ⟨t, h1, h2⟩ := h
  refine ⟨_, .cons pe_str (.cons (pe_fmt h1) (.cons pe_str .nil)), by simp, fun σ hi u hu => ?_⟩
  rcases List.mem_cons.mp hu with rfl | hu
  · exact part_str hm
  · rcases List.mem_cons.mp hu with rfl | hu
    · exact part_fmt (h2 σ hi)
    · rcases List.mem_cons.mp hu with rfl | hu
      · exact part_str hm2
      · cases hu
theorem parts4 {X : Cx} {m m2 : Str} {j j2 : Nat} {e e2 : Expr} {p p' p2 p2' : Pos} (hm : m.length ≤ 200) (h : FvOk X 1 e) (hm2 : m2.length ≤ 200) (h' : FvOk X 2 e2) : ∃ ts, PJ X [.Constant (.str m) j p, .FormattedValue e (-1) none p', .Constant (.str m2) j2 p2, .FormattedValue e2 (-1) none p2'] ts ∧ ts.length ≤ 400 ∧
    ∀ σ : St, (∃ i : Int, σ[1]? = some (some (.int i))) → (∃ i : Int, σ[2]? = some (some (.int i))) → ∀ t ∈ ts, PartJ σ t := by
  obtain ⟨t, h1, h2⟩ := h
  obtain ⟨t', h1', h2'⟩ := h'
  refine ⟨_, .cons pe_str (.cons (pe_fmt h1) (.cons pe_str (.cons (pe_fmt h1') .nil))), by simp, fun σ hi hi2 u hu => ?_⟩
  rcases List.mem_cons.mp hu with rfl | hu
  · exact part_str hm
  · rcases List.mem_cons.mp hu with rfl | hu
    · exact part_fmt (h2 σ hi)
    · rcases List.mem_cons.mp hu with rfl | hu
      · exact part_str hm2
      · rcases List.mem_cons.mp hu with rfl | hu
        · exact part_fmt (h2' σ hi2)
        · cases hu
end
/-- what an own error class over ValueError must have -/
theorem oex_mk {K : Frag} {C : Addr} {nm q : Str} {N : Addr} {bs bm : List Value} {sn : List Str} {sub : List Value} {ab : Bool} {col : Option Bool} {dd : Option Addr} {k0 k1 k2 k3 k5 : Option Value} (l : K.lookup C = some (excClassObj nm q C N bs bm true sn sub ab col dd k0 k1 k2 k3 k5 "ValueError.__new__")) (hb : PySem.HandSPX.refsVE bm = true)
    (sa : findIn K (.ref C) "__setattr__" = some (some (.builtin "object.__setattr__"))) (ex : subIn K (.ref C) (.type "BaseException") = some true) (ty : typeIn K (.ref C) = some (.type "type")) (kC : keepIn K (.ref C) = true) : OexC K C :=
  ⟨⟨nm, q, N, bs, bm, sn, sub, ab, col, dd, k0, k1, k2, k3, k5, l, hb⟩, sa, ex, ty, kC⟩
theorem exm_sub {K : Frag} {C : Addr} {cls : Value} {b : Bool} (h1 : subIn K (.ref C) (.type "BaseException") = some true) (hdct : hasDictIn K C = true) (ht : typeIn K (.ref C) = some (.type "type")) (h4 : subIn K cls (.ref C) = some b) : exmOne K cls (.ref C) = some b := exm_ref h1 hdct ht h4
end L2
namespace J
open PySem PySem.Spec L2 PyProof.Rows ClX RZ
theorem num1 {c : Nat} {en : Nat → Int → Int → List (Str × V)} {f1 : Str} (h : ∀ i, en c i 0 = [(f1, .int i)]) : ∀ (t : Int × Unit) (H : Hp) (vs : List V), (aC tI aN).rel H vs t → ∃ is : List Int, vs = is.map V.int ∧ is.length = 1 ∧ (fun is : List V => [f1].zip is) (is.map V.int) = en c t.1 0 := fun t H vs ⟨v, r, e, r1, e2⟩ =>
  ⟨[t.1], by rw [e, (e2 : r = []), (r1 : v = _)]; rfl, rfl, by rw [h]; rfl⟩
theorem num2 {c : Nat} {en : Nat → Int → Int → List (Str × V)} {f1 f2 : Str} (h : ∀ i j, en c i j = [(f2, .int j), (f1, .int i)]) : ∀ (t : Int × Int × Unit) (H : Hp) (vs : List V), (aC tI (aC tI aN)).rel H vs t → ∃ is : List Int, vs = is.map V.int ∧ is.length = 2 ∧ (fun is : List V => ([f1, f2].zip is).reverse) (is.map V.int) = en c t.1 t.2.1 := fun t H vs ⟨v, r, e, r1, v2, r', e', r2, e2⟩ =>
  ⟨[t.1, t.2.1], by rw [e, e', (e2 : r' = []), (r1 : v = _), (r2 : v2 = _)]; rfl, rfl, by rw [h]; rfl⟩
section
variable {X : Cx} {F : Fr} {g : Gm} {α β γ ρ τ κ : Type} {C f : Addr} {n : Nat} {fd : FuncData} {ps ns : List Str} {U : ATy κ} {W : WX} {N : EK} {a b : Expr} {pos : Pos} {er : Nat → Addr} {en : Nat → Int → Int → List (Str × V)}
theorem je_binOF {op : Operator} {ns' : List Str} {C' : Addr} {κ' : Type} {U' : ATy κ'} {w : κ × κ × Unit → (κ' → Prop) → EK → Prop} {wa wb : (κ → Prop) → Prop} (tk : Takes X W) (hW : WishF er en F g N W) (ha : JE X F g a (rO (tC C ns U)) wa) (hb' : JE X F g b (rO (tC C ns U)) wb) (hm : Meth X.K C (PySem.dunder op.info.2) f) (hs : PySem.W.selfFirst X.K C = true)
    (Fn : FnOk X.prog X.w X.K X.mg X.base (L2.CX X.prog X.w) n f fd ps (spJF (aC (tC C ns U) (aC (tC C ns U) aN)) (rO (tC C' ns' U')) er en w)) (hr : Room n X.A) (hb : Binds X.K fd ps []) : JE X F g (.BinOp a op b pos) (rO (tC C' ns' U')) (fun k => wa fun x => wb fun y => w (x, y, ()) k N) :=
  peW (pe_binOS (E := WE W) hm hs Fn hr hb (fun σ => passAt tk σ) ha hb') fun σ H Q ⟨k, P, w, q⟩ => ⟨k, _, w, fun x v H1 w1 s1 r1 => ⟨k.step s1, _, w1, fun y u H2 w2 s2 r2 => by
    have k2 := k.step (s1.trans s2)
    have r1' := (tC C ns U).same (Gm.mono s2) r1
    obtain ⟨o, dx, vs, e1, g1, l1, u1⟩ := id r1'
    obtain ⟨o2, dy, us, e2, g2, l2, u2⟩ := id r2
    exact ⟨o, dx, _, o2, dy, _, e1, k2.le _ _ g1, e2, k2.le _ _ g2, (x, y, ()), P, N, k2.fr, rfl, ⟨.ref o, [.ref o2], rfl, by rw [← e1]; exact r1', .ref o2, [], rfl, by rw [← e2]; exact r2, rfl⟩, w2, (fun r v' H' pr s rr =>
      ⟨nni_ref rr, q r v' H' pr ((s1.trans s2).trans s) ((rO (tC C' ns' U')).same (k2.back s) (Same.refl _) rr)⟩), fun c p qq nn d H' s z => hW σ H' (k2.step s) c p qq nn d z⟩⟩⟩
end
end J
/-! A24: defs that raise nothing, called within an except suite -/
namespace L2
open PySem PySem.Spec PyProof.Rows L2H
structure FnQ (P : Program) (w : World) (K : PySem.W.Frag) (mg : Str → Option Value) (base : Heap) (CX : CXT) (k : Nat) (f : Addr) (fd : FuncData) (ps : List Str) (sp : Sp) : Prop where
  len : ∀ vs H Q E, sp vs H Q E → vs.length = ps.length
  run : ∀ (A : Around) (outer : List Env) (s : Shared) (H : Hp) (args : Args) (us : List Value) (vs : List V) (Q : VK) (E : XK), RoomH k A → Env0 P w K mg base A outer s H → BindsTo s fd args (ps.zip us) → Vals vs us → sp vs H Q E →
    codeAny (model P w) A (.call (.ref f) args) (CR CX outer P w H s Q E) s
def cxQ (CX : CXT) (P : Program) (w : World) (K : PySem.W.Frag) (mg : Str → Option Value) (base : Heap) (N : List Str) (qual : Str) (scope : Scope) (f : Addr) (cd : Value) (A : Around) (outer : List Env) (s : Shared) (H : Hp) (E : XK) : Cx :=
  { cxOf CX P w K mg base N qual scope f cd A outer s H E with calm := false }
theorem inv_startQ {CX : CXT} {P : Program} {w : World} {K : PySem.W.Frag} {mg : Str → Option Value} {base : Heap} {N ps : List Str} {qual : Str} {scope : Scope} {f : Addr} {cd : Value} {A : Around} {outer : List Env} {s s1 : Shared} {H : Hp} {E : XK} {us : List Value} {vs : List V}
    (S : FnScope N ps scope) (e0 : Env0 P w K mg base A outer s H) (hl : vs.length = ps.length) (r : Vals vs us)
    (x : InCallC s s.heap.objs.size (bindL (envOfC qual scope s.heap.objs.size f cd).kindOf (ps.zip us) fun _ => none) (cellsFrom (s.heap.objs.size + 1) scope.names []) (bindC (envOfC qual scope s.heap.objs.size f cd).kindOf (ps.zip us) fun _ => none) s1) :
    Inv (cxQ CX P w K mg base N qual scope f cd A outer s H E) [] (L2.start N vs) H s1 := by
  have hpl : ps.length ≤ N.length := by have := congrArg List.length S.pre; rw [List.length_take] at this; omega
  obtain ⟨h1, tk, rfl, hk⟩ := x.done
  have noA : ∀ b : Addr, b ∉ (cxQ CX P w K mg base N qual scope f cd A outer s H E).ex := fun b z => absurd (show b ∈ ([] : List Addr) from z) (by simp)
  refine ⟨⟨e0.mod, S.kind, rfl, rfl, Nat.le_refl _, fun y z c h1 h2 => ?_, fun y hy => ?_, fun y c _ h => ?_, (fun z => Bool.noConfusion (show false = true from z)), Around.frames_deeper e0.frames, .inr ⟨rfl, rfl⟩, fun b z => absurd z (noA b), e0.bs, e0.bsz, fun b _ _ => noA b, fun b z => absurd z (noA b), e0.funs, e0.frf⟩,
    rfl, e0.bare, Un.kept hk, ⟨_, x.toInCall.ns, fun i y v h1 h2 h3 => ?_⟩, fun y c h => ⟨_, x.cell y c h⟩, e0.hok.fresh (Nat.le_refl _), fun y c h => ?_, fun p hp => absurd (show p ∈ ([] : List (Addr × Obj)) from hp) (by simp), e0.hok.kept hk, ?_⟩
  · exact name_of_addr x.apart (PySem.mem_of_lookup h1) (PySem.mem_of_lookup h2)
  · have hy : scope.names.lookup y = some .cell ∨ scope.names.lookup y = some .free := hy
    rcases hy with hy | hy
    · exact cell_has hy
    · exact absurd rfl (S.nofree _ (PySem.mem_of_lookup hy))
  · exact Nat.le_of_lt (x.above y c (PySem.mem_of_lookup h))
  · have hi : i < vs.length := by
      unfold L2.start at h2
      by_cases hi : i < vs.length
      · exact hi
      · rw [List.getElem?_append_right (by simpa using hi)] at h2
        rw [List.getElem?_replicate] at h2
        split at h2 <;> cases h2
    have ha : vs[i]? = some v := by
      unfold L2.start at h2
      rw [List.getElem?_append_left (by simpa using hi), List.getElem?_map] at h2
      cases e : vs[i]? with
      | none => rw [e] at h2; cases h2
      | some a => rw [e] at h2; cases h2; rfl
    obtain ⟨u, hu, rv⟩ := r.get ha
    have hp : ps[i]? = some y := by
      rw [← S.pre, List.getElem?_take_of_lt (by omega)]; exact h1
    have ndP : ps.Nodup := by rw [← S.pre]; exact S.nd.sublist (List.take_sublist _ _)
    refine ⟨u, rv, ?_⟩
    rcases S.par y (List.mem_of_getElem? hp) with k | k
    · exact .inl ⟨k, bindL_get ndP hp hu k⟩
    · obtain ⟨c, e⟩ := cell_has (n := s.heap.objs.size + 1) k
      refine .inr ⟨.inl k, c, e, ?_⟩
      have q := x.cell y c e
      rw [bindC_get ndP hp hu (by show scope.names.lookup y ≠ _; rw [k]; decide)] at q
      exact q
  · exact e0.hok.fresh (Nat.le_of_lt (x.above y c (PySem.mem_of_lookup h)))
  · unfold L2.start
    show _ = N.length
    rw [List.length_append, List.length_map, List.length_replicate]
    omega
theorem fn_ofQ {CX : CXT} {P : Program} {w : World} {K : PySem.W.Frag} {mg : Str → Option Value} {base : Heap} {k : Nat} {f : Addr} {name qual : Str} {params : Arguments} {body : List Stmt} {scope : Scope} {dV kV doc pm cdv ct oc : Value} {an od : Option Addr}
    {osl : Array (Option Value)} {N ps : List Str} {sp : Sp} (lk : K.lookup f = some ⟨oc, od, .func (PySem.W.fnOf name qual params body scope dV kV doc pm an cdv ct), osl⟩) (hcd : PySem.W.codeIn K cdv qual = true) (S : FnScope N ps scope)
    (len : ∀ vs H Q E, sp vs H Q E → vs.length = ps.length)
    (hbody : ∀ (A : Around) (outer : List Env) (s : Shared) (H : Hp) (vs : List V) (Q : VK) (E : XK), RoomH k (A.deeper (envOfC qual scope s.heap.objs.size f cdv)) → sp vs H Q E →
      ∃ t, PSs (cxQ CX P w K mg base N qual scope f cdv A outer s H E) body t ∧ t { nx := fun _ H' => Q .non H', rt := Q } (L2.start N vs) H) :
    FnQ P w K mg base CX (k + 1) f (PySem.W.fnOf name qual params body scope dV kV doc pm an cdv ct) ps sp := by
  refine ⟨len, fun A outer s H args us vs Q E hr e0 hb r hsp => ?_⟩
  have hl := len _ _ _ _ hsp
  have KX : K.In s.heap := e0.mod.kin.keeps fun b o e => (e0.bs b o e).1
  have lim : s.heap.NoLimit := e0.mod.nolimit.keeps fun b o e => (e0.bs b o e).1
  have hkind : ∀ y ∈ ps.zip us, scope.names.lookup y.1 = some .local ∨ (scope.names.lookup y.1 = some .cell ∧ ((cellsFrom (s.heap.objs.size + 1) scope.names []).lookup y.1).isSome = true) := fun ⟨n, v⟩ hy => by
    rcases S.par n (List.of_mem_zip hy).1 with q | q
    · exact .inl q
    · exact .inr ⟨q, PySem.W.cellsFrom_some _ _ _ (.inl q)⟩
  refine codeAny_call_function hr.depth (KX _ _ lk) rfl S.co S.gen rfl (PySem.W.codeRec_of KX hcd) (hb _ _ _ _ ?_)
  refine wpAny_newFunctionEnv_cells S.kind hkind fun env he s1 x => ?_
  subst he
  refine ⟨lim.keeps x.toInCall.keep, codeAny_func ?_⟩
  obtain ⟨t, ht, hq⟩ := hbody A outer s H vs Q E (hr.deeper _) hsp
  have I : Inv (cxQ CX P w K mg base N qual scope f cdv A outer s H E) [] (L2.start N vs) H s1 := inv_startQ S e0 hl r x
  refine wpAny_mono (ht.run [] s1 (L2.start N vs) H _ I hq) (fun fl s' hs => ?_) fun e s' hs => hs
  have fin : ∀ {σ' : L2.St} {H' : Hp} {v : V} {u : Value}, Inv (cxQ CX P w K mg base N qual scope f cdv A outer s H E) [] σ' H' s' → RelV v u → Q v H' → CE outer P w H s Q u s' :=
    fun {σ' H' v u} J rv q => ⟨v, H', J.os, J.bare, J.base, J.hok, rv, q⟩
  cases fl with
  | ret u =>
    obtain ⟨v, σ', H', J, rv, q⟩ := hs
    exact fin J rv q
  | next =>
    obtain ⟨σ', H', J, q⟩ := hs
    exact fin (v := V.non) (u := Value.none) J rfl q
  | brk =>
    obtain ⟨_, _, _, q⟩ := hs
    exact False.elim q
  | cont =>
    obtain ⟨_, _, _, q⟩ := hs
    exact False.elim q
section
variable {P : Program} {w : World} {K : PySem.W.Frag} {mg : Str → Option Value} {base : Heap}
theorem Fun.okQ {x qual : Str} {st : Stmt} {f : Addr} {fd : FuncData} {N ps : List Str} {k : Nat} {sp : Sp} (F : Fun K x qual st f fd) (S : FnScope N ps (defScope st)) (len : ∀ vs H Q E, sp vs H Q E → vs.length = ps.length)
    (hbody : ∀ (cdv : Value) (A : Around) (outer : List Env) (s : Shared) (H : Hp) (vs : List V) (Q : VK) (E : XK), RoomH k (A.deeper (envOfC qual (defScope st) s.heap.objs.size f cdv)) → sp vs H Q E →
      ∃ t, PSs (cxQ CX0 P w K mg base N qual (defScope st) f cdv A outer s H E).nox (defBody st) t ∧ t { nx := fun _ H' => Q .non H', rt := Q } (start N vs) H) : FnQ P w K mg base CX0 (k + 1) f fd ps sp := by
  obtain ⟨oc, od, kV, doc, pm, an, cdv, ct, osl, rfl, lk, hcd⟩ := F.ex
  refine fn_ofQ lk hcd S len fun A outer s H vs Q E hr hsp => ?_
  obtain ⟨t, h, q⟩ := hbody cdv A outer s H vs Q E hr hsp
  exact ⟨t, h.nox, q⟩
end
theorem _root_.L2H.RoomH.unitsQ {k : Nat} {A : Around} (r : RoomH k A) : A.units + 64 < cLine := by have := r.un; omega
theorem roomH_mark {k : Nat} {A : Around} {v : Option Value} (r : Room k A) : RoomH k (A.mark v) := ⟨r.dp, r.un⟩
section
variable {X : Cx} {CX : CXT} {k : Nat} {f C : Addr} {fd : FuncData} {ps : List Str} {sp : Sp} {E : XK} {x m : Str} {q pos apos : Pos} {e o : Expr} {es : List Expr} {ta : TE} {t : TA}
theorem run_fnQ {pins : List (Addr × Obj)} {σ : L2.St} {H : Hp} {s : Shared} {Q : VK} {us : List Value} {vs : List V} (F : FnQ X.prog X.w X.K X.mg X.base CX k f fd ps sp) (hr : RoomH k X.A) (hb : Binds X.K fd ps []) (hx : Passes CX X E)
    (I : Inv X pins σ H s) (r : Vals vs us) (h : sp vs H Q E) : wpAny (model X.prog X.w) X.A (call (.ref f) us) (EP X pins σ Q) X.xe s := by
  have hl : us.length = ps.length := by rw [← r.length]; exact F.len _ _ _ _ h
  have b := hb s us I.kIn (by rw [List.append_nil]; exact hl)
  rw [List.append_nil] at b
  refine wpAny_call (codeAny_mono (F.run X.A X.stack s H ⟨us, []⟩ us vs Q E hr I.env0 b r h) fun r s' hq => ?_)
  cases r with
  | error e => exact hx pins σ H s e s' I hq
  | ok fl =>
    cases fl with
    | ret u => exact I.after hq
    | next => exact False.elim hq
    | brk => exact False.elim hq
    | cont => exact False.elim hq
theorem pe_callQ (F : FnQ X.prog X.w X.K X.mg X.base CX k f fd ps sp) (hr : RoomH k X.A) (hg : Gl X x) (hm : X.mg x = some (.ref f)) (hk : PySem.W.keepIn X.K (.ref f) = true) (hb : Binds X.K fd ps []) (hx : Passes CX X E)
    (ha : PA X (e :: es) t) (hdb : (x == ("__debug__" : Str)) = false := by decide) (he : starEach (e :: es) X.env = (false, eval e X.env) :: starEach es X.env := by rfl) (hpl : (backTo pos (starEach es X.env)).any (·.1) = false := by rfl) :
    PE X (.Call (.Name x q) (e :: es) [] pos) (tCall sp [] E t) := by
  refine ⟨fun pins s σ H Q I h => ?_⟩
  refine wpAny_Call_Name_kw (ld_glob I hg hm ?_ hdb)
  refine PySem.W.callWith_K (h₀ := X.base) I.ok.mod.kin hk (thn (ha.run pos pins s σ H _ I h) fun us s1 ⟨vs, H1, I1, r, q⟩ => ⟨I1.kIn, ?_⟩) he hpl
  have q' : sp (vs ++ []) H1 Q E := q
  rw [List.append_nil] at q'
  exact run_fnQ F hr hb hx I1 r q'
end
end L2
namespace J
open PySem PySem.Spec L2 PyProof.Rows ClX RZ
section
variable {X : Cx} {F : Fr} {g : Gm} {α β γ ρ τ κ : Type}
theorem je_callQ {f : Addr} {fd : FuncData} {ps : List Str} {T : ATy τ} {R : Res ρ} {w : τ → (ρ → Prop) → Prop} {n : Nat} {x : Str} {e : Expr} {es : List Expr} {p pos : Pos} {wa : (τ → Prop) → Prop}
    (Fn : FnQ X.prog X.w X.K X.mg X.base CX0 n f fd ps (spJ T R w)) (hr : L2H.RoomH n X.A) (hg : Gl X x) (hm : X.mg x = some (.ref f)) (hk : PySem.W.keepIn X.K (.ref f) = true) (hb : Binds X.K fd ps [])
    (ha : JA X F g (e :: es) T wa) (hdb : (x == ("__debug__" : Str)) = false := by decide) (he : starEach (e :: es) X.env = (false, eval e X.env) :: starEach es X.env := by rfl) (hpl : (backTo pos (starEach es X.env)).any (·.1) = false := by rfl) :
    JE X F g (.Call (.Name x p) (e :: es) [] pos) R (fun k => wa fun t => w t k) :=
  peW (pe_callQ Fn hr hg hm hk hb pass0 ha hdb he hpl) fun σ H Q ⟨k, P, w, q⟩ => ⟨k, _, w, fun t vs H1 w1 s1 r1 => ⟨t, P, (k.step s1).fr, rfl, by rw [List.append_nil]; exact r1, w1, fun r v H2 p s2 r2 => q r v H2 p (s1.trans s2) (R.pre s1 (R.same ((k.step s1).back s2) (Same.refl _) r2))⟩⟩
end
end J
/-! A25: keyword-only parameters that are left out -/
namespace L2
open PySem PySem.Spec PyProof.Rows
/-- as FunD.ok, for a def that lets nothing out -/
theorem FunD.ok0 {P : Program} {w : World} {K : PySem.W.Frag} {mg : Str → Option Value} {base : Heap} {x qual : Str} {params : Arguments} {body : List Stmt} {scope : Scope} {dvs : List V} {kws : List (Str × V)} {f : Addr} {fd : FuncData} {N ps : List Str} {k : Nat} {sp : Sp}
    (F : FunD K x qual params body scope dvs kws f fd) (S : FnScope N ps scope) (len : ∀ vs H Q E, sp vs H Q E → vs.length = ps.length)
    (hbody : ∀ (cdv : Value) (A : Around) (outer : List Env) (s : Shared) (H : Hp) (vs : List V) (Q : VK) (E : XK), Room k (A.deeper (envOfC qual scope s.heap.objs.size f cdv)) → sp vs H Q E →
      ∃ t, PSs (cxOf CX0 P w K mg base N qual scope f cdv A outer s H E).nox body t ∧ t { nx := fun _ H' => Q .non H', rt := Q } (start N vs) H) : FnOk P w K mg base CX0 (k + 1) f fd ps sp := by
  obtain ⟨oc, od, dV, kV, doc, pm, an, cdv, ct, osl, rfl, lk, hcd, _, _⟩ := F.ex
  refine fn_of lk hcd S len fun A outer s H vs Q E hr hsp => ?_
  obtain ⟨t, h, q⟩ := hbody cdv A outer s H vs Q E hr hsp
  exact ⟨t, h.nox, q⟩
/-- one keyword-only parameter, its default None -/
theorem funD_none {K : PySem.W.Frag} {x qual kn : Str} {st : Stmt} {f D : Addr} {oc : Value} {od an : Option Addr} {osl : Array (Option Value)} {doc pm cdv ct : Value} (l : K.lookup f = some ⟨oc, od, .func (PySem.W.fnOf x qual (defArgs st) (defBody st) (defScope st) .none (.ref D) doc pm an cdv ct), osl⟩)
    (c : PySem.W.codeIn K cdv qual = true) (k : PySem.W.keepIn K (.ref f) = true) (hd : PySem.W.nsIn K D kn = some (some .none)) : FunD K x qual (defArgs st) (defBody st) (defScope st) [] [(kn, .non)] f (PySem.W.fnOf x qual (defArgs st) (defBody st) (defScope st) .none (.ref D) doc pm an cdv ct) :=
  ⟨⟨oc, od, .none, .ref D, doc, pm, an, cdv, ct, osl, rfl, l, c, .inl ⟨rfl, rfl⟩, .inr ⟨D, rfl, fun q hq => by
    cases List.mem_singleton.mp hq
    exact ⟨.none, hd, rfl⟩⟩⟩, k⟩
end L2
namespace J
open PySem PySem.Spec L2 PyProof.Rows ClX RZ
section
variable {X : Cx} {F : Fr} {g : Gm} {α β γ ρ τ σ' κ : Type}
/-- f(e, ..) where the keyword-only parameters are left out -/
theorem je_callD {dvs : List V} {f : Addr} {fd : FuncData} {ps : List Str} {T : ATy τ} {T' : ATy σ'} {ext : σ' → τ} {R : Res ρ} {w : τ → (ρ → Prop) → Prop} {n : Nat} {x : Str} {e : Expr} {es : List Expr} {p pos : Pos} {wa : (σ' → Prop) → Prop}
    (Fn : FnOk X.prog X.w X.K X.mg X.base CX0 n f fd ps (spJ T R w)) (hr : Room n X.A) (hg : Gl X x) (hm : X.mg x = some (.ref f)) (hk : PySem.W.keepIn X.K (.ref f) = true) (hb : ∃ ds, Vals dvs ds ∧ Binds X.K fd ps ds) (hD : ∀ H vs t, T'.rel H vs t → T.rel H (vs ++ dvs) (ext t))
    (ha : JA X F g (e :: es) T' wa) (hdb : (x == ("__debug__" : Str)) = false := by decide) (he : starEach (e :: es) X.env = (false, eval e X.env) :: starEach es X.env := by rfl) (hpl : (backTo pos (starEach es X.env)).any (·.1) = false := by rfl) :
    JE X F g (.Call (.Name x p) (e :: es) [] pos) R (fun k => wa fun t => w (ext t) k) := by
  obtain ⟨ds, hd, hb⟩ := hb
  exact peW (pe_call Fn hr hg hm hk hb hd pass0 ha hdb he hpl) fun σ H Q ⟨k, P, w, q⟩ => ⟨k, _, w, fun t vs H1 w1 s1 r1 => ⟨ext t, P, (k.step s1).fr, rfl, hD _ _ _ r1, w1, fun r v H2 p s2 r2 => q r v H2 p (s1.trans s2) (R.pre s1 (R.same ((k.step s1).back s2) (Same.refl _) r2))⟩⟩
/-- None, seen as a number that may be None -/
theorem je_N2O {e : Expr} {w : (Unit → Prop) → Prop} (h : JE X F g e (rO tN) w) : JE X F g e (rO (tO tI)) (fun k => w fun _ => k none) :=
  peW h fun σ H Q ⟨k, P, w, q⟩ => ⟨k, _, w, fun _ v H1 w1 s1 r => q none v H1 w1 s1 r⟩
end
end J
/-! A26: trees of tuples -/
namespace J
open PySem PySem.Spec L2
section
variable {X : Cx} {F : Fr} {g : Gm} {α β γ ρ τ : Type} {K : PySem.W.Frag}
def trR (K : PySem.W.Frag) (H : Hp) : Tr → V → Prop
  | .thr a b, v => ∃ p, v = .ref p ∧ SqT K H p [.str ("through" : Str), .int a, .int b]
  | .rng k, v => ∃ p, v = .ref p ∧ SqT K H p [.str ("rings" : Str), .int k]
  | .rnd k, v => ∃ p, v = .ref p ∧ SqT K H p [.str ("rounds" : Str), .int k]
  | .no t, v => ∃ p u, v = .ref p ∧ SqT K H p [.str ("not" : Str), u] ∧ trR K H t u
  | .two c l r, v => ∃ p u1 u2, v = .ref p ∧ SqT K H p [.str (Tr.tag (.two c l r)), u1, u2] ∧ trR K H l u1 ∧ trR K H r u2
theorem trR.imm {H H' : Hp} (s : Imm H H') : ∀ {t : Tr} {v : V}, trR K H t v → trR K H' t v
  | .thr a b, v, ⟨p, e, h⟩ => ⟨p, e, s.sqT h⟩
  | .rng k, v, ⟨p, e, h⟩ => ⟨p, e, s.sqT h⟩
  | .rnd k, v, ⟨p, e, h⟩ => ⟨p, e, s.sqT h⟩
  | .no t, v, ⟨p, u, e, h, r⟩ => ⟨p, u, e, s.sqT h, trR.imm s r⟩
  | .two c l r, v, ⟨p, u1, u2, e, h, r1, r2⟩ => ⟨p, u1, u2, e, s.sqT h, trR.imm s r1, trR.imm s r2⟩
def t_Tr (K : PySem.W.Frag) : Ty Tr := ⟨fun H v t => trR K H t v, fun s h => trR.imm (Imm.of s) h⟩
instance : Im (t_Tr K) := ⟨fun s h => trR.imm s h⟩
/-- as a tuple -/
theorem trR.seq {H : Hp} : ∀ {t : Tr} {v : V}, trR K H t v → ∃ p vs, v = .ref p ∧ SqT K H p vs ∧ vs.length = t.len ∧ vs[0]? = some (.str t.tag) ∧
    (∀ i a, t.num i = some a → ∃ m : Nat, i = (m : Int) ∧ vs[m]? = some (.int a)) ∧ (∀ i s, t.sub i = some s → ∃ m : Nat, ∃ u, i = (m : Int) ∧ vs[m]? = some u ∧ trR K H s u) ∧
    (∀ ts, t.parts = some ts → Paired (fun u s => trR K H s u) (vs.drop 1) ts)
  | .thr a b, v, ⟨p, e, h⟩ => by
    refine ⟨p, _, e, h, rfl, rfl, fun i x z => ?_, fun i x z => (nomatch z), fun ts z => (nomatch z)⟩
    simp only [Tr.num] at z
    by_cases h1 : i = 1
    · rw [if_pos h1] at z
      exact ⟨1, h1, by rw [← Option.some.inj z]; rfl⟩
    · rw [if_neg h1] at z
      by_cases h2 : i = 2
      · rw [if_pos h2] at z
        exact ⟨2, h2, by rw [← Option.some.inj z]; rfl⟩
      · rw [if_neg h2] at z
        cases z
  | .rng k, v, ⟨p, e, h⟩ => by
    refine ⟨p, _, e, h, rfl, rfl, fun i x z => ?_, fun i x z => (nomatch z), fun ts z => (nomatch z)⟩
    simp only [Tr.num] at z
    by_cases h1 : i = 1
    · rw [if_pos h1] at z
      exact ⟨1, h1, by rw [← Option.some.inj z]; rfl⟩
    · rw [if_neg h1] at z
      cases z
  | .rnd k, v, ⟨p, e, h⟩ => by
    refine ⟨p, _, e, h, rfl, rfl, fun i x z => ?_, fun i x z => (nomatch z), fun ts z => (nomatch z)⟩
    simp only [Tr.num] at z
    by_cases h1 : i = 1
    · rw [if_pos h1] at z
      exact ⟨1, h1, by rw [← Option.some.inj z]; rfl⟩
    · rw [if_neg h1] at z
      cases z
  | .no t, v, ⟨p, u, e, h, r⟩ => by
    refine ⟨p, _, e, h, rfl, rfl, fun i x z => (nomatch z), fun i x z => ?_, fun ts z => ?_⟩
    · simp only [Tr.sub] at z
      by_cases h1 : i = 1
      · rw [if_pos h1] at z
        exact ⟨1, u, h1, rfl, by rw [← Option.some.inj z]; exact r⟩
      · rw [if_neg h1] at z
        cases z
    · have z' := Option.some.inj z
      subst z'
      exact .cons r .nil
  | .two c l r, v, ⟨p, u1, u2, e, h, r1, r2⟩ => by
    refine ⟨p, _, e, h, by cases c <;> rfl, rfl, fun i x z => (nomatch z), fun i x z => ?_, fun ts z => ?_⟩
    · simp only [Tr.sub] at z
      by_cases h1 : i = 1
      · rw [if_pos h1] at z
        exact ⟨1, u1, h1, rfl, by rw [← Option.some.inj z]; exact r1⟩
      · rw [if_neg h1] at z
        by_cases h2 : i = 2
        · rw [if_pos h2] at z
          exact ⟨2, u2, h2, rfl, by rw [← Option.some.inj z]; exact r2⟩
        · rw [if_neg h2] at z
          cases z
    · have z' := Option.some.inj z
      subst z'
      exact .cons r1 (.cons r2 .nil)
/-! ### readings -/
theorem je_trTag {a : Expr} {j : Nat} {p2 pos : Pos} {w : (Tr → Prop) → Prop} (ha : JE X F g a (rO (t_Tr X.K)) w) (hs : PlainIx (.Constant (.int 0) j p2) := by exact fun _ _ => rfl) :
    JE X F g (.Subscript a (.Constant (.int 0) j p2) pos) (rO tS) (fun k => w fun t => k t.tag) :=
  je_ixR (T := rO (tIc 0)) (C := fun t _ k => k (Tr.tag t)) ix_tup (fun _ t _ _ _ H v u P Q k h1 h2 p q => by
    obtain ⟨l, vs, e, hl, _, h0, _⟩ := trR.seq (h1 : trR X.K _ t v)
    exact ⟨l, vs, 0, _, e, h2, k.le.sqT' hl, atI_nat h0, q _ _ H p (Same.refl H) rfl⟩) ha je_lit hs
theorem je_trNum {a b : Expr} {pos : Pos} {w : (Tr → Prop) → Prop} {wb : (Int → Prop) → Prop} (ha : JE X F g a (rO (t_Tr X.K)) w) (hb : JE X F g b (rO tI) wb) (hs : PlainIx b := by exact fun _ _ => rfl) :
    JE X F g (.Subscript a b pos) (rO tI) (fun k => w fun t => wb fun i => ∃ n, t.num i = some n ∧ k n) :=
  je_ixR (C := fun t i k => ∃ n, Tr.num t i = some n ∧ k n) ix_tup (fun _ t i _ _ H v u P Q k h1 h2 ⟨n, hn, p⟩ q => by
    obtain ⟨l, vs, e, hl, _, _, hm, _⟩ := trR.seq (h1 : trR X.K _ t v)
    obtain ⟨m, em, gm⟩ := hm i n hn
    exact ⟨l, vs, i, _, e, h2, k.le.sqT' hl, by rw [em]; exact atI_nat gm, q _ _ H p (Same.refl H) rfl⟩) ha hb hs
theorem je_trSub {a b : Expr} {pos : Pos} {w : (Tr → Prop) → Prop} {wb : (Int → Prop) → Prop} (ha : JE X F g a (rO (t_Tr X.K)) w) (hb : JE X F g b (rO tI) wb) (hs : PlainIx b := by exact fun _ _ => rfl) :
    JE X F g (.Subscript a b pos) (rO (t_Tr X.K)) (fun k => w fun t => wb fun i => ∃ n, t.sub i = some n ∧ k n) :=
  je_ixR (C := fun t i k => ∃ n, Tr.sub t i = some n ∧ k n) ix_tup (fun _ t i _ _ H v u P Q k h1 h2 ⟨n, hn, p⟩ q => by
    obtain ⟨l, vs, e, hl, _, _, _, hm, _⟩ := trR.seq (h1 : trR X.K _ t v)
    obtain ⟨m, y, em, gm, ry⟩ := hm i n hn
    exact ⟨l, vs, i, _, e, h2, k.le.sqT' hl, by rw [em]; exact atI_nat gm, q _ _ H p (Same.refl H) ry⟩) ha hb hs
theorem je_trLen {e : Expr} {p pos : Pos} {w : (Tr → Prop) → Prop} (hg : Gl X "len") (hm : X.mg "len" = none) (ha : JE X F g e (rO (t_Tr X.K)) w) (he : starEach [e] X.env = (false, eval e X.env) :: starEach [] X.env := by rfl) (hpl : (backTo pos (starEach [] X.env)).any (·.1) = false := by rfl) :
    JE X F g (.Call (.Name "len" p) [e] [] pos) (rO tI) (fun k => w fun t => k (t.len : Int)) :=
  je_callB (T := aC (t_Tr X.K) aN) (C := fun t k => k (t.1.len : Int)) call_len_seq (fun _ t H vs P Q k ⟨v, r, e1, ht, e2⟩ c q => by
    obtain ⟨a, us, ev, hs, hl, _⟩ := trR.seq (ht : trR X.K _ t.1 v)
    exact ⟨a, us, by rw [e1, (e2 : r = []), ev], .inr hs, by rw [hl]; exact q _ _ H c (Same.refl H) rfl⟩) hg hm PySem.boot_len (jb_cons (je_b ha) jb_nil he) (by decide) (by decide) he hpl
theorem tyTr : TyOfA K (t_Tr K) "tuple" := fun H v a h => by
  obtain ⟨p, vs, e, hs, _⟩ := trR.seq (h : trR K H a v)
  exact tyT (T := ⟨fun _ _ _ => True, fun _ h => h⟩) H v () ⟨p, vs, e, hs, trivial⟩
/-! ### displays -/
theorem je_asO {A : Ty α} {B : Ty β} {f : α → Option β} {e : Expr} {w : (α → Prop) → Prop} (h : JE X F g e (rO A) w) (hf : ∀ H v a b, A.rel H v a → f a = some b → B.rel H v b) : JE X F g e (rO B) (fun k => w fun a => ∃ b, f a = some b ∧ k b) :=
  peW h fun σ H Q ⟨k, P, hw, q⟩ => ⟨k, _, hw, fun a v H' ⟨b, hb, p⟩ s r => q b v H' p s (hf _ _ _ _ r hb)⟩
theorem je_tr3 {e : Expr} {w : (Str × Int × Int → Prop) → Prop} (h : JE X F g e (rO (tT X.K (a3 tS tI tI))) w) : JE X F g e (rO (t_Tr X.K)) (fun k => w fun t => ∃ s, Tr.mk3 t.1 t.2.1 t.2.2 = some s ∧ k s) :=
  je_asO (f := fun (t : Str × Int × Int) => Tr.mk3 t.1 t.2.1 t.2.2) h fun H v t b ⟨a, vs, e, hs, x, y, z, e2, h1, h2, h3⟩ hb => by
    unfold Tr.mk3 at hb
    by_cases c : t.1 = ("through" : Str)
    · rw [if_pos c] at hb
      have hb' := Option.some.inj hb
      subst hb'
      have h1' : x = .str t.1 := h1
      have h2' : y = .int t.2.1 := h2
      have h3' : z = .int t.2.2 := h3
      exact ⟨a, e, by rw [e2, h1', h2', h3', c] at hs; exact hs⟩
    · rw [if_neg c] at hb
      cases hb
theorem je_tr2 {e : Expr} {w : (Str × Int → Prop) → Prop} (h : JE X F g e (rO (tT X.K (a2 tS tI))) w) : JE X F g e (rO (t_Tr X.K)) (fun k => w fun t => ∃ s, Tr.mk2 t.1 t.2 = some s ∧ k s) :=
  je_asO (f := fun (t : Str × Int) => Tr.mk2 t.1 t.2) h fun H v t b ⟨a, vs, e, hs, x, y, e2, h1, h2⟩ hb => by
    have h1' : x = .str t.1 := h1
    have h2' : y = .int t.2 := h2
    unfold Tr.mk2 at hb
    by_cases c : t.1 = ("rings" : Str)
    · rw [if_pos c] at hb
      have hb' := Option.some.inj hb
      subst hb'
      exact ⟨a, e, by rw [e2, h1', h2', c] at hs; exact hs⟩
    · rw [if_neg c] at hb
      by_cases c2 : t.1 = ("rounds" : Str)
      · rw [if_pos c2] at hb
        have hb' := Option.some.inj hb
        subst hb'
        exact ⟨a, e, by rw [e2, h1', h2', c2] at hs; exact hs⟩
      · rw [if_neg c2] at hb
        cases hb
theorem je_tr1 {e : Expr} {w : (Str × Tr → Prop) → Prop} (h : JE X F g e (rO (tT X.K (a2 tS (t_Tr X.K)))) w) : JE X F g e (rO (t_Tr X.K)) (fun k => w fun t => ∃ s, Tr.mk1 t.1 t.2 = some s ∧ k s) :=
  je_asO (f := fun (t : Str × Tr) => Tr.mk1 t.1 t.2) h fun H v t b ⟨a, vs, e, hs, x, y, e2, h1, h2⟩ hb => by
    have h1' : x = .str t.1 := h1
    unfold Tr.mk1 at hb
    by_cases c : t.1 = ("not" : Str)
    · rw [if_pos c] at hb
      have hb' := Option.some.inj hb
      subst hb'
      exact ⟨a, y, e, by rw [e2, h1', c] at hs; exact hs, h2⟩
    · rw [if_neg c] at hb
      cases hb
theorem je_trT {e : Expr} {w : (Str × Tr × Tr → Prop) → Prop} (h : JE X F g e (rO (tT X.K (a3 tS (t_Tr X.K) (t_Tr X.K)))) w) : JE X F g e (rO (t_Tr X.K)) (fun k => w fun t => ∃ s, Tr.mkT t.1 t.2.1 t.2.2 = some s ∧ k s) :=
  je_asO (f := fun (t : Str × Tr × Tr) => Tr.mkT t.1 t.2.1 t.2.2) h fun H v t b ⟨a, vs, e, hs, x, y, z, e2, h1, h2, h3⟩ hb => by
    have h1' : x = .str t.1 := h1
    unfold Tr.mkT at hb
    by_cases c : t.1 = ("and" : Str)
    · rw [if_pos c] at hb
      have hb' := Option.some.inj hb
      subst hb'
      exact ⟨a, y, z, e, by rw [e2, h1', c] at hs; exact hs, h2, h3⟩
    · rw [if_neg c] at hb
      by_cases c2 : t.1 = ("or" : Str)
      · rw [if_pos c2] at hb
        have hb' := Option.some.inj hb
        subst hb'
        exact ⟨a, y, z, e, by rw [e2, h1', c2] at hs; exact hs, h2, h3⟩
      · rw [if_neg c2] at hb
        cases hb
/-! ### compared -/
def trEnc : Tr → PyData
  | .thr a b => .tuple [.str ("through" : Str), .int a, .int b]
  | .rng k => .tuple [.str ("rings" : Str), .int k]
  | .rnd k => .tuple [.str ("rounds" : Str), .int k]
  | .no t => .tuple [.str ("not" : Str), trEnc t]
  | .two c l r => .tuple [.str (Tr.tag (.two c l r)), trEnc l, trEnc r]
theorem trDp {H : Hp} : ∀ {t : Tr} {v : V}, trR K H t v → Dp K H v (trEnc t)
  | .thr a b, v, ⟨p, e, h⟩ => by
    subst e
    exact .tup h (.cons (.str _) (.cons (.int _) (.cons (.int _) .nil)))
  | .rng k, v, ⟨p, e, h⟩ => by
    subst e
    exact .tup h (.cons (.str _) (.cons (.int _) .nil))
  | .rnd k, v, ⟨p, e, h⟩ => by
    subst e
    exact .tup h (.cons (.str _) (.cons (.int _) .nil))
  | .no t, v, ⟨p, u, e, h, r⟩ => by
    subst e
    exact .tup h (.cons (.str _) (.cons (trDp r) .nil))
  | .two c l r, v, ⟨p, u1, u2, e, h, r1, r2⟩ => by
    subst e
    exact .tup h (.cons (.str _) (.cons (trDp r1) (.cons (trDp r2) .nil)))
theorem trLay : ∀ t : Tr, (trEnc t).canLay0 = true
  | .thr a b => by
    have h : PyData.strOk ("through" : Str) = true := by decide +kernel
    simp [trEnc, PyData.canLay0, PyData.canLayAll0, h]
  | .rng k => by
    have h : PyData.strOk ("rings" : Str) = true := by decide +kernel
    simp [trEnc, PyData.canLay0, PyData.canLayAll0, h]
  | .rnd k => by
    have h : PyData.strOk ("rounds" : Str) = true := by decide +kernel
    simp [trEnc, PyData.canLay0, PyData.canLayAll0, h]
  | .no t => by
    have h : PyData.strOk ("not" : Str) = true := by decide +kernel
    simp [trEnc, PyData.canLay0, PyData.canLayAll0, h, trLay t]
  | .two c l r => by
    have h1 : PyData.strOk ("and" : Str) = true := by decide +kernel
    have h2 : PyData.strOk ("or" : Str) = true := by decide +kernel
    cases c <;> simp [trEnc, Tr.tag, PyData.canLay0, PyData.canLayAll0, h1, h2, trLay l, trLay r]
theorem trDepth : ∀ t : Tr, (trEnc t).depth ≤ t.ht
  | .thr a b => by simp [trEnc, PyData.depth, PyData.depthAll, Tr.ht]
  | .rng k => by simp [trEnc, PyData.depth, PyData.depthAll, Tr.ht]
  | .rnd k => by simp [trEnc, PyData.depth, PyData.depthAll, Tr.ht]
  | .no t => by
    have := trDepth t
    simp only [trEnc, PyData.depth, PyData.depthAll, Tr.ht]
    omega
  | .two c l r => by
    have := trDepth l
    have := trDepth r
    simp only [trEnc, PyData.depth, PyData.depthAll, Tr.ht]
    omega
theorem tag_ne : ∀ s t : Tr, s.tag ≠ t.tag → s ≠ t := fun s t h e => h (by rw [e])
theorem str_eqv {x y : Str} (h : x ≠ y) : PyData.eqv (.str x) (.str y) = false := by
  unfold PyData.eqv
  exact beq_false_of_ne h
theorem str_eqvR {x : Str} : PyData.eqv (.str x) (.str x) = true := by
  unfold PyData.eqv
  simp
def trRest : Tr → List PyData
  | .thr a b => [.int a, .int b]
  | .rng k => [.int k]
  | .rnd k => [.int k]
  | .no t => [trEnc t]
  | .two c l r => [trEnc l, trEnc r]
theorem trEnc_head (t : Tr) : trEnc t = .tuple (.str t.tag :: trRest t) := by
  cases t <;> rfl
theorem eqvH (x y : Str) (r q : List PyData) : PyData.eqv (.tuple (.str x :: r)) (.tuple (.str y :: q)) = (PyData.eqv (.str x) (.str y) && PyData.eqvAll r q) := by
  simp only [PyData.eqv, PyData.eqvAll]
def Tr.code : Tr → Nat
  | .thr _ _ => 0
  | .rng _ => 1
  | .rnd _ => 2
  | .no _ => 3
  | .two true _ _ => 4
  | .two false _ _ => 5
def codeS (i : Nat) : Str := match i with
  | 0 => ("through" : Str)
  | 1 => ("rings" : Str)
  | 2 => ("rounds" : Str)
  | 3 => ("not" : Str)
  | 4 => ("and" : Str)
  | _ => ("or" : Str)
theorem codeS_inj : ∀ i, i < 6 → ∀ j, j < 6 → codeS i = codeS j → i = j := by decide +kernel
theorem Tr.tag_code (t : Tr) : t.tag = codeS t.code ∧ t.code < 6 := by
  cases t with
  | two c l r => cases c <;> exact ⟨rfl, by simp [Tr.code]⟩
  | _ => exact ⟨rfl, by simp [Tr.code]⟩
theorem Tr.code_of {s t : Tr} (h : s.tag = t.tag) : s.code = t.code := by
  have h1 := Tr.tag_code s
  have h2 := Tr.tag_code t
  rw [h1.1, h2.1] at h
  exact codeS_inj _ h1.2 _ h2.2 h
theorem trE_step {l x : Tr} (ih : l.tag = x.tag → PyData.eqvAll (trRest l) (trRest x) = decide (l = x)) : PyData.eqv (trEnc l) (trEnc x) = decide (l = x) := by
  rw [trEnc_head, trEnc_head, eqvH]
  by_cases e0 : l.tag = x.tag
  · rw [ih e0, e0, str_eqvR]
    rfl
  · rw [str_eqv e0, decide_eq_false (fun q => e0 (by rw [q]))]
    rfl
theorem trRest_eqv : ∀ s t : Tr, s.code = t.code → PyData.eqvAll (trRest s) (trRest t) = decide (s = t)
  | .thr a b, t, h => by
    cases t with
    | thr c d =>
      simp only [trRest, PyData.eqv, PyData.eqvAll, Bool.beq_eq_decide_eq]
      by_cases e1 : a = c <;> by_cases e2 : b = d <;> simp [e1, e2]
    | two c l r => cases c <;> cases h
    | _ => cases h
  | .rng k, t, h => by
    cases t with
    | rng m =>
      simp only [trRest, PyData.eqv, PyData.eqvAll, Bool.beq_eq_decide_eq]
      by_cases e1 : k = m <;> simp [e1]
    | two c l r => cases c <;> cases h
    | _ => cases h
  | .rnd k, t, h => by
    cases t with
    | rnd m =>
      simp only [trRest, PyData.eqv, PyData.eqvAll, Bool.beq_eq_decide_eq]
      by_cases e1 : k = m <;> simp [e1]
    | two c l r => cases c <;> cases h
    | _ => cases h
  | .no u, t, h => by
    cases t with
    | no z =>
      have h1 := trE_step (l := u) (x := z) fun e => trRest_eqv u z (Tr.code_of e)
      simp only [trRest, PyData.eqvAll, h1]
      by_cases e1 : u = z <;> simp [e1]
    | two c l r => cases c <;> cases h
    | _ => cases h
  | .two c l r, t, h => by
    cases t with
    | two d x y =>
      have ec : c = d := by
        cases c <;> cases d <;> first | rfl | cases h
      subst ec
      have h1 := trE_step (l := l) (x := x) fun e => trRest_eqv l x (Tr.code_of e)
      have h2 := trE_step (l := r) (x := y) fun e => trRest_eqv r y (Tr.code_of e)
      simp only [trRest, PyData.eqvAll, h1, h2]
      by_cases e1 : l = x <;> by_cases e2 : r = y <;> simp [e1, e2]
    | _ => cases c <;> cases h
theorem trEqv (s t : Tr) : PyData.eqv (trEnc s) (trEnc t) = decide (s = t) := trE_step fun e => trRest_eqv s t (Tr.code_of e)
instance : Dat K (t_Tr K) where
  enc := trEnc
  dp := fun h => trDp h
  lay := fun t _ => trLay t
  n := 60
  dep := fun t h => Nat.le_trans (trDepth t) h
  eqv := trEqv
/-- all(xs) -/
theorem je_all {e : Expr} {p pos : Pos} {w : (List Bool → Prop) → Prop} (hc : X.calm = true) (hg : Gl X "all") (hm : X.mg "all" = none) (ha : JE X F g e (rB (tL X.K tB)) w) (he : starEach [e] X.env = (false, eval e X.env) :: starEach [] X.env := by rfl) (hpl : (backTo pos (starEach [] X.env)).any (·.1) = false := by rfl) :
    JE X F g (.Call (.Name "all" p) [e] [] pos) (rO tB) (fun k => w fun xs => k (xs.all id)) :=
  je_callB (T := aC (tL X.K tB) aN) (C := fun t k => k (t.1.all id)) (cr_all hc) (fun _ t H vs P Q k ⟨v, r, e1, ⟨a, us, ev, hs, hp⟩, e2⟩ c q => by
    have eu : us = t.1.map V.bl := by
      clear hs
      revert hp
      generalize t.1 = xs
      intro hp
      induction hp with
      | nil => rfl
      | cons x _ ih => rw [(x : _ = _), ih]; rfl
    exact ⟨a, t.1, by rw [e1, (e2 : r = []), ev], by rw [← eu]; exact hs, q _ _ H c (Same.refl H) rfl⟩) hg hm (by decide +kernel) (jb_cons ha jb_nil he) (by decide) (by decide) he hpl
end
end J
/-! A27: own ~, xs.append((.., xs.pop(), ..)) for trees -/
namespace J
open PySem PySem.Spec L2 PyProof.Rows ClX RZ
section
variable {X : Cx} {F : Fr} {g : Gm} {α β γ ρ τ κ : Type}
variable {CX : CXT} {k : Nat} {C f : Addr} {fd : FuncData} {ps : List Str} {sp : Sp} {E : XK} {a b : Expr} {pos : Pos}
def rUnO (C : Addr) (sp : Sp) (E : XK) : V → Hp → VK → Prop := fun x H Q => ∃ a dx fs, x = .ref a ∧ H a = some (.ins C dx fs) ∧ sp [.ref a] H Q E
theorem un_inv (hm : Meth X.K C "__invert__" f) (Fn : FnOk X.prog X.w X.K X.mg X.base CX k f fd ps sp) (hr : Room k X.A) (hb : Binds X.K fd ps []) (hx : Passes CX X E) : UnR X (unaryOp .Invert) (rUnO C sp E) := by
  intro pins s σ H x v Q I rx q
  obtain ⟨o, dx, fs, rfl, ea, q⟩ := q
  obtain rfl : v = Value.ref o := rx
  obtain ⟨mA, O, _, _, _, _⟩ := ins_get I.hok ea
  obtain ⟨od, J, _⟩ := O.look
  obtain ⟨m, fr⟩ := I.fr
  refine PySem.W.ksp_inv fr I.mod.kin J hm.at_ hm.fn (wpAny_mono (wpAny_call (codeAny_mono (Fn.run X.A X.stack s H ⟨[.ref o], []⟩ [.ref o] [.ref o] _ E hr I.env0 (hb _ [.ref o] I.kIn ?_) (.cons rfl .nil) q) (R' := fun r s' => match r with | .ok (.ret u) => EP X pins σ Q u s' | .ok _ => False | .error e => X.xe e s') fun r s' hq => ?_)) (fun u s' h => h) (fun e s' h => h))
  · exact (Fn.len _ _ _ _ q)
  · cases r with
    | error er => exact hx pins σ H s er s' I hq
    | ok fl =>
      cases fl with
      | ret u' =>
        obtain ⟨v, H', I', rv, hQ⟩ := I.after hq
        exact ⟨v, H', I', rv, hQ⟩
      | next => exact False.elim hq
      | brk => exact False.elim hq
      | cont => exact False.elim hq
variable {ns : List Str} {U : ATy κ} {R : Res ρ}
/-- ~a -/
theorem je_inv {w : κ × Unit → (ρ → Prop) → Prop} {wa : (κ → Prop) → Prop} (ha : JE X F g a (rO (tC C ns U)) wa) (hm : Meth X.K C "__invert__" f)
    (Fn : FnOk X.prog X.w X.K X.mg X.base CX0 k f fd ps (spJ (aC (tC C ns U) aN) R w)) (hr : Room k X.A) (hb : Binds X.K fd ps []) : JE X F g (.UnaryOp .Invert a pos) R (fun k => wa fun x => w (x, ()) k) :=
  peW (pe_un (un_inv hm Fn hr hb pass0) ha) fun σ H Q ⟨k, P, hw, q⟩ => ⟨k, _, hw, fun x v H1 w1 s1 h1 => by
    obtain ⟨a, dx, vs, e1, g1, l1, u1⟩ := id h1
    have kk := k.step s1
    exact ⟨a, dx, _, e1, kk.le _ _ g1, (x, ()), P, kk.fr, rfl, ⟨.ref a, [], rfl, by rw [← e1]; exact h1, rfl⟩, w1, fun r v' H' pr s rr => q r v' H' pr (s1.trans s) (R.pre s1 (R.same (kk.back s) (Same.refl _) rr))⟩⟩
end
section
variable {X : Cx} {F : Fr} {g : Gm} {pos : Pos} {rest : List Stmt} {K : PySem.W.Frag}
theorem tr1_of {H : Hp} {p : Addr} {u : V} {z : Str} {t b : Tr} (hs : SqT K H p [.str z, u]) (h : trR K H t u) (hb : Tr.mk1 z t = some b) : trR K H b (.ref p) := by
  unfold Tr.mk1 at hb
  by_cases c : z = ("not" : Str)
  · rw [if_pos c] at hb
    have hb' := Option.some.inj hb
    subst hb'
    exact ⟨p, u, rfl, by rw [c] at hs; exact hs, h⟩
  · rw [if_neg c] at hb
    cases hb
theorem trT_of {H : Hp} {p : Addr} {u1 u2 : V} {z : Str} {l r b : Tr} (hs : SqT K H p [.str z, u1, u2]) (h1 : trR K H l u1) (h2 : trR K H r u2) (hb : Tr.mkT z l r = some b) : trR K H b (.ref p) := by
  unfold Tr.mkT at hb
  by_cases c : z = ("and" : Str)
  · rw [if_pos c] at hb
    have hb' := Option.some.inj hb
    subst hb'
    exact ⟨p, u1, u2, rfl, by rw [c] at hs; exact hs, h1, h2⟩
  · rw [if_neg c] at hb
    by_cases c2 : z = ("or" : Str)
    · rw [if_pos c2] at hb
      have hb' := Option.some.inj hb
      subst hb'
      exact ⟨p, u1, u2, rfl, by rw [c2] at hs; exact hs, h1, h2⟩
    · rw [if_neg c2] at hb
      cases hb
/-- xs.append((z, xs.pop())) -/
theorem js_appPop2 {call : Expr} {i j : Nat} {l : Addr} {xs : List Tr} {we : (Str → Prop) → Prop} {wr : Tr → Prop} {D : Ends}
    (hm : PE X call (tBM X.K "list" rAppend (tVar i) (tCons (tTup (tCons (RJ F g (rO tS) we) (tCons (tBM0 X.K "list" rPop (tVar i)) tNil))) tNil)))
    (hr : ∀ s, JSs X F ⟨g.s, g.c.set j (.lst l (t_Tr X.K) (xs.dropLast ++ [s]))⟩ rest D (wr s)) (hs : g.s[i]? = some (.at l)) (hc : g.c[j]? = some (.lst l (t_Tr X.K) xs))
    (hsw : swapsWith call none pos.line X.env = pure false := by rfl) :
    JSs X F g (.Expr call pos :: rest) D (we fun z => xs.length < 1000000 ∧ ∃ t, xs.getLast? = some t ∧ ∃ s, Tr.mk1 z t = some s ∧ wLet s wr) := by
  refine pssW (pss_cons (ps_expr hm hsw) (pssE hr)) fun D' σ H ⟨e, k, w⟩ => ?_
  obtain ⟨us, hl, pr⟩ := k.cell hc
  refine ⟨_, k.ref hs, .inl ⟨rfl, us, .inl (.inl hl)⟩, k, _, w, fun z v H1 ⟨hn, t, ht, s, hz, w1⟩ s1 rz => ?_⟩
  have k1 := k.step s1
  obtain ⟨vs, gl, qr⟩ := k1.cell hc
  rw [List.getLast?_eq_getElem?] at ht
  obtain ⟨u, hu, ru⟩ := Paired.at qr ht
  have e1 := Paired.len qr
  have dr : Paired ((t_Tr X.K).rel (g.bs F H1)) vs.dropLast xs.dropLast := by
    rw [List.dropLast_eq_take, List.dropLast_eq_take, e1]
    exact Paired.take _ qr
  refine ⟨_, k1.ref hs, .inl ⟨rfl, vs, .inl (.inl gl)⟩, l, vs, u, rfl, rfl, gl, by rw [e1]; exact hu, Nat.le_trans (show 2 ≤ 1000000 by decide) (by decide : 1000000 ≤ sizeLine), fun p hp => ?_⟩
  have k2 := k1.mut hc dr
  have jl : j < g.c.length := (List.getElem?_eq_some_iff.mp hc).1
  have hc2 : (g.c.set j (.lst l (t_Tr X.K) xs.dropLast))[j]? = some (.lst l (t_Tr X.K) xs.dropLast) := List.getElem?_set_self jl
  have k3 := k2.step (same_upd (o := .tup [v, u]) hp)
  obtain ⟨ws, hw3, pr3⟩ := k3.cell hc2
  have ne : l ≠ p := fun z => by
    rw [← z, upd_same] at hp
    cases hp
  have ew : ws = vs.dropLast := by
    rw [upd_ne ne, upd_same] at hw3
    injection hw3 with q
    injection q with q
    exact q.symm
  refine ⟨l, ws, .ref p, rfl, rfl, hw3, ?_, s, e, ?_⟩
  · rw [ew, List.length_dropLast, e1]
    exact Nat.lt_of_lt_of_le (by omega : xs.length - 1 < 1000000) (by decide)
  · have ev : v = .str z := rz
    have rr : trR X.K ((⟨g.s, g.c.set j (.lst l (t_Tr X.K) xs.dropLast)⟩ : Gm).bs F (upd (upd H1 l (.lst vs.dropLast)) p (.tup [v, u]))) s (.ref p) := by
      refine tr1_of (u := u) (z := z) (t := t) (.inl (.inl ?_)) ?_ hz
      · rw [← ev]
        exact k2.bs_new hp
      · have r1 : trR X.K (g.bs F H1) t u := ru
        refine trR.imm (Imm.of (Gm.mono (same_upd hp))) ?_
        rw [bs_mut hc]
        exact r1
    have k4 := k3.mut hc2 (Paired.app pr3 (.cons rr .nil))
    rw [List.set_set] at k4
    exact ⟨k4, w1⟩
/-- xs.append((z, xs.pop(), r)) -/
theorem js_appPop3 {call : Expr} {i j : Nat} {l : Addr} {xs : List Tr} {we : (Str → Prop) → Prop} {w2 : (Tr → Prop) → Prop} {wr : Tr → Prop} {D : Ends}
    (hm : PE X call (tBM X.K "list" rAppend (tVar i) (tCons (tTup (tCons (RJ F g (rO tS) we) (tCons (tBM0 X.K "list" rPop (tVar i)) (tCons (RJ F ⟨g.s, g.c.set j (.lst l (t_Tr X.K) xs.dropLast)⟩ (rO (t_Tr X.K)) w2) tNil)))) tNil)))
    (hr : ∀ s, JSs X F ⟨g.s, g.c.set j (.lst l (t_Tr X.K) (xs.dropLast ++ [s]))⟩ rest D (wr s)) (hs : g.s[i]? = some (.at l)) (hc : g.c[j]? = some (.lst l (t_Tr X.K) xs))
    (hsw : swapsWith call none pos.line X.env = pure false := by rfl) :
    JSs X F g (.Expr call pos :: rest) D (we fun z => xs.length < 1000000 ∧ ∃ t, xs.getLast? = some t ∧ w2 fun r => ∃ s, Tr.mkT z t r = some s ∧ wLet s wr) := by
  refine pssW (pss_cons (ps_expr hm hsw) (pssE hr)) fun D' σ H ⟨e, k, w⟩ => ?_
  obtain ⟨us, hl, pr⟩ := k.cell hc
  refine ⟨_, k.ref hs, .inl ⟨rfl, us, .inl (.inl hl)⟩, k, _, w, fun z v H1 ⟨hn, t, ht, w1⟩ s1 rz => ?_⟩
  have k1 := k.step s1
  obtain ⟨vs, gl, qr⟩ := k1.cell hc
  rw [List.getLast?_eq_getElem?] at ht
  obtain ⟨u, hu, ru⟩ := Paired.at qr ht
  have e1 := Paired.len qr
  have dr : Paired ((t_Tr X.K).rel (g.bs F H1)) vs.dropLast xs.dropLast := by
    rw [List.dropLast_eq_take, List.dropLast_eq_take, e1]
    exact Paired.take _ qr
  have k2 := k1.mut hc dr
  refine ⟨_, k1.ref hs, .inl ⟨rfl, vs, .inl (.inl gl)⟩, l, vs, u, rfl, rfl, gl, by rw [e1]; exact hu, k2, _, w1, fun r v2 H2 ⟨s, hz, w3⟩ s2 rr2 => ?_⟩
  have kk := k2.step s2
  refine ⟨Nat.le_trans (show 3 ≤ 1000000 by decide) (by decide : 1000000 ≤ sizeLine), fun p hp => ?_⟩
  have jl : j < g.c.length := (List.getElem?_eq_some_iff.mp hc).1
  have hc2 : (g.c.set j (.lst l (t_Tr X.K) xs.dropLast))[j]? = some (.lst l (t_Tr X.K) xs.dropLast) := List.getElem?_set_self jl
  have k3 := kk.step (same_upd (o := .tup [v, u, v2]) hp)
  obtain ⟨ws, hw3, pr3⟩ := k3.cell hc2
  have ew : ws.length = xs.dropLast.length := Paired.len pr3
  refine ⟨l, ws, .ref p, rfl, rfl, hw3, ?_, s, e, ?_⟩
  · rw [ew, List.length_dropLast]
    exact Nat.lt_of_lt_of_le (by omega : xs.length - 1 < 1000000) (by decide)
  · have ev : v = .str z := rz
    have rr : trR X.K ((⟨g.s, g.c.set j (.lst l (t_Tr X.K) xs.dropLast)⟩ : Gm).bs F (upd H2 p (.tup [v, u, v2]))) s (.ref p) := by
      refine trT_of (u1 := u) (u2 := v2) (z := z) (l := t) (r := r) (.inl (.inl ?_)) ?_ ?_ hz
      · rw [← ev]
        exact kk.bs_new hp
      · have r1 : trR X.K (g.bs F H1) t u := ru
        refine trR.imm (Imm.of (Gm.mono (s2.trans (same_upd hp)))) ?_
        rw [bs_mut hc]
        exact r1
      · have r2 : trR X.K _ r v2 := rr2
        exact trR.imm (Imm.of (Gm.mono (same_upd hp))) r2
    have k4 := k3.mut hc2 (Paired.app pr3 (.cons rr .nil))
    rw [List.set_set] at k4
    exact ⟨k4, w3⟩
end
end J
/-! A28: a display of two new lists of numbers, whose lists are changed: x = [[..], [..]]; x[0][k] = v -/
namespace J
open PySem PySem.Spec L2
section
variable {X : Cx} {F : Fr} {g : Gm} {pos : Pos} {rest : List Stmt} {D : Ends}
theorem js_mk2 {st : Stmt} {i : Nat} {we1 we2 : (List Int → Prop) → Prop} {wr : List Int → List Int → Prop}
    (p : PS X st (tAsg (tLst (tCons (RJ F g (rN tI) we1) (tCons (RJ F g (rN tI) we2) tNil))) (gName i)))
    (hr : ∀ p p1 p2 xs ys, JSs X F ⟨g.s.set i (.at p), .raw p (.lst [.ref p1, .ref p2]) :: .lst p2 tI ys :: .lst p1 tI xs :: g.c⟩ rest D (wr xs ys)) :
    JSs X F g (st :: rest) D (we1 fun xs => we2 fun ys => wLet xs fun xs => wLet ys fun ys => wr xs ys) := by
  refine pssW (pss_cons p (pssE (t := fun (q : (Addr × Addr × Addr) × List Int × List Int) => RS F ⟨g.s.set i (.at q.1.1), .raw q.1.1 (.lst [.ref q.1.2.1, .ref q.1.2.2]) :: .lst q.1.2.2 tI q.2.2 :: .lst q.1.2.1 tI q.2.1 :: g.c⟩ D (wr q.2.1 q.2.2)) fun q => hr q.1.1 q.1.2.1 q.1.2.2 q.2.1 q.2.2)) fun D' σ H ⟨e, k, w⟩ => ?_
  refine ⟨k, _, w, fun xs v1 H1 w1 s1 ⟨p1, vs1, e1, h01, hb1, r1⟩ => ⟨k.step s1, _, w1, fun ys v2 H2 w2 s2 ⟨p2, vs2, e2, h02, hb2, r2⟩ => ⟨Nat.le_trans (show 2 ≤ 1000000 by decide) (by decide : 1000000 ≤ sizeLine), fun p hp => ⟨((p, p1, p2), xs, ys), e, ?_, w2⟩⟩⟩⟩
  have k1 : (g.push (.lst p1 tI xs)).Ok F σ H1 := k.new s1 h01 hb1 r1
  have hH2 : H2 p2 = some (.lst vs2) := (k.leT (s1.trans s2)) _ _ hb2
  have k2 : ((g.push (.lst p1 tI xs)).push (.lst p2 tI ys)).Ok F σ H2 := k1.new s2 h02 (k1.bs_of s2 h02 hH2) r2
  subst e1 e2
  have k3 : (((g.push (.lst p1 tI xs)).push (.lst p2 tI ys)).push (.raw p (.lst [.ref p1, .ref p2]))).Ok F σ (upd H2 p (.lst [.ref p1, .ref p2])) := k2.push (same_upd hp) rfl hp ⟨k2.same.free hp, rfl, upd_same⟩
  exact k3.set (t := .at p) rfl
/-- the list at a written place -/
def tOwn (F : Fr) (g : Gm) (p : Addr) : TE := fun σ H Q => g.Ok F σ H ∧ Q (.ref p) H
theorem pe_own {i j : Nat} {c : Int} {m : Nat} {p p1 : Addr} {ls : List V} {x : Str} {px pc : Pos} {jj : Nat} (hs : g.s[i]? = some (.at p)) (hr : g.c[j]? = some (.raw p (.lst ls))) (hl : ls[m]? = some (.ref p1)) (hn : c = (m : Int) := by rfl) (hN : X.N[i]? = some x := by rfl) (hv : Vis X.env.scope x := by first | exact Or.inl rfl | exact Or.inr (Or.inl rfl) | exact Or.inr (Or.inr rfl))
    (hd : (x == ("__debug__" : Str)) = false := by decide) (hcd : (x == ("__classdict__" : Str)) = false := by decide) (hp : PlainIx (.Constant (.int c) jj pc) := by exact fun _ _ => rfl) : PE X (.Subscript (.Name x px) (.Constant (.int c) jj pc) pos) (tOwn F g p1) :=
  peW (pe_ix ix_list (pe_var hN hv hd hcd) pe_int hp) fun σ H Q ⟨k, q⟩ => ⟨.ref p, k.ref hs, p, ls, c, .ref p1, rfl, rfl, .inl (.inl (k.raw hr)), by rw [hn]; exact atI_nat hl, q⟩
theorem je_own {e : Expr} {j1 : Nat} {p1 : Addr} {xs : List Int} (h : PE X e (tOwn F g p1)) (hc : g.c[j1]? = some (.lst p1 tI xs)) : JE X F g e (rEK tI) (fun k => k xs) :=
  peW h fun σ H Q ⟨k, P, w, q⟩ => ⟨k, by
    obtain ⟨vs, hp, r⟩ := k.cell hc
    exact q xs (.ref p1) H w (Same.refl H) ⟨p1, vs, rfl, hp, r⟩⟩
theorem js_setOwn {st : Stmt} {j1 : Nat} {p1 : Addr} {xs : List Int} {we : (Int → Prop) → Prop} {wi : (Int → Prop) → Prop} {wr : List Int → Prop} (hp : PS X st (tAsg (RJ F g (rO tI) we) (gSub (tOwn F g p1) (RJ F g (rO tI) wi) rSetL)))
    (hr : ∀ ys, JSs X F ⟨g.s, g.c.set j1 (.lst p1 tI ys)⟩ rest D (wr ys)) (hc : g.c[j1]? = some (.lst p1 tI xs)) :
    JSs X F g (st :: rest) D (we fun a => wi fun k => ∃ m, ixW xs.length k = some m ∧ wLet (xs.set m a) wr) := by
  refine pssW (pss_cons hp (pssE hr)) fun D' σ H ⟨e, k, w⟩ => ?_
  refine ⟨k, _, w, fun a v H1 w1 s1 ra => ?_⟩
  have k1 := k.step s1
  refine ⟨k1, k1, _, w1, fun n u H2 ⟨m, hm, w2⟩ s2 rn => ?_⟩
  have k2 := k1.step s2
  obtain ⟨vs, hl, pr⟩ := k2.cell hc
  have en : ixN vs.length n = some m := ixW_N (by rw [Paired.len pr]; exact hm)
  exact ⟨p1, vs, n, m, rfl, rn, hl, en, xs.set m a, e, k2.mut hc (Paired.set (tI.same (Gm.mono s2) ra) m pr), w2⟩
/-- a cell is left out -/
theorem Gm.Ok.drop {σ : L2.St} {H : Hp} (k : g.Ok F σ H) {j : Nat} {p : Addr} {c : Cell} (hj : g.c[j]? = some c) (hp : c.addr = some p) : (⟨g.s, g.c.eraseIdx j⟩ : Gm).Ok F σ H ∧ p ∉ (g.c.eraseIdx j).filterMap Cell.addr := by
  have jl : j < g.c.length := (List.getElem?_eq_some_iff.mp hj).1
  refine ⟨(show Sub g ⟨g.s, g.c.eraseIdx j⟩ from ⟨SubS.refl _, List.eraseIdx_sublist ..⟩).ok k, fun m => ?_⟩
  obtain ⟨d, hd, e⟩ := List.mem_filterMap.mp m
  obtain ⟨n, hn⟩ := List.getElem?_of_mem hd
  rw [List.getElem?_eraseIdx] at hn
  by_cases l : n < j
  · rw [if_pos l] at hn
    have := addr_of_get hj hp k.nd n d hn e
    omega
  · rw [if_neg l] at hn
    have := addr_of_get hj hp k.nd (n + 1) d hn e
    omega
theorem notin_erase {cs : List Cell} {p : Addr} {j : Nat} (h : p ∉ cs.filterMap Cell.addr) : p ∉ (cs.eraseIdx j).filterMap Cell.addr := fun m => h ((List.Sublist.filterMap _ (List.eraseIdx_sublist ..)).subset m)
/-- from here on the two lists are not changed any more -/
theorem js_frz2 {i j j1 j2 : Nat} {p p1 p2 : Addr} {sts : List Stmt} {xs ys : List Int} {w : Prop} (hs : g.s[i]? = some (.at p)) (hj : g.c[j]? = some (.raw p (.lst [.ref p1, .ref p2]))) (h1 : (g.c.eraseIdx j)[j1]? = some (.lst p1 tI xs)) (h2 : ((g.c.eraseIdx j).eraseIdx j1)[j2]? = some (.lst p2 tI ys))
    (h : JSs X F ⟨g.s.set i (.val (tK (tK tI)) [xs, ys]), ((g.c.eraseIdx j).eraseIdx j1).eraseIdx j2⟩ sts D w) : JSs X F g sts D w :=
  pssW h fun D' σ H ⟨e, k, q⟩ => by
    obtain ⟨ka, na⟩ := k.drop hj rfl
    obtain ⟨kb, nb⟩ := ka.drop (g := ⟨g.s, g.c.eraseIdx j⟩) h1 rfl
    obtain ⟨kc, nc⟩ := kb.drop (g := ⟨g.s, (g.c.eraseIdx j).eraseIdx j1⟩) h2 rfl
    have na' := notin_erase (j := j2) (notin_erase (j := j1) na)
    have nb' := notin_erase (j := j2) nb
    have m0 := k.cells _ (List.mem_of_getElem? hj)
    obtain ⟨f1, vs1, hv1, r1⟩ := ka.cells _ (List.mem_of_getElem? h1)
    obtain ⟨f2, vs2, hv2, r2⟩ := kb.cells _ (List.mem_of_getElem? h2)
    refine ⟨e, ⟨kc.same, Par.re (t := .val (tK (tK tI)) [xs, ys]) i kc.slots fun o eo => ?_, kc.nd, kc.cells⟩, q⟩
    rw [k.ref hs] at eo
    have eo' := Option.some.inj eo
    subst eo'
    exact ⟨.ref p, rfl, p, _, rfl, bsA_of na' m0.1 m0.2.2, .cons ⟨p1, vs1, rfl, bsA_of nb' f1 hv1, r1⟩ (.cons ⟨p2, vs2, rfl, bsA_of nc f2 hv2, r2⟩ .nil)⟩
/-- the display is handed back -/
theorem js_ret2 {i j j1 j2 : Nat} {p p1 p2 : Addr} {xs ys : List Int} {P : List (List Int) → Prop} {x : Str} {px : Pos} {nx bk ct : L2.St → Hp → Prop} {rt : VK} (hrt : RtOk F (rN (tK tI)) P rt) (hs : g.s[i]? = some (.at p)) (hc : g.c[j]? = some (.raw p (.lst [.ref p1, .ref p2]))) (hc1 : g.c[j1]? = some (.lst p1 tI xs)) (hc2 : g.c[j2]? = some (.lst p2 tI ys)) (n1 : j1 ≠ j) (n2 : j2 ≠ j)
    (hN : X.N[i]? = some x := by rfl) (hv : Vis X.env.scope x := by first | exact Or.inl rfl | exact Or.inr (Or.inl rfl) | exact Or.inr (Or.inr rfl))
    (hd : (x == ("__debug__" : Str)) = false := by decide) (hcd : (x == ("__classdict__" : Str)) = false := by decide) : JSs X F g (.Return (some (.Name x px)) pos :: rest) ⟨nx, rt, bk, ct⟩ (P [xs, ys]) :=
  pssW (pss_cons (ps_ret (pe_var hN hv hd hcd)) pss_never) fun D σ H ⟨e, k, q⟩ => by
    have m0 := k.cells _ (List.mem_of_getElem? hc)
    obtain ⟨f1, vs1, hv1, r1⟩ := k.cells _ (List.mem_of_getElem? hc1)
    obtain ⟨f2, vs2, hv2, r2⟩ := k.cells _ (List.mem_of_getElem? hc2)
    have ne1 : p1 ≠ p := fun z => n1 (addr_of_get hc rfl k.nd j1 _ hc1 (by rw [z]; rfl))
    have ne2 : p2 ≠ p := fun z => n2 (addr_of_get hc rfl k.nd j2 _ hc2 (by rw [z]; rfl))
    have o0 : F.out H p = some (.lst [.ref p1, .ref p2]) := bsA_of (fun z => by cases z) m0.1 m0.2.2
    have o1 : rm (F.out H) p p1 = some (.lst vs1) := by
      unfold rm
      rw [if_neg ne1]
      exact bsA_of (fun z => by cases z) f1 hv1
    have o2 : rm (F.out H) p p2 = some (.lst vs2) := by
      unfold rm
      rw [if_neg ne2]
      exact bsA_of (fun z => by cases z) f2 hv2
    exact ⟨.ref p, k.ref hs, e.rt _ _ (hrt [xs, ys] _ H q k.same ⟨p, _, rfl, m0.1, o0, .cons ⟨p1, vs1, rfl, o1, r1⟩ (.cons ⟨p2, vs2, rfl, o2, r2⟩ .nil)⟩)⟩
end
end J
/-! A29: an atom's items -/
namespace J
open PySem PySem.Spec L2
section
variable {X : Cx} {F : Fr} {g : Gm} {K : PySem.W.Frag}
def siR : Str ⊕ Int → V → Prop
  | .inl z, v => v = .str z
  | .inr n, v => v = .int n
def tSI : Ty (Str ⊕ Int) := ⟨fun _ v a => siR a v, fun _ h => h⟩
instance : Im tSI := ⟨fun _ h => h⟩
theorem call_strSI : CallR X (.type "str") fun xs H Q => ∃ a v, xs = [v] ∧ siR a v ∧ match a with | .inl z => Q (.str z) H | .inr n => n.natAbs.log2 < 1920 ∧ Q (.str (strI n)) H := by
  intro pins s σ H xs us Q I hv ⟨a, v, e, r, q⟩
  cases a with
  | inr n =>
    have r' : v = .int n := r
    subst r'
    exact call_str_int pins s σ H xs us Q I hv ⟨n, e, q.1, q.2⟩
  | inl z =>
    have r' : v = .str z := r
    subst r'
    subst e
    cases hv with
    | cons rv rr =>
      cases rr
      obtain ⟨t, rfl⟩ := rv
      exact PySem.P.str_of_str ⟨.str z, H, I, ⟨t, rfl⟩, q⟩
/-- str(x) of a text or a number -/
theorem je_strSI {e : Expr} {pp pos : Pos} {w : (Str ⊕ Int → Prop) → Prop} (hg : Gl X "str") (hm : X.mg "str" = none) (ha : JE X F g e (rO tSI) w) (he : starEach [e] X.env = (false, eval e X.env) :: starEach [] X.env := by rfl) (hpl : (backTo pos (starEach [] X.env)).any (·.1) = false := by rfl) :
    JE X F g (.Call (.Name "str" pp) [e] [] pos) (rO tS) (fun k => w fun x => wStr x k) :=
  je_callTy (T := aC tSI aN) (C := fun t k => wStr t.1 k) call_strSI (fun _ t H vs P Q k ⟨v, r, e1, r1, e2⟩ c q => by
    obtain ⟨a, u⟩ := t
    refine ⟨a, v, by rw [e1, (e2 : r = [])], r1, ?_⟩
    cases a with
    | inl z => exact q _ _ H c (Same.refl H) rfl
    | inr n => exact ⟨c.1, q _ _ H c.2 (Same.refl H) rfl⟩) hg hm (by decide +kernel) (jb_cons (je_b ha) jb_nil he) (by decide) (by decide) he hpl
theorem je_trItems {e : Expr} {w : (Tr → Prop) → Prop} (h : JE X F g e (rO (t_Tr X.K)) w) : JE X F g e (rO (tT X.K (aV tSI))) (fun k => w fun t => ∃ is, Tr.items t = some is ∧ k is) :=
  je_asO (f := Tr.items) h fun H v t is r hb => by
    have r' : trR X.K H t v := r
    cases t with
    | thr a b =>
      obtain ⟨p, e, hs⟩ := r'
      have hb' := Option.some.inj hb
      subst hb'
      exact ⟨p, _, e, hs, .cons rfl (.cons rfl (.cons rfl .nil))⟩
    | rng k =>
      obtain ⟨p, e, hs⟩ := r'
      have hb' := Option.some.inj hb
      subst hb'
      exact ⟨p, _, e, hs, .cons rfl (.cons rfl .nil)⟩
    | rnd k =>
      obtain ⟨p, e, hs⟩ := r'
      have hb' := Option.some.inj hb
      subst hb'
      exact ⟨p, _, e, hs, .cons rfl (.cons rfl .nil)⟩
    | no t => cases hb
    | two c l r => cases hb
end
end J
/-! A30: a comprehension with two fors, both over names -/
namespace J
open PySem PySem.Spec L2
section
variable {X : Cx} {F : Fr} {g : Gm} {α β γ : Type}
theorem tgw_in {i : Nat} {vs : List Nat} {A : Ty α} (hi : i ∈ vs) : TgW A (gName i) (fun g a => g.set i (.val A a)) vs := fun F g σ H v a Q k r q => q _ (k.set ⟨v, rfl, r⟩) (by
  rw [wipe_set hi, wipe_wipe vs vs fun v hv => hv])
def RI' (F : Fr) (g : Gm) (A : Ty α) (wl : (List α → Prop) → Prop) : TI := fun σ H R => g.Ok F σ H ∧ ∃ P, wl P ∧ ∀ xs J cs H', P xs → Same H H' → (∀ c ∈ cs, Cell.addr c = none) → (⟨g.s, cs ++ g.c⟩ : Gm).Ok F σ H' →
  (∀ σ H (s' : List Slot) (l c' : List Cell), (⟨s', l ++ (cs ++ c')⟩ : Gm).Ok F σ H → ItAt F (⟨s', l ++ (cs ++ c')⟩ : Gm).ad J A xs H) → R J H'
theorem ji_L' {tg iter : Expr} {A : Ty α} {wl : (List α → Prop) → Prop} (hl : JE X F g iter (rO (tK A)) wl) : PI X tg iter (RI' F g A wl) :=
  piW (pi_list hl) fun σ H R ⟨k, P, w, q⟩ => ⟨k, P, w, fun xs v H1 p s r => by
    obtain ⟨l, us, ev, h1, _⟩ := id r
    refine ⟨l, ev, ⟨us, .inl (.inl ((k.step s).le _ _ h1))⟩, q xs _ [.fix (tK A) v xs] H1 p s (fun c hc => by cases List.mem_singleton.mp hc; rfl) ((k.step s).fixed r) fun σ' H' s' l' c' o => ?_⟩
    obtain ⟨l2, ws, e2, h2, r2⟩ := (show (tK A).rel _ v xs from o.cells (.fix (tK A) v xs) mem_mid)
    rw [ev] at e2
    have e3 : l = l2 := V.ref.inj e2
    subst e3
    exact itl_at (.inl (.inl (o.le _ _ h2))) r2⟩
def tiE {τ : Type} (t : τ → TI) : TI := fun σ H R => ∃ a, t a σ H R
theorem piE {tg iter : Expr} {τ : Type} {t : τ → TI} (h : ∀ a, PI X tg iter (t a)) : PI X tg iter (tiE t) := ⟨fun p s σ H R I ⟨a, q⟩ => (h a).run p s σ H R I q⟩
section
variable {elt tg iter tg1 iter1 : Expr} {scope : Scope} {own : List (Str × Nat)} {vs1 : List Nat} {pos : Pos} {A : Ty α} {A1 : Ty γ} {B : Ty β} {i i1 : Nat} {wl : (List α → Prop) → Prop} {w1 : α → (List γ → Prop) → Prop} {we : α → γ → (β → Prop) → Prop}
/-- the state behind the outer target, behind the inner one -/
abbrev G1 (g : Gm) (B : Ty β) (A : Ty α) (vs : List Nat) (i : Nat) (D : Addr) (acc : List β) (a : α) : Gm := (wipeG (g.push (.lst D B acc)) vs).set i (.val A a)
abbrev G2 (g : Gm) (B : Ty β) (A : Ty α) (A1 : Ty γ) (vs : List Nat) (i i1 : Nat) (D : Addr) (acc : List β) (a : α) (b : γ) : Gm := (wipeG (G1 g B A vs i D acc a) [i1]).set i1 (.val A1 b)
theorem je_comp2 (hi : PI X tg iter (RI F g A wl (own.map (·.2)))) (hN : X.N.Nodup) (ok : BlkOk X.N X.env.scope scope own) (hv : i ∈ own.map (·.2)) (hv1 : i1 ∈ own.map (·.2))
    (hg : ∀ (s : Shared) (H : Hp) (C : Addr) (cl : List (Str × Addr)) (fp : List Addr), PG (X.blk s H scope (compEnvC scope cl C X.env) fp) tg (gName i))
    (hg1 : ∀ (s : Shared) (H : Hp) (C : Addr) (cl : List (Str × Addr)) (fp : List Addr), PG (X.blk s H scope (compEnvC scope cl C X.env) fp) tg1 (gName i1))
    (hi1 : ∀ (D : Addr) (acc : List β) (a : α) (s : Shared) (H : Hp) (C : Addr) (cl : List (Str × Addr)) (fp : List Addr), PI (X.blk s H scope (compEnvC scope cl C X.env) fp) tg1 iter1 (RI' F (G1 g B A (own.map (·.2)) i D acc a) A1 (w1 a)))
    (he : ∀ (D : Addr) (acc : List β) (a : α) (b : γ) (s : Shared) (H : Hp) (C : Addr) (cl : List (Str × Addr)) (fp : List Addr), JE (X.blk s H scope (compEnvC scope cl C X.env) fp) F (G2 g B A A1 (own.map (·.2)) i i1 D acc a b) elt (rO B) (we a b))
    (hc : X.calm = true := by rfl) (hs : ∀ x, foldedSetIterable iter X.env x = pure x := by intro _; rfl) (hs1 : ∀ env x, foldedSetIterable iter1 env x = pure x := by intro _ _; rfl) :
    JE X F g (.ListComp elt [⟨tg, iter, [], 0⟩, ⟨tg1, iter1, [], 0⟩] scope pos) (rN B) (fun k => wl fun xs => xs.length < 1000000 ∧ wComp2 w1 we xs [] k) := by
  refine peW (pe_lc2 (vs1 := [i1]) hc hN hi ok (fun j hj => by rw [List.mem_singleton.mp hj]; exact hv1) hg (fun _ _ _ _ _ => pts_nil) (fun s H C cl fp => piE fun (q : Addr × List β × α) => hi1 q.1 q.2.1 q.2.2 s H C cl fp) hg1 (fun _ _ _ _ _ => pts_nil) (fun s H C cl fp => peE fun (q : (Addr × List β) × α × γ) => he q.1.1 q.1.2 q.2.1 q.2.2 s H C cl fp) hs hs1) fun σ H Q ⟨k, P, w, q⟩ => ?_
  refine ⟨k, _, w, fun xs J cs H1 ⟨hl, wc⟩ s1 hcs k1 hJ D hD => ?_⟩
  have adcs : cs.filterMap Cell.addr = [] := List.filterMap_eq_nil_iff.mpr hcs
  have k0 : (⟨g.s, .lst D B [] :: (cs ++ g.c)⟩ : Gm).Ok F σ (upd H1 D (.lst [])) := k1.new (A := B) (xs := []) (same_upd hD) hD (k1.bs_new hD) .nil
  have nD : D ∉ g.ad := fun m => by
    obtain ⟨_, o, e, _⟩ := k1.ad_some (p := D) (by show D ∈ (cs ++ g.c).filterMap Cell.addr; rw [List.filterMap_append, adcs]; exact m)
    rw [hD] at e
    cases e
  refine ⟨fun j m H => m = xs.length - j ∧ j ≤ xs.length ∧ Same H1 H ∧ ∃ acc, (⟨g.s, .lst D B acc :: (cs ++ g.c)⟩ : Gm).Ok F σ H ∧ acc.length < 1000000 ∧ wComp2 w1 we (xs.drop j) acc P, ⟨xs.length, by simp, Nat.zero_le _, same_upd hD, [], k0, show 0 < 1000000 by decide, wc⟩, ?_⟩
  rintro j m H ⟨rfl, hj, sm, acc, kA, la, w⟩
  have it := hJ _ _ [.lst D B acc] (kA.wipe _)
  by_cases hlt : j < xs.length
  · have hx : xs[j]? = some xs[j] := List.getElem?_eq_getElem hlt
    obtain ⟨hgo, hy⟩ := it.1 j _ hx
    rw [List.drop_eq_getElem_cons hlt] at w
    generalize xs[j] = a at w hx hy
    refine .inr ⟨hgo, fun H' => Same H1 H' ∧ ∃ acc, (⟨g.s, .lst D B acc :: (cs ++ g.c)⟩ : Gm).Ok F σ H' ∧ acc.length < 1000000 ∧ wComp2 w1 we (xs.drop (j + 1)) acc P, fun H' ⟨s, h⟩ => ⟨xs.length - (j + 1), by omega, rfl, hlt, s, h⟩, fun v H' y => ?_⟩
    obtain ⟨sy, rv⟩ := hy v H' y
    have kA2 := kA.step sy
    have sb : ∀ acc, Sub (wipeG ⟨g.s, .lst D B acc :: (cs ++ g.c)⟩ (own.map (·.2))) (wipeG (g.push (.lst D B acc)) (own.map (·.2))) := fun acc => ⟨SubS.refl _, List.Sublist.cons₂ _ (List.sublist_append_right _ _)⟩
    have k3 : (wipeG (g.push (.lst D B acc)) (own.map (·.2))).Ok F (wipe σ (own.map (·.2))) H' := (sb acc).ok (kA2.wipe _)
    have rv' : A.rel ((wipeG (g.push (.lst D B acc)) (own.map (·.2))).bs F H') v a := A.same (bsA_sub fun a ha => by
      show a ∈ (_ :: (cs ++ g.c)).filterMap Cell.addr
      rw [ad_mid adcs]
      exact ha) rv
    refine tgw_in hv F _ σ H' v _ _ k3 rv' fun σ' k4 ew => ⟨ew, ?_⟩
    show tiE _ σ' H' _
    refine ⟨(D, acc, a), k4, _, w, fun ys J1 cs1 H4 ⟨hly, wy⟩ s4 hcs1 k5 hJ1 => ?_⟩
    have adcs1 : cs1.filterMap Cell.addr = [] := List.filterMap_eq_nil_iff.mpr hcs1
    refine ⟨fun n m H => m = ys.length - n ∧ n ≤ ys.length ∧ Same H1 H ∧ ∃ ac, (⟨g.s, .lst D B ac :: (cs ++ g.c)⟩ : Gm).Ok F σ H ∧ (⟨(G1 g B A (own.map (·.2)) i D acc a).s, cs1 ++ (.lst D B ac :: g.c)⟩ : Gm).Ok F σ' H ∧ ac.length < 1000000 + n ∧ wComp (we a) (ys.drop n) ac (fun acc' => acc'.length < 1000000 ∧ wComp2 w1 we (xs.drop (j + 1)) acc' P),
      ⟨ys.length, by simp, Nat.zero_le _, (sm.trans sy).trans s4, acc, kA2.step s4, k5, la, wy⟩, ?_⟩
    rintro n m H5 ⟨rfl, hn, sm5, ac, kB, kC, lac, wn⟩
    have it1 := hJ1 σ' H5 _ [] _ kC
    by_cases hlt1 : n < ys.length
    · have hx1 : ys[n]? = some ys[n] := List.getElem?_eq_getElem hlt1
      obtain ⟨hgo1, hy1⟩ := it1.1 n _ hx1
      rw [List.drop_eq_getElem_cons hlt1] at wn
      generalize ys[n] = b at wn hx1 hy1
      refine .inr ⟨hgo1, fun H' => Same H1 H' ∧ ∃ ac, (⟨g.s, .lst D B ac :: (cs ++ g.c)⟩ : Gm).Ok F σ H' ∧ (⟨(G1 g B A (own.map (·.2)) i D acc a).s, cs1 ++ (.lst D B ac :: g.c)⟩ : Gm).Ok F σ' H' ∧ ac.length < 1000000 + (n + 1) ∧ wComp (we a) (ys.drop (n + 1)) ac (fun acc' => acc'.length < 1000000 ∧ wComp2 w1 we (xs.drop (j + 1)) acc' P), fun H' ⟨s, h⟩ => ⟨ys.length - (n + 1), by omega, rfl, hlt1, s, h⟩, fun v1 H6 y1 => ?_⟩
      obtain ⟨sy1, rv1⟩ := hy1 v1 H6 y1
      have kB2 := kB.step sy1
      have kC2 := kC.step sy1
      have sb1 : Sub (⟨(G1 g B A (own.map (·.2)) i D acc a).s, cs1 ++ (.lst D B ac :: g.c)⟩ : Gm) (G1 g B A (own.map (·.2)) i D ac a) := ⟨SubS.refl _, List.sublist_append_right _ _⟩
      have k6 : (wipeG (G1 g B A (own.map (·.2)) i D ac a) [i1]).Ok F (wipe σ' [i1]) H6 := (sb1.ok kC2).wipe [i1]
      have rv1' : A1.rel ((wipeG (G1 g B A (own.map (·.2)) i D ac a) [i1]).bs F H6) v1 b := A1.same (bsA_sub fun x hx => by
        show x ∈ (([] : List Cell) ++ (cs1 ++ (Cell.lst D B ac :: g.c))).filterMap Cell.addr
        rw [List.nil_append, List.filterMap_append, adcs1]
        exact hx) rv1
      refine tgw_in (List.mem_singleton.mpr rfl) F _ σ' H6 v1 _ _ k6 rv1' fun σ3 k7 ew3 => ⟨ew3, ?_⟩
      show tExE _ σ3 H6 _
      refine ⟨((D, ac), a, b), k7, _, wn, fun u v2 H7 p s7 r7 => ?_⟩
      have kB3 := kB2.step s7
      have kC3 := kC2.step s7
      obtain ⟨us, eD, pr⟩ := kB3.cell (j := 0) rfl
      have r7' : B.rel ((⟨g.s, .lst D B ac :: (cs ++ g.c)⟩ : Gm).bs F H7) v2 u := B.same (bsA_sub fun x hx => by
        have hx' : x ∈ (Cell.lst D B ac :: (cs ++ g.c)).filterMap Cell.addr := hx
        rw [ad_mid adcs] at hx'
        exact hx') r7
      have jC : (cs1 ++ (.lst D B ac :: g.c))[cs1.length]? = some (.lst D B ac) := by
        rw [List.getElem?_append_right (Nat.le_refl _), Nat.sub_self]
        rfl
      obtain ⟨us2, eD2, pr2⟩ := kC3.cell jC
      have eu : us2 = us := by
        rw [eD] at eD2
        injection eD2 with z
        injection z with z
        exact z.symm
      subst eu
      have r7c : B.rel ((⟨(G1 g B A (own.map (·.2)) i D acc a).s, cs1 ++ (.lst D B ac :: g.c)⟩ : Gm).bs F H7) v2 u := B.same (bsA_sub fun x hx => by
        have hx' : x ∈ (cs1 ++ (Cell.lst D B ac :: g.c)).filterMap Cell.addr := hx
        rw [List.filterMap_append, adcs1] at hx'
        exact hx') r7
      have kC4 := kC3.mut jC (Paired.app pr2 (.cons r7c .nil))
      have es : (cs1 ++ (.lst D B ac :: g.c)).set cs1.length (.lst D B (ac ++ [u])) = cs1 ++ (.lst D B (ac ++ [u]) :: g.c) := by
        rw [List.set_append_right _ _ (Nat.le_refl _), Nat.sub_self]
        rfl
      rw [es] at kC4
      refine ⟨us2, eD, ?_, Same.mut ((sm5.trans sy1).trans s7) hD, ac ++ [u], kB3.mut (j := 0) rfl (Paired.app pr (.cons r7' .nil)), kC4, ?_, p⟩
      · rw [Paired.len pr]
        exact Nat.lt_of_lt_of_le (show ac.length < 2000000 by omega) (by decide)
      · rw [List.length_append, List.length_singleton]
        omega
    · rw [List.drop_of_length_le (by omega)] at wn
      exact .inl ⟨it1.2 n (by omega), sm5, ac, kB, wn.1, wn.2⟩
  · rw [List.drop_of_length_le (by omega)] at w
    refine .inl ⟨it.2 j (by omega), ?_⟩
    obtain ⟨us, eD, pr⟩ := kA.cell (j := 0) rfl
    refine q acc (.ref D) H w (s1.trans sm) ⟨D, us, rfl, s1.free hD, bsA_of nD ((k.same.trans s1).free hD) eD, Paired.imp (fun _ _ r => B.same ?_ r) pr⟩
    show Same (bsA F _ H) (rm (bsA F g.ad H) D)
    rw [← bsA_cons]
    exact bsA_sub fun a ha => by
      show a ∈ (_ :: (cs ++ g.c)).filterMap Cell.addr
      rw [ad_mid adcs]
      exact ha
end
end
end J
/-! A31: a tree's parts -/
namespace J
open PySem PySem.Spec L2
section
variable {X : Cx} {F : Fr} {g : Gm} {pos : Pos}
/-- tree[1:], as trees -/
theorem je_trParts {e : Expr} {j : Nat} {p1 p2 : Pos} {w : (Tr → Prop) → Prop} (he : JE X F g e (rO (t_Tr X.K)) w) :
    JE X F g (.Subscript e (.Slice (some (.Constant (.int 1) j p1)) none none p2) pos) (rO (tT X.K (aV (t_Tr X.K)))) (fun k => w fun t => ∃ ts, Tr.parts t = some ts ∧ k ts) :=
  peW (pe_slice sl_tupA he (jp_some je_int) jp_none) fun σ H Q ⟨k, P, w, q⟩ => ⟨k, _, w, fun t v H1 ⟨ts, hts, w1⟩ s1 r1 => ⟨k.step s1, (fun o => o = some 1 ∧ P ts), ⟨rfl, w1⟩, fun i H2 ⟨ei, w2⟩ s2 => ⟨k.step (s1.trans s2), (fun o => o = none ∧ P ts), ⟨rfl, w2⟩, fun o H3 ⟨eo, w3⟩ s3 => by
    subst ei eo
    have s13 := s1.trans (s2.trans s3)
    have k3 := k.step s13
    have r3 : trR X.K (g.bs F H3) t v := (t_Tr X.K).same (Gm.mono (s2.trans s3)) r1
    obtain ⟨a, us, ev, hs, hl, _, _, _, hp⟩ := trR.seq r3
    have hp' := hp ts hts
    have l2 : 2 ≤ us.length := by rw [hl]; cases t <;> simp [Tr.len]
    refine ⟨a, us, ev, k3.le.sqT' hs, fun hw => ?_, fun _ l hl => q _ _ _ w3 (s13.trans (same_upd hl)) ⟨l, _, rfl, .inl (.inl (k3.bs_new hl)), ?_⟩⟩
    · exfalso
      rw [sIxJ_eq] at hw
      have h1 := hw.1
      simp only [sIxJ] at h1
      rw [if_neg (by decide)] at h1
      have h2 : min 1 us.length = 0 := h1
      omega
    · have e0 : ∀ us : List V, Paired (fun (x y : V) => x = y) us us := by
        intro us
        induction us with
        | nil => exact .nil
        | cons x r ih => exact .cons rfl ih
      have e1 := e0 us
      have e2 := cut_pair e1 (some 1) none
      have e3 : ∀ {x y : List V}, Paired (fun (x y : V) => x = y) x y → x = y := by
        intro x y h
        induction h with
        | nil => rfl
        | cons a _ ih => rw [a, ih]
      have e4 : cutI us (some 1) none = us.drop 1 := by
        show (us.drop (min 1 us.length)).take (us.length - min 1 us.length) = _
        rw [Nat.min_eq_left (by omega), List.take_of_length_le (by rw [List.length_drop]; exact Nat.le_refl _)]
      rw [e3 e2, e4]
      exact Paired.imp (fun _ _ r => trR.imm (Imm.of (Gm.mono (same_upd hl))) r) hp'⟩⟩⟩
/-- (z, *parts) -/
theorem je_trStar {z ps : Expr} {j : Nat} {p : Pos} {wz : (Str → Prop) → Prop} {wp : (List Tr → Prop) → Prop} (hz : JE X F g z (rO tS) wz) (hp : JE X F g ps (rE X.K (t_Tr X.K)) wp)
    (h1 : starEach (.Starred ps p :: []) X.env = (true, eval ps X.env) :: starEach [] X.env := by rfl) (h2 : starEach (z :: [.Starred ps p]) X.env = (false, eval z X.env) :: starEach [.Starred ps p] X.env := by rfl) :
    JE X F g (.Tuple [z, .Starred ps p] j pos) (rO (t_Tr X.K)) (fun k => wz fun z => wp fun ts => ∃ s, Tr.mkP z ts = some s ∧ k s) :=
  peW (pe_tup (pa_cons hz (StX.pa_star hp pa_nil h1) h2)) fun σ H Q ⟨k, P, w, q⟩ => ⟨k, _, w, fun z v H1 w1 s1 r1 => ⟨k.step s1, _, w1, fun ts v2 H2 ⟨s, hs, w2⟩ s2 ⟨l, us, ev, hq, hp⟩ => by
    refine ⟨l, us, ev, .inr hq, ?_⟩
    have k2 := k.step (s1.trans s2)
    have e1 : v = .str z := r1
    have hlen : us.length ≤ 2 := by
      rw [Paired.len hp]
      cases ts with
      | nil => simp
      | cons a r =>
        cases r with
        | nil => simp
        | cons b r2 =>
          cases r2 with
          | nil => simp
          | cons c r3 => cases hs
    refine ⟨?_, fun p hpn => q s (.ref p) _ w2 ((s1.trans s2).trans (same_upd hpn)) ?_⟩
    · refine Nat.le_trans (m := 1000000) ?_ (by decide)
      simp only [List.length_cons, List.length_append, List.length_nil]
      omega
    · show trR X.K _ s (.ref p)
      have hp' : Paired ((t_Tr X.K).rel (g.bs F (upd H2 p (.tup (v :: (us ++ []))))) ) us ts := Paired.imp (fun _ _ r => trR.imm (Imm.of (Gm.mono (same_upd hpn))) r) hp
      have new := k2.bs_new (o := .tup (v :: (us ++ []))) hpn
      rw [e1] at new hp' ⊢
      cases hp' with
      | nil => cases hs
      | cons a ra =>
        cases ra with
        | nil => exact tr1_of (.inl (.inl new)) a hs
        | cons b rb =>
          cases rb with
          | nil => exact trT_of (.inl (.inl new)) a b hs
          | cons c rc => cases hs⟩⟩
end
end J
/-! A32: several except clauses, with names; calls that may raise, keyword-only parameters left out -/
namespace L2
open PySem PySem.Spec PyProof.Rows
/-- what the clauses wish of an error of the body, one after the other; the slot is the name's -/
def wMA (K : PySem.W.Frag) (Wout : WX) (D : Ends) : List (Value × Option Nat × (Addr → Value → Option Addr → TS)) → WX
  | [] => Wout
  | (c, none, ts) :: r => fun cls d σ H => ∃ b, PySem.W.exmOne K cls c = some b ∧ (b = true → ∀ a, H a = none → ts a cls d D σ H) ∧ (b = false → wMA K Wout D r cls d σ H)
  | (c, some i, ts) :: r => fun cls d σ H => ∃ b, PySem.W.exmOne K cls c = some b ∧ (b = true → ∀ a, H a = none → ts a cls d { nx := fun σ' H' => D.nx (σ'.set i none) H', rt := D.rt, bk := fun σ' H' => D.bk (σ'.set i none) H', ct := fun σ' H' => D.ct (σ'.set i none) H' } (σ.set i (some (.ref a))) H) ∧ (b = false → wMA K Wout D r cls d σ H)
inductive HdsA (X : Cx) : List ExceptHandler → List (Value × Option Nat × (Addr → Value → Option Addr → TS)) → Prop
  | nil : HdsA X [] []
  | plain {x : Str} {c : Value} {ts : Addr → Value → Option Addr → TS} {b₀ : Stmt} {suite : List Stmt} {np pos' : Pos} {hds : List ExceptHandler} {l : List (Value × Option Nat × (Addr → Value → Option Addr → TS))} (hc : Names X x c)
      (hsu : ∀ (a : Addr) (oe : Obj) (cls : Value) (d : Option Addr) (pn : List (Addr × Obj)), Zc cls d oe → (∃ vs, oe.data = .fields vs) → PSs (X.suite a ((a, oe) :: pn)) (b₀ :: suite) (ts a cls d)) (r : HdsA X hds l) :
      HdsA X (.ExceptHandler (some (.Name x np)) none (b₀ :: suite) pos' :: hds) ((c, none, ts) :: l)
  | named {x n : Str} {c : Value} {i : Nat} {ts : Addr → Value → Option Addr → TS} {b₀ : Stmt} {suite : List Stmt} {np pos' : Pos} {hds : List ExceptHandler} {l : List (Value × Option Nat × (Addr → Value → Option Addr → TS))} (hN : X.N.Nodup) (hi : X.N[i]? = some n) (hln : X.env.kindOf n = some .local) (hc : Names X x c)
      (hsu : ∀ (a : Addr) (oe : Obj) (cls : Value) (d : Option Addr) (pn : List (Addr × Obj)), Zc cls d oe → (∃ vs, oe.data = .fields vs) → PSs (X.suite a ((a, oe) :: pn)) (b₀ :: suite) (ts a cls d)) (r : HdsA X hds l) :
      HdsA X (.ExceptHandler (some (.Name x np)) (some n) (b₀ :: suite) pos' :: hds) ((c, some i, ts) :: l)
section
variable {X : Cx} {body : List Stmt} {h₀ : ExceptHandler} {hds : List ExceptHandler} {l : List (Value × Option Nat × (Addr → Value → Option Addr → TS))} {pos : Pos} {tb : WX → TS} {Wout : WX}
theorem ps_try_A (hs : X.stack = X.env :: X.outer) (hf : X.env.frame = some X.env.locals) (tk : Takes X Wout)
    (hb : ∀ (W : WX) (pn : List (Addr × Obj)) (xe : Value → Shared → Prop), Takes (X.tr pn xe) W → PassesOwn (model X.prog X.w) X.A X.env xe → PSs (X.tr pn xe) body (tb W))
    (hh : HdsA X (h₀ :: hds) l) : PS X (.Try body (h₀ :: hds) [] [] pos) (fun D σ H => tb (wMA X.K Wout D l) D σ H) := by
  refine ⟨fun pins s σ H D I h => ?_⟩
  have ok := I.ok
  have hfr : X.A.frames = some (X.env :: X.outer) := by rw [ok.frames, hs]
  refine wpAny_Try_except ?_
  refine wpAny_mono ((hb (wMA X.K Wout D l) (X.pn ++ pins) (fun e s₁ => wpAny (model X.prog X.w) X.A (noteFrame e X.env) (fun _ s₂ => wpAny (model X.prog X.w) X.A (setFlight e none) (fun _ s₃ =>
    wpAny (model X.prog X.w) X.A (handleBy e X.env (h₀ :: hds)) (SP X pins D) X.xe s₃) X.xe s₂) X.xe s₁) (fun u s' xx => ?_) PassesOwn.looking).run [] s σ H D (I.toTry _) h) (fun f s1 hsp => ?_) (fun e s1 he => he)
  · -- the catch
    obtain ⟨a, B, sI, pins', σ', H', cls, d, rfl, J', nb, up, sky, na, os, ag, w⟩ := xx
    have J : Inv X pins σ' H' sI := J'.ofTry ok
    have sky' : Sky B (X.env :: X.outer) a (Zc cls d) X.env.locals s'.heap := by rw [← hs]; exact sky
    show wpAny (model X.prog X.w) X.A (noteFrame (.ref a) X.env) _ _ _
    refine Sky.land Zc.steady hfr hf sky' fun h3 fl3 up3 => ?_
    have J3 : Inv X pins σ' H' { s' with heap := h3 } := J.landed nb fl3.1 (up.trans up3) os ag
    obtain ⟨oe3, vs3, he3, hz3, hd3⟩ := fl3.there
    have notFr : ∀ {h : Heap} {o : Obj} {vs : Array Value}, h.FunFrames B (X.env :: X.outer) → h.get? a = some o → o.data = .fields vs → a ∉ frs (X.env :: X.outer) := fun {h o vs} ff e dd hm => by
      obtain ⟨_, o', e', hnf⟩ := ff.mem hm
      rw [e] at e'; cases e'
      exact hnf _ dd
    have nfr := notFr fl3.2.2.1 he3 hd3
    have nL : a ≠ X.env.locals := fun z => nfr (List.mem_filterMap.mpr ⟨X.env, List.mem_cons_self, by rw [hf, z]⟩)
    have nF : a ∉ X.fs := fun hm => by
      obtain ⟨e, he, q⟩ := List.mem_filterMap.mp hm
      exact nfr (List.mem_filterMap.mpr ⟨e, List.mem_cons_of_mem _ he, q⟩)
    have S3 := J3.suite he3 hd3 na nL nF
    have test : ∀ {x : Str} {np : Pos} {c : Value} {Q : Value → Shared → Prop} {E : Value → Shared → Prop}, Names X x c → Q c { s' with heap := h3 } → wpAny (model X.prog X.w) (X.A.mark (some (.ref a))) (eval (.Name x np) X.env) Q E { s' with heap := h3 } := fun {x np c Q E} hc q => by
      obtain ⟨hg, hdbg, hm | ⟨hm, hv, hnn⟩⟩ := hc
      · exact ld_glob (X := X.suite a ((a, oe3) :: (X.pn ++ pins))) S3 hg hm q hdbg
      · exact ld_blt (X := X.suite a ((a, oe3) :: (X.pn ++ pins))) S3 hg hm hv q hnn hdbg
    have go : ∀ {hds' : List ExceptHandler} {l' : List (Value × Option Nat × (Addr → Value → Option Addr → TS))}, HdsA X hds' l' → wMA X.K Wout D l' cls d σ' H' →
        wpAny (model X.prog X.w) X.A (handleBy (.ref a) X.env hds') (SP X pins D) X.xe { s' with heap := h3 } := by
      intro hds' l' hk
      induction hk with
      | nil =>
        intro w
        refine wpAny_handleBy_nil ?_
        obtain ⟨k1, k2, k3, oe, vs, T, oT, ts', he, hz, hd, h1, hr⟩ := id fl3
        unfold PySem.passOn
        refine wpAny_bind (wpAny_field he hd h1 ?_)
        rw [if_neg (show ¬ ((Value.ref T == Value.none) = true) from by simp)]
        have fin : wpAny (model X.prog X.w) X.A (setFlight (.ref a) X.env.frame) (fun _ s4 => wpAny (model X.prog X.w) X.A (throw (.ref a) : Sem Flow) (SP X pins D) X.xe s4) X.xe { s' with heap := h3 } := by
          rw [hf]
          refine HandSPX.setFlight_upZ fl3 fun h4 hh4 up4 => wpAny_throw (tk _ _ ?_)
          exact ⟨a, B, sI, pins, σ', H', cls, d, rfl, J, nb, (up.trans up3).trans up4, .inr (.inr (by rw [hs]; exact hh4)), na, os, ag, w⟩
        first
          | exact wpAny_bind (wpAny_pure (wpAny_bind fin))
          | exact wpAny_bind fin
      | @plain x c ts b₀ suite np pos' hds2 l2 hc hsu r ih =>
        intro w
        obtain ⟨b, hb1, hyes, hno⟩ := w
        refine wpAny_handleBy_cons (codeAny_handlers_test ?_) (by intro q; cases q)
        have LT : PySem.W.Looks (model X.prog X.w) h3 (typeOf (.ref a)) cls := fun A Q E s k q => wpAny_typeOf_ref (k _ _ he3) (by rw [hz3.1]; exact q)
        have LM := PySem.W.exm_one (M := model X.prog X.w) (J3.kIn) LT hb1
        refine test hc (LM.here ?_)
        cases b with
        | true =>
          refine codeAny_handlers_suite ?_
          refine HandSPX.lands_againZ fl3 fun h4 fl4 up4 => ?_
          have J4 : Inv X pins σ' H' { s' with heap := h4 } := J.landed nb fl4.1 ((up.trans up3).trans up4) os ag
          obtain ⟨oe4, vs4, he4, hz4, hd4⟩ := fl4.there
          have S4 := J4.suite he4 hd4 na nL nF
          refine wpAny_mono ((hsu a oe4 cls d (X.pn ++ pins) hz4 ⟨_, hd4⟩).run [] _ _ H' _ S4 (hyes rfl a na)) (fun f s6 hsp => ?_) (fun _ _ z => False.elim z)
          cases f with
          | next =>
            obtain ⟨σ6, H6, S6, q6⟩ := hsp
            exact ⟨_, _, S6.unsuite ok, q6⟩
          | brk =>
            obtain ⟨σ6, H6, S6, q6⟩ := hsp
            exact ⟨_, _, S6.unsuite ok, q6⟩
          | cont =>
            obtain ⟨σ6, H6, S6, q6⟩ := hsp
            exact ⟨_, _, S6.unsuite ok, q6⟩
          | ret u =>
            obtain ⟨v6, σ6, H6, S6, r6, q6⟩ := hsp
            exact ⟨_, _, _, S6.unsuite ok, r6, q6⟩
        | false =>
          show wpAny _ X.A (handleBy (.ref a) X.env hds2) _ _ _
          exact ih (hno rfl)
      | @named x n c i ts b₀ suite np pos' hds2 l2 hN hi hln hc hsu r ih =>
        intro w
        obtain ⟨b, hb1, hyes, hno⟩ := w
        have hloc : Loc X.env.scope n := .inl hln
        refine wpAny_handleBy_cons (codeAny_handlers_test ?_) (by intro q; cases q)
        have LT : PySem.W.Looks (model X.prog X.w) h3 (typeOf (.ref a)) cls := fun A Q E s k q => wpAny_typeOf_ref (k _ _ he3) (by rw [hz3.1]; exact q)
        have LM := PySem.W.exm_one (M := model X.prog X.w) (J3.kIn) LT hb1
        refine test hc (LM.here ?_)
        cases b with
        | true =>
          refine codeAny_handlers_suite_as ?_
          refine HandSPX.lands_againZ fl3 fun h4 fl4 up4 => ?_
          have J4 : Inv X pins σ' H' { s' with heap := h4 } := J.landed nb fl4.1 ((up.trans up3).trans up4) os ag
          obtain ⟨oe4, vs4, he4, hz4, hd4⟩ := fl4.there
          have S4 := J4.suite he4 hd4 na nL nF
          refine store_ok (X := X.suite a ((a, oe4) :: (X.pn ++ pins))) (v := .ref a) S4 hN hi hloc rfl (fun s5 S5 => ?_) (.inr hln)
          refine wpAny_mono ((hsu a oe4 cls d (X.pn ++ pins) hz4 ⟨_, hd4⟩).run [] s5 _ H' _ S5 (hyes rfl a na)) (fun f s6 hsp => ?_) (fun _ _ z => False.elim z)
          have end_ : ∀ {σ6 : St} {H6 : Hp} {Q : Shared → Prop}, Inv (X.suite a ((a, oe4) :: (X.pn ++ pins))) [] σ6 H6 s6 → (∀ s7, Inv X pins (σ6.set i none) H6 s7 → Q s7) →
              wpAny (model X.prog X.w) X.A (do bindName X.env n .none; unbindBehindTheSuite X.env n pos') (fun _ s7 => Q s7) X.xe s6 := fun {σ6 H6 Q} S6 hq => gone_ok (S6.unsuite ok) hN hi hln hq
          cases f with
          | next =>
            obtain ⟨σ6, H6, S6, q6⟩ := hsp
            exact end_ S6 fun s7 J7 => ⟨_, _, J7, q6⟩
          | brk =>
            obtain ⟨σ6, H6, S6, q6⟩ := hsp
            exact end_ S6 fun s7 J7 => ⟨_, _, J7, q6⟩
          | cont =>
            obtain ⟨σ6, H6, S6, q6⟩ := hsp
            exact end_ S6 fun s7 J7 => ⟨_, _, J7, q6⟩
          | ret u =>
            obtain ⟨v6, σ6, H6, S6, r6, q6⟩ := hsp
            exact end_ S6 fun s7 J7 => ⟨_, _, _, J7, r6, q6⟩
        | false =>
          show wpAny _ X.A (handleBy (.ref a) X.env hds2) _ _ _
          exact ih (hno rfl)
    exact go hh w
  · cases f with
    | next =>
      obtain ⟨σ', H', J', q⟩ := hsp
      exact wpAny_execs_nil ⟨σ', H', J'.ofTry ok, q⟩
    | brk =>
      obtain ⟨σ', H', J', q⟩ := hsp
      exact ⟨σ', H', J'.ofTry ok, q⟩
    | cont =>
      obtain ⟨σ', H', J', q⟩ := hsp
      exact ⟨σ', H', J'.ofTry ok, q⟩
    | ret u =>
      obtain ⟨v, σ', H', J', r, q⟩ := hsp
      exact ⟨v, σ', H', J'.ofTry ok, r, q⟩
end
/-- as FunD.ok, for a def that lets errors out -/
theorem FunD.okX0 {P : Program} {w : World} {K : PySem.W.Frag} {mg : Str → Option Value} {base : Heap} {x qual : Str} {params : Arguments} {body : List Stmt} {scope : Scope} {dvs : List V} {kws : List (Str × V)} {f : Addr} {fd : FuncData} {N ps : List Str} {k : Nat} {sp : Sp}
    (F : FunD K x qual params body scope dvs kws f fd) (S : FnScope N ps scope) (len : ∀ vs H Q E, sp vs H Q E → vs.length = ps.length)
    (hbody : ∀ (cdv : Value) (A : Around) (outer : List Env) (s : Shared) (H : Hp) (vs : List V) (Q : VK) (E : XK), Room k (A.deeper (envOfC qual scope s.heap.objs.size f cdv)) → sp vs H Q E →
      ∃ t, PSs (cxOf (CX P w) P w K mg base N qual scope f cdv A outer s H E) body t ∧ t { nx := fun _ H' => Q .non H', rt := Q } (start N vs) H) : FnOk P w K mg base (CX P w) (k + 1) f fd ps sp := F.ok S len hbody
end L2
namespace J
open PySem PySem.Spec L2 PyProof.Rows ClX RZ
section
variable {X : Cx} {F : Fr} {g : Gm} {α β γ ρ τ σ' κ : Type} {er : Nat → Addr} {en : Nat → Int → Int → List (Str × V)} {np np2 pos pos' pos2 : Pos}
abbrev zero_W : WX := fun _ _ _ _ => False
/-- a suite of a clause -/
def SuOk (X : Cx) (F : Fr) (g : Gm) (en : Nat → Int → Int → List (Str × V)) (i : Nat) (er : Nat → Addr) (c : Nat) (p q : Int) (rt : VK) (R : Prop) (st : List Stmt) : Prop := ∃ ws : Prop, ws ∧ ∀ (a : Addr) (oe : Obj) (pn : List (Addr × Obj)) (d : Option Addr), Zc (.ref (er c)) d oe → (∃ vs, oe.data = .fields vs) →
        JSs (X.suite a ((a, oe) :: pn)) F (g.set i (.val (tEr en c p q a d) ())) st ⟨fun σ H => g.Ok F (σ.set i none) H ∧ R, rt, fun _ _ => False, fun _ _ => False⟩ ws
theorem js_tryF2 {i : Nat} {nE xC xD : Str} {xc xd : Value} {body suite suite2 rest : List Stmt} {b₀ b₁ : Stmt} {nx bk ct : L2.St → Hp → Prop} {rt : VK} {wr : Prop} {wc : Prop → EK} {wb : Prop → EK → Prop} (hs : X.stack = X.env :: X.outer) (hf : X.env.frame = some X.env.locals) (hN : X.N.Nodup) (hi : X.N[i]? = some nE) (hln : X.env.kindOf nE = some .local) (hc : Names X xC xc) (hc2 : Names X xD xd)
    (hany : g.s[i]? = some .any) (tko : Takes X zero_W)
    (hb : ∀ (R : Prop) (N : EK) (W : WX) (pn : List (Addr × Obj)) (xe : Value → Shared → Prop), Takes (X.tr pn xe) W → WishF er en F g N W → JSs (X.tr pn xe) F g body ⟨fun σ H => g.Ok F σ H ∧ R, rt, fun _ _ => False, fun _ _ => False⟩ (wb R N))
    (hsu : ∀ (R : Prop) c p q, wc R c p q → (PySem.W.exmOne X.K (.ref (er c)) xc = some true ∧ SuOk X F g en i er c p q rt R (b₀ :: suite)) ∨
      (PySem.W.exmOne X.K (.ref (er c)) xc = some false ∧ PySem.W.exmOne X.K (.ref (er c)) xd = some true ∧ SuOk X F g en i er c p q rt R (b₁ :: suite2)))
    (hr : JSs X F g rest ⟨nx, rt, bk, ct⟩ wr) : JSs X F g (.Try body [.ExceptHandler (some (.Name xC np)) (some nE) (b₀ :: suite) pos', .ExceptHandler (some (.Name xD np2)) (some nE) (b₁ :: suite2) pos2] [] [] pos :: rest) ⟨nx, rt, bk, ct⟩ (wCut wr fun R => wLet (wc R) fun N => wb R N) := by
  let ts : List Stmt → Addr → Value → Option Addr → TS := fun st a cls d D σ H => ∃ (R : Prop) (c : Nat) (p q : Int) (ws : Prop), cls = .ref (er c) ∧ (∀ (oe : Obj) (pn : List (Addr × Obj)), Zc (.ref (er c)) d oe → (∃ vs, oe.data = .fields vs) →
        JSs (X.suite a ((a, oe) :: pn)) F (g.set i (.val (tEr en c p q a d) ())) st ⟨fun σ H => g.Ok F (σ.set i none) H ∧ R, rt, fun _ _ => False, fun _ _ => False⟩ ws) ∧ RS F (g.set i (.val (tEr en c p q a d) ())) ⟨fun σ H => g.Ok F (σ.set i none) H ∧ R, rt, fun _ _ => False, fun _ _ => False⟩ ws D σ H
  have su : ∀ st (a : Addr) (oe : Obj) (cls : Value) (d : Option Addr) (pn : List (Addr × Obj)), Zc cls d oe → (∃ vs, oe.data = .fields vs) → PSs (X.suite a ((a, oe) :: pn)) st (ts st a cls d) := fun st a oe cls d pn hz hv => by
    refine ⟨fun p s σ H D I ⟨R, c, pp, qq, ws, e1, hj, h⟩ => ?_⟩
    subst e1
    exact (hj oe pn hz hv).run p s σ H D I h
  refine pssW (pss_cons (ps_try_A (pos := pos) (tb := fun W => fun D σ H => ∃ q : Prop × EK, WishF er en F g q.2 W ∧ RS F g ⟨fun σ H => g.Ok F σ H ∧ q.1, rt, fun _ _ => False, fun _ _ => False⟩ (wb q.1 q.2) D σ H)
    (l := [(xc, some i, ts (b₀ :: suite)), (xd, some i, ts (b₁ :: suite2))])
    (Wout := zero_W) hs hf tko (fun W pn xe tk _ => ?_) (.named (np := np) (pos' := pos') hN hi hln hc (su _) (.named (np := np2) (pos' := pos2) hN hi hln hc2 (su _) .nil))) hr) fun D σ H ⟨e, k, w⟩ => ?_
  · exact ⟨fun p s σ H D I ⟨q, hW, h⟩ => (hb q.1 q.2 W pn xe tk hW).run p s σ H D I h⟩
  · refine ⟨(wr, wc wr), fun σ H k c p q nn d ho => ?_, ⟨⟨fun σ H ⟨k, r⟩ => ⟨e, k, r⟩, e.rt, fun _ _ z => z.elim, fun _ _ z => z.elim⟩, k, w⟩⟩
    have fin : ∀ st, SuOk X F g en i er c p q rt wr st → ∀ a, H a = none → ts st a (.ref (er c)) d { nx := fun σ' H' => (fun σ H => RS F g ⟨nx, rt, bk, ct⟩ wr D σ H) (σ'.set i none) H', rt := D.rt, bk := fun σ' H' => D.bk (σ'.set i none) H', ct := fun σ' H' => D.ct (σ'.set i none) H' } (σ.set i (some (.ref a))) H := fun st ⟨ws, hws, hj⟩ a ha =>
      ⟨wr, c, p, q, ws, rfl, fun oe pn hz hv => hj a oe pn d hz hv, ⟨fun σ H ⟨k, r⟩ => ⟨e, k, r⟩, e.rt, fun _ _ z => z.elim, fun _ _ z => z.elim⟩, k.set (t := .val (tEr en c p q a d) ()) ⟨_, rfl, rfl, errOk_imm k.fx ho⟩, hws⟩
    rcases hsu wr c p q nn with ⟨hex, hS⟩ | ⟨hex, hex2, hS⟩
    · exact ⟨true, hex, fun _ a ha => fin _ hS a ha, fun z => (nomatch z)⟩
    · exact ⟨false, hex, fun z => (nomatch z), fun _ => ⟨true, hex2, fun _ a ha => fin _ hS a ha, fun z => (nomatch z)⟩⟩
/-- f(e, ..) that may raise, the keyword-only parameters left out -/
theorem je_callDF {dvs : List V} {f : Addr} {fd : FuncData} {ps : List Str} {T : ATy τ} {T' : ATy σ'} {ext : σ' → τ} {R : Res ρ} {n : Nat} {x : Str} {es : List Expr} {W : WX} {N : EK} {w : τ → (ρ → Prop) → EK → Prop} {wa : (σ' → Prop) → Prop} {a0 : Expr} (tk : Takes X W) (hW : WishF er en F g N W) (Fn : FnOk X.prog X.w X.K X.mg X.base (L2.CX X.prog X.w) n f fd ps (spJF T R er en w)) (hr : Room n X.A) (hg : Gl X x) (hm : X.mg x = some (.ref f)) (hk : PySem.W.keepIn X.K (.ref f) = true) (hb : ∃ ds, Vals dvs ds ∧ Binds X.K fd ps ds) (hD : ∀ H vs t, T'.rel H vs t → T.rel H (vs ++ dvs) (ext t))
    (ha : JA X F g (a0 :: es) T' wa) (hdb : (x == ("__debug__" : Str)) = false := by decide) (he : starEach (a0 :: es) X.env = (false, eval a0 X.env) :: starEach es X.env := by rfl) (hpl : (backTo pos (starEach es X.env)).any (·.1) = false := by rfl) :
    JE X F g (.Call (.Name x np) (a0 :: es) [] pos) R (fun k => wa fun t => w (ext t) k N) := by
  obtain ⟨ds, hd, hb⟩ := hb
  exact peW (pe_callSD (E := WE W) Fn hr hg hm hk hb hd (fun σ => passAt tk σ) ha hdb he hpl) fun σ H Q ⟨k, P, w, q⟩ => ⟨k, _, w, fun t vs H1 w1 s1 r1 => ⟨ext t, P, N, (k.step s1).fr, rfl, hD _ _ _ r1, w1, (fun r v H2 p s2 r2 => q r v H2 p (s1.trans s2) (R.pre s1 (R.same ((k.step s1).back s2) (Same.refl _) r2))), fun c p q nn d H2 s2 z => hW σ H2 (k.step (s1.trans s2)) c p q nn d z⟩⟩
end
end J
/-! A33: a truth value, a text or a tuple, as one kind -/
namespace L2
open PySem PySem.Spec PyProof.Rows
/-- is, is not of anything and a bool -/
def rIsV : R2 := fun x y H Q => ∃ b : Bool, y = .bl b ∧ Q (.bl (decide (x = .bl b))) H
def rNotV : R2 := fun x y H Q => ∃ b : Bool, y = .bl b ∧ Q (.bl (!decide (x = .bl b))) H
theorem RelV.bl_iff {x : V} {v : Value} {b : Bool} (r : RelV x v) : plainIs v (.bool b) = true ∧ (v == Value.bool b) = decide (x = .bl b) := by
  cases x with
  | non => cases r; exact ⟨rfl, rfl⟩
  | bl c => cases r; cases b <;> cases c <;> exact ⟨rfl, rfl⟩
  | int _ => obtain ⟨t, rfl⟩ := r; exact ⟨rfl, rfl⟩
  | str _ => obtain ⟨t, rfl⟩ := r; exact ⟨rfl, rfl⟩
  | byt _ => obtain ⟨t, rfl⟩ := r; exact ⟨rfl, rfl⟩
  | flt _ => obtain ⟨t, rfl⟩ := r; exact ⟨rfl, rfl⟩
  | ref _ => cases r; exact ⟨rfl, rfl⟩
  | ty _ => cases r; exact ⟨rfl, rfl⟩
section
variable {X : Cx}
theorem op_isV : OpR X (compareOp .Is) rIsV := by
  intro pins s σ H x y v u Q I rx ry h
  obtain ⟨b, rfl, q⟩ := h
  cases (show u = Value.bool b from ry)
  obtain ⟨h1, h2⟩ := rx.bl_iff (b := b)
  exact wpAny_is_plain h1 ⟨.bl _, H, I, by rw [h2]; rfl, q⟩
theorem op_notV : OpR X (compareOp .IsNot) rNotV := by
  intro pins s σ H x y v u Q I rx ry h
  obtain ⟨b, rfl, q⟩ := h
  cases (show u = Value.bool b from ry)
  obtain ⟨h1, h2⟩ := rx.bl_iff (b := b)
  exact wpAny_isNot_plain h1 ⟨.bl _, H, I, by rw [h2]; rfl, q⟩
end
end L2
namespace J
open PySem PySem.Spec L2 PyProof.Rows
variable {K : PySem.W.Frag}
def toldR (K : PySem.W.Frag) (H : Hp) (v : V) : Told → Prop
  | .yes b => v = .bl b
  | .txt z => v = .str z
  | .one z n => ∃ a, v = .ref a ∧ SqT K H a [.str z, .int n]
  | .two z p q => ∃ a, v = .ref a ∧ SqT K H a [.str z, .int p, .int q]
def t_Told (K : PySem.W.Frag) : Ty Told := ⟨fun H v t => toldR K H v t, fun {H H' v t} s h => by
  cases t with
  | yes b => exact h
  | txt z => exact h
  | one z n => obtain ⟨a, e, h⟩ := h; exact ⟨a, e, Same.sqT s h⟩
  | two z p q => obtain ⟨a, e, h⟩ := h; exact ⟨a, e, Same.sqT s h⟩⟩
instance : Im (t_Told K) := ⟨fun {H H' v t} s h => by
  cases t with
  | yes b => exact h
  | txt z => exact h
  | one z n => obtain ⟨a, e, h⟩ := h; exact ⟨a, e, Imm.sqT s h⟩
  | two z p q => obtain ⟨a, e, h⟩ := h; exact ⟨a, e, Imm.sqT s h⟩⟩
def toldEnc : Told → PyData
  | .yes b => .bool b
  | .txt z => .str z
  | .one z n => .tuple [.str z, .int n]
  | .two z p q => .tuple [.str z, .int p, .int q]
theorem toldEqv (s t : Told) : PyData.eqv (toldEnc s) (toldEnc t) = decide (s = t) := by
  have hs : ∀ x y : Str, PyData.eqv (.str x) (.str y) = decide (x = y) := fun x y => by
    by_cases h : x = y
    · subst h
      rw [str_eqvR, decide_eq_true rfl]
    · rw [str_eqv h, decide_eq_false h]
  cases s <;> cases t <;> simp [toldEnc, PyData.eqv, PyData.eqvAll, hs, Bool.beq_eq_decide_eq]
instance : Dat K (t_Told K) where
  enc := toldEnc
  dp := fun {H v t} h => by
    cases t with
    | yes b =>
      cases (show v = .bl b from h)
      exact .bl _
    | txt z =>
      cases (show v = .str z from h)
      exact .str _
    | one z n =>
      obtain ⟨a, e, h⟩ := h
      subst e
      exact .tup h (.cons (.str _) (.cons (.int _) .nil))
    | two z p q =>
      obtain ⟨a, e, h⟩ := h
      subst e
      exact .tup h (.cons (.str _) (.cons (.int _) (.cons (.int _) .nil)))
  lay := fun t h => by
    cases t with
    | yes b => simp [toldEnc, PyData.canLay0]
    | txt z =>
      have h' : PyData.strOk z = true := h
      simp [toldEnc, PyData.canLay0, h']
    | one z n =>
      have h' : PyData.strOk z = true := h
      simp [toldEnc, PyData.canLay0, PyData.canLayAll0, h']
    | two z p q =>
      have h' : PyData.strOk z = true := h
      simp [toldEnc, PyData.canLay0, PyData.canLayAll0, h']
  n := 3
  dep := fun t _ => by
    cases t <;> simp [toldEnc, PyData.depth, PyData.depthAll]
  eqv := toldEqv
section
variable {X : Cx} {F : Fr} {g : Gm} {e a b : Expr} {pos : Pos}
theorem je_tdB {w : (Bool → Prop) → Prop} (h : JE X F g e (rO tB) w) : JE X F g e (rO (t_Told X.K)) (fun k => w fun b => k (.yes b)) := je_as (A := tB) (B := t_Told X.K) (f := Told.yes) h fun _ _ _ r => r
theorem je_tdS {w : (Str → Prop) → Prop} (h : JE X F g e (rO tS) w) : JE X F g e (rO (t_Told X.K)) (fun k => w fun b => k (.txt b)) := je_as (A := tS) (B := t_Told X.K) (f := Told.txt) h fun _ _ _ r => r
theorem je_td2 {w : (Str × Int → Prop) → Prop} (h : JE X F g e (rO (tT X.K (a2 tS tI))) w) : JE X F g e (rO (t_Told X.K)) (fun k => w fun t => k (.one t.1 t.2)) := je_as (A := tT X.K (a2 tS tI)) (B := t_Told X.K) (f := fun t => Told.one t.1 t.2) h fun _ _ _ ⟨p, vs, e1, hs, x, y, e2, h1, h2⟩ => ⟨p, e1, by rw [e2, (h1 : x = _), (h2 : y = _)] at hs; exact hs⟩
theorem je_td3 {w : (Str × Int × Int → Prop) → Prop} (h : JE X F g e (rO (tT X.K (a3 tS tI tI))) w) : JE X F g e (rO (t_Told X.K)) (fun k => w fun t => k (.two t.1 t.2.1 t.2.2)) := je_as (A := tT X.K (a3 tS tI tI)) (B := t_Told X.K) (f := fun t => Told.two t.1 t.2.1 t.2.2) h fun _ _ _ ⟨p, vs, e1, hs, x, y, z, e2, h1, h2, h3⟩ => ⟨p, e1, by rw [e2, (h1 : x = _), (h2 : y = _), (h3 : z = _)] at hs; exact hs⟩
theorem told_bl {H : Hp} {v : V} {t : Told} {b : Bool} (h : (t_Told K).rel H v t) : decide (v = .bl b) = decide (t = .yes b) := by
  cases t with
  | yes c =>
    cases (show v = .bl c from h)
    cases b <;> cases c <;> rfl
  | txt z =>
    cases (show v = .str z from h)
    rw [decide_eq_false (by intro z; cases z), decide_eq_false (by intro z; cases z)]
  | one z n =>
    obtain ⟨a, e, _⟩ := h
    subst e
    rw [decide_eq_false (by intro z; cases z), decide_eq_false (by intro z; cases z)]
  | two z p q =>
    obtain ⟨a, e, _⟩ := h
    subst e
    rw [decide_eq_false (by intro z; cases z), decide_eq_false (by intro z; cases z)]
theorem isT_r : CmpOk F g (rO (t_Told K)) (rO tB) rIsV (fun x y k => k (decide (x = .yes y))) := fun _ x y _ _ H v u P Q _ h1 h2 p q => ⟨y, h2, by rw [told_bl h1]; exact q _ H p (Same.refl H)⟩
theorem notT_r : CmpOk F g (rO (t_Told K)) (rO tB) rNotV (fun x y k => k (!decide (x = .yes y))) := fun _ x y _ _ H v u P Q _ h1 h2 p q => ⟨y, h2, by rw [told_bl h1]; exact q _ H p (Same.refl H)⟩
variable {wa : (Told → Prop) → Prop} {wb : (Bool → Prop) → Prop}
theorem je_isTd (ha : JE X F g a (rO (t_Told X.K)) wa) (hb : JE X F g b (rO tB) wb) : JE X F g (.Compare a [.Is] [b] pos) (rO tB) (fun k => wa fun x => wb fun y => k (decide (x = .yes y))) := je_cmpR (C := fun x y k => k (decide (x = .yes y))) op_isV isT_r ha hb (nomark _)
theorem je_isnTd (ha : JE X F g a (rO (t_Told X.K)) wa) (hb : JE X F g b (rO tB) wb) : JE X F g (.Compare a [.IsNot] [b] pos) (rO tB) (fun k => wa fun x => wb fun y => k (!decide (x = .yes y))) := je_cmpR (C := fun x y k => k (!decide (x = .yes y))) op_notV notT_r ha hb (nomark _)
theorem jt_isTd (ha : JE X F g a (rO (t_Told X.K)) wa) (hb : JE X F g b (rO tB) wb) : JT X F g (.Compare a [.Is] [b] pos) (fun A B => wa fun x => wb fun y => (decide (x = .yes y) = true → A) ∧ (decide (x = .yes y) = false → B)) := jt_cmpR (C := fun x y k => k (decide (x = .yes y))) op_isV isT_r ha hb (nomark _)
theorem jt_isnTd (ha : JE X F g a (rO (t_Told X.K)) wa) (hb : JE X F g b (rO tB) wb) : JT X F g (.Compare a [.IsNot] [b] pos) (fun A B => wa fun x => wb fun y => ((!decide (x = .yes y)) = true → A) ∧ ((!decide (x = .yes y)) = false → B)) := jt_cmpR (C := fun x y k => k (!decide (x = .yes y))) op_notV notT_r ha hb (nomark _)
/-- tree[1:] of an atom, as numbers -/
theorem je_trNums {e : Expr} {j : Nat} {p1 p2 : Pos} {w : (Tr → Prop) → Prop} (he : JE X F g e (rO (t_Tr X.K)) w) :
    JE X F g (.Subscript e (.Slice (some (.Constant (.int 1) j p1)) none none p2) pos) (rO (tT X.K (aV tI))) (fun k => w fun t => ∃ ts, Tr.nums t = some ts ∧ k ts) :=
  peW (pe_slice sl_tupA he (jp_some je_int) jp_none) fun σ H Q ⟨k, P, w, q⟩ => ⟨k, _, w, fun t v H1 ⟨ts, hts, w1⟩ s1 r1 => ⟨k.step s1, (fun o => o = some 1 ∧ P ts), ⟨rfl, w1⟩, fun i H2 ⟨ei, w2⟩ s2 => ⟨k.step (s1.trans s2), (fun o => o = none ∧ P ts), ⟨rfl, w2⟩, fun o H3 ⟨eo, w3⟩ s3 => by
    subst ei eo
    have s13 := s1.trans (s2.trans s3)
    have k3 := k.step s13
    have r3 : trR X.K (g.bs F H3) t v := (t_Tr X.K).same (Gm.mono (s2.trans s3)) r1
    obtain ⟨a, u, us, ev, hs, hne, hp⟩ : ∃ a u us, v = .ref a ∧ SqT X.K (g.bs F H3) a (u :: us) ∧ us ≠ [] ∧ us = ts.map V.int := by
      cases t with
      | thr a b =>
        obtain ⟨p, e, h⟩ := r3
        cases hts
        exact ⟨p, _, _, e, h, by simp, rfl⟩
      | rng a =>
        obtain ⟨p, e, h⟩ := r3
        cases hts
        exact ⟨p, _, _, e, h, by simp, rfl⟩
      | rnd a =>
        obtain ⟨p, e, h⟩ := r3
        cases hts
        exact ⟨p, _, _, e, h, by simp, rfl⟩
      | no a => cases hts
      | two c a b => cases hts
    have l1 : 1 ≤ (u :: us).length := by simp
    refine ⟨a, u :: us, ev, k3.le.sqT' hs, fun hw => ?_, fun _ l hl => q _ _ _ w3 (s13.trans (same_upd hl)) ⟨l, _, rfl, .inl (.inl (k3.bs_new hl)), ?_⟩⟩
    · exfalso
      rw [sIxJ_eq] at hw
      have h1 := hw.1
      simp only [sIxJ] at h1
      rw [if_neg (by decide)] at h1
      have h2 : min 1 (u :: us).length = 0 := h1
      omega
    · have e4 : cutI (u :: us) (some 1) none = us := by
        show ((u :: us).drop (min 1 (u :: us).length)).take ((u :: us).length - min 1 (u :: us).length) = _
        rw [Nat.min_eq_left l1]
        show us.take (us.length + 1 - 1) = us
        exact List.take_length
      have e0 : ∀ us : List V, Paired (fun (x y : V) => x = y) us us := by
        intro us
        induction us with
        | nil => exact .nil
        | cons x r ih => exact .cons rfl ih
      have e2 := cut_pair (e0 (u :: us)) (some 1) none
      have e3 : ∀ {x y : List V}, Paired (fun (x y : V) => x = y) x y → x = y := by
        intro x y h
        induction h with
        | nil => rfl
        | cons a _ ih => rw [a, ih]
      rw [e3 e2, e4, hp]
      exact paired_ints ts⟩⟩⟩
/-- an end that is never reached -/
theorem js_nilF {D : Ends} : JSs X F g [] D False := pssW pss_nil fun D' σ H ⟨e, o, q⟩ => q.elim
end
end J
/-! A34: what no code that runs can change: the generators that sleep (a lockstep run beside one in which they are stuck) -/
namespace GenS
open PySem L2 PyProof.Rows
open PySem.Sem (wp)
def isRet : Frame → Bool
  | .ret .. => true
  | .gen .. => false
def FsOk (fs : List Frame) : Prop := ∀ F ∈ fs, isRet F = true
theorem FsOk.nil : FsOk [] := fun _ h => by cases h
theorem FsOk.app {a b : List Frame} (h : FsOk a) (h2 : FsOk b) : FsOk (a ++ b) := fun F hF => (List.mem_append.mp hF).elim (h F) (h2 F)
theorem FsOk.tail {F : Frame} {b : List Frame} (h : FsOk (F :: b)) : FsOk b := fun G hG => h G (List.mem_cons_of_mem _ hG)
theorem FsOk.split {fs : List Frame} (h : FsOk fs) : splitAtGen fs = none := by
  induction fs with
  | nil => rfl
  | cons F r ih =>
    cases F with
    | ret k hh g l c p kp =>
      show (splitAtGen r).map _ = none
      rw [ih h.tail]
      rfl
    | gen g k l c p => exact absurd (h _ List.mem_cons_self) (by simp [isRet])
def GsOk : GenState → Prop
  | .suspended _ _ _ _ fs _ => FsOk fs
  | _ => True
def EndOk : End → Prop
  | .susp _ _ _ _ _ _ fs => FsOk fs
  | .ret _ => True
theorem EndOk.gs {e : End} (h : EndOk e) : GsOk e.genState := by
  cases e with
  | ret r => trivial
  | susp v g l k c p fs => exact h
/-- the same, but stuck when it is woken -/
def stuck : GenState → GenState
  | .suspended _ l c p fs cl => .suspended (fun _ => .unsupported "asleep") l c p fs cl
  | x => x
def isSusp : GenState → Bool
  | .suspended .. => true
  | _ => false
theorem stuck_seen (x : GenState) : (stuck x).seen = x.seen := by cases x <;> rfl
theorem stuck_bare (x : GenState) : (stuck x).bare = x.bare := by cases x <;> rfl
theorem runs_stuck {M : Model} {Γ : Ctx} {p : Pos} {wh : String} : ∀ {fs : List Frame} {s s' : Shared} {e : End}, ¬ Runs M Γ p (.unsupported wh) fs s e s' := by
  have key : ∀ {Γ : Ctx} {p : Pos} {t : Sem PySem.Fin} {fs : List Frame} {s s' : Shared} {e : End}, Runs M Γ p t fs s e s' → t = .unsupported wh → False := by
    intro Γ p t fs s s' e h
    induction h <;> intro q <;> first | (cases q; done) | (rename_i ih1 _; exact ih1 q) | (rename_i ih1; exact ih1 q) | (rename_i a1 a2 ih1 ih2; exact ih1 q) | (rename_i a0 a1 a2 a3 ih1 ih2; exact ih1 q) | skip
  intro fs s s' e h
  exact key h rfl
end GenS
namespace GenS
open PySem L2 PyProof.Rows
open PySem.Sem (wp)
/-- B: the generators that sleep, as they really are -/
structure OkG (B : Nat → Option GenState) (s : Shared) : Prop where
  zz : ∀ i y, B i = some y → isSusp y = true ∧ s.gens[i]? = some (stuck y)
  aw : ∀ i x, B i = none → s.gens[i]? = some x → GsOk x
def rl (B : Nat → Option GenState) (s : Shared) : Shared := { s with gens := s.gens.mapIdx fun i x => (B i).getD x }
section
variable {B : Nat → Option GenState} {s : Shared} {M : Model}
theorem rl_at (i : Nat) : (rl B s).gens[i]? = (s.gens[i]?).map fun x => (B i).getD x := by
  unfold rl
  simp [Array.getElem?_mapIdx]
theorem rl_size : (rl B s).gens.size = s.gens.size := by simp [rl]
theorem rl_none {g : Nat} (h : B g = none) : (rl B s).gens[g]? = s.gens[g]? := by
  rw [rl_at, h]
  cases s.gens[g]? <;> rfl
theorem OkG.real (k : OkG B s) {g : Nat} {y : GenState} (h : B g = some y) : (rl B s).gens[g]? = some y := by
  rw [rl_at, (k.zz g y h).2, h]
  rfl
theorem OkG.lt (k : OkG B s) {g : Nat} {y : GenState} (h : B g = some y) : g < s.gens.size := (Array.getElem?_eq_some_iff.mp (k.zz g y h).2).1
theorem OkG.fresh (k : OkG B s) : B s.gens.size = none := by
  cases e : B s.gens.size with
  | none => rfl
  | some y => exact absurd (k.lt e) (Nat.lt_irrefl _)
theorem rl_set {g : Nat} {x : GenState} (h : B g = none) : rl B (s.setGen g x) = (rl B s).setGen g x := by
  have e : (rl B (s.setGen g x)).gens = ((rl B s).setGen g x).gens := by
    refine Array.ext_getElem? fun i => ?_
    rw [rl_at]
    show ((s.gens.setIfInBounds g x)[i]?).map _ = ((rl B s).gens.setIfInBounds g x)[i]?
    by_cases q : g = i
    · subst q
      by_cases l : g < s.gens.size
      · have l2 : g < (rl B s).gens.size := by rw [rl_size]; exact l
        simp [l, l2, h]
      · have l2 : ¬ g < (rl B s).gens.size := by rw [rl_size]; exact l
        simp [l, l2]
    · rw [Array.getElem?_setIfInBounds_ne q, Array.getElem?_setIfInBounds_ne q, rl_at]
  exact congrArg (fun G => ({ s with gens := G } : Shared)) e
theorem OkG.set (k : OkG B s) {g : Nat} {x : GenState} (h : B g = none) (hx : GsOk x) : OkG B (s.setGen g x) := by
  refine ⟨fun i y e => ?_, fun i y e q => ?_⟩
  · have ne : g ≠ i := fun z => by rw [z, e] at h; cases h
    refine ⟨(k.zz i y e).1, ?_⟩
    show (s.gens.setIfInBounds g x)[i]? = _
    rw [Array.getElem?_setIfInBounds_ne ne]
    exact (k.zz i y e).2
  · have q' : (s.gens.setIfInBounds g x)[i]? = some y := q
    by_cases z : g = i
    · subst z
      by_cases l : g < s.gens.size
      · rw [Array.getElem?_setIfInBounds_self_of_lt l] at q'
        cases q'
        exact hx
      · rw [Array.getElem?_eq_none (by simpa using l)] at q'
        cases q'
    · rw [Array.getElem?_setIfInBounds_ne z] at q'
      exact k.aw i y e q'
theorem rl_push {c : Code} (k : OkG B s) : rl B { s with gens := s.gens.push (.fresh c) } = { rl B s with gens := (rl B s).gens.push (.fresh c) } := by
  have e : (rl B { s with gens := s.gens.push (.fresh c) }).gens = (rl B s).gens.push (.fresh c) := by
    refine Array.ext_getElem? fun i => ?_
    rw [rl_at]
    show ((s.gens.push (.fresh c))[i]?).map _ = _
    rw [Array.getElem?_push, Array.getElem?_push, rl_size]
    by_cases z : i = s.gens.size
    · rw [if_pos z, if_pos z]
      show some _ = _
      rw [z, k.fresh]
      rfl
    · rw [if_neg z, if_neg z, rl_at]
  exact congrArg (fun G => ({ s with gens := G } : Shared)) e
theorem OkG.push (k : OkG B s) {c : Code} : OkG B { s with gens := s.gens.push (.fresh c) } := by
  refine ⟨fun i y e => ⟨(k.zz i y e).1, ?_⟩, fun i y e q => ?_⟩
  · show (s.gens.push (.fresh c))[i]? = _
    rw [Array.getElem?_push, if_neg (Nat.ne_of_lt (k.lt e))]
    exact (k.zz i y e).2
  · have q' : (s.gens.push (.fresh c))[i]? = some y := q
    rw [Array.getElem?_push] at q'
    by_cases z : i = s.gens.size
    · rw [if_pos z] at q'
      cases q'
      trivial
    · rw [if_neg z] at q'
      exact k.aw i y e q'
theorem OkG.seen (k : OkG B s) {g : Nat} {x : GenState} (h : s.gens[g]? = some x) : ∃ y, (rl B s).gens[g]? = some y ∧ y.seen = x.seen := by
  cases e : B g with
  | none => exact ⟨x, by rw [rl_none e, h], rfl⟩
  | some y =>
    have := (k.zz g y e).2
    rw [h] at this
    cases this
    exact ⟨y, k.real e, (stuck_seen y).symm⟩
/-- an entry that is not asleep is the same in both -/
theorem OkG.same (k : OkG B s) {g : Nat} {x : GenState} (h : s.gens[g]? = some x) (hx : ∀ y, isSusp y = true → x ≠ stuck y) : B g = none ∧ (rl B s).gens[g]? = some x := by
  cases e : B g with
  | none => exact ⟨rfl, by rw [rl_none e, h]⟩
  | some y =>
    obtain ⟨h1, h2⟩ := k.zz g y e
    rw [h] at h2
    exact absurd (Option.some.inj h2) (hx y h1)
theorem ns {x y : GenState} (h : isSusp x = false) : isSusp y = true → x ≠ stuck y := fun hy e => by
  cases y <;> simp [isSusp, stuck] at hy e
  rw [e] at h
  cases h
/-- THE LOCKSTEP -/
theorem runs_sim {Γ : Ctx} {p : Pos} {t : Sem PySem.Fin} {fs : List Frame} {s s' : Shared} {e : End} (h : Runs M Γ p t fs s e s') : FsOk fs → OkG B s → Runs M Γ p t fs (rl B s) e (rl B s') ∧ OkG B s' ∧ EndOk e := by
  induction h with
  | done => exact fun _ k => ⟨.done, k, trivial⟩
  | raise => exact fun _ k => ⟨.raise, k, trivial⟩
  | again q _ ih => exact fun f k => ⟨.again q (ih f k).1, (ih f k).2⟩
  | rule _ ih => exact fun f k => ⟨.rule (ih f k).1, (ih f k).2⟩
  | «at» _ ih => exact fun f k => ⟨.at (ih f k).1, (ih f k).2⟩
  | load q _ ih => exact fun f k => ⟨.load q (ih f k).1, (ih f k).2⟩
  | update q _ ih => exact fun f k => ⟨.update q (ih f ⟨k.zz, k.aw⟩).1, (ih f ⟨k.zz, k.aw⟩).2⟩
  | loadIfAlive _ ih => exact fun f k => ⟨.loadIfAlive (ih f k).1, (ih f k).2⟩
  | point _ ih => exact fun f k => ⟨.point (ih f k).1, (ih f k).2⟩
  | alloc _ ih => exact fun f k => ⟨.alloc (ih f ⟨k.zz, k.aw⟩).1, (ih f ⟨k.zz, k.aw⟩).2⟩
  | fresh _ ih => exact fun f k => ⟨.fresh (ih f ⟨k.zz, k.aw⟩).1, (ih f ⟨k.zz, k.aw⟩).2⟩
  | ask _ ih => exact fun f k => ⟨.ask (ih f k).1, (ih f k).2⟩
  | choose q _ ih => exact fun f k => ⟨.choose q (ih f ⟨k.zz, k.aw⟩).1, (ih f ⟨k.zz, k.aw⟩).2⟩
  | os _ ih => exact fun f k => ⟨.os (ih f ⟨k.zz, k.aw⟩).1, (ih f ⟨k.zz, k.aw⟩).2⟩
  | handled _ ih => exact fun f k => ⟨.handled (ih f k).1, (ih f k).2⟩
  | genState q _ ih =>
    intro f k
    obtain ⟨y, hy, e⟩ := k.seen q
    refine ⟨.genState hy ?_, (ih f k).2⟩
    rw [e]
    exact (ih f k).1
  | stack _ ih => exact fun f k => ⟨.stack (ih f k).1, (ih f k).2⟩
  | thread _ ih => exact fun f k => ⟨.thread (ih f k).1, (ih f k).2⟩
  | newGen _ ih =>
    intro f k
    have q := ih f k.push
    refine ⟨.newGen ?_, q.2⟩
    rw [rl_size]
    have q1 := q.1
    rw [rl_push k] at q1
    exact q1
  | call _ _ ih1 ih2 =>
    intro f k
    obtain ⟨r1, k1, _⟩ := ih1 FsOk.nil k
    obtain ⟨r2, k2, e2⟩ := ih2 f k1
    exact ⟨.call r1 r2, k2, e2⟩
  | callSusp _ ih =>
    intro f k
    obtain ⟨r1, k1, e1⟩ := ih FsOk.nil k
    exact ⟨.callSusp r1, k1, FsOk.app e1 fun F hF => by rw [List.mem_singleton.mp hF]; rfl⟩
  | yield => exact fun f k => ⟨.yield, k, FsOk.nil⟩
  | @resumeFresh Γ p g l k0 s c e₁ s₁ e s' q _ hq _ ih1 ih2 =>
    intro f k
    obtain ⟨b, q2⟩ := k.same q fun y hy => ns rfl hy
    obtain ⟨r1, k1, e1⟩ := ih1 FsOk.nil (k.set b (x := .running) trivial)
    obtain ⟨r2, k2, e2⟩ := ih2 f (k1.set b e1.gs)
    rw [rl_set b] at r1 r2
    exact ⟨.resumeFresh q2 r1 hq r2, k2, e2⟩
  | @resumeSuspended Γ p g r l k0 s k₀ l₀ c₀ p₀ fs cl e₁ s₁ e s' q h1 hq _ ih1 ih2 =>
    intro f k
    cases b : B g with
    | none =>
      obtain ⟨r1, k1, e1⟩ := ih1 (k.aw g _ b q) (k.set b (x := .running) trivial)
      obtain ⟨r2, k2, e2⟩ := ih2 f (k1.set b e1.gs)
      rw [rl_set b] at r1 r2
      exact ⟨.resumeSuspended (by rw [rl_none b, q]) r1 hq r2, k2, e2⟩
    | some y =>
      obtain ⟨y1, y2⟩ := k.zz g y b
      rw [q] at y2
      cases y <;> simp [isSusp, stuck] at y1 y2
      obtain ⟨a1, _⟩ := y2
      rw [a1] at h1
      exact absurd h1 runs_stuck
  | resumeJustStarted q hv _ ih =>
    intro f k
    obtain ⟨b, q2⟩ := k.same q fun y hy => ns rfl hy
    exact ⟨.resumeJustStarted q2 hv (ih f k).1, (ih f k).2⟩
  | resumeThrowFresh q _ ih =>
    intro f k
    obtain ⟨b, q2⟩ := k.same q fun y hy => ns rfl hy
    obtain ⟨r1, k1, e1⟩ := ih f (k.set b (x := .finished) trivial)
    rw [rl_set b] at r1
    exact ⟨.resumeThrowFresh q2 r1, k1, e1⟩
  | resumeRunning q _ ih =>
    intro f k
    obtain ⟨b, q2⟩ := k.same q fun y hy => ns rfl hy
    exact ⟨.resumeRunning q2 (ih f k).1, (ih f k).2⟩
  | resumeFinished q _ ih =>
    intro f k
    obtain ⟨b, q2⟩ := k.same q fun y hy => ns rfl hy
    exact ⟨.resumeFinished q2 (ih f k).1, (ih f k).2⟩
  | segRet _ _ ih1 ih2 =>
    intro f k
    obtain ⟨r1, k1, _⟩ := ih1 FsOk.nil k
    obtain ⟨r2, k2, e2⟩ := ih2 f.tail k1
    exact ⟨.segRet r1 r2, k2, e2⟩
  | segGen _ _ ih1 ih2 =>
    intro f k
    exact absurd (f _ List.mem_cons_self) (by simp [isRet])
  | segSuspOut q _ ih =>
    intro f k
    obtain ⟨r1, k1, e1⟩ := ih FsOk.nil k
    exact ⟨.segSuspOut q r1, k1, FsOk.app e1 f⟩
  | segSuspGen q _ _ _ ih1 ih2 =>
    intro f k
    rw [f.split] at q
    cases q
end
end GenS
namespace GenS
open PySem L2 PyProof.Rows
open PySem.Sem (wp)
section
variable {B : Nat → Option GenState} {M : Model} {Γ : Ctx}
theorem wakes_sim {p : Pos} {g : Nat} {r : Resume} {s s' : Shared} {res : GenResult} (k : OkG B s) (h : Wakes M Γ p g r s res s') : Wakes M Γ p g r (rl B s) res (rl B s') ∧ OkG B s' := by
  unfold Wakes at h ⊢
  cases q : s.gens[g]? with
  | none => rw [q] at h; exact h.elim
  | some x =>
    rw [q] at h
    cases x with
    | fresh c =>
      obtain ⟨b, q2⟩ := k.same q fun y hy => ns rfl hy
      rw [q2]
      cases r with
      | send v =>
        cases v with
        | none =>
          obtain ⟨e₁, s₁, h1, h2, h3, rfl⟩ := h
          obtain ⟨r1, k1, e1⟩ := runs_sim h1 FsOk.nil (k.set b (x := .running) trivial)
          rw [rl_set b] at r1
          exact ⟨⟨e₁, _, r1, h2, h3, rl_set b⟩, k1.set b e1.gs⟩
        | _ =>
          obtain ⟨h1, rfl⟩ := h
          exact ⟨⟨h1, rfl⟩, k⟩
      | throw x =>
        obtain ⟨h1, rfl⟩ := h
        exact ⟨⟨h1, rl_set b⟩, k.set b trivial⟩
    | suspended k₀ l₀ c₀ p₀ fs cl =>
      obtain ⟨e₁, s₁, h1, h2, h3, rfl⟩ := h
      cases b : B g with
      | none =>
        obtain ⟨r1, k1, e1⟩ := runs_sim h1 (k.aw g _ b q) (k.set b (x := .running) trivial)
        rw [rl_set b] at r1
        rw [rl_none b, q]
        exact ⟨⟨e₁, _, r1, h2, h3, rl_set b⟩, k1.set b e1.gs⟩
      | some y =>
        obtain ⟨y1, y2⟩ := k.zz g y b
        rw [q] at y2
        cases y <;> simp [isSusp, stuck] at y1 y2
        obtain ⟨a1, _⟩ := y2
        rw [a1] at h1
        exact absurd h1 runs_stuck
    | running =>
      obtain ⟨b, q2⟩ := k.same q fun y hy => ns rfl hy
      obtain ⟨h1, rfl⟩ := h
      rw [q2]
      exact ⟨⟨h1, rfl⟩, k⟩
    | finished =>
      obtain ⟨b, q2⟩ := k.same q fun y hy => ns rfl hy
      obtain ⟨h1, rfl⟩ := h
      rw [q2]
      exact ⟨⟨h1, rfl⟩, k⟩
/-- behind a run beside which the sleepers were stuck -/
def Beside (B : Nat → Option GenState) (P : Shared → Prop) (r : Shared) : Prop := ∃ s, r = rl B s ∧ OkG B s ∧ P s
theorem wp_sim {α : Type} (t : Sem α) : ∀ (Q : α → Pos → Shared → Prop) (E : Value → Pos → Shared → Prop) (p : Pos) (s : Shared), OkG B s → wp M Γ t Q E p s →
    wp M Γ t (fun a p' => Beside B (Q a p')) (fun e p' => Beside B (E e p')) p (rl B s) := by
  induction t with
  | pure a => intro Q E p s k h; exact ⟨s, rfl, k, h⟩
  | raise e => intro Q E p s k h; exact ⟨s, rfl, k, h⟩
  | unsupported _ => intro Q E p s _ h; exact h
  | finish _ => intro Q E p s _ h; exact h
  | rule _ k ih => intro Q E p s q h; exact ih () Q E p s q h
  | «at» p' k ih => intro Q E p s q h; exact ih () Q E p' s q h
  | load a _ k ih => intro Q E p s q h; obtain ⟨o, ho, h⟩ := h; exact ⟨o, ho, ih o Q E p s q h⟩
  | update a _ f k ih => intro Q E p s q h; exact ⟨h.1, ih () Q E p { s with heap := s.heap.update a f } ⟨q.zz, q.aw⟩ h.2⟩
  | loadIfAlive a k ih => intro Q E p s q h; exact ih _ Q E p s q h
  | point _ k ih => intro Q E p s q h; exact ih () Q E p s q h
  | register _ _ => intro Q E p s _ h; exact h
  | alloc o k ih => intro Q E p s q h; exact ih _ Q E p { s with heap := s.heap.push o } ⟨q.zz, q.aw⟩ h
  | fresh k ih => intro Q E p s q h; exact ih _ Q E p { s with toks := s.toks + 1 } ⟨q.zz, q.aw⟩ h
  | ask k ih => intro Q E p s q h; exact ih _ Q E p s q h
  | choose src m k ih => intro Q E p s q h; exact ⟨h.1, ih _ Q E p { s with drawn := s.drawn.bump src } ⟨q.zz, q.aw⟩ h.2⟩
  | os qq _ k ih => intro Q E p s q h; exact ih _ Q E p { s with os := (Os.step s.os qq).1 } ⟨q.zz, q.aw⟩ h
  | call c hd _ _ k ih =>
    intro Q E p s q h
    obtain ⟨r, s', hr, h⟩ := h
    obtain ⟨r1, k1, _⟩ := runs_sim hr FsOk.nil q
    exact ⟨r, _, r1, ih r Q E p s' k1 h⟩
  | handled own k ih => intro Q E p s q h; exact ih _ Q E p s q h
  | genState g k ih =>
    intro Q E p s q h
    obtain ⟨st, hs, h⟩ := h
    obtain ⟨y, hy, e⟩ := q.seen hs
    exact ⟨y, hy, by rw [e]; exact ih _ Q E p s q h⟩
  | newGen c k ih =>
    intro Q E p s q h
    have h2 := ih _ Q E p _ (q.push (c := c)) h
    rw [rl_push q] at h2
    show wp M Γ (k (rl B s).gens.size) _ _ p _
    rw [rl_size]
    exact h2
  | resume g r _ k ih =>
    intro Q E p s q h
    obtain ⟨res, s', hw, h⟩ := h
    obtain ⟨w1, k1⟩ := wakes_sim q hw
    exact ⟨res, _, w1, ih res Q E p s' k1 h⟩
  | yield _ _ _ _ => intro Q E p s _ h; exact h
  | stack k ih => intro Q E p s q h; exact ih _ Q E p s q h
  | fork _ _ => intro Q E p s _ h; exact h
  | thread k ih => intro Q E p s q h; exact ih _ Q E p s q h
  | await _ _ _ _ _ => intro Q E p s _ h; exact h
theorem wpAny_sim {α : Type} {A : Around} {s : Shared} {t : Sem α} {Q : α → Shared → Prop} {E : Value → Shared → Prop} (k : OkG B s) (h : wpAny M A t Q E s) : wpAny M A t (fun a => Beside B (Q a)) (fun e => Beside B (E e)) (rl B s) :=
  fun Γ p hΓ => wp_sim t _ _ p s k (h Γ p hΓ)
end
/-- the sleepers of a table -/
def zzOf (G : Array GenState) (i : Nat) : Option GenState := match G[i]? with
  | some x => if isSusp x = true then some x else none
  | none => none
/-- all that sleep are stuck -/
def stuckS (s : Shared) : Shared := { s with gens := s.gens.map stuck }
theorem stuck_ok (s : Shared) : OkG (zzOf s.gens) (stuckS s) := by
  refine ⟨fun i y e => ?_, fun i x e q => ?_⟩
  · unfold zzOf at e
    cases q : s.gens[i]? with
    | none => rw [q] at e; cases e
    | some x =>
      rw [q] at e
      dsimp only at e
      by_cases z : isSusp x = true
      · rw [if_pos z] at e
        cases e
        refine ⟨z, ?_⟩
        show (s.gens.map stuck)[i]? = _
        rw [Array.getElem?_map, q]
        rfl
      · rw [if_neg z] at e
        cases e
  · have q' : (s.gens.map stuck)[i]? = some x := q
    rw [Array.getElem?_map] at q'
    cases z : s.gens[i]? with
    | none => rw [z] at q'; cases q'
    | some y =>
      rw [z] at q'
      have e2 : stuck y = x := Option.some.inj q'
      unfold zzOf at e
      rw [z] at e
      dsimp only at e
      by_cases w : isSusp y = true
      · rw [if_pos w] at e
        cases e
      · rw [← e2]
        cases y <;> first | trivial | (exact absurd rfl w)
theorem rl_stuck (s : Shared) : rl (zzOf s.gens) (stuckS s) = s := by
  have e : (rl (zzOf s.gens) (stuckS s)).gens = s.gens := by
    refine Array.ext_getElem? fun i => ?_
    rw [rl_at]
    show ((s.gens.map stuck)[i]?).map _ = _
    rw [Array.getElem?_map]
    cases q : s.gens[i]? with
    | none => rfl
    | some x =>
      show some ((zzOf s.gens i).getD (stuck x)) = some x
      unfold zzOf
      rw [q]
      dsimp only
      by_cases w : isSusp x = true
      · rw [if_pos w]
        rfl
      · rw [if_neg w]
        cases x <;> first | rfl | (exact absurd rfl w)
  exact congrArg (fun G => ({ s with gens := G } : Shared)) e
theorem stuck_bareAll {s : Shared} (h : AllBare s.gens) : AllBare (stuckS s).gens := fun y hy => by
  obtain ⟨i, hi, e⟩ := Array.mem_iff_getElem.mp hy
  have hi' : i < s.gens.size := by simpa [stuckS] using hi
  have e2 : y = stuck s.gens[i] := by rw [← e]; simp [stuckS]
  rw [e2, stuck_bare]
  exact h _ (Array.getElem_mem hi')
theorem rl_bareAll {B : Nat → Option GenState} {s : Shared} (hB : ∀ i y, B i = some y → y.bare = true) (h : AllBare s.gens) : AllBare (rl B s).gens := fun y hy => by
  obtain ⟨i, hi, e⟩ := Array.mem_iff_getElem.mp hy
  have hi' : i < s.gens.size := by rw [rl_size] at hi; exact hi
  have e2 : y = (B i).getD s.gens[i] := by rw [← e]; simp [rl]
  rw [e2]
  cases q : B i with
  | none => exact h _ (Array.getElem_mem hi')
  | some x => exact hB i x q
theorem zz_bare {s : Shared} (h : AllBare s.gens) : ∀ i y, zzOf s.gens i = some y → y.bare = true := fun i y e => by
  unfold zzOf at e
  cases q : s.gens[i]? with
  | none => rw [q] at e; cases e
  | some x =>
    rw [q] at e
    dsimp only at e
    by_cases z : isSusp x = true
    · rw [if_pos z] at e
      cases e
      exact h _ (Array.mem_of_getElem? q)
    · rw [if_neg z] at e
      cases e
theorem zz_at {s : Shared} {g : Nat} {y : GenState} (h : s.gens[g]? = some y) (hy : isSusp y = true) : zzOf s.gens g = some y := by
  unfold zzOf
  rw [h]
  dsimp only
  rw [if_pos hy]
/-- THE RULE: what runs where the sleepers are stuck runs where they are not, and leaves them asleep -/
theorem wpAny_asleep {α : Type} {M : Model} {A : Around} {s : Shared} {t : Sem α} {Q : α → Shared → Prop} {E : Value → Shared → Prop} (h : wpAny M A t Q E (stuckS s)) :
    wpAny M A t (fun a => Beside (zzOf s.gens) (Q a)) (fun e => Beside (zzOf s.gens) (E e)) s := by
  have := wpAny_sim (stuck_ok s) h
  rw [rl_stuck] at this
  exact this
end GenS
/-! A35: generators whose consumer does as it likes between the items -/
namespace GenF
open PySem PySem.Spec L2 PyProof.Rows GenW GenS
/-! ### the heap below an address -/
def trunc (L : Nat) (h : Heap) : Heap := { h with objs := h.objs.extract 0 L }
theorem trunc_get {L : Nat} {h : Heap} {b : Addr} (hb : b < L) : (trunc L h).get? b = h.get? b := by
  have e : (h.objs.extract 0 L)[b]? = h.objs[b]? := by
    rw [Array.getElem?_extract]
    split
    · rw [Nat.zero_add]
    · rename_i n
      exact (Array.getElem?_eq_none (Nat.le_of_not_lt fun l => n (Nat.lt_of_lt_of_eq (Nat.lt_min.mpr ⟨hb, l⟩) (Nat.sub_zero _).symm))).symm
  unfold Heap.get? trunc
  dsimp only
  rw [e]
theorem trunc_size {L : Nat} {h : Heap} (hs : L ≤ h.objs.size) : (trunc L h).objs.size = L := by
  unfold trunc
  simp
  omega
theorem trunc_some {L : Nat} {h : Heap} {b : Addr} {o : Obj} (e : (trunc L h).get? b = some o) (hs : L ≤ h.objs.size) : b < L ∧ h.get? b = some o := by
  have l : b < L := by
    have := Heap.lt_size e
    rw [trunc_size hs] at this
    exact this
  exact ⟨l, by rw [← trunc_get l]; exact e⟩
/-! ### a generator's frame -/
structure GP where
  P : Program
  w : World
  K : PySem.W.Frag
  mg : Str → Option Value
  base : Heap
  N : List Str
  qual : Str
  scope : Scope
  f : Addr
  cd : Value
  outer : List Env
  L : Addr
  a : Addr
  go : Obj
def GP.env (G : GP) : Env := envOfC G.qual G.scope G.L G.f G.cd
/-- the context: base state and heap are those of the last waking, below its own locals -/
def GP.cx (G : GP) (A : Around) (s : Shared) (H : Hp) : Cx where
  prog := G.P
  w := G.w
  K := G.K
  mg := G.mg
  base := G.base
  A := A.deeper G.env
  N := G.N
  s_0 := s
  H_0 := H
  env := G.env
  outer := G.outer
  stack := G.env :: G.outer
  ex := []
  calm := true
  fn := fun _ => true
  pn := [(G.a, G.go)]
  xe := fun _ _ => False
def GP.tr (G : GP) (s : Shared) : Shared := { s with heap := trunc G.L s.heap }
/-- what its consumer keeps while it sleeps -/
structure Woke (G : GP) (A : Around) (ip : List (Addr × Obj)) (s s' : Shared) (H' : Hp) : Prop where
  env : Env0 G.P G.w G.K G.mg G.base A G.outer s' H'
  os : s'.os = s.os
  size : G.L ≤ s'.heap.objs.size
  keep : ∀ b, b = G.L ∨ b ∈ (([(G.a, G.go)] ++ ip).map (·.1)) → s'.heap.get? b = s.heap.get? b ∧ H' b = none
theorem funFrames_tr {base h h2 : Heap} {L : Nat} (hs : h2.objs.size = L) : ∀ {l : List Env}, h.FunFrames base l → h2.FunFrames base l → (trunc L h).FunFrames base l
  | [], _, _ => trivial
  | e :: r, ⟨a1, ⟨x, o, a2, a3, a4, a5⟩, a6⟩, ⟨b1, ⟨y, o2, b2, b3, b4, b5⟩, b6⟩ => by
    have exy : x = y := by rw [a2] at b2; exact Option.some.inj b2
    refine ⟨a1, ⟨x, o, a2, a3, ?_, a5⟩, funFrames_tr hs a6 b6⟩
    rw [trunc_get (by rw [← hs, exy]; exact Heap.lt_size b4)]
    exact a4
theorem GP.wake {G : GP} {A : Around} {ip : List (Addr × Obj)} {σ : L2.St} {H Hb H' : Hp} {s sb s' : Shared} (hL : sb.heap.objs.size = G.L) (hc : G.env.cells = []) (J : Inv (G.cx A sb Hb) ip σ H s) (W : Woke G A ip s s' H') : Inv (G.cx A (G.tr s') H') ip σ H' s' := by
  have ok := J.ok
  have nc : ∀ {x : Str} {c : Addr}, (G.cx A (G.tr s') H').env.cells.lookup x = some c → False := fun {x c} e => by
    have e' : G.env.cells.lookup x = some c := e
    rw [hc] at e'
    cases e'
  have sz : (G.tr s').heap.objs.size = G.L := trunc_size W.size
  refine ⟨⟨ok.mod, ok.kind, ok.glob, ok.blt, Nat.le_of_eq sz, fun x y c e _ => (nc e).elim, fun x hx => ok.has x hx, fun x c _ e => (nc e).elim, ok.hd, ok.frames, ok.stk, fun b z => absurd (show b ∈ ([] : List Addr) from z) (by simp), fun b o e => ?_, ?_, fun b o _ => by show b ∉ ([] : List Addr); simp, fun b z => absurd (show b ∈ ([] : List Addr) from z) (by simp), ?_, W.env.frf⟩,
    rfl, W.env.bare, Un.kept fun b u e => (trunc_some e W.size).2, ?_, fun x c e => (nc e).elim, (W.keep G.L (.inl rfl)).2, fun x c e => (nc e).elim, fun p hp => ?_, W.env.hok, J.len⟩
  · have l : b < G.L := by rw [← hL]; exact Heap.lt_size (ok.bs b o e).1
    obtain ⟨h1, h2⟩ := W.env.bs b o e
    exact ⟨by show (trunc G.L s'.heap).get? b = some o; rw [trunc_get l]; exact h1, h2⟩
  · show G.base.objs.size ≤ (G.tr s').heap.objs.size
    rw [sz, ← hL]
    exact ok.bsz
  · exact funFrames_tr hL W.env.funs ok.funs
  · obtain ⟨m, ⟨o, es, ep, ho, r⟩, hl⟩ := J.loc
    refine ⟨m, ⟨o, es, ep, ?_, r⟩, fun i x v e1 e2 e3 => ?_⟩
    · have := (W.keep G.L (.inl rfl)).1
      show s'.heap.get? G.L = some o
      rw [this]
      exact ho
    · obtain ⟨u, r1, l⟩ := hl i x v e1 e2 e3
      refine ⟨u, r1, ?_⟩
      rcases l with l | ⟨_, c, e, _⟩
      · exact .inl l
      · exact (nc e).elim
  · obtain ⟨h1, h2, h3, h4, h5⟩ := J.pin p hp
    have q := W.keep p.1 (.inr (List.mem_map.mpr ⟨p, hp, rfl⟩))
    exact ⟨q.1.trans h1, q.2, h3, h4, h5⟩
end GenF
namespace GenF
open PySem PySem.Spec L2 PyProof.Rows GenW GenS
section
variable {γ : Type}
/-- what the consumer wishes: what it does with an item, what it wants at the end -/
abbrev YK (γ : Type) := γ → V → Hp → (γ → Hp → Prop) → Prop
def YMono (Y : YK γ) : Prop := ∀ c x H K K', (∀ c' H', K c' H' → K' c' H') → Y c x H K → Y c x H K'
/-- asleep with the item v -/
def GY (G : GP) (A : Around) (Yd : YK γ) (Cw : γ → Hp → Shared → Prop) : Protocol := fun n s₀ v s kap =>
  ∃ x c Hb ip σ H, Cw c Hb s₀ ∧ RelV x v ∧ (∀ p ∈ ip, G.L < p.1) ∧ Inv (G.cx A (G.tr s₀) Hb) ip σ H s ∧ Yd c x H fun c' H' => ∀ s', Woke G A ip s s' H' → Cw c' H' s' → kap (.send .none) s'
/-- at its end -/
def GR (G : GP) (A : Around) (Kd : γ → Hp → Prop) (Cw : γ → Hp → Shared → Prop) : GenEnd := fun n s₀ r s =>
  r = .ok (.ret .none) ∧ ∃ c Hb ip σ H, Cw c Hb s₀ ∧ Inv (G.cx A (G.tr s₀) Hb) ip σ H s ∧ Kd c H
structure GD (γ : Type) where
  nx : Nat → γ → L2.St → Hp → Prop
  rt : Nat → γ → V → Hp → Prop
  bk : Nat → γ → L2.St → Hp → Prop := fun _ _ _ _ => False
  ct : Nat → γ → L2.St → Hp → Prop := fun _ _ _ _ => False
abbrev TG2 (γ : Type) := GD γ → Nat → γ → L2.St → Hp → Prop
def GD.at (D : GD γ) (n : Nat) (c : γ) : Ends := { nx := D.nx n c, rt := D.rt n c, bk := D.bk n c, ct := D.ct n c }
structure GC (G : GP) (A : Around) (c : Code) (fs : List Frame) (gd : Bool → Bool) : Prop where
  over : A.over c fs = A.deeper G.env
  split : splitAtGen fs = none
  guard : fs.any Frame.guarded = false
  gd : gd false = false
structure GK (G : GP) (A : Around) (Yd : YK γ) (Cw : γ → Hp → Shared → Prop) (R : GenEnd) (ip : List (Addr × Obj)) (code : Code) (fs : List Frame) (K : Flow → Sem PySem.Fin) (D : GD γ) : Prop where
  ipk : ∀ p ∈ ip, G.L < p.1
  ok : ∀ (n : Nat) (c : γ) (s₀ : Shared) (Hb : Hp) (s : Shared) (f : Flow), Cw c Hb s₀ → G.L ≤ s₀.heap.objs.size → SP (G.cx A (G.tr s₀) Hb) ip (D.at n c) f s → Seg (model G.P G.w) A R (GY G A Yd Cw) n s₀ code (K f) fs s
structure GS2 (G : GP) (A : Around) (Yd : YK γ) (st : Stmt) (t : TG2 γ) : Prop where
  run : ∀ (Cw : γ → Hp → Shared → Prop) (R : GenEnd) (ip : List (Addr × Obj)) (n : Nat) (c : γ) (s₀ : Shared) (Hb : Hp) (code : Code) (fs : List Frame) (K : Flow → Sem PySem.Fin) (J : Value → Sem PySem.Fin) (gd : Bool → Bool) (lv : List Value → List Value) (s : Shared) (σ : L2.St) (H : Hp) (D : GD γ),
    GC G A code fs gd → GK G A Yd Cw R ip code fs K D → Cw c Hb s₀ → G.L ≤ s₀.heap.objs.size → Inv (G.cx A (G.tr s₀) Hb) ip σ H s → t D n c σ H → Seg (model G.P G.w) A R (GY G A Yd Cw) n s₀ code ((exec st G.env).wrap K J gd lv) fs s
structure GSs2 (G : GP) (A : Around) (Yd : YK γ) (st : List Stmt) (t : TG2 γ) : Prop where
  run : ∀ (Cw : γ → Hp → Shared → Prop) (R : GenEnd) (ip : List (Addr × Obj)) (n : Nat) (c : γ) (s₀ : Shared) (Hb : Hp) (code : Code) (fs : List Frame) (K : Flow → Sem PySem.Fin) (J : Value → Sem PySem.Fin) (gd : Bool → Bool) (lv : List Value → List Value) (s : Shared) (σ : L2.St) (H : Hp) (D : GD γ),
    GC G A code fs gd → GK G A Yd Cw R ip code fs K D → Cw c Hb s₀ → G.L ≤ s₀.heap.objs.size → Inv (G.cx A (G.tr s₀) Hb) ip σ H s → t D n c σ H → Seg (model G.P G.w) A R (GY G A Yd Cw) n s₀ code ((execs st G.env).wrap K J gd lv) fs s
section
variable {G : GP} {A : Around} {Yd : YK γ} {st : Stmt} {rest : List Stmt}
def tPl (t : TS) : TG2 γ := fun D n c σ H => t (D.at n c) σ H
theorem gs_ps2 {t : TS} (h : ∀ s H, PS (G.cx A s H) st t) : GS2 G A Yd st (tPl t) := by
  refine ⟨fun Cw R ip n c s₀ Hb code fs K J gd lv s σ H D g k hc hl I ht => ?_⟩
  refine seg_wrap ?_
  rw [g.over]
  exact wpAny_mono ((h _ _).run ip s σ H (D.at n c) I ht) (fun f s' hs => k.ok n c s₀ Hb s' f hc hl hs) fun x s' hx => (show False from hx).elim
theorem gss_pss2 {t : TS} (h : ∀ s H, PSs (G.cx A s H) rest t) : GSs2 G A Yd rest (tPl t) := by
  refine ⟨fun Cw R ip n c s₀ Hb code fs K J gd lv s σ H D g k hc hl I ht => ?_⟩
  refine seg_wrap ?_
  rw [g.over]
  exact wpAny_mono ((h _ _).run ip s σ H (D.at n c) I ht) (fun f s' hs => k.ok n c s₀ Hb s' f hc hl hs) fun x s' hx => (show False from hx).elim
def tG0' : TG2 γ := fun D n c σ H => D.nx n c σ H
theorem gss_nil2 : GSs2 G A Yd [] (tG0' (γ := γ)) := by
  refine ⟨fun Cw R ip n c s₀ Hb code fs K J gd lv s σ H D g k hc hl I ht => ?_⟩
  exact seg_execs_nil (k.ok n c s₀ Hb s .next hc hl ⟨σ, H, I, ht⟩)
def tGThen2 (t u : TG2 γ) : TG2 γ := fun D n c σ H => t { D with nx := fun n c σ H => u D n c σ H } n c σ H
theorem gss_cons2 {t u : TG2 γ} (a : GS2 G A Yd st t) (b : GSs2 G A Yd rest u) : GSs2 G A Yd (st :: rest) (tGThen2 t u) := by
  refine ⟨fun Cw R ip n c s₀ Hb code fs K J gd lv s σ H D g k hc hl I ht => ?_⟩
  refine seg_execs_cons ?_
  refine a.run Cw R ip n c s₀ Hb code fs _ J gd lv s σ H { D with nx := fun n c σ H => u D n c σ H } g ⟨k.ipk, fun n' c' s₀' Hb' s' f hc' hl' hs => ?_⟩ hc hl I ht
  cases f with
  | next =>
    obtain ⟨σ', H', I', q⟩ := hs
    exact b.run Cw R ip n' c' s₀' Hb' code fs K J gd lv s' σ' H' D g k hc' hl' I' q
  | brk => exact k.ok n' c' s₀' Hb' s' .brk hc' hl' hs
  | cont => exact k.ok n' c' s₀' Hb' s' .cont hc' hl' hs
  | ret u => exact k.ok n' c' s₀' Hb' s' (.ret u) hc' hl' hs
/-- statements one behind the other -/
theorem execs_app (a b : List Stmt) (env : Env) : execs (a ++ b) env = (execs a env >>= fun f => match f with | .next => execs b env | f => pure f) := by
  induction a with
  | nil => rfl
  | cons x r ih =>
    rw [List.cons_append, execs_cons, execs_cons, ih, bind_assoc]
    congr 1
    funext f
    cases f <;> rfl
theorem gss_app2 {l : List Stmt} {t u : TG2 γ} (a : GSs2 G A Yd l t) (b : GSs2 G A Yd rest u) : GSs2 G A Yd (l ++ rest) (tGThen2 t u) := by
  refine ⟨fun Cw R ip n c s₀ Hb code fs K J gd lv s σ H D g k hc hl I ht => ?_⟩
  have e : (execs (l ++ rest) G.env).wrap K J gd lv = (execs l G.env).wrap (fun f => match f with | .next => (execs rest G.env).wrap K J gd lv | f => K f) J gd lv := by
    rw [execs_app, Sem.bind_eq_wrap', Sem.wrap_wrap]
    exact Sem.wrap_congr _ _ _ (fun f => by cases f <;> rfl) (fun _ => rfl)
  rw [e]
  refine a.run Cw R ip n c s₀ Hb code fs _ J gd lv s σ H { D with nx := fun n c σ H => u D n c σ H } g ⟨k.ipk, fun n' c' s₀' Hb' s' f hc' hl' hs => ?_⟩ hc hl I ht
  cases f with
  | next =>
    obtain ⟨σ', H', I', q⟩ := hs
    exact b.run Cw R ip n' c' s₀' Hb' code fs K J gd lv s' σ' H' D g k hc' hl' I' q
  | brk => exact k.ok n' c' s₀' Hb' s' .brk hc' hl' hs
  | cont => exact k.ok n' c' s₀' Hb' s' .cont hc' hl' hs
  | ret u => exact k.ok n' c' s₀' Hb' s' (.ret u) hc' hl' hs
/-! ### if -/
def tGIf (tc : TT) (t u : TG2 γ) : TG2 γ := fun D n c σ H => tc σ H fun b H1 => if b = true then t D n c σ H1 else u D n c σ H1
theorem gs_if2 {e : Expr} {a b : List Stmt} {pos : Pos} {tc : TT} {t u : TG2 γ} (hc : ∀ s H, PT (G.cx A s H) e tc) (ha : GSs2 G A Yd a t) (hb : GSs2 G A Yd b u) : GS2 G A Yd (.If e a b pos) (tGIf tc t u) := by
  refine ⟨fun Cw R ip n c s₀ Hb code fs K J gd lv s σ H D g k hcw hl I ht => ?_⟩
  rw [exec_If]
  refine seg_at ?_
  show Seg _ _ _ _ _ _ _ (((isTrue e G.env (eval e G.env)) >>= fun b => if b = true then execs a G.env else execs _ G.env).wrap K J gd lv) _ _
  refine seg_bind_wrap ?_
  rw [g.over]
  refine wpAny_mono ((hc _ _).run ip s σ H _ I ht) (fun d s' hd => ?_) fun x s' hx => (show False from hx).elim
  obtain ⟨H1, I1, q⟩ := hd
  cases d with
  | true =>
    rw [if_pos rfl] at q
    exact ha.run Cw R ip n c s₀ Hb code fs K J gd lv s' σ H1 D g k hcw hl I1 q
  | false =>
    rw [if_neg Bool.false_ne_true] at q
    exact hb.run Cw R ip n c s₀ Hb code fs K J gd lv s' σ H1 D g k hcw hl I1 q
/-! ### yield -/
def tGYield2 (Yd : YK γ) (te : TE) : TG2 γ := fun D n c σ H => ∃ m, n = m + 1 ∧ te σ H fun x H1 => Yd c x H1 fun c' H' => D.nx m c' σ H'
theorem gs_yield2 {e : Expr} {yp pos : Pos} {te : TE} (hm : YMono Yd) (hnc : G.env.cells = []) (he : ∀ s H, PE (G.cx A s H) e te) (hco : G.env.scope.isCoroutine = false := by rfl) (hi : interactive G.env = false := by rfl) : GS2 G A Yd (.Expr (.Yield (some e) yp) pos) (tGYield2 Yd te) := by
  refine ⟨fun Cw R ip n c s₀ Hb code fs K J gd lv s σ H D g k hcw hl I ht => ?_⟩
  obtain ⟨m, rfl, ht⟩ := ht
  refine seg_Expr_Yield g.split g.gd g.guard ?_ hco hi
  rw [g.over]
  refine wpAny_mono ((he _ _).run ip s σ H _ I ht) (fun v s' hv => ?_) fun x s' hx => (show False from hx).elim
  obtain ⟨x, H1, I1, rv, q⟩ := hv
  intro kap hk
  refine ⟨x, c, Hb, ip, σ, H1, hcw, rv, k.ipk, I1, hm _ _ _ _ _ (fun c' H' q' s'' W hc' => hk .none s'' ?_) q⟩
  exact k.ok m c' s'' H' s'' .next hc' W.size ⟨σ, H', GP.wake (trunc_size hl) hnc I1 W, q'⟩
end
end
end GenF
namespace GenF
open PySem PySem.Spec L2 PyProof.Rows GenW GenS
section
variable {γ : Type} {G : GP} {A : Around} {Yd : YK γ} {st : Stmt} {rest : List Stmt}
/-! ### while -/
def tGWhile2 (c : TT) (tb : TG2 γ) : TG2 γ := fun D n c₀ σ H => ∃ W : Nat → Nat → γ → L2.St → Hp → Prop, (∃ m, W m n c₀ σ H) ∧ ∀ m n c₁ σ H, W m n c₁ σ H →
  c σ H fun b H1 => if b = true then ∃ N : Nat → γ → L2.St → Hp → Prop, (∀ n' c' σ' H', N n' c' σ' H' → ∃ m', m' < m ∧ W m' n' c' σ' H') ∧ tb { D with nx := N, ct := N, bk := D.nx } n c₁ σ H1 else D.nx n c₁ σ H1
theorem gc_loop2 {c c' : Code} {fs : List Frame} {gd : Bool → Bool} {k : Result → Sem PySem.Fin} {l kp : List Value} {p : Pos} (g : GC G A c fs gd) (hw : c'.weight = 0) (hu : c'.cUnits = 0) :
    GC G A c' (.ret k none (gd false) l c p kp :: fs) id where
  over := (over_loop hw hu).trans g.over
  split := by
    show (splitAtGen fs).map _ = none
    rw [g.split]; rfl
  guard := by
    show (gd false || fs.any Frame.guarded) = false
    rw [g.gd, g.guard]; rfl
  gd := rfl
theorem gs_while2 {test : Expr} {body : List Stmt} {pos : Pos} {tc : TT} {tb : TG2 γ} (hc : ∀ s H, PT (G.cx A s H) test tc) (hb : GSs2 G A Yd body tb) : GS2 G A Yd (.While test body [] pos) (tGWhile2 tc tb) := by
  refine ⟨fun Cw R ip n c s₀ Hb code fs K J gd lv s σ H D g k hcw hl I ht => ?_⟩
  obtain ⟨W, ⟨m0, w0⟩, turn⟩ := ht
  refine seg_While fun p => ?_
  have gl := fun (kk : Result → Sem PySem.Fin) => gc_loop2 (k := kk) (c' := .whileLoop test body [] G.env) (l := lv []) (kp := []) (p := p) g rfl rfl
  have loop : ∀ (m n : Nat) (c : γ) (s₀ : Shared) (Hb : Hp) (s : Shared) (σ : L2.St) (H : Hp), Cw c Hb s₀ → G.L ≤ s₀.heap.objs.size → W m n c σ H → Inv (G.cx A (G.tr s₀) Hb) ip σ H s →
      Seg (model G.P G.w) A R (GY G A Yd Cw) n s₀ (.whileLoop test body [] G.env) ((model G.P G.w).den (.whileLoop test body [] G.env))
        (.ret (fun r => ((match r with | .ok f => (.pure f : Sem Flow) | .error e => .raise e).onRaise (cameBack G.env)).wrap K J gd lv) none (gd false) (lv []) code p [] :: fs) s := by
    intro m
    induction m using Nat.strongRecOn with
    | ind m ih =>
      intro n c s₀ Hb s σ H hcw hl w I
      refine seg_whileLoop ?_
      rw [(gl _).over]
      refine wpAny_mono ((hc _ _).run ip s σ H _ I (turn m n c σ H w)) (fun b s' hb' => ?_) fun x s' hx => (show False from hx).elim
      obtain ⟨H2, I2, q2⟩ := hb'
      cases b with
      | true =>
        rw [if_pos rfl] at q2
        obtain ⟨N, hN, q2⟩ := q2
        rw [if_pos rfl]
        refine hb.run Cw R ip n c s₀ Hb _ _ _ _ id id s' σ H2 { D with nx := N, ct := N, bk := D.nx } (gl _) ⟨k.ipk, fun n' c' s₀' Hb' s3 f hc' hl' hs => ?_⟩ hcw hl I2 q2
        cases f with
        | next =>
          obtain ⟨σ3, H3, I3, n3⟩ := hs
          obtain ⟨m', hm, w3⟩ := hN n' c' σ3 H3 n3
          exact seg_again rfl (ih m' hm n' c' s₀' Hb' s3 σ3 H3 hc' hl' w3 I3)
        | cont =>
          obtain ⟨σ3, H3, I3, n3⟩ := hs
          obtain ⟨m', hm, w3⟩ := hN n' c' σ3 H3 n3
          exact seg_again rfl (ih m' hm n' c' s₀' Hb' s3 σ3 H3 hc' hl' w3 I3)
        | brk => exact seg_leaf (.ok .next) (k.ok n' c' s₀' Hb' s3 .next hc' hl' hs)
        | ret v => exact seg_leaf (.ok (.ret v)) (k.ok n' c' s₀' Hb' s3 (.ret v) hc' hl' hs)
      | false =>
        rw [if_neg Bool.false_ne_true] at q2
        rw [if_neg Bool.false_ne_true]
        refine seg_execs_nil ?_
        exact seg_leaf (.ok .next) (k.ok n c s₀ Hb s' .next hcw hl ⟨σ, H2, I2, q2⟩)
  exact loop m0 n c s₀ Hb s σ H hcw hl w0 I
end
end GenF
namespace GenF
open PySem PySem.Spec L2 PyProof.Rows GenW GenS
abbrev SpG2 := ∀ γ : Type, γ → List V → Hp → YK γ → (γ → Hp → Prop) → Prop
/-- what a call of a generator def gives: a generator that has not begun -/
def GMade2 (P : Program) (w : World) (K : PySem.W.Frag) (mg : Str → Option Value) (base : Heap) (k : Nat) (outer : List Env) (H : Hp) (s : Shared) {γ : Type} (c : γ) (Yd : YK γ) (Kd : γ → Hp → Prop) (u : Value) (s' : Shared) : Prop :=
  ∃ (G : GP) (g : Nat) (code : Code), G.P = P ∧ G.w = w ∧ G.K = K ∧ G.mg = mg ∧ G.base = base ∧ G.outer = outer ∧ G.env.cells = [] ∧ u = .ref G.a ∧ G.L = s.heap.objs.size ∧ G.L < G.a ∧ G.a < s'.heap.objs.size ∧ s'.heap.get? G.a = some G.go ∧ s'.heap.IsGen G.a g ∧ (∀ v, G.go.data ≠ .cell v) ∧ (∃ oL, s'.heap.get? G.L = some oL ∧ ∀ v, oL.data ≠ .cell v) ∧
    s'.gens[g]? = some (.fresh code) ∧ s'.os = s.os ∧ AllBare s'.gens ∧ s'.heap.NoLimit ∧ (∀ b o, s.heap.get? b = some o → s'.heap.get? b = some o) ∧ H G.L = none ∧ H G.a = none ∧
    ∀ (A : Around) (s2 : Shared), Room k A → A.frames = some outer → s2.heap = s'.heap → s2.os = s'.os → AllBare s2.gens → ∀ Cw : γ → Hp → Shared → Prop, Cw c H s2 →
      ∃ n, Seg (model P w) A (GR G A Kd Cw) (GY G A Yd Cw) n s2 code ((model P w).den code) [] s2
structure GFn2 (P : Program) (w : World) (K : PySem.W.Frag) (mg : Str → Option Value) (base : Heap) (k : Nat) (f : Addr) (fd : FuncData) (ps : List Str) (sp : SpG2) : Prop where
  len : ∀ γ c vs H Yd Kd, sp γ c vs H Yd Kd → vs.length = ps.length
  run : ∀ (A : Around) (outer : List Env) (s : Shared) (H : Hp) (args : Args) (us : List Value) (vs : List V) (γ : Type) (c : γ) (Yd : YK γ) (Kd : γ → Hp → Prop), Room k A → Env0 P w K mg base A outer s H → BindsTo s fd args (ps.zip us) → Vals vs us → YMono Yd → sp γ c vs H Yd Kd →
    codeAny (model P w) A (.call (.ref f) args) (fun r s' => match r with | .ok (.ret u) => GMade2 P w K mg base k outer H s c Yd Kd u s' | _ => False) s
/-- THE RULE: a generator def, by its body -/
theorem gfn2_of {P : Program} {w : World} {K : PySem.W.Frag} {mg : Str → Option Value} {base : Heap} {k : Nat} {f : Addr} {name qual : Str} {params : Arguments} {body : List Stmt} {scope : Scope} {dV kV doc pm cdv ct oc : Value} {an od : Option Addr}
    {osl : Array (Option Value)} {N ps : List Str} {sp : SpG2} (lk : K.lookup f = some ⟨oc, od, .func (PySem.W.fnOf name qual params body scope dV kV doc pm an cdv ct), osl⟩) (hcd : PySem.W.codeIn K cdv qual = true) (S : GScope N ps scope) (hloc : ∀ y ∈ scope.names, y.2 ≠ .cell)
    (len : ∀ γ c vs H Yd Kd, sp γ c vs H Yd Kd → vs.length = ps.length)
    (hbody : ∀ (A : Around) (outer : List Env) (L a : Addr) (go : Obj) (vs : List V) (H : Hp) (γ : Type) (c : γ) (Yd : YK γ) (Kd : γ → Hp → Prop), (GP.env ⟨P, w, K, mg, base, N, qual, scope, f, cdv, outer, L, a, go⟩).cells = [] → YMono Yd → Room k (A.deeper (GP.env ⟨P, w, K, mg, base, N, qual, scope, f, cdv, outer, L, a, go⟩)) → sp γ c vs H Yd Kd →
      ∃ t n, GSs2 ⟨P, w, K, mg, base, N, qual, scope, f, cdv, outer, L, a, go⟩ A Yd body t ∧ t { nx := fun _ c _ H' => Kd c H', rt := fun _ c v H' => v = .non ∧ Kd c H' } n c (start N vs) H) :
    GFn2 P w K mg base (k + 1) f (PySem.W.fnOf name qual params body scope dV kV doc pm an cdv ct) ps sp := by
  refine ⟨len, fun A outer s H args us vs γ c Yd Kd hr e0 hb r hmo hsp => ?_⟩
  have hl := len _ _ _ _ _ _ hsp
  have KX : K.In s.heap := e0.mod.kin.keeps fun b o e => (e0.bs b o e).1
  have lim : s.heap.NoLimit := e0.mod.nolimit.keeps fun b o e => (e0.bs b o e).1
  have hkind : ∀ y ∈ ps.zip us, scope.names.lookup y.1 = some .local ∨ (scope.names.lookup y.1 = some .cell ∧ ((cellsFrom (s.heap.objs.size + 1) scope.names []).lookup y.1).isSome = true) := fun ⟨n, v⟩ hy => by
    rcases S.par n (List.of_mem_zip hy).1 with q | q
    · exact .inl q
    · exact .inr ⟨q, PySem.W.cellsFrom_some _ _ _ (.inl q)⟩
  have nocells : cellsFrom (s.heap.objs.size + 1) scope.names [] = [] := by
    have : ∀ (l : List (Str × NameKind)) (n : Nat), (∀ y ∈ l, y.2 ≠ .cell) → (∀ y ∈ l, y.2 ≠ .free) → cellsFrom n l [] = [] := by
      intro l
      induction l with
      | nil => intro n _ _; rfl
      | cons y r ih =>
        intro n h1 h2
        obtain ⟨a, b⟩ := y
        have i := ih n (fun z hz => h1 z (List.mem_cons_of_mem _ hz)) fun z hz => h2 z (List.mem_cons_of_mem _ hz)
        have n1 := h1 (a, b) List.mem_cons_self
        have n2 := h2 (a, b) List.mem_cons_self
        cases b <;> first | exact i | exact absurd rfl n1 | exact absurd rfl n2
    exact this _ _ hloc S.nofree
  refine codeAny_call_generator hr.depth (KX _ _ lk) rfl S.co S.gen rfl (PySem.W.codeRec_of KX hcd) (hb _ _ _ _ ?_)
  refine wpAny_newFunctionEnv_cells S.kind hkind fun env he s1 x => ?_
  subst he
  have lim1 : s1.heap.NoLimit := lim.keeps x.toInCall.keep
  refine ⟨lim1, ?_⟩
  obtain ⟨h1, tk, es1, hk1⟩ := x.done
  have os1 : s1.os = s.os := by rw [es1]
  have gen1 : s1.gens = s.gens := by rw [es1]
  have lt1 : s.heap.objs.size < s1.heap.objs.size := x.toInCall.ns.lt
  have sz1 : s.heap.objs.size ≤ s1.heap.objs.size := Nat.le_of_lt lt1
  have kp1 : ∀ b o, s.heap.get? b = some o → s1.heap.get? b = some o := x.toInCall.keep
  have main : ∀ (go : Obj) (nm qn : Value) (tk2 : Nat), go.cls = .type "generator" → go.data = .fields #[.int s1.gens.size 0, nm, qn] → go.slots = #[] → (∀ h : Heap, (h.push go).get? h.objs.size = some go) →
      GMade2 P w K mg base (k + 1) outer H s c Yd Kd (.ref s1.heap.objs.size) { s1 with gens := s1.gens.push (.fresh (.func body (envOfC qual scope s.heap.objs.size f cdv))), toks := tk2, heap := s1.heap.push go } := by
    intro go nm qn tk2 hgc hgd0 hgs hgp
    have hgen : ∀ h : Heap, h.get? s1.heap.objs.size = some go → h.IsGen s1.heap.objs.size s1.gens.size := fun h e => ⟨go, nm, qn, e, hgc, hgd0, hgs⟩
    have hpushed : (s1.heap.push go).get? s1.heap.objs.size = some go := hgp _
    have hgd : ∀ v, go.data ≠ .cell v := fun v q => by rw [hgd0] at q; cases q
    obtain ⟨oL, esL, epL, hoL, hdL, _⟩ := x.toInCall.ns
    refine ⟨⟨P, w, K, mg, base, N, qual, scope, f, cdv, outer, s.heap.objs.size, s1.heap.objs.size, go⟩, s1.gens.size, _, rfl, rfl, rfl, rfl, rfl, rfl, nocells, rfl, rfl, lt1, ?_, hpushed, hgen _ hpushed, hgd, ⟨oL, Heap.get?_push_of_some _ hoL, fun v q => by rw [hdL] at q; cases q⟩, Array.getElem?_push_size .., os1, ?_, lim1.keeps fun b o e => Heap.get?_push_of_some _ e, fun b o e => Heap.get?_push_of_some _ (kp1 b o e), e0.hok.fresh (Nat.le_refl _), e0.hok.fresh sz1, ?_⟩
    · show _ < (s1.heap.push _).objs.size
      rw [Heap.size_push]; exact Nat.lt_succ_self _
    · exact AllBare.push (by rw [gen1]; exact e0.bare) rfl
    intro Aw s2 hrw hfr hh hos hba Cw hcw
    have e0w : Env0 P w K mg base Aw outer s H := ⟨hfr, e0.mod, e0.bs, e0.bsz, e0.funs, e0.frf, e0.hok, e0.bare⟩
    obtain ⟨t, n, ht, hq⟩ := hbody Aw outer s.heap.objs.size s1.heap.objs.size go vs H γ c Yd Kd nocells hmo (hrw.deeper _) hsp
    have I1 : Inv (gcxOf P w K mg base N qual scope f cdv Aw outer s H (fun _ _ _ => False) []) [] (start N vs) H s1 := inv_startG S hrw.hd e0w hl r x
    have kp2 : ∀ b o, s1.heap.get? b = some o → s2.heap.get? b = some o := fun b o e => by
      rw [hh]
      exact Heap.get?_push_of_some _ e
    have I2 : Inv (gcxOf P w K mg base N qual scope f cdv Aw outer s H (fun _ _ _ => False) []) [] (start N vs) H s2 :=
      I1.call' (ch := []) (hos.trans rfl) (Un.kept kp2) (I1.hok.kept kp2) hba fun b z => by simp at z
    have hea : s2.heap.get? s1.heap.objs.size = some go := by rw [hh]; exact hpushed
    have young : H s1.heap.objs.size = none ∧ s1.heap.objs.size ≠ s.heap.objs.size ∧ s1.heap.objs.size ∉ frs outer :=
      ⟨I1.hok.fresh (Nat.le_refl _), Nat.ne_of_gt lt1, I1.nofs (Nat.le_refl _)⟩
    have I3 := Inv.pinnedG (pn := [(s1.heap.objs.size, go)]) (pins := []) I2 fun p hp => by
      rw [List.append_nil] at hp
      rw [List.mem_singleton.mp hp]
      exact ⟨hea, young.1, young.2.1, young.2.2, hgd⟩
    have sz2 : s.heap.objs.size ≤ s2.heap.objs.size := by
      rw [hh]
      show _ ≤ (s1.heap.push go).objs.size
      rw [Heap.size_push]
      omega
    -- the same, over the state of the first waking
    have J : Inv (GP.cx ⟨P, w, K, mg, base, N, qual, scope, f, cdv, outer, s.heap.objs.size, s1.heap.objs.size, go⟩ Aw (GP.tr ⟨P, w, K, mg, base, N, qual, scope, f, cdv, outer, s.heap.objs.size, s1.heap.objs.size, go⟩ s2) H) [] (start N vs) H s2 := by
      have J0 : Inv (GP.cx ⟨P, w, K, mg, base, N, qual, scope, f, cdv, outer, s.heap.objs.size, s1.heap.objs.size, go⟩ Aw s H) [] (start N vs) H s2 :=
        ⟨⟨I3.ok.mod, I3.ok.kind, I3.ok.glob, I3.ok.blt, I3.ok.above, I3.ok.inj, I3.ok.has, I3.ok.cab, I3.ok.hd, I3.ok.frames, I3.ok.stk, I3.ok.exf, I3.ok.bs, I3.ok.bsz, I3.ok.noex, I3.ok.exfs, I3.ok.funs, I3.ok.frf⟩, I3.os, I3.bare, I3.base, I3.loc, I3.cell, I3.free, I3.freeC, I3.pin, I3.hok, I3.len⟩
      refine GP.wake (H := H) (Hb := H) (s := s2) rfl nocells J0 ⟨⟨hfr, e0.mod, fun b o e => ?_, Nat.le_trans e0.bsz sz2, ?_, e0.frf, J0.hok, hba⟩, rfl, sz2, fun b hb => ⟨rfl, ?_⟩⟩
      · obtain ⟨a1, a2⟩ := e0.bs b o e
        exact ⟨kp2 b o (kp1 b o a1), a2⟩
      · exact e0.funs.of_keeps fun b o e _ => ⟨o, kp2 b o (kp1 b o e), rfl⟩
      · rcases hb with hb | hb
        · rw [hb]
          exact J0.free
        · have hb' : b ∈ [s1.heap.objs.size] := by simpa using hb
          rw [List.mem_singleton.mp hb']
          exact young.1
    refine ⟨n, ?_⟩
    refine seg_func ?_
    refine ht.run Cw (GR _ Aw Kd Cw) [] n c s2 H _ [] _ _ id id s2 (start N vs) H _ ⟨over_func, rfl, rfl, rfl⟩ ⟨fun p hp => absurd hp (by simp), fun n c s₀ Hb s' fl hc' hl' hs => ?_⟩ hcw sz2 J hq
    cases fl with
    | next =>
      obtain ⟨σ', H', I, hQ⟩ := hs
      exact seg_end (.ok (.ret .none)) ⟨rfl, c, Hb, [], σ', H', hc', I, hQ⟩
    | brk => obtain ⟨_, _, _, q⟩ := hs; exact False.elim q
    | cont => obtain ⟨_, _, _, q⟩ := hs; exact False.elim q
    | ret u =>
      obtain ⟨v, σ', H', I, rv, ev, hQ⟩ := hs
      subst ev
      have eu : u = Value.none := rv
      subst eu
      exact seg_end (.ok (.ret .none)) ⟨rfl, c, Hb, [], σ', H', hc', I, hQ⟩
  exact main _ _ _ _ rfl rfl rfl fun h => Heap.get?_push_size _ rfl
end GenF
/-! A36: for x in a generator -/
namespace GenF
open PySem PySem.Spec L2 PyProof.Rows GenW GenS
/-- woken once more -/
def Again (M : Model) (A : Around) (R : GenEnd) (Y : Protocol) (gs : GenState) : Nat → Resume → Shared → Prop
  | 0 => fun _ _ => False
  | m + 1 => fun r s => gs.Goes M A R Y m r s
section
variable {M : Model}
theorem wpAny_resumeS {A : Around} {R : GenEnd} {Y : Protocol} {n : Nat} {E : Value → Shared → Prop} {s : Shared} {g : Nat} {gs : GenState}
    {r : Resume} {l : List Value} {α : Type} {k : GenResult → Sem α} {Q : α → Shared → Prop} (hg : s.gens[g]? = some gs)
    (hgo : gs.Goes M A R Y n r (s.setGen g .running))
    (hR : ∀ x s₁, R n (s.setGen g .running) x s₁ → wpAny M A (k (End.ret x).result) Q E (s₁.setGen g .finished))
    (hY : ∀ v s₁ gs', gs'.bare = true → isSusp gs' = true → Y (n - 1) (s.setGen g .running) v s₁ (Again M A R Y gs' n) →
      wpAny M A (k (.yielded v)) Q E (s₁.setGen g gs')) :
    wpAny M A (.resume g r l k) Q E s := by
  intro Γ p hΓ
  rw [Sem.wp_resume]
  have hB : ∀ c, (Γ.wake c p).Woken A := fun c => hΓ.wake c p
  have fin : ∀ e₁ s₁, SegEnd R Y n (Seg.next M A R Y n) (s.setGen g .running) e₁ s₁ →
      Sem.wp M Γ (k e₁.result) (fun a _ s' => Q a s') (fun e _ s' => E e s') p (s₁.setGen g e₁.genState) := by
    intro e₁ s₁ he
    cases e₁ with
    | ret x => exact hR x s₁ he Γ p hΓ
    | susp v g₀ l₀ k₀ c₀ p₀ fs₀ =>
      refine hY v s₁ _ (End.bare_of_quiet he.1) rfl ?_ Γ p hΓ
      cases n with
      | zero => exact he.2
      | succ m => exact he.2
  have hqt : ∀ e₁ s₁, SegEnd R Y n (Seg.next M A R Y n) (s.setGen g .running) e₁ s₁ → e₁.quiet = true := by
    intro e₁ s₁ he
    cases e₁ with
    | ret x => rfl
    | susp v g₀ l₀ k₀ c₀ p₀ fs₀ => exact he.1
  cases gs with
  | fresh c =>
    obtain ⟨rfl, hs⟩ := hgo
    obtain ⟨e₁, s₁, hr, he⟩ := seg_iff.mp hs (Γ.wake c p) p rfl (hB c)
    exact ⟨_, _, by unfold Wakes; rw [hg]; exact ⟨e₁, s₁, hr, hqt e₁ s₁ he, rfl, rfl⟩, fin e₁ s₁ he⟩
  | suspended k₀ l₀ c₀ p₀ fs₀ cl =>
    obtain ⟨e₁, s₁, hr, he⟩ := seg_iff.mp hgo (Γ.wake c₀ p) p₀ rfl (hB c₀)
    exact ⟨_, _, by unfold Wakes; rw [hg]; exact ⟨e₁, s₁, hr, hqt e₁ s₁ he, rfl, rfl⟩, fin e₁ s₁ he⟩
  | running => exact hgo.elim
  | finished => exact hgo.elim
end
section
variable {P : Program} {w : World} {A : Around} {E : Value → Shared → Prop} {s : Shared}
/-- the next item -/
theorem next_S {a : Addr} {g n : Nat} {gs : GenState} {F : Nat → Shared → Shared → Prop} {Y : Protocol} {Q : Option Value → Shared → Prop} (hh : A.handled = none)
    (hl : s.heap.NoLimit) (hroom : A.depth < recursionLimit) (hg : s.heap.IsGen a g) (hgs : s.gens[g]? = some gs)
    (hgo : gs.Goes (model P w) A.in1 (fun n s₀ r s₁ => r = .ok (.ret .none) ∧ F n s₀ s₁) Y n (.send .none) (s.setGen g .running))
    (hY : ∀ v s₁ gs', gs'.bare = true → isSusp gs' = true → Y (n - 1) (s.setGen g .running) v s₁ (Again (model P w) A.in1 (fun n s₀ r s₁ => r = .ok (.ret .none) ∧ F n s₀ s₁) Y gs' n) → Q (some v) (s₁.setGen g gs'))
    (hP : ∀ s₁, F n (s.setGen g .running) s₁ → ∀ h', (∀ b o, s₁.heap.get? b = some o → h'.get? b = some o) → Q none { s₁.setGen g .finished with heap := h' }) :
    wpAny (model P w) A (pyNext (.ref a)) Q E s := by
  unfold pyNext
  refine wpAny_bind (wpAny_attempt (wpAny_callSpecial?_slot (name := Str.ofString "__next__") hg.typeIs slot_gen_next
    (wpAny_call_entry slot_gen_next hg.typeIs entry_gen_next ?_ (args_gen_next _))))
  show wpAny _ A.in1 (Builtin.Generator.genWake (.ref a) (.send .none)) _ _ s
  unfold Builtin.Generator.genWake
  refine wpAny_bind (wpAny_holding (wpAny_genNumber hg (wpAny_bind (wpAny_genState hgs ?_))))
  cases gs with
  | running => exact hgo.elim
  | finished => exact hgo.elim
  | _ =>
    refine wpAny_bind (wpAny_roomToWake hl hroom ?_)
    show wpAny _ A.in1 (.resume g (.send .none) [] _) _ _ s
    refine wpAny_resumeS hgs hgo (fun x s₁ hx => ?_) (fun v s₁ gs' hb hsu hv => ?_)
    · obtain ⟨hr, hp⟩ := hx
      have hres : End.result (.ret x) = .returned .none := by
        rw [hr] <;> rfl
      first | rw [hres] | simp only [hres]
      show wpAny _ A.in1 (newExc (.type "StopIteration") [] >>= _) _ _ _
      refine wpAny_bind ?_
      simp only [newExc, newTuple]
      refine wpAny_bind (wpAny_newObj_type ?_ (by size_fits))
      refine wpAny_bind (m := firstArgMember _ _) (wpAny_of_eq (a := Value.none) (by first | rfl | (simp only [firstArgMember]; rfl)) ?_)
      refine wpAny_newObj_type ?_ (by size_fits)
      simp only [raiseNew]
      refine wpAny_bind (wpAny_bind (wpAny_handled ?_))
      first | rw [show A.in1.handled = none from hh] | rw [hh]
      refine wpAny_throw ?_
      refine wpAny_bind (wpAny_isInstance (T := "StopIteration") (b := true) ⟨_, Heap.get?_push_size _ rfl, rfl⟩ isSubtype_stop ?_)
      exact wpAny_pure (hP s₁ hp _ fun b o hb => Heap.get?_push_of_some _ (Heap.get?_push_of_some _ hb))
    · exact wpAny_pure ⟨v, rfl, wpAny_pure (hY v s₁ gs' hb hsu hv)⟩
end
end GenF
namespace GenF
open PySem PySem.Spec L2 PyProof.Rows GenW GenS
/-- what is true of the consumer and the generator from its making on -/
structure Mine (X : Cx) (pins : List (Addr × Obj)) (G : GP) : Prop where
  P : G.P = X.prog
  w : G.w = X.w
  K : G.K = X.K
  mg : G.mg = X.mg
  base : G.base = X.base
  outer : G.outer = X.stack
  nc : G.env.cells = []
  loc : X.env.locals < G.L
  cells : ∀ x c, X.env.cells.lookup x = some c → c < G.L
  pins : ∀ p ∈ X.pn ++ pins, p.1 < G.L
  sz : X.s_0.heap.objs.size ≤ G.L
  ne : G.L < G.a
/-- the generator's objects, as they stand while it sleeps -/
structure Stands (G : GP) (g : Nat) (H : Hp) (s : Shared) : Prop where
  go : s.heap.get? G.a = some G.go
  gen : s.heap.IsGen G.a g
  gd : ∀ v, G.go.data ≠ .cell v
  loc : ∃ oL, s.heap.get? G.L = some oL ∧ ∀ v, oL.data ≠ .cell v
  nL : H G.L = none
  nA : H G.a = none
def MadeG (X : Cx) (pins : List (Addr × Obj)) (k : Nat) (H : Hp) (s : Shared) {γ : Type} (c : γ) (Yd : YK γ) (Kd : γ → Hp → Prop) (u : Value) : Prop :=
  ∃ (G : GP) (g : Nat) (code : Code), Mine X pins G ∧ Stands G g H s ∧ u = .ref G.a ∧ s.gens[g]? = some (.fresh code) ∧
    ∀ (A : Around) (s2 : Shared), Room k A → A.frames = some X.stack → s2.heap = s.heap → s2.os = s.os → AllBare s2.gens → ∀ Cw : γ → Hp → Shared → Prop, Cw c H s2 →
      ∃ n, Seg (model X.prog X.w) A (GR G A Kd Cw) (GY G A Yd Cw) n s2 code ((model X.prog X.w).den code) [] s2
abbrev TIG := ∀ γ : Type, γ → L2.St → Hp → YK γ → (γ → Hp → Prop) → Prop
/-- an expression whose value is a generator that has not begun -/
structure PIG (X : Cx) (k : Nat) (iter : Expr) (wi : TIG) : Prop where
  run : ∀ (pins : List (Addr × Obj)) (s : Shared) (σ : L2.St) (H : Hp) (γ : Type) (c : γ) (Yd : YK γ) (Kd : γ → Hp → Prop), Inv X pins σ H s → YMono Yd → wi γ c σ H Yd Kd →
    wpAny (model X.prog X.w) X.A (eval iter X.env) (fun v s1 => ∃ H1, Inv X pins σ H1 s1 ∧ MadeG X pins k H1 s1 c Yd Kd v) X.xe s
section
variable {X : Cx} {pins : List (Addr × Obj)} {k : Nat} {f : Addr} {fd : FuncData} {ps : List Str} {sp : SpG2} {ds : List Value} {dvs : List V}
theorem run_gfn2 {σ : L2.St} {H : Hp} {s : Shared} {us : List Value} {vs : List V} {γ : Type} {c : γ} {Yd : YK γ} {Kd : γ → Hp → Prop} {E1 : Value → Shared → Prop} (F : GFn2 X.prog X.w X.K X.mg X.base k f fd ps sp) (hr : Room k X.A) (hb : Binds X.K fd ps ds) (hd : Vals dvs ds)
    (I : Inv X pins σ H s) (r : Vals vs us) (hmo : YMono Yd) (h : sp γ c (vs ++ dvs) H Yd Kd) :
    wpAny (model X.prog X.w) X.A (call (.ref f) us) (fun u s' => ∃ H1, Inv X pins σ H1 s' ∧ MadeG X pins k H1 s' c Yd Kd u) E1 s := by
  have r2 : Vals (vs ++ dvs) (us ++ ds) := r.append hd
  have hl2 : (us ++ ds).length = ps.length := by rw [← r2.length]; exact F.len _ _ _ _ _ _ h
  refine wpAny_call (codeAny_mono (F.run X.A X.stack s H ⟨us, []⟩ (us ++ ds) (vs ++ dvs) γ c Yd Kd hr I.env0 (hb s us I.kIn hl2) r2 hmo h) fun r s' hq => ?_)
  cases r with
  | error e => exact False.elim hq
  | ok fl =>
    cases fl with
    | ret u =>
      obtain ⟨G, g, code, e1, e2, e3, e4, e5, e6, nc, eu, eL, ne, lt, go, gen, gd, oL, hg, os, ba, nl, kp, nL, nA, seg⟩ := hq
      refine ⟨H, I.call' (ch := []) os (Un.kept kp) (I.hok.kept kp) ba fun b z => by simp at z, G, g, code, ⟨e1, e2, e3, e4, e5, e6, nc, ?_, fun x c e => ?_, fun p hp => ?_, ?_, ne⟩, ⟨go, gen, gd, oL, nL, nA⟩, eu, hg, seg⟩
      · rw [eL]; exact I.lt
      · rw [eL]
        obtain ⟨v, q⟩ := I.cell x c e
        exact q.lt
      · rw [eL]
        exact Heap.lt_size (I.pin p hp).1
      · rw [eL]; exact I.sz
    | next => exact False.elim hq
    | brk => exact False.elim hq
    | cont => exact False.elim hq
/-- f(e, ..) of a generator def -/
theorem pig_call {x : Str} {e : Expr} {es : List Expr} {t : TA} {p pos' : Pos} (F : GFn2 X.prog X.w X.K X.mg X.base k f fd ps sp) (hr : Room k X.A) (hg : Gl X x) (hm : X.mg x = some (.ref f)) (hk : PySem.W.keepIn X.K (.ref f) = true) (hb : Binds X.K fd ps ds) (hd : Vals dvs ds)
    (ha : PA X (e :: es) t) (hdb : (x == ("__debug__" : Str)) = false := by decide) (he : starEach (e :: es) X.env = (false, eval e X.env) :: starEach es X.env := by rfl) (hpl : (backTo pos' (starEach es X.env)).any (·.1) = false := by rfl) :
    PIG X k (.Call (.Name x p) (e :: es) [] pos') (fun γ c σ H Yd Kd => t σ H fun vs H1 => sp γ c (vs ++ dvs) H1 Yd Kd) := by
  refine ⟨fun pins s σ H γ c Yd Kd I hmo h => ?_⟩
  refine wpAny_Call_Name_kw (ld_glob I hg hm ?_ hdb)
  refine PySem.W.callWith_K (h₀ := X.base) I.ok.mod.kin hk (thn (ha.run pos' pins s σ H _ I h) fun us s1 ⟨vs, H1, I1, r, q⟩ => ⟨I1.kIn, ?_⟩) he hpl
  exact run_gfn2 F hr hb hd I1 r hmo q
/-- o.m(e, ..) of a generator method -/
theorem pig_meth {C : Addr} {m : Str} {o e : Expr} {es : List Expr} {ta : TE} {t : TA} {apos pos' : Pos} {pl : Sem Bool} (he : PE X o ta) (c : Cls X.K C) (hm : Meth X.K C m f) (F : GFn2 X.prog X.w X.K X.mg X.base k f fd ps sp) (hr : Room k X.A) (hb : Binds X.K fd ps ds) (hd : Vals dvs ds) (ha : PA X (e :: es) t)
    (hst : starEach (e :: es) X.env = (false, eval e X.env) :: starEach es X.env := by rfl) (hpl : (backTo pos' (starEach es X.env)).any (·.1) = false := by rfl)
    (ht : eval (.Call (.Attribute o m apos) (e :: es) [] pos') X.env = (do
      let ov ← eval o X.env
      standAt apos.atName
      let (f, first) ← holding [ov] (getMethod ov m pl)
      callWith pos' f first (backTo pos' (starEach (e :: es) X.env)) (backToKw pos' (keywordEach [] X.env))) := by rfl) :
    PIG X k (.Call (.Attribute o m apos) (e :: es) [] pos') (fun γ cc σ H Yd Kd => ta σ H fun x H1 => ∃ a dx fs, x = .ref a ∧ H1 a = some (.ins C dx fs) ∧ fs.lookup m = none ∧ t σ H1 fun vs H2 => sp γ cc (.ref a :: vs ++ dvs) H2 Yd Kd) := by
  refine ⟨fun pins s σ H γ cc Yd Kd I hmo h => ?_⟩
  refine PySem.W.methodCall_KW (pl := pl) (thn (he.run pins s σ H _ I h) fun u s1 ⟨x, H1, I1, rx, a, dx, fs, ex, ea, l, q⟩ => ?_) ht
  subst ex
  obtain rfl : u = Value.ref a := rx
  refine getmeth_ok I1 ea c hm l ?_
  refine PySem.W.callWith_K (first := [.ref a]) (h₀ := X.base) I.ok.mod.kin hm.kp (thn (ha.run pos' pins s1 σ H1 _ I1 q) fun us s2 ⟨vs, H2, I2, r, q2⟩ => ⟨I2.kIn, ?_⟩) hst hpl
  exact run_gfn2 (us := .ref a :: us) (vs := .ref a :: vs) F hr hb hd I2 (.cons rfl r) hmo q2
end
end GenF
namespace GenF
open PySem PySem.Spec L2 PyProof.Rows GenW GenS
section
variable {X : Cx} {pins : List (Addr × Obj)} {G : GP} {A : Around}
theorem addr_ne {a b L : Addr} (h : a < L) (h2 : L ≤ b) : b ≠ a := fun z => absurd (Nat.lt_of_lt_of_le h h2) (by rw [z]; exact Nat.lt_irrefl _)
/-- the table of generators is nobody's -/
theorem inv_gens {σ : L2.St} {H : Hp} {s : Shared} (I : Inv X pins σ H s) {g' : Array GenState} (h : AllBare g') : Inv X pins σ H { s with gens := g' } :=
  ⟨I.ok, I.os, h, I.base, I.loc, I.cell, I.free, I.freeC, I.pin, I.hok, I.len⟩
/-- the consumer's own state behind a turn of the generator -/
theorem turned_back (M : Mine X pins G) {c σg : L2.St} {H Hb : Hp} {s s₀ : Shared} {ip : List (Addr × Obj)} (hl : G.L ≤ s₀.heap.objs.size) (I : Inv X pins c Hb s₀) (J : Inv (G.cx A (G.tr s₀) Hb) ip σg H s) : Inv X pins c H s := by
  have ch : ∀ b, b ∈ (List.range s₀.heap.objs.size).filter (fun b => decide (G.L ≤ b)) ↔ b < s₀.heap.objs.size ∧ G.L ≤ b := fun b => by
    rw [List.mem_filter, List.mem_range, decide_eq_true_eq]
  have below : ∀ {b : Addr} {o : Obj}, b ∉ (List.range s₀.heap.objs.size).filter (fun b => decide (G.L ≤ b)) → s₀.heap.get? b = some o → (G.tr s₀).heap.get? b = some o := fun {b o} nb e => by
    have l : b < G.L := by
      apply Classical.byContradiction
      intro z
      exact nb ((ch b).mpr ⟨Heap.lt_size e, Nat.le_of_not_lt z⟩)
    show (trunc G.L s₀.heap).get? b = some o
    rw [trunc_get l]
    exact e
  have B : Un (frs G.outer) [] Hb H (G.tr s₀).heap s.heap := J.base
  rw [M.outer] at B
  have nil : ∀ b : Addr, b ∉ ([] : List Addr) := fun b => by simp
  refine I.call' (ch := (List.range s₀.heap.objs.size).filter (fun b => decide (G.L ≤ b))) J.os ⟨fun b o e n hb hx => B.keep b o (below hx e) n hb (nil b), fun b o e n hb hx => B.slot b o (below hx e) n hb (nil b), fun b o e n hx => B.free b o (below hx e) n (nil b), fun b o e hx => B.there b o (below hx e) (nil b), B.tups, B.frzs, B.tbls⟩ ?_ J.bare fun b hb => ?_
  · have := J.hok
    show HOk X.prog X.w H s.heap
    rw [← M.P, ← M.w]
    exact this
  · obtain ⟨b1, b2⟩ := (ch b).mp hb
    exact ⟨.inr (Nat.le_trans M.sz b2), addr_ne M.loc b2, fun x c e => (addr_ne (M.cells x c e) b2).symm, fun p hp => (addr_ne (M.pins p hp) b2).symm⟩
theorem mine_fp (M : Mine X pins G) {c : L2.St} {H : Hp} {s : Shared} (I : Inv X pins c H s) {b : Addr} (hb : G.L ≤ b) (hn : H b = none) : FpOk X pins H b := by
  refine ⟨hn, addr_ne M.loc hb, fun z => ?_, .inr (Nat.le_trans M.sz hb), fun x c e => (addr_ne (M.cells x c e) hb).symm, fun p hp => (addr_ne (M.pins p hp) hb).symm⟩
  obtain ⟨_, o, ho, _⟩ := I.ok.funs.mem z
  exact absurd (Nat.lt_of_lt_of_le (Heap.lt_size ho) (Nat.le_trans M.sz hb)) (Nat.lt_irrefl _)
/-- an exception of the body is the same where the sleepers are stuck -/
def XeSim (X : Cx) : Prop := ∀ (B : Nat → Option GenState) (e : Value) (s : Shared), (∀ i y, B i = some y → y.bare = true) → OkG B s → X.xe e s → X.xe e (rl B s)
end
section
variable {X : Cx} {k : Nat} {iter tg : Expr} {body : List Stmt} {wi : TIG} {g : TG} {tb : TS} {pos : Pos}
/-- what is done with an item -/
def yFor (g : TG) (tb : TS) (D : Ends) : YK L2.St := fun c x H K => g x c H fun σ2 H2 => tb { D with nx := K, ct := K, bk := D.nx } σ2 H2
theorem ps_forG (hp : PassesOwn (model X.prog X.w) X.A X.env X.xe) (hx : XeSim X) (hc : X.A.handled = none) (hr : Room (k + 1) X.A) (hi : PIG X k iter wi) (hg : PG X tg g) (hb : PSs X body tb)
    (hmo : ∀ D, YMono (yFor g tb D))
    (hs : ∀ x, foldedSetIterable iter X.env x = pure x := by intro _; rfl) : PS X (.For tg iter body [] pos) (fun D σ H => wi L2.St σ σ H (yFor g tb D) D.nx) := by
  refine ⟨fun pins s σ H D I h => ?_⟩
  have hfr : X.A.frames = some X.stack := I.ok.frames
  refine wpAny_For (thn (hi.run pins s σ H L2.St σ (yFor g tb D) D.nx I (hmo D) h) fun v s1 h1 => ?_) hs
  obtain ⟨H1, I1, G, gn, code, M, S1, ev, hg1, seg⟩ := h1
  subst ev
  refine wpAny_pyIter_gen S1.gen ?_
  have hd1 : X.A.depth < recursionLimit := by have := hr.dp; omega
  -- the state of the consumer at a waking
  let Cw : L2.St → Hp → Shared → Prop := fun c H s => Inv X pins c H s ∧ G.L ≤ s.heap.objs.size ∧ Stands G gn H s
  let A1 : Around := X.A.in1
  have hr1 : Room k A1 := hr.in1
  have big : ∀ {s : Shared} {H : Hp}, Stands G gn H s → G.L ≤ s.heap.objs.size := fun {s H} S => by
    obtain ⟨oL, e, _⟩ := S.loc
    exact Nat.le_of_lt (Heap.lt_size e)
  refine codeAny_forLoop_any (fun m s' => ∃ (c : L2.St) (H' : Hp) (gs : GenState), Inv X pins c H' s' ∧ Stands G gn H' s' ∧ s'.gens[gn]? = some gs ∧
    gs.Goes (model X.prog X.w) A1 (GR G A1 D.nx Cw) (GY G A1 (yFor g tb D) Cw) m (.send .none) (s'.setGen gn .running)) ?_ ((seg A1 (s1.setGen gn .running) hr1 hfr rfl rfl (allBare_setGen I1.bare rfl) Cw ⟨inv_gens I1 (allBare_setGen I1.bare rfl), (big S1 : G.L ≤ s1.heap.objs.size), ⟨S1.go, S1.gen, S1.gd, S1.loc, S1.nL, S1.nA⟩⟩).choose) ?_
  · rintro m s3 ⟨c3, H3, gs, I3, S3, hgs, hgo⟩
    have stS : ∀ {H : Hp} {s' : Shared} (x : GenState), Stands G gn H s' → Stands G gn H (s'.setGen gn x) := fun {H s'} x S => ⟨S.go, S.gen, S.gd, S.loc, S.nL, S.nA⟩
    have later : ∀ {c Hb : _} {s₀ s : Shared} {ip : List (Addr × Obj)} {σg : L2.St} {H : Hp}, Cw c Hb s₀ → Inv (G.cx A1 (G.tr s₀) Hb) ip σg H s → Inv X pins c H s ∧ Stands G gn H s := fun {c Hb s₀ s ip σg H} hcw J => by
      obtain ⟨Ic, sz0, Sc⟩ := hcw
      refine ⟨turned_back M sz0 Ic J, ?_⟩
      have pa := J.pin (G.a, G.go) (List.mem_append_left _ (List.mem_singleton.mpr rfl))
      have hgo : s.heap.get? G.a = some G.go := pa.1
      obtain ⟨o, nm, qn, ho, hc1, hd1, hs1⟩ := Sc.gen
      rw [Sc.go] at ho
      have eo : G.go = o := Option.some.inj ho
      obtain ⟨mm, ⟨oL, es, ep, hoL, hdL, _⟩, _⟩ := J.loc
      exact ⟨hgo, ⟨G.go, nm, qn, hgo, by rw [eo]; exact hc1, by rw [eo]; exact hd1, by rw [eo]; exact hs1⟩, Sc.gd, ⟨oL, hoL, fun v q => by rw [hdL] at q; cases q⟩, J.free, pa.2.1⟩
    have lt3 : gn < s3.gens.size := (Array.getElem?_eq_some_iff.mp hgs).1
    refine wpAny_passesOwn hp (wpAny_gsz (n := gn + 1) lt3 (next_S hc I3.nolimit hd1 S3.gen hgs (F := fun n s₀ s => ∃ c Hb ip σg H, Cw c Hb s₀ ∧ Inv (G.cx A1 (G.tr s₀) Hb) ip σg H s ∧ D.nx c H) hgo (fun v s4 gs' hbare hsu hv => ?_) fun s4 hq h' hk => ?_))
    · -- an item
      obtain ⟨x, c, Hb, ip, σg, H4, hcw, rv, hip, J, hY⟩ := hv
      obtain ⟨I4, S4⟩ := later hcw J
      intro hsz
      have lt4 : gn < s4.gens.size := by
        rw [setGen_size] at hsz
        exact hsz
      have I5 : Inv X pins c H4 (s4.setGen gn gs') := inv_gens I4 (allBare_setGen I4.bare hbare)
      have S5 := stS gs' S4
      have g5 : (s4.setGen gn gs').gens[gn]? = some gs' := setGen_at lt4
      obtain ⟨og, nm, qn, ho, hgc, hgd, _⟩ := S5.gen
      refine wpAny_passesOwn hp (go_of ho hgc hgd (by decide +kernel) ?_)
      -- the generator's objects are pinned
      let fp : List Addr := G.L :: (([(G.a, G.go)] ++ ip).map (·.1))
      have young : ∀ b ∈ fp, G.L ≤ b ∧ H4 b = none ∧ ∃ o, s4.heap.get? b = some o ∧ ∀ v, o.data ≠ .cell v := fun b hb => by
        rcases List.mem_cons.mp hb with e | hb
        · rw [e]
          exact ⟨Nat.le_refl _, S4.nL, S4.loc⟩
        · obtain ⟨p, hp, e⟩ := List.mem_map.mp hb
          obtain ⟨q1, q2, _, _, q5⟩ := J.pin p hp
          rw [← e]
          refine ⟨?_, q2, p.2, q1, q5⟩
          rcases List.mem_append.mp hp with z | z
          · rw [List.mem_singleton.mp z]
            exact Nat.le_of_lt M.ne
          · exact Nat.le_of_lt (hip p z)
      have I6 : Inv X (pins ++ pinsAt fp s4.heap) c H4 (s4.setGen gn gs') := I5.pinned (fp := fp) (fun b hb => mine_fp M I5 (young b hb).1 (young b hb).2.1) fun b hb => (young b hb).2.2
      have bare5 := I5.bare
      have I6s : Inv X (pins ++ pinsAt fp s4.heap) c H4 (stuckS (s4.setGen gn gs')) := inv_gens I6 (stuck_bareAll bare5)
      have zb := zz_bare bare5
      have runA := wpAny_asleep (hg.run _ (stuckS (s4.setGen gn gs')) c H4 x v _ I6s rv hY)
      refine wpAny_passesOwn hp (wpAny_mono runA (fun _ s6r ⟨s6, e6, k6, σ6, H6, I7, q7⟩ => ?_) fun e s6r ⟨s6, e6, k6, hxe⟩ => by rw [e6]; exact hx _ e s6 zb k6 hxe)
      subst e6
      have runB := wpAny_sim k6 (hb.run _ s6 σ6 H6 _ I7 q7)
      refine wpAny_passesOwn hp (wpAny_mono runB (fun fl s7r ⟨s7, e7, k7, q8⟩ => ?_) fun e s7r ⟨s7, e7, k7, hxe⟩ => by rw [e7]; exact hx _ e s7 zb k7 hxe)
      subst e7
      have again : ∀ {σ7 : L2.St} {H7 : Hp}, Inv X (pins ++ pinsAt fp s4.heap) σ7 H7 s7 → (∀ s', Woke G A1 ip s4 s' H7 → Cw σ7 H7 s' → Again (model X.prog X.w) A1 (GR G A1 D.nx Cw) (GY G A1 (yFor g tb D) Cw) gs' m (.send .none) s') →
          ∃ m', m' < m ∧ ∃ (c : L2.St) (H' : Hp) (gs : GenState), Inv X pins c H' (rl (zzOf (s4.setGen gn gs').gens) s7) ∧ Stands G gn H' (rl (zzOf (s4.setGen gn gs').gens) s7) ∧ (rl (zzOf (s4.setGen gn gs').gens) s7).gens[gn]? = some gs ∧
            gs.Goes (model X.prog X.w) A1 (GR G A1 D.nx Cw) (GY G A1 (yFor g tb D) Cw) m' (.send .none) ((rl (zzOf (s4.setGen gn gs').gens) s7).setGen gn .running) := fun {σ7 H7} I8 nx => by
        have pin8 : ∀ b ∈ fp, s7.heap.get? b = s4.heap.get? b ∧ H7 b = none := fun b hb => by
          obtain ⟨_, _, o, e, _⟩ := young b hb
          have q := I8.pin (b, o) (List.mem_append_right _ (List.mem_append_right _ (mem_pinsAt hb e)))
          exact ⟨q.1.trans e.symm, q.2.1⟩
        have I9 : Inv X pins σ7 H7 (rl (zzOf (s4.setGen gn gs').gens) s7) := inv_gens I8.unpinned (rl_bareAll zb I8.bare)
        have bare9 := I9.bare
        have I10 : Inv X pins σ7 H7 ((rl (zzOf (s4.setGen gn gs').gens) s7).setGen gn .running) := inv_gens I9 (allBare_setGen bare9 rfl)
        have memA : G.a ∈ fp := List.mem_cons_of_mem _ (List.mem_map.mpr ⟨(G.a, G.go), List.mem_append_left _ (List.mem_singleton.mpr rfl), rfl⟩)
        have pA := pin8 G.a memA
        have pL := pin8 G.L List.mem_cons_self
        have S9 : Stands G gn H7 (rl (zzOf (s4.setGen gn gs').gens) s7) := by
          obtain ⟨og, nm, qn, ho, r⟩ := S4.gen
          obtain ⟨oL, hoL, r2⟩ := S4.loc
          exact ⟨pA.1.trans S4.go, ⟨og, nm, qn, pA.1.trans ho, r⟩, S4.gd, ⟨oL, pL.1.trans hoL, r2⟩, pL.2, pA.2⟩
        have W : Woke G A1 ip s4 ((rl (zzOf (s4.setGen gn gs').gens) s7).setGen gn .running) H7 := by
          have E0 := I10.env0
          refine ⟨⟨by rw [M.outer]; exact hfr, by rw [M.K, M.mg, M.base]; exact E0.mod, by rw [M.base]; exact E0.bs, by rw [M.base]; exact E0.bsz, by rw [M.base, M.outer]; exact E0.funs, by rw [M.outer]; exact E0.frf, by rw [M.P, M.w]; exact E0.hok, E0.bare⟩, ?_, (big S9 : G.L ≤ (rl (zzOf (s4.setGen gn gs').gens) s7).heap.objs.size), fun b hb => pin8 b ?_⟩
          · have a1 : s7.os = X.s_0.os := I8.os
            have a2 : s4.os = X.s_0.os := I4.os
            exact a1.trans a2.symm
          · rcases hb with hb | hb
            · rw [hb]
              exact List.mem_cons_self
            · exact List.mem_cons_of_mem _ hb
        have ag := nx _ W ⟨I10, (big S9 : G.L ≤ (rl (zzOf (s4.setGen gn gs').gens) s7).heap.objs.size), ⟨S9.go, S9.gen, S9.gd, S9.loc, S9.nL, S9.nA⟩⟩
        cases m with
        | zero => exact False.elim ag
        | succ m =>
          refine ⟨m, Nat.lt_succ_self m, σ7, H7, gs', I9, S9, k7.real (zz_at g5 hsu), ag⟩
      cases fl with
      | next => obtain ⟨σ7, H7, I8, n8⟩ := q8; exact again I8 n8
      | cont => obtain ⟨σ7, H7, I8, n8⟩ := q8; exact again I8 n8
      | brk => obtain ⟨σ7, H7, I8, q9⟩ := q8; exact ⟨σ7, H7, inv_gens I8.unpinned (rl_bareAll zb I8.bare), q9⟩
      | ret v => obtain ⟨x7, σ7, H7, I8, r7, q9⟩ := q8; exact ⟨x7, σ7, H7, inv_gens I8.unpinned (rl_bareAll zb I8.bare), r7, q9⟩
    · -- the end
      obtain ⟨c, Hb, ip, σg, H4, hcw, J, hQ⟩ := hq
      obtain ⟨I4, S4⟩ := later hcw J
      intro _
      refine wpAny_execs_nil ⟨c, H4, ?_, hQ⟩
      have I5 : Inv X pins c H4 (s4.setGen gn .finished) := inv_gens I4 (allBare_setGen I4.bare rfl)
      exact I5.kept (t' := s4.toks) hk
  · refine ⟨σ, H1, _, I1, S1, hg1, rfl, ?_⟩
    exact (seg A1 (s1.setGen gn .running) hr1 hfr rfl rfl (allBare_setGen I1.bare rfl) Cw ⟨inv_gens I1 (allBare_setGen I1.bare rfl), (big S1 : G.L ≤ s1.heap.objs.size), ⟨S1.go, S1.gen, S1.gd, S1.loc, S1.nL, S1.nA⟩⟩).choose_spec
end
end GenF
/-! A37: generators over data -/
namespace J
open PySem PySem.Spec L2 PyProof.Rows ClX RZ GenF
/-! ### what a generator asks of its consumer -/
section
variable {γ τ ζ α κ : Type}
/-- F: the part of the heap that the generator knows at a waking; Y: what the consumer does with an item -/
structure CoOk (Fp : γ → τ → Fr → Prop) (A : Ty α) (Y : α → τ → (τ → Prop) → Prop) (Yd : YK γ) : Prop where
  to : ∀ (g : Gm) (F : Fr) (σ : L2.St) (H : Hp) (x : V) (a : α) (c : γ) (s : τ) (P : τ → Prop) (K : γ → Hp → Prop), Fp c s F → g.Ok F σ H → A.rel (g.bs F H) x a → Y a s P → (∀ s' c' F' H', P s' → Fp c' s' F' → g.Ok F' σ H' → K c' H') → Yd c x H K
structure EnOk (Fp : γ → τ → Fr → Prop) (E : κ → List Cell) (Kp : κ → τ → Prop) (Kd : γ → Hp → Prop) : Prop where
  to : ∀ (g : Gm) (F : Fr) (σ : L2.St) (H : Hp) (c : γ) (s : τ) (z : κ), Fp c s F → g.Ok F σ H → (E z).Sublist g.c → Kp z s → Kd c H
structure GLe (D D' : GD γ) : Prop where
  nx : ∀ n c σ H, D.nx n c σ H → D'.nx n c σ H
  rt : ∀ n c v H, D.rt n c v H → D'.rt n c v H
  bk : ∀ n c σ H, D.bk n c σ H → D'.bk n c σ H
  ct : ∀ n c σ H, D.ct n c σ H → D'.ct n c σ H
theorem GLe.refl (D : GD γ) : GLe D D := ⟨fun _ _ _ _ h => h, fun _ _ _ _ h => h, fun _ _ _ _ h => h, fun _ _ _ _ h => h⟩
def RG (Fp : γ → τ → Fr → Prop) (g : Gm) (D : GD γ) (w : Nat → τ → Prop) : TG2 γ := fun D' n c σ H => GLe D D' ∧ ∃ F s, Fp c s F ∧ g.Ok F σ H ∧ w n s
def phiG (Fp : γ → τ → Fr → Prop) (S : ζ → Gm) (N : ζ → Nat → τ → Prop) : Nat → γ → L2.St → Hp → Prop := fun n c σ H => ∃ F s z, Fp c s F ∧ (S z).Ok F σ H ∧ N z n s
abbrev JG (G : GP) (A : Around) (Yd : YK γ) (Fp : γ → τ → Fr → Prop) (g : Gm) (sts : List Stmt) (D : GD γ) (w : Nat → τ → Prop) : Prop := GSs2 G A Yd sts (RG Fp g D w)
end
section
variable {γ : Type} {G : GP} {A : Around} {Yd : YK γ} {st : Stmt} {l rest : List Stmt}
theorem gssW2 {t t' : TG2 γ} (h : GSs2 G A Yd l t) (k : ∀ D n c σ H, t' D n c σ H → t D n c σ H) : GSs2 G A Yd l t' := ⟨fun Cw R ip n c s₀ Hb code fs K J gd lv s σ H D g kk hc hl I ht => h.run Cw R ip n c s₀ Hb code fs K J gd lv s σ H D g kk hc hl I (k _ _ _ _ _ ht)⟩
def tEx2 {τ : Type} (t : τ → TG2 γ) : TG2 γ := fun D n c σ H => ∃ a, t a D n c σ H
theorem gssE2 {τ : Type} {t : τ → TG2 γ} (h : ∀ a, GSs2 G A Yd l (t a)) : GSs2 G A Yd l (tEx2 t) := ⟨fun Cw R ip n c s₀ Hb code fs K J gd lv s σ H D g kk hc hl I ⟨a, ht⟩ => (h a).run Cw R ip n c s₀ Hb code fs K J gd lv s σ H D g kk hc hl I ht⟩
variable {τ ζ α κ : Type} {Fp : γ → τ → Fr → Prop} {g : Gm} {D : GD γ}
theorem jg_end {S : ζ → Gm} {N : ζ → Nat → τ → Prop} {rt : Nat → γ → V → Hp → Prop} {bk ct : Nat → γ → L2.St → Hp → Prop} (z : ζ) (h : Sub g (S z)) : JG G A Yd Fp g [] ⟨phiG Fp S N, rt, bk, ct⟩ (fun n s => N z n s) :=
  gssW2 gss_nil2 fun D n c σ H ⟨e, F, s, hf, k, w⟩ => e.nx n c σ H ⟨F, s, z, hf, h.ok k, w⟩
theorem jg_endK {E : κ → List Cell} {Kp : κ → τ → Prop} {Kd : γ → Hp → Prop} {rt : Nat → γ → V → Hp → Prop} {bk ct : Nat → γ → L2.St → Hp → Prop} (hE : EnOk Fp E Kp Kd) (z : κ) (h : (E z).Sublist g.c) : JG G A Yd Fp g [] ⟨fun _ c _ H => Kd c H, rt, bk, ct⟩ (fun n s => Kp z s) :=
  gssW2 gss_nil2 fun D n c σ H ⟨e, F, s, hf, k, w⟩ => e.nx n c σ H (hE.to g F σ H c s z hf k h w)
theorem jg_ret {E : κ → List Cell} {Kp : κ → τ → Prop} {Kd : γ → Hp → Prop} {nx bk ct : Nat → γ → L2.St → Hp → Prop} {pos : Pos} (hE : EnOk Fp E Kp Kd) (z : κ) (h : (E z).Sublist g.c) : JG G A Yd Fp g (.Return none pos :: rest) ⟨nx, fun _ c v H => v = .non ∧ Kd c H, bk, ct⟩ (fun n s => Kp z s) :=
  gssW2 (gss_pss2 (t := fun D σ H => D.rt .non H) fun s H => pssW (pss_cons ps_retN pss_never) fun D σ H h => h) fun D n c σ H ⟨e, F, s, hf, k, w⟩ => e.rt n c .non H ⟨rfl, hE.to g F σ H c s z hf k h w⟩
theorem jg_never : JG G A Yd Fp g (st :: rest) D (fun _ _ => False) := gssW2 (gss_pss2 fun s H => pss_never) fun D n c σ H ⟨e, F, s, hf, k, w⟩ => w
/-- statements that hand out nothing -/
theorem jg_plain {S : ζ → Gm} {w : (ζ → Prop) → Prop} {wr : ζ → Nat → τ → Prop} (h : ∀ sb Hb F (N : ζ → Prop), JSs (G.cx A sb Hb) F g l ⟨phi F S N, fun _ _ => False, fun _ _ => False, fun _ _ => False⟩ (w N)) (hr : ∀ z, JG G A Yd Fp (S z) rest D (wr z)) :
    JG G A Yd Fp g (l ++ rest) D (fun n s => w (fun z => wr z n s)) := by
  refine gssW2 (gss_app2 (gss_pss2 (t := fun D σ H => ∃ q : Fr × (ζ → Prop), RS q.1 g ⟨phi q.1 S q.2, fun _ _ => False, fun _ _ => False, fun _ _ => False⟩ (w q.2) D σ H) fun sb Hb => pssE fun q => h sb Hb q.1 q.2) (gssE2 hr)) fun D' n c σ H ⟨e, F, s, hf, k, hw⟩ => ?_
  exact ⟨(F, fun z => wr z n s), ⟨fun σ' H' ⟨z, k', w'⟩ => ⟨z, e, F, s, hf, k', w'⟩, fun _ _ z => z.elim, fun _ _ z => z.elim, fun _ _ z => z.elim⟩, k, hw⟩
/-- yield e -/
theorem jg_yield {Ai : Ty α} {Y : α → τ → (τ → Prop) → Prop} {e : Expr} {yp pos : Pos} {we : (α → Prop) → Prop} {wr : Nat → τ → Prop} (hY : CoOk Fp Ai Y Yd) (hm : YMono Yd) (hnc : G.env.cells = []) (he : ∀ sb Hb F, JE (G.cx A sb Hb) F g e (rO Ai) we) (hr : JG G A Yd Fp g rest D wr)
    (hco : G.env.scope.isCoroutine = false := by rfl) (hi : interactive G.env = false := by rfl) :
    JG G A Yd Fp g (.Expr (.Yield (some e) yp) pos :: rest) D (fun n s => ∃ m, n = m + 1 ∧ we fun a => Y a s fun s' => wr m s') := by
  refine gssW2 (gss_cons2 (gs_yield2 (te := fun σ H Q => ∃ F, RJ F g (rO Ai) we σ H Q) hm hnc (fun sb Hb => ⟨fun p s σ H Q I ⟨F, q⟩ => (he sb Hb F).run p s σ H Q I q⟩) hco hi) hr) fun D' n c σ H ⟨le, F, s, hf, k, m, en, hw⟩ => ?_
  refine ⟨m, en, F, k, _, hw, fun a x H1 p s1 r => hY.to g F σ H1 x a c s _ _ hf (k.step s1) r p fun s' c' F' H' p' hf' k' => ?_⟩
  exact ⟨le, F', s', hf', k', p'⟩
/-- if, the ways meet behind -/
theorem jg_ifJ {S : ζ → Gm} {e : Expr} {a b : List Stmt} {pos : Pos} {wc : Prop → Prop → Prop} {wa wb : (ζ → Nat → τ → Prop) → Nat → τ → Prop} {wr : ζ → Nat → τ → Prop} {nx bk ct : Nat → γ → L2.St → Hp → Prop} {rt : Nat → γ → V → Hp → Prop} (hc : ∀ sb Hb F, JT (G.cx A sb Hb) F g e wc)
    (ha : ∀ J, JG G A Yd Fp g a ⟨phiG Fp S J, rt, bk, ct⟩ (wa J)) (hb : ∀ J, JG G A Yd Fp g b ⟨phiG Fp S J, rt, bk, ct⟩ (wb J)) (hr : ∀ z, JG G A Yd Fp (S z) rest ⟨nx, rt, bk, ct⟩ (wr z)) :
    JG G A Yd Fp g (.If e a b pos :: rest) ⟨nx, rt, bk, ct⟩ (fun n s => wJoin (fun q : ζ × Nat × τ => wr q.1 q.2.1 q.2.2) fun J => wc (wa (fun z n s => J (z, n, s)) n s) (wb (fun z n s => J (z, n, s)) n s)) := by
  refine gssW2 (gss_cons2 (gs_if2 (tc := fun σ H Q => ∃ F, RT F g wc σ H Q) (fun sb Hb => ⟨fun p s σ H Q I ⟨F, q⟩ => (hc sb Hb F).run p s σ H Q I q⟩) (ha wr) (hb wr)) (gssE2 hr)) fun D' n c σ H ⟨le, F, s, hf, k, hw⟩ => ?_
  have go : ∀ {w : (ζ → Nat → τ → Prop) → Nat → τ → Prop} {H1 : Hp}, Same H H1 → w (fun z n s => wr z n s) n s → RG Fp g ⟨phiG Fp S wr, rt, bk, ct⟩ (w wr) { D' with nx := fun n c σ H => tEx2 (fun z => RG Fp (S z) ⟨nx, rt, bk, ct⟩ (wr z)) D' n c σ H } n c σ H1 := fun {w H1} s1 h1 =>
    ⟨⟨fun n c σ H ⟨F, s, z, hf, k, w⟩ => ⟨z, le, F, s, hf, k, w⟩, le.rt, le.bk, le.ct⟩, F, s, hf, k.step s1, h1⟩
  exact ⟨F, k, _, _, hw, fun h1 H1 s1 => by dsimp only; rw [if_pos rfl]; exact go (w := wa) s1 h1, fun h1 H1 s1 => by dsimp only; rw [if_neg Bool.false_ne_true]; exact go (w := wb) s1 h1⟩
/-- if, at the end -/
theorem jg_if {e : Expr} {a b : List Stmt} {pos : Pos} {wc : Prop → Prop → Prop} {wa wb : Nat → τ → Prop} (hc : ∀ sb Hb F, JT (G.cx A sb Hb) F g e wc) (ha : JG G A Yd Fp g a D wa) (hb : JG G A Yd Fp g b D wb) :
    JG G A Yd Fp g [.If e a b pos] D (fun n s => wc (wa n s) (wb n s)) := by
  refine gssW2 (gss_cons2 (gs_if2 (tc := fun σ H Q => ∃ F, RT F g wc σ H Q) (fun sb Hb => ⟨fun p s σ H Q I ⟨F, q⟩ => (hc sb Hb F).run p s σ H Q I q⟩) ha hb) gss_nil2) fun D' n c σ H ⟨le, F, s, hf, k, hw⟩ => ?_
  have go : ∀ {w : Nat → τ → Prop} {H1 : Hp}, Same H H1 → w n s → RG Fp g D w { D' with nx := fun n c σ H => tG0' D' n c σ H } n c σ H1 := fun {w H1} s1 h1 => ⟨⟨le.nx, le.rt, le.bk, le.ct⟩, F, s, hf, k.step s1, h1⟩
  exact ⟨F, k, _, _, hw, fun h1 H1 s1 => by dsimp only; rw [if_pos rfl]; exact go (w := wa) s1 h1, fun h1 H1 s1 => by dsimp only; rw [if_neg Bool.false_ne_true]; exact go (w := wb) s1 h1⟩
/-- while -/
theorem jg_while {S : ζ → Gm} {e : Expr} {body : List Stmt} {pos : Pos} {tt : ζ → Prop → Prop → Prop} {bb : ζ → (ζ → Nat → τ → Prop) → (ζ → Nat → τ → Prop) → Nat → τ → Prop} {wr : ζ → Nat → τ → Prop} {nx bk ct : Nat → γ → L2.St → Hp → Prop} {rt : Nat → γ → V → Hp → Prop} {z0 : ζ} (h0 : Sub g (S z0))
    (hc : ∀ z sb Hb F, JT (G.cx A sb Hb) F (S z) e (tt z)) (hb : ∀ z N B, JG G A Yd Fp (S z) body ⟨phiG Fp S N, rt, phiG Fp S B, phiG Fp S N⟩ (bb z N B)) (hr : ∀ z, JG G A Yd Fp (S z) rest ⟨nx, rt, bk, ct⟩ (wr z)) :
    JG G A Yd Fp g (.While e body [] pos :: rest) ⟨nx, rt, bk, ct⟩ (fun n s => wWhile (fun (q : ζ × Nat × τ) A B => tt q.1 A B) (fun q N B => bb q.1 (fun z n s => N (z, n, s)) (fun z n s => B (z, n, s)) q.2.1 q.2.2) (fun q => wr q.1 q.2.1 q.2.2) (z0, n, s)) := by
  refine gssW2 (gss_cons2 (gs_while2 (tc := fun σ H Q => ∃ q : ζ × Fr, RT q.2 (S q.1) (tt q.1) σ H Q) (tb := tEx2 fun q : ζ × (ζ → Nat → τ → Prop) => RG Fp (S q.1) ⟨phiG Fp S q.2, rt, phiG Fp S wr, phiG Fp S q.2⟩ (bb q.1 q.2 wr)) (fun sb Hb => ⟨fun p s σ H Q I ⟨q, h⟩ => (hc q.1 sb Hb q.2).run p s σ H Q I h⟩) (gssE2 fun q => hb q.1 q.2 wr)) (gssE2 hr)) fun D' n c σ H ⟨le, F, s, hf, k, I, μ, i0, st⟩ => ?_
  refine ⟨fun m n c σ H => ∃ F s z, Fp c s F ∧ (S z).Ok F σ H ∧ I (z, n, s) ∧ m = μ (z, n, s), ⟨_, F, s, z0, hf, h0.ok k, i0, rfl⟩, ?_⟩
  rintro m n c σ H ⟨F, s, z, hf, k, iz, rfl⟩
  refine ⟨(z, F), k, _, _, st (z, n, s) iz, fun h1 H1 s1 => ?_, fun h1 H1 s1 => ?_⟩
  · dsimp only
    rw [if_pos rfl]
    refine ⟨phiG Fp S fun z' n' s' => I (z', n', s') ∧ μ (z', n', s') < μ (z, n, s), fun n' c' σ' H' ⟨F', s', z', hf', k', i', l'⟩ => ⟨_, l', F', s', z', hf', k', i', rfl⟩, ?_⟩
    refine ⟨(z, fun z' n' s' => I (z', n', s') ∧ μ (z', n', s') < μ (z, n, s)), ⟨fun _ _ _ _ h => h, le.rt, fun n c σ H ⟨F, s, z, hf, k, w⟩ => ⟨z, le, F, s, hf, k, w⟩, fun _ _ _ _ h => h⟩, F, s, hf, k.step s1, h1⟩
  · dsimp only
    rw [if_neg Bool.false_ne_true]
    exact ⟨z, le, F, s, hf, k.step s1, h1⟩
end
end J
/-! A38: the consumer of a generator: what the generator knows is hidden behind the consumer's own things -/
namespace J
open PySem PySem.Spec L2 PyProof.Rows ClX RZ GenF
/-- a thing and what is hidden -/
abbrev SH (g : Gm) (hs : List Cell) : Gm := ⟨g.s, g.c ++ hs⟩
abbrev adH (hs : List Cell) : List Addr := hs.filterMap Cell.addr
theorem SH.ad (g : Gm) (hs : List Cell) : (SH g hs).ad = g.ad ++ adH hs := List.filterMap_append
def rmL (as : List Addr) (H : Hp) : Hp := fun b => if b ∈ as then none else H b
theorem rmL_le {as : List Addr} {H : Hp} : Same (rmL as H) H := fun a o h => by
  unfold rmL at h
  by_cases e : a ∈ as
  · rw [if_pos e] at h; cases h
  · rw [if_neg e] at h; exact h
theorem rmL_out {as : List Addr} {H : Hp} {a : Addr} (h : a ∉ as) : rmL as H a = H a := if_neg h
theorem rmL_in {as : List Addr} {H : Hp} {a : Addr} (h : a ∈ as) : rmL as H a = none := if_pos h
/-- the generator's view of the heap: the consumer's things are there, the hidden ones are its own -/
def FgOf {F : Fr} {g : Gm} {hs : List Cell} {σ : L2.St} {H : Hp} (k : (SH g hs).Ok F σ H) : Fr where
  B := (SH g hs).bs F H
  H := rmL (adH hs) H
  le := fun a o h => by
    have n : a ∉ (SH g hs).ad := (bsA_nil h).1
    rw [SH.ad] at n
    rw [rmL_out fun z => n (List.mem_append_right _ z)]
    exact k.le a o h
  fx := fun a o f h => k.fx a o f (rmL_le a o h)
/-- the generator's slots, hidden -/
def fixes : List Slot → L2.St → List Cell
  | .val A a :: r, some v :: σ => .fix A v a :: fixes r σ
  | _ :: r, _ :: σ => fixes r σ
  | _, _ => []
theorem fixes_addr : ∀ (ss : List Slot) (σ : L2.St), ∀ c ∈ fixes ss σ, c.addr = none
  | [], σ, c, h => by simp [fixes] at h
  | s :: r, [], c, h => by
    cases s <;> simp [fixes] at h
  | s :: r, o :: σ, c, h => by
    cases s with
    | any => exact fixes_addr r σ c (by cases o <;> exact h)
    | val A a =>
      cases o with
      | none => exact fixes_addr r σ c h
      | some v =>
        rcases List.mem_cons.mp (show c ∈ .fix A v a :: fixes r σ from h) with e | h
        · rw [e]; rfl
        · exact fixes_addr r σ c h
    | «at» p => exact fixes_addr r σ c (by cases o <;> exact h)
theorem fixes_ok {F : Fr} {B B' H' : Hp} : ∀ {ss : List Slot} {σ : L2.St}, Par B σ ss → (∀ c ∈ fixes ss σ, c.ok F B' H') → Par B' σ ss
  | _, _, .nil, _ => .nil
  | _, _, .cons (s := s) (o := o) (r := r) (σ := σ) x p, h => by
    cases s with
    | any => exact .cons trivial (fixes_ok p fun c hc => h c (by cases o <;> exact hc))
    | val A a =>
      obtain ⟨v, e, rv⟩ := x
      subst e
      exact .cons ⟨v, rfl, h (.fix A v a) List.mem_cons_self⟩ (fixes_ok p fun c hc => h c (List.mem_cons_of_mem _ hc))
    | «at» q => exact .cons x (fixes_ok p fun c hc => h c (by cases o <;> exact hc))
theorem of_fixes {F : Fr} {B B' H' : Hp} (sm : Same B B') : ∀ {ss : List Slot} {σ : L2.St}, Par B σ ss → ∀ c ∈ fixes ss σ, c.ok F B' H'
  | _, _, .nil, c, h => by simp [fixes] at h
  | _, _, .cons (s := s) (o := o) (r := r) (σ := σ) x p, c, h => by
    cases s with
    | any => exact of_fixes sm p c (by cases o <;> exact h)
    | val A a =>
      obtain ⟨v, e, rv⟩ := x
      subst e
      rcases List.mem_cons.mp (show c ∈ .fix A v a :: fixes r σ from h) with e | h
      · rw [e]
        exact A.same sm rv
      · exact of_fixes sm p c h
    | «at» q => exact of_fixes sm p c (by cases o <;> exact h)
/-- what a sleeping generator leaves with its consumer -/
def hide (g : Gm) (σ : L2.St) : List Cell := fixes g.s σ ++ g.c
theorem hide_ad (g : Gm) (σ : L2.St) : adH (hide g σ) = g.ad := by
  show (fixes g.s σ ++ g.c).filterMap Cell.addr = _
  rw [List.filterMap_append, List.filterMap_eq_nil_iff.mpr (fixes_addr g.s σ)]
  rfl
section
variable {F : Fr} {g0 g : Gm} {hs : List Cell} {c σ : L2.St} {H7 H : Hp}
/-- where a cell's thing stands -/
theorem Cell.there {F : Fr} {B H : Hp} {c : Cell} {p : Addr} (k : c.ok F B H) (h : c.addr = some p) : ∃ o, H p = some o := by
  cases c with
  | lst q A xs => cases h; obtain ⟨_, vs, e, _⟩ := k; exact ⟨_, e⟩
  | fix A v a => cases h
  | ins x dx C ns U t => cases h; obtain ⟨_, vs, e, _⟩ := k; exact ⟨_, e⟩
  | raw q o => cases h; obtain ⟨_, _, e⟩ := k; exact ⟨_, e⟩
/-- a cell is seen at another heap that agrees at its address -/
theorem Cell.ok_at {F F' : Fr} {B B' H H' : Hp} (t : Same B B') : ∀ {c : Cell}, (∀ p, c.addr = some p → F'.H p = none ∧ ∀ o, H p = some o → H' p = some o) → c.ok F B H → c.ok F' B' H'
  | .lst p A xs, h, ⟨n, vs, e, r⟩ => ⟨(h p rfl).1, vs, (h p rfl).2 _ e, Paired.imp (fun _ _ r => A.same t r) r⟩
  | .fix A v a, _, h => A.same t h
  | .ins x dx C ns U u, h, ⟨n, vs, e, l, r⟩ => ⟨(h x rfl).1, vs, (h x rfl).2 _ e, l, U.same t r⟩
  | .raw p o, h, ⟨n, f, e⟩ => ⟨(h p rfl).1, f, (h p rfl).2 _ e⟩
theorem bs_same {as bs : List Addr} {H1 H2 : Hp} (h : ∀ a o, bsA F as H1 a = some o → a ∉ bs ∧ (F.H a = none → H2 a = some o)) : Same (bsA F as H1) (bsA F bs H2) := fun a o e => by
  obtain ⟨h1, h2⟩ := h a o e
  obtain ⟨_, e2, _⟩ := bsA_nil e
  cases z : F.H a with
  | none => exact bsA_of h1 z (h2 z)
  | some x => exact bsA_ofB h1 (e2 ⟨x, z⟩)
/-- a turn of the generator, seen by its consumer -/
theorem turn_ok (k : (SH g0 hs).Ok F c H7) (kg : g.Ok (FgOf k) σ H) : (SH g0 (hide g σ)).Ok F c H ∧ Same (g.bs (FgOf k) H) ((SH g0 (hide g σ)).bs F H) := by
  have ad2 : (SH g0 (hide g σ)).ad = g0.ad ++ g.ad := by rw [SH.ad, hide_ad]
  have nd1 : (g0.ad ++ adH hs).Nodup := by rw [← SH.ad]; exact k.nd
  have hsF : ∀ p ∈ adH hs, F.H p = none := fun p hp => (k.ad_some (by rw [SH.ad]; exact List.mem_append_right _ hp)).1
  have g0F : ∀ p ∈ g0.ad, F.H p = none ∧ p ∉ adH hs ∧ ∃ o, H7 p = some o := fun p hp => by
    obtain ⟨a1, o, a2, _⟩ := k.ad_some (p := p) (by rw [SH.ad]; exact List.mem_append_left _ hp)
    exact ⟨a1, fun z => (List.nodup_append.mp nd1).2.2 p hp p z rfl, o, a2⟩
  -- what the generator knows, and what it does not
  have known : ∀ {a : Addr} {o : HO}, H7 a = some o → a ∉ adH hs → (FgOf k).H a = some o := fun {a o} e n => by
    show rmL (adH hs) H7 a = some o
    rw [rmL_out n]
    exact e
  have gad : ∀ p ∈ g.ad, (FgOf k).H p = none := fun p hp => (kg.ad_some hp).1
  have FH : ∀ {a : Addr} {x : HO}, F.H a = some x → (FgOf k).H a = some x := fun {a x} e => known (k.same _ _ e) fun z => by
    rw [hsF a z] at e
    cases e
  have bs7 : ∀ a o, (SH g0 hs).bs F H7 a = some o → a ∉ g0.ad ∧ a ∉ adH hs ∧ a ∉ g.ad ∧ H7 a = some o ∧ (FgOf k).H a = some o := fun a o e => by
    have n := (bsA_nil e).1
    rw [SH.ad] at n
    have n1 : a ∉ adH hs := fun z => n (List.mem_append_right _ z)
    have e7 := k.le a o e
    have ek := known e7 n1
    have n3 : a ∉ g.ad := fun z => by
      rw [gad a z] at ek
      cases ek
    exact ⟨fun z => n (List.mem_append_left _ z), n1, n3, e7, ek⟩
  have S1 : Same ((SH g0 hs).bs F H7) ((SH g0 (hide g σ)).bs F H) := by
    refine bs_same fun a o e => ?_
    obtain ⟨a1, a2, a3, a4, a5⟩ := bs7 a o e
    refine ⟨?_, fun _ => kg.same _ _ a5⟩
    rw [ad2]
    exact fun z => (List.mem_append.mp z).elim a1 a3
  have S2 : Same (g.bs (FgOf k) H) ((SH g0 (hide g σ)).bs F H) := fun a o e => by
    obtain ⟨e1, e2, e3⟩ := bsA_nil e
    cases z : (FgOf k).H a with
    | some x => exact S1 a o (e2 ⟨x, z⟩)
    | none =>
      have eH := e3 z
      have n0 : a ∉ g0.ad := fun q => by
        obtain ⟨_, q2, o', q3⟩ := g0F a q
        rw [known q3 q2] at z
        cases z
      have nF : F.H a = none := by
        cases q : F.H a with
        | none => rfl
        | some x => rw [FH q] at z; cases z
      exact bsA_of (by rw [ad2]; exact fun q => (List.mem_append.mp q).elim n0 e1) nF eH
  refine ⟨⟨fun a o e => kg.same _ _ (FH e), Par.imp (fun _ _ h => Slot.ok_same S1 h) k.slots, ?_, fun d hd => ?_⟩, S2⟩
  · rw [ad2]
    refine List.nodup_append.mpr ⟨(List.nodup_append.mp nd1).1, kg.nd, fun a ha b hb e => ?_⟩
    subst e
    obtain ⟨_, q2, o', q3⟩ := g0F a ha
    have := gad a hb
    rw [known q3 q2] at this
    cases this
  · rcases List.mem_append.mp (show d ∈ g0.c ++ hide g σ from hd) with h | h
    · have old := k.cells d (List.mem_append_left _ h)
      refine Cell.ok_at S1 (fun p hp => ?_) old
      obtain ⟨q1, q2, _⟩ := g0F p (List.mem_filterMap.mpr ⟨d, h, hp⟩)
      exact ⟨q1, fun o e => kg.same _ _ (known e q2)⟩
    · rcases List.mem_append.mp (show d ∈ fixes g.s σ ++ g.c from h) with h | h
      · exact of_fixes S2 kg.slots d h
      · refine Cell.ok_at S2 (fun p hp => ⟨?_, fun o e => e⟩) (kg.cells d h)
        cases q : F.H p with
        | none => rfl
        | some x =>
          have := gad p (List.mem_filterMap.mpr ⟨d, h, hp⟩)
          rw [FH q] at this
          cases this
/-- it is woken: what it left is as it was -/
theorem wake_ok {Fo : Fr} {B0 : Hp} (p0 : Par B0 σ g.s) (nd : g.ad.Nodup) (k : (SH g0 (hide g σ)).Ok F c H) : g.Ok (FgOf k) σ H := by
  have S : Same ((SH g0 (hide g σ)).bs F H) (g.bs (FgOf k) H) := fun a o e => by
    have n := (bsA_nil e).1
    rw [SH.ad, hide_ad] at n
    have ng : a ∉ g.ad := fun z => n (List.mem_append_right _ z)
    exact bsA_ofB ng e
  have inn : ∀ {d : Cell}, d ∈ hide g σ → d ∈ (SH g0 (hide g σ)).c := fun h => List.mem_append_right _ h
  refine ⟨rmL_le, fixes_ok (F := F) (H' := H) p0 fun d hd => Cell.ok_same S (fun _ _ h => h) (k.cells d (inn (List.mem_append_left _ hd))), nd, fun d hd => ?_⟩
  refine Cell.ok_at S (fun p hp => ⟨?_, fun o e => e⟩) (k.cells d (inn (List.mem_append_right _ hd)))
  exact rmL_in (by rw [hide_ad]; exact List.mem_filterMap.mpr ⟨d, hd, hp⟩)
end
end J
/-! A39: generator defs, and for over what they give -/
namespace L2
open PySem PySem.Spec PyProof.Rows GenF
theorem Fun.gok {P : Program} {w : World} {K : PySem.W.Frag} {mg : Str → Option Value} {base : Heap} {x qual : Str} {st : Stmt} {f : Addr} {fd : FuncData} {N ps : List Str} {k : Nat} {sp : SpG2} (F : Fun K x qual st f fd) (S : GScope N ps (defScope st)) (hloc : ∀ y ∈ (defScope st).names, y.2 ≠ .cell) (len : ∀ γ c vs H Yd Kd, sp γ c vs H Yd Kd → vs.length = ps.length)
    (hbody : ∀ (cdv : Value) (A : Around) (outer : List Env) (L a : Addr) (go : Obj) (vs : List V) (H : Hp) (γ : Type) (c : γ) (Yd : YK γ) (Kd : γ → Hp → Prop), (GP.env ⟨P, w, K, mg, base, N, qual, defScope st, f, cdv, outer, L, a, go⟩).cells = [] → YMono Yd → Room k (A.deeper (GP.env ⟨P, w, K, mg, base, N, qual, defScope st, f, cdv, outer, L, a, go⟩)) → sp γ c vs H Yd Kd →
      ∃ t n, GSs2 ⟨P, w, K, mg, base, N, qual, defScope st, f, cdv, outer, L, a, go⟩ A Yd (defBody st) t ∧ t { nx := fun _ c _ H' => Kd c H', rt := fun _ c v H' => v = .non ∧ Kd c H' } n c (start N vs) H) : GFn2 P w K mg base (k + 1) f fd ps sp := by
  obtain ⟨oc, od, kV, doc, pm, an, cdv, ct, osl, rfl, lk, hcd⟩ := F.ex
  exact gfn2_of lk hcd S hloc len fun A outer L a go vs H γ c Yd Kd h1 h2 hr h => hbody cdv A outer L a go vs H γ c Yd Kd h1 h2 hr h
end L2
namespace J
open PySem PySem.Spec L2 PyProof.Rows ClX RZ GenF
section
variable {θ α ι κ : Type}
/-- what a generator def promises: me: itself ahead of the arguments; E: the things that are its own for as long as it lives -/
def spJG (me : ι → List V) (T : ATy θ) (E : ι → κ → List Cell) (Ai : Ty α) (w : ∀ τ : Type, θ → κ → Nat → τ → (α → τ → (τ → Prop) → Prop) → (κ → τ → Prop) → Prop) : SpG2 := fun γ c vs H Yd Kd =>
  ∃ (t : θ) (i : ι) (z : κ) (us : List V) (F : Fr) (τ : Type) (s : τ) (Fp : γ → τ → Fr → Prop) (Y : α → τ → (τ → Prop) → Prop) (Kp : κ → τ → Prop) (n : Nat), vs = me i ++ us ∧ (⟨[], E i z⟩ : Gm).Ok F [] H ∧ T.rel ((⟨[], E i z⟩ : Gm).bs F H) us t ∧ Fp c s F ∧ CoOk Fp Ai Y Yd ∧ EnOk Fp (E i) Kp Kd ∧ w τ t z n s Y Kp
end
universe u
def tExU {τ : Type u} (t : τ → TS) : TS := fun D σ H => ∃ a, t a D σ H
theorem pssEU {X : Cx} {e : List Stmt} {τ : Type u} {t : τ → TS} (h : ∀ a, PSs X e (t a)) : PSs X e (tExU t) := ⟨fun p s σ H D I ⟨a, q⟩ => (h a).run p s σ H D I q⟩
theorem sub_front (g : Gm) (hs : List Cell) : Sub (SH g hs) g := ⟨SubS.refl _, List.sublist_append_left _ _⟩
def TgMono (gT : TG) : Prop := ∀ (x : V) (c : L2.St) (H : Hp) (Q Q' : L2.St → Hp → Prop), (∀ σ H, Q σ H → Q' σ H) → gT x c H Q → gT x c H Q'
theorem tgm_name {i : Nat} : TgMono (gName i) := fun x c H Q Q' h q => h _ _ q
theorem tgm_nil : ∀ (xs : List V) (c : L2.St) (H : Hp) (Q Q' : L2.St → Hp → Prop), (∀ σ H, Q σ H → Q' σ H) → gNil xs c H Q → gNil xs c H Q' := fun xs c H Q Q' h q => ⟨q.1, h _ _ q.2⟩
theorem tgm_cons {gA : TG} {r : TGs} (hA : TgMono gA) (hr : ∀ (xs : List V) (c : L2.St) (H : Hp) (Q Q' : L2.St → Hp → Prop), (∀ σ H, Q σ H → Q' σ H) → r xs c H Q → r xs c H Q') : ∀ (xs : List V) (c : L2.St) (H : Hp) (Q Q' : L2.St → Hp → Prop), (∀ σ H, Q σ H → Q' σ H) → gCons gA r xs c H Q → gCons gA r xs c H Q' :=
  fun xs c H Q Q' h ⟨x, ys, e, q⟩ => ⟨x, ys, e, hA x c H _ _ (fun σ H q => hr ys σ H _ _ h q) q⟩
theorem tgm_tup {K : PySem.W.Frag} {n : Nat} {gs : TGs} (h : ∀ (xs : List V) (c : L2.St) (H : Hp) (Q Q' : L2.St → Hp → Prop), (∀ σ H, Q σ H → Q' σ H) → gs xs c H Q → gs xs c H Q') : TgMono (gTup K n gs) :=
  fun x c H Q Q' hh ⟨l, xs, e, hs, hn, q⟩ => ⟨l, xs, e, hs, hn, h xs c H Q Q' hh q⟩
theorem xesim_false {X : Cx} (h : X.xe = fun _ _ => False) : XeSim X := fun B e s _ _ z => by rw [h] at z; exact z.elim
section
variable {X : Cx} {F : Fr} {g : Gm} {θ α τ : Type} {Ai : Ty α} {rest body : List Stmt} {nx bk ct : L2.St → Hp → Prop} {rt : VK} {wr : τ → Prop}
/-- the loop over a generator, the hidden things last -/
theorem forG_core {S : τ → Gm} {gT : TG} {tr : Gm → α → Gm} {b : α → τ → (τ → Prop) → Prop} (ht : TgOk Ai gT tr) {D : Ends} :
    CoOk (fun (c : L2.St) (s : τ) (F' : Fr) => ∃ (hs : List Cell) (H7 : Hp) (k7 : (SH (S s) hs).Ok F c H7), F' = FgOf k7) Ai b
      (yFor gT (tExU fun (q : List Cell × (τ → Prop) × α × τ) => RS F (tr (SH (S q.2.2.2) q.1) q.2.2.1) ⟨phi F (fun s => SH (S s) q.1) q.2.1, D.rt, fun _ _ => False, phi F (fun s => SH (S s) q.1) q.2.1⟩ (b q.2.2.1 q.2.2.2 q.2.1)) D) := by
  refine ⟨fun g Fg σ H x a c s P K hf kg ra hY hK => ?_⟩
  obtain ⟨hs, H7, k7, rfl⟩ := hf
  obtain ⟨ok2, S2⟩ := turn_ok k7 kg
  refine ht F (SH (S s) (hide g σ)) c H x a _ ok2 (Ai.same S2 ra) fun σ' k' => ⟨(hide g σ, P, a, s), ⟨?_, fun _ _ z => z, fun _ _ z => z.elim, ?_⟩, k', hY⟩
  · rintro σ2 H2 ⟨s', k2, p2⟩
    exact hK s' σ2 (FgOf k2) H2 p2 ⟨_, _, k2, rfl⟩ (wake_ok (Fo := F) kg.slots kg.nd k2)
  · rintro σ2 H2 ⟨s', k2, p2⟩
    exact hK s' σ2 (FgOf k2) H2 p2 ⟨_, _, k2, rfl⟩ (wake_ok (Fo := F) kg.slots kg.nd k2)
theorem yFor_mono {S : τ → Gm} {gT : TG} {tr : Gm → α → Gm} {b : α → τ → (τ → Prop) → Prop} (hg : TgMono gT) (rt : VK) (D : Ends) :
    YMono (yFor gT (tExU fun (q : List Cell × (τ → Prop) × α × τ) => RS F (tr (SH (S q.2.2.2) q.1) q.2.2.1) ⟨phi F (fun s => SH (S s) q.1) q.2.1, rt, fun _ _ => False, phi F (fun s => SH (S s) q.1) q.2.1⟩ (b q.2.2.1 q.2.2.2 q.2.1)) D) :=
  fun c x H K K' h q => hg x c H _ _ (fun σ2 H2 ⟨q, le, k, w⟩ => ⟨q, ⟨fun a b z => h _ _ (le.nx a b z), le.rt, le.bk, fun a b z => h _ _ (le.ct a b z)⟩, k, w⟩) q
/-- for x in f(e, ..): f a generator def -/
theorem js_forG {S : τ → Gm} {gT : TG} {tr : Gm → α → Gm} {b : α → τ → (τ → Prop) → Prop} {k : Nat} {f : Addr} {fd : FuncData} {ps : List Str} {T : ATy θ} {w : ∀ τ : Type, θ → Unit → Nat → τ → (α → τ → (τ → Prop) → Prop) → (Unit → τ → Prop) → Prop} {wa : (θ → Prop) → Prop} {x : Str} {e tg : Expr} {es : List Expr} {p pos pos' : Pos} {s0 : τ}
    (Fn : GFn2 X.prog X.w X.K X.mg X.base k f fd ps (spJG (fun _ : Unit => []) T (fun _ _ => []) Ai w)) (hr : Room (k + 1) X.A) (hg : Gl X x) (hm : X.mg x = some (.ref f)) (hk : PySem.W.keepIn X.K (.ref f) = true) (hb : Binds X.K fd ps []) (ha : JA X F g (e :: es) T wa)
    (hS : Sub g (S s0)) (hgt : PG X tg gT) (ht : TgOk Ai gT tr) (hgm : TgMono gT)
    (hbd : ∀ hs (N : τ → Prop) a s, JSs X F (tr (SH (S s) hs) a) body ⟨phi F (fun s => SH (S s) hs) N, rt, fun _ _ => False, phi F (fun s => SH (S s) hs) N⟩ (b a s N)) (hr2 : ∀ s, JSs X F (S s) rest ⟨nx, rt, bk, ct⟩ (wr s))
    (hpo : PassesOwn (model X.prog X.w) X.A X.env X.xe) (hxe : XeSim X) (hdb : (x == ("__debug__" : Str)) = false := by decide) (he : starEach (e :: es) X.env = (false, eval e X.env) :: starEach es X.env := by rfl) (hpl : (backTo pos' (starEach es X.env)).any (·.1) = false := by rfl)
    (hfs : ∀ y, foldedSetIterable (.Call (.Name x p) (e :: es) [] pos') X.env y = pure y := by intro _; rfl) :
    JSs X F g (.For tg (.Call (.Name x p) (e :: es) [] pos') body [] pos :: rest) ⟨nx, rt, bk, ct⟩ (wa fun t => ∃ n, w τ t () n s0 b (fun _ s => wr s)) := by
  refine pssW (pss_cons (ps_forG (tb := tExU fun (q : List Cell × (τ → Prop) × α × τ) => RS F (tr (SH (S q.2.2.2) q.1) q.2.2.1) ⟨phi F (fun s => SH (S s) q.1) q.2.1, rt, fun _ _ => False, phi F (fun s => SH (S s) q.1) q.2.1⟩ (b q.2.2.1 q.2.2.2 q.2.1))
    hpo hxe hr.hd hr (pig_call Fn (hr.mono (Nat.le_succ _)) hg hm hk hb .nil ha hdb he hpl) hgt (pssEU fun q => hbd q.1 q.2.1 q.2.2.1 q.2.2.2) (fun D => yFor_mono hgm rt D) hfs) (pssE hr2)) fun D σ H ⟨le, k0, hw⟩ => ?_
  refine ⟨k0, _, hw, fun t vs H1 ⟨n, p⟩ s1 r => ?_⟩
  have k1 : (SH (S s0) []).Ok F σ H1 := by
    have := hS.ok (k0.step s1)
    show (⟨(S s0).s, (S s0).c ++ []⟩ : Gm).Ok F σ H1
    rw [List.append_nil]
    exact this
  have sb : Same (g.bs F H1) ((⟨[], []⟩ : Gm).bs (FgOf k1) H1) := fun a o z => by
    refine bsA_ofB (by simp) ?_
    show (SH (S s0) []).bs F H1 a = some o
    have := hS.bs a o z
    show (⟨(S s0).s, (S s0).c ++ []⟩ : Gm).bs F H1 a = some o
    rw [List.append_nil]
    exact this
  have core := forG_core (F := F) (S := S) (b := b) ht (D := { D with nx := fun σ H => tEx (fun s => RS F (S s) ⟨nx, rt, bk, ct⟩ (wr s)) D σ H })
  have kE : (⟨[], []⟩ : Gm).Ok (FgOf k1) [] H1 := ⟨fun a o h => rmL_le (as := adH []) a o h, .nil, List.nodup_nil, fun d hd => (nomatch hd)⟩
  refine ⟨t, (), (), vs, FgOf k1, τ, s0, fun (c : L2.St) (s : τ) (F' : Fr) => ∃ (hs : List Cell) (H7 : Hp) (k7 : (SH (S s) hs).Ok F c H7), F' = FgOf k7, b, fun _ s => wr s, n, List.append_nil _, kE, T.same sb r, ⟨[], H1, k1, rfl⟩, ⟨fun g Fg σ H x a c s P K hf kg ra hY hK => ?_⟩, ⟨fun g Fg σ H c s z hf kg _ hk => ?_⟩, p⟩
  · have q := core.to g Fg σ H x a c s P K hf kg ra hY hK
    refine hgm x c H _ _ (fun σ2 H2 ⟨q, l2, k2, w2⟩ => ⟨q, ⟨l2.nx, fun v H z => le.rt v H z, l2.bk, l2.ct⟩, k2, w2⟩) q
  · obtain ⟨hs, H7, k7, rfl⟩ := hf
    obtain ⟨ok2, _⟩ := turn_ok k7 kg
    exact ⟨s, le, (sub_front (S s) _).ok ok2, hk⟩
end
end J
/-! A40: for in the body of a generator -/
namespace GenF
open PySem PySem.Spec L2 PyProof.Rows GenW GenS
section
variable {prog : Program} {w : World} {A : Around} {R : GenEnd} {Y : Protocol} {n : Nat} {s₀ s : Shared} {fs : List Frame} {env : Env}
theorem seg_For {M : Model} {c : Code} {K : Flow → Sem PySem.Fin} {H : Value → Sem PySem.Fin} {gd : Bool → Bool} {lv : List Value → List Value} {target iter : Expr} {body orelse : List Stmt} {pos : Pos}
    (h : wpAny M (A.over c fs) (eval iter env) (fun x s₁ => wpAny M (A.over c fs) (pyIter x) (fun it s₂ => ∀ p, Seg M A R Y n s₀ (.forLoop target it body orelse env) (M.den (.forLoop target it body orelse env))
      (.ret (fun r => ((match r with | .ok f => (.pure f : Sem Flow) | .error e => .raise e).onRaise (cameBack env)).wrap K H gd lv) none (gd false) (lv []) c p [] :: fs) s₂) (fun _ _ => False) s₁) (fun _ _ => False) s)
    (hs : ∀ x, foldedSetIterable iter env x = pure x := by intro _; rfl) :
    Seg M A R Y n s₀ c ((exec (.For target iter body orelse pos) env).wrap K H gd lv) fs s := by
  rw [exec_For]
  refine seg_bind_wrap (wpAny_standAt ?_)
  refine seg_bind_wrap (wpAny_mono h (fun x s₁ h₁ => ?_) fun _ _ z => z.elim)
  refine seg_bind_wrap (wpAny_of_eq (hs x) ?_)
  refine seg_bind_wrap (wpAny_standAt ?_)
  refine seg_bind_wrap (wpAny_holding (wpAny_mono h₁ (fun it s₂ h₂ => ?_) fun _ _ z => z.elim))
  exact seg_call h₂
theorem seg_forLoop {target : Expr} {it : Value} {body : List Stmt}
    (h : wpAny (model prog w) (A.over (.forLoop target it body [] env) fs) (pyNext it) (fun r s1 => match r with
      | none => Seg (model prog w) A R Y n s₀ (.forLoop target it body [] env) (.pure (.again (.block [] env))) fs s1
      | some v => wpAny (model prog w) (A.over (.forLoop target it body [] env) fs) (letOwnedTupleGo target it v) (fun _ s2 => wpAny (model prog w) (A.over (.forLoop target it body [] env) fs) (assign target env v) (fun _ s3 =>
          Seg (model prog w) A R Y n s₀ (.forLoop target it body [] env) ((execs body env).wrap (fun f => match f with
            | .next | .cont => .pure (.again (.forLoop target it body [] env))
            | .brk => .pure (.done .next)
            | .ret v => .pure (.done (.ret v))) (fun e => (do noteFrame e env; theTreesLotGoes e : Sem Unit).wrap (fun _ => .raise e) .raise id id) id id) fs s3) (fun _ _ => False) s2) (fun _ _ => False) s1) (fun _ _ => False) s) :
    Seg (model prog w) A R Y n s₀ (.forLoop target it body [] env) ((model prog w).den (.forLoop target it body [] env)) fs s := by
  show Seg _ A R Y n s₀ _ ((forTurn target it body [] env).onRaise (fun x => do noteFrame x env; theTreesLotGoes x)) fs s
  unfold forTurn
  rw [Sem.onRaise_eq_wrap]
  refine seg_bind_wrap (wpAny_standAt ?_)
  refine seg_bind_wrap (wpAny_onRaise (wpAny_mono h (fun r s1 h1 => ?_) fun _ _ z => z.elim))
  cases r with
  | none => exact h1
  | some v =>
    refine seg_bind_wrap (wpAny_mono h1 (fun _ s2 h2 => ?_) fun _ _ z => z.elim)
    refine seg_bind_wrap (wpAny_mono h2 (fun _ s3 h3 => ?_) fun _ _ z => z.elim)
    rw [Sem.bind_eq_wrap', Sem.wrap_wrap]
    rw [Sem.wrap_congr (execs body env) _ _ (K' := fun f => match f with
            | .next | .cont => .pure (.again (.forLoop target it body [] env))
            | .brk => .pure (.done .next)
            | .ret v => .pure (.done (.ret v))) (H' := (fun e => (do noteFrame e env; theTreesLotGoes e : Sem Unit).wrap (fun _ => .raise e) .raise id id))
        (fun f => by cases f <;> rfl)
        (fun e => by first | exact Sem.bind_eq_wrap _ _ | (show (do noteFrame e env; theTreesLotGoes e : Sem Unit).bind (fun _ => .raise e) = _; rw [Sem.bind_eq_wrap]))]
    exact h3
theorem seg_block_nil {c : Code} {k h g l c₁ p₁ kp} (hk : Seg (model prog w) A R Y n s₀ c₁ (k (.ok .next)) fs s) : Seg (model prog w) A R Y n s₀ c (.pure (.again (.block [] env))) (.ret k h g l c₁ p₁ kp :: fs) s := by
  refine seg_again rfl ?_
  exact seg_leaf (.ok .next) hk
end
section
variable {γ : Type} {G : GP} {A : Around} {Yd : YK γ} {body : List Stmt}
def tGFor2 (wi : TI) (g : TG) (tb : TG2 γ) : TG2 γ := fun D n c σ H => wi σ H fun J H' => ∃ W : Nat → Nat → Nat → γ → L2.St → Hp → Prop, (∃ m, W 0 m n c σ H') ∧ ∀ i m n c σ H, W i m n c σ H →
  (J.stop i H ∧ D.nx n c σ H) ∨ (J.go i H ∧ ∃ N : Nat → γ → L2.St → Hp → Prop, (∀ n' c' σ' H', N n' c' σ' H' → ∃ m', m' < m ∧ W (i + 1) m' n' c' σ' H') ∧ ∀ x H', J.yld i H x H' → g x σ H' fun σ2 H2 => tb { D with nx := N, ct := N, bk := D.nx } n c σ2 H2)
theorem gc_for2 {c c' : Code} {fs : List Frame} {gd : Bool → Bool} {k : Result → Sem PySem.Fin} {l kp : List Value} {p : Pos} (g : GC G A c fs gd) (hw : c'.weight = 0) (hu : c'.cUnits = 0) : GC G A c' (.ret k none (gd false) l c p kp :: fs) id := gc_loop2 g hw hu
theorem gs_for2 {tg iter : Expr} {pos : Pos} {wi : TI} {g : TG} {tb : TG2 γ} (hi : ∀ s H, PI (G.cx A s H) tg iter wi) (hg : ∀ s H, PG (G.cx A s H) tg g) (hb : GSs2 G A Yd body tb) (hnc : G.env.cells = [])
    (hs : ∀ x, foldedSetIterable iter G.env x = pure x := by intro _; rfl) : GS2 G A Yd (.For tg iter body [] pos) (tGFor2 wi g tb) := by
  refine ⟨fun Cw R ip n c s₀ Hb code fs K J gd lv s σ H D gc k hcw hl I ht => ?_⟩
  refine seg_For ?_ hs
  rw [gc.over]
  refine wpAny_mono ((hi _ _).run ip s σ H _ I ht) (fun v s1 h1 => wpAny_mono h1 (fun itv s2 h2 p => ?_) fun _ _ z => (show False from z).elim) fun _ _ z => (show False from z).elim
  obtain ⟨it, fp, tn, Jt, H2, e, I2, T, st2, f2, W, ⟨m0, w0⟩, turn⟩ := h2
  subst e
  have gl := fun (kk : Result → Sem PySem.Fin) => gc_for2 (k := kk) (c' := .forLoop tg (.ref it) body [] G.env) (l := lv []) (kp := []) (p := p) gc rfl rfl
  have stat : ∀ {s₀' : Shared} {Hb' H' : Hp}, G.L ≤ s₀'.heap.objs.size → (∀ b ∈ fp, H' b = none) → ∀ b ∈ fp, FpOk (G.cx A (G.tr s₀') Hb') ip H' b := fun {s₀' Hb' H'} hl' hn b hb => by
    obtain ⟨_, a1, a2, a3, a4, a5⟩ := f2 b hb
    refine ⟨hn b hb, a1, a2, ?_, a4, a5⟩
    rcases a3 with a3 | a3
    · exact .inl a3
    · refine .inr ?_
      show (trunc G.L s₀'.heap).objs.size ≤ b
      have a3' : (trunc G.L s₀.heap).objs.size ≤ b := a3
      rw [trunc_size hl] at a3'
      rw [trunc_size hl']
      exact a3'
  have young : ∀ b ∈ fp, G.L < b := fun b hb => by
    obtain ⟨_, a1, _, a3, _⟩ := f2 b hb
    have a3' : G.L ≤ b := by
      rcases a3 with a3 | a3
      · exact absurd a3 (by simp [GP.cx])
      · have a3' : (trunc G.L s₀.heap).objs.size ≤ b := a3
        rw [trunc_size hl] at a3'
        exact a3'
    exact Nat.lt_of_le_of_ne a3' fun z => a1 z.symm
  have loop : ∀ (m i n : Nat) (c : γ) (s₀ : Shared) (Hb : Hp) (s : Shared) (σ : L2.St) (H : Hp), Cw c Hb s₀ → G.L ≤ s₀.heap.objs.size → W i m n c σ H → Inv (G.cx A (G.tr s₀) Hb) ip σ H s → tn i s.heap → (∀ b ∈ fp, H b = none) →
      Seg (model G.P G.w) A R (GY G A Yd Cw) n s₀ (.forLoop tg (.ref it) body [] G.env) ((model G.P G.w).den (.forLoop tg (.ref it) body [] G.env))
        (.ret (fun r => ((match r with | .ok f => (.pure f : Sem Flow) | .error e => .raise e).onRaise (cameBack G.env)).wrap K J gd lv) none (gd false) (lv []) code p [] :: fs) s := by
    intro m
    induction m using Nat.strongRecOn with
    | ind m ih =>
      intro i n c s₀ Hb s3 σ3 H3 hcw hl w I3 st3 fr3
      refine seg_forLoop ?_
      rw [(gl _).over]
      rcases turn i m n c σ3 H3 w with ⟨stop, qn⟩ | ⟨go, N, hN, step⟩
      · refine wpAny_mono (T.done (G.cx A (G.tr s₀) Hb) rfl rfl rfl rfl i ip s3 σ3 H3 _ I3 (stat hl fr3) st3 stop) (fun r s4 ⟨hr, I4⟩ => ?_) fun _ _ z => z
        subst hr
        exact seg_block_nil (k.ok n c s₀ Hb s4 .next hcw hl ⟨σ3, H3, I4, qn⟩)
      · refine wpAny_mono (T.item (G.cx A (G.tr s₀) Hb) rfl rfl rfl rfl i ip s3 σ3 H3 _ I3 (stat hl fr3) st3 go) (fun r s4 ⟨u, hr, h4⟩ => ?_) fun _ _ z => z
        subst hr
        refine wpAny_mono h4 (fun _ s5 ⟨x, H5, I5, r5, y5, st5, fr5⟩ => ?_) fun _ _ z => z
        have I5' := I5.pinned (stat hl fr5) (T.obj _ _ st5)
        refine wpAny_mono ((hg _ _).run _ s5 σ3 H5 x u _ I5' r5 (step x H5 y5)) (fun _ s6 ⟨σ6, H6, I6, q6⟩ => ?_) fun _ _ z => (show False from z).elim
        refine hb.run Cw R (ip ++ pinsAt fp s5.heap) n c s₀ Hb _ _ _ _ id id s6 σ6 H6 { D with nx := N, ct := N, bk := D.nx } (gl _) ⟨fun q hq => ?_, fun n' c' s₀' Hb' s7 f hc' hl' hs => ?_⟩ hcw hl I6 q6
        · rcases List.mem_append.mp hq with z | z
          · exact k.ipk q z
          · exact young _ (of_pinsAt z).1
        · have again : ∀ {σ7 : L2.St} {H7 : Hp}, Inv (G.cx A (G.tr s₀') Hb') (ip ++ pinsAt fp s5.heap) σ7 H7 s7 → N n' c' σ7 H7 → Seg (model G.P G.w) A R (GY G A Yd Cw) n' s₀' (.forLoop tg (.ref it) body [] G.env) (.pure (.again (.forLoop tg (.ref it) body [] G.env)))
              (.ret (fun r => ((match r with | .ok f => (.pure f : Sem Flow) | .error e => .raise e).onRaise (cameBack G.env)).wrap K J gd lv) none (gd false) (lv []) code p [] :: fs) s7 := fun {σ7 H7} I7 n7 => by
            obtain ⟨m', hm, w7⟩ := hN n' c' σ7 H7 n7
            refine seg_again rfl (ih m' hm (i + 1) n' c' s₀' Hb' s7 σ7 H7 hc' hl' w7 I7.unpinned (T.keep _ _ _ st5 fun b hb o e => (I7.pin (b, o) (List.mem_append_right _ (List.mem_append_right _ (mem_pinsAt hb e)))).1) fun b hb => ?_)
            obtain ⟨o, e, d⟩ := T.obj _ _ st5 b hb
            exact (I7.pin (b, o) (List.mem_append_right _ (List.mem_append_right _ (mem_pinsAt hb e)))).2.1
          cases f with
          | next => obtain ⟨σ7, H7, I7, n7⟩ := hs; exact again I7 n7
          | cont => obtain ⟨σ7, H7, I7, n7⟩ := hs; exact again I7 n7
          | brk =>
            obtain ⟨σ7, H7, I7, q7⟩ := hs
            exact seg_leaf (.ok .next) (k.ok n' c' s₀' Hb' s7 .next hc' hl' ⟨σ7, H7, I7.unpinned, q7⟩)
          | ret v =>
            obtain ⟨x7, σ7, H7, I7, r7, q7⟩ := hs
            exact seg_leaf (.ok (.ret v)) (k.ok n' c' s₀' Hb' s7 (.ret v) hc' hl' ⟨x7, σ7, H7, I7.unpinned, r7, q7⟩)
  exact loop m0 0 n c s₀ Hb s2 σ H2 hcw hl w0 I2 st2 fun b hb => (f2 b hb).1
end
end GenF
namespace J
open PySem PySem.Spec L2 PyProof.Rows ClX RZ GenF
section
variable {γ τ ζ : Type} {G : GP} {A : Around} {Yd : YK γ} {Fp : γ → τ → Fr → Prop} {g : Gm} {D : GD γ} {st : Stmt} {rest body : List Stmt} {nx bk ct : Nat → γ → L2.St → Hp → Prop} {rt : Nat → γ → V → Hp → Prop}
/-- one statement that hands out nothing -/
theorem jg_plain1 {S : ζ → Gm} {w : (ζ → Prop) → Prop} {wr : ζ → Nat → τ → Prop} (h : ∀ sb Hb F (N : ζ → Prop), JSs (G.cx A sb Hb) F g [st] ⟨phi F S N, fun _ _ => False, fun _ _ => False, fun _ _ => False⟩ (w N)) (hr : ∀ z, JG G A Yd Fp (S z) rest D (wr z)) :
    JG G A Yd Fp g (st :: rest) D (fun n s => wJoin (fun z => wr z n s) w) := jg_plain (l := [st]) h hr
/-- if, whose body leaves -/
theorem jg_ifX {e : Expr} {a : List Stmt} {pos : Pos} {wc : Prop → Prop → Prop} {wa wr : Nat → τ → Prop} (hc : ∀ sb Hb F, JT (G.cx A sb Hb) F g e wc) (ha : JG G A Yd Fp g a ⟨fun _ _ _ _ => False, rt, bk, ct⟩ wa) (hr : JG G A Yd Fp g rest ⟨nx, rt, bk, ct⟩ wr) :
    JG G A Yd Fp g (.If e a [] pos :: rest) ⟨nx, rt, bk, ct⟩ (fun n s => wc (wa n s) (wr n s)) := by
  refine gssW2 (gss_cons2 (gs_if2 (tc := fun σ H Q => ∃ F, RT F g wc σ H Q) (fun sb Hb => ⟨fun p s σ H Q I ⟨F, q⟩ => (hc sb Hb F).run p s σ H Q I q⟩) ha gss_nil2) hr) fun D' n c σ H ⟨le, F, s, hf, k, hw⟩ => ?_
  exact ⟨F, k, _, _, hw, fun h1 H1 s1 => by
    dsimp only
    rw [if_pos rfl]
    exact ⟨⟨fun _ _ _ _ z => z.elim, le.rt, le.bk, le.ct⟩, F, s, hf, k.step s1, h1⟩, fun h1 H1 s1 => by
    dsimp only
    rw [if_neg Bool.false_ne_true]
    exact ⟨le, F, s, hf, k.step s1, h1⟩⟩
/-- for i in range(..) -/
theorem forRG_core {S : ζ → Gm} {lo : Int} {m : Nat} {b : Int → ζ × Nat × τ → (ζ × Nat × τ → Prop) → (ζ × Nat × τ → Prop) → Prop} {wr : ζ × Nat × τ → Prop} {gT : TG} {tb : TG2 γ} {D : GD γ} {n0 : Nat} {c0 : γ} {σ : L2.St} {H : Hp} {F0 : Fr} {z0 : ζ} {s0 : τ}
    (hf : Fp c0 s0 F0) (h0 : (S z0).Ok F0 σ H) (hw : wFor b wr ((List.range m).map fun (j : Nat) => lo + (j : Int)) (z0, n0, s0)) (hD : ∀ n c σ H F z s, Fp c s F → (S z).Ok F σ H → wr (z, n, s) → D.nx n c σ H)
    (hb : ∀ (N : ζ × Nat × τ → Prop) x n c σ H F z s, Fp c s F → (S z).Ok F σ H → b x (z, n, s) N wr → gT (.int x) σ H fun σ2 H2 => tb { D with nx := phiG Fp S fun z n s => N (z, n, s), ct := phiG Fp S fun z n s => N (z, n, s), bk := D.nx } n c σ2 H2) :
    ∃ W : Nat → Nat → Nat → γ → L2.St → Hp → Prop, (∃ k, W 0 k n0 c0 σ H) ∧ ∀ i k n c σ H, W i k n c σ H →
      ((Itr lo m).stop i H ∧ D.nx n c σ H) ∨ ((Itr lo m).go i H ∧ ∃ N : Nat → γ → L2.St → Hp → Prop, (∀ n' c' σ' H', N n' c' σ' H' → ∃ k', k' < k ∧ W (i + 1) k' n' c' σ' H') ∧ ∀ x H', (Itr lo m).yld i H x H' → gT x σ H' fun σ2 H2 => tb { D with nx := N, ct := N, bk := D.nx } n c σ2 H2) := by
  have hl : ((List.range m).map fun (j : Nat) => lo + (j : Int)).length = m := by rw [List.length_map, List.length_range]
  refine ⟨fun i k n c σ H => k = m - i ∧ i ≤ m ∧ ∃ F z s, Fp c s F ∧ (S z).Ok F σ H ∧ wFor b wr (((List.range m).map fun (j : Nat) => lo + (j : Int)).drop i) (z, n, s), ⟨m, by simp, Nat.zero_le _, F0, z0, s0, hf, h0, hw⟩, ?_⟩
  rintro i k n c σ H ⟨rfl, hi, F, z, s, hf, o, w⟩
  by_cases hlt : i < m
  · have hlt' : i < ((List.range m).map fun (j : Nat) => lo + (j : Int)).length := by rw [hl]; exact hlt
    rw [List.drop_eq_getElem_cons hlt'] at w
    have ex : ((List.range m).map fun (j : Nat) => lo + (j : Int))[i] = lo + (i : Int) := Option.some.inj ((List.getElem?_eq_getElem hlt').symm.trans (range_getI hlt))
    rw [ex] at w
    refine .inr ⟨hlt, phiG Fp S fun z n s => wFor b wr (((List.range m).map fun (j : Nat) => lo + (j : Int)).drop (i + 1)) (z, n, s), fun n' c' σ' H' ⟨F', s', z', hf', o', w'⟩ => ⟨m - (i + 1), by omega, rfl, hlt, F', z', s', hf', o', w'⟩, fun x H' y => ?_⟩
    obtain ⟨e, y⟩ := y
    subst e y
    exact hb (fun q => wFor b wr (((List.range m).map fun (j : Nat) => lo + (j : Int)).drop (i + 1)) q) _ n c σ _ F z s hf o w
  · refine .inl ⟨by show m ≤ i; omega, hD n c σ H F z s hf o ?_⟩
    rw [List.drop_of_length_le (by omega)] at w
    exact w
theorem jg_forR2 {S : ζ → Gm} {tg e e2 : Expr} {p pr pos : Pos} {gT : TG} {tr : Gm → Int → Gm} {we we2 : (Int → Prop) → Prop} {bb : Int → ζ → (ζ → Nat → τ → Prop) → (ζ → Nat → τ → Prop) → Nat → τ → Prop} {wr : ζ → Nat → τ → Prop} {z0 : ζ}
    (hS : Sub g (S z0)) (hg : ∀ sb Hb, PG (G.cx A sb Hb) tg gT) (ht : TgOk tI gT tr)
    (hb : ∀ (N B : ζ → Nat → τ → Prop) a z, JG G A Yd Fp (tr (S z) a) body ⟨phiG Fp S N, rt, phiG Fp S B, phiG Fp S N⟩ (bb a z N B)) (hr : ∀ z, JG G A Yd Fp (S z) rest ⟨nx, rt, bk, ct⟩ (wr z))
    (hpi : ∀ sb Hb F, PI (G.cx A sb Hb) tg (.Call (.Name "range" p) [e, e2] [] pr) (iRng2 (tCons (RJ F g (rO tI) we) (tCons (RJ F g (rO tI) we2) tNil)))) (hnc : G.env.cells = [])
    (hfs : ∀ y, foldedSetIterable (.Call (.Name "range" p) [e, e2] [] pr) G.env y = pure y := by intro _; rfl) :
    JG G A Yd Fp g (.For tg (.Call (.Name "range" p) [e, e2] [] pr) body [] pos :: rest) ⟨nx, rt, bk, ct⟩ (fun n s => we fun lo => we2 fun hi => (-(2 ^ 62) ≤ lo ∧ lo < 2 ^ 62 ∧ -(2 ^ 62) ≤ hi ∧ hi < 2 ^ 62) ∧
      wFor (fun a (q : ζ × Nat × τ) N B => bb a q.1 (fun z n s => N (z, n, s)) (fun z n s => B (z, n, s)) q.2.1 q.2.2) (fun q => wr q.1 q.2.1 q.2.2) (rangeI lo hi) (z0, n, s)) := by
  refine gssW2 (gss_cons2 (gs_for2 (wi := fun σ H R => ∃ F, iRng2 (tCons (RJ F g (rO tI) we) (tCons (RJ F g (rO tI) we2) tNil)) σ H R)
    (tb := tEx2 fun q : Int × ζ × (ζ → Nat → τ → Prop) => RG Fp (tr (S q.2.1) q.1) ⟨phiG Fp S q.2.2, rt, phiG Fp S wr, phiG Fp S q.2.2⟩ (bb q.1 q.2.1 q.2.2 wr))
    (fun sb Hb => ⟨fun pins s σ H R I ⟨F, q⟩ => (hpi sb Hb F).run pins s σ H R I q⟩) hg (gssE2 fun q => hb q.2.2 wr q.1 q.2.1) hnc hfs) (gssE2 hr)) fun D' n c σ H ⟨le, F, s, hf, k, hw⟩ => ?_
  refine ⟨F, k, _, hw, fun lo v H1 w1 s1 r1 => ⟨k.step s1, _, w1, fun hi v2 H2 ⟨w2, w3⟩ s2 r2 => ⟨lo, hi, by rw [(r1 : v = _), (r2 : v2 = _)], w2, ?_⟩⟩⟩
  unfold rangeI at w3
  refine forRG_core (S := S) hf (hS.ok (k.step (s1.trans s2))) w3 (fun n c σ H F z s hf o q => ⟨z, le, F, s, hf, o, q⟩) fun N x n c σ H F z s hf o q => ?_
  exact ht F _ σ H (.int x) x _ o rfl fun σ' o' => ⟨(x, z, fun z n s => N (z, n, s)), ⟨fun _ _ _ _ h => h, le.rt, fun n c σ H ⟨F, s, z, hf, o, q⟩ => ⟨z, le, F, s, hf, o, q⟩, fun _ _ _ _ h => h⟩, F, s, hf, o', q⟩
end
section
variable {X : Cx} {F : Fr} {g : Gm} {rest : List Stmt} {pos : Pos}
/-- x += e over numbers -/
theorem js_augI {i : Nat} {x : Str} {e : Expr} {a : Int} {pos' : Pos} {we : (Int → Prop) → Prop} {wr : Int → Prop} {D : Ends} (hs : g.s[i]? = some (.val tI a)) (he : JE X F g e (rO tI) we) (hr : ∀ b, JSs X F (g.set i (.val tI b)) rest D (wr b)) (hN : X.N.Nodup)
    (hi : X.N[i]? = some x := by rfl) (hx : Loc X.env.scope x := by first | exact Or.inl rfl | exact Or.inr rfl) (hf : X.fn x = true ∨ X.env.scope.names.lookup x = some .local := by first | exact .inl rfl | exact .inr rfl) :
    JSs X F g (.AugAssign (.Name x pos') .Add e pos :: rest) D (we fun b => wLet (a + b) wr) := by
  refine pssW (pss_cons (ps_aug hN hi hx he ip_add hf) (pssE hr)) fun D' σ H ⟨e, o, q⟩ => ?_
  obtain ⟨ov, e1, v, e2, r⟩ := o.var hs
  subst e2
  obtain rfl : v = .int a := r
  refine ⟨_, e1, o, _, q, fun b u H1 p s1 r1 => ?_⟩
  obtain rfl : u = .int b := r1
  exact ⟨a, b, rfl, rfl, a + b, e, (o.step s1).set ⟨_, rfl, rfl⟩, p⟩
end
end J
/-! A41: a display of one number; sorted of a set of any size -/
namespace L2
open PySem PySem.Spec PyProof.Rows
section
variable {X : Cx}
theorem pe_set1 {e : Expr} {pos : Pos} {te : Addr → TE} (he : ∀ p, PE X e (te p)) (hcd : PySem.W.kdsCode X.K X.env.code = true) (hp : [e].all PySem.W.kdsPlain = true := by rfl) :
    PE X (.Set [e] 0 pos) (fun σ H Q => ∀ p, H p = none → te p σ (upd H p (SetO X.w p (fun _ => false) 0)) fun x H1 => ∃ k, x = .int k ∧ H1 p = some (SetO X.w p (fun _ => false) 0) ∧ Q (.ref p) (upd H1 p (SetO X.w p (fun j => false || decide (j = k)) 1))) := by
  refine ⟨fun pins s σ H Q I h => ?_⟩
  rw [arm_eval_Set]
  refine wpAny_bind (wpAny_standAt ?_)
  refine wpAny_bind (PySem.W.kds_main I.kIn hcd fun b => ?_)
  rw [PySem.W.kds_star [e] hp]
  have hel : List.map (fun x : Bool × Sem Value => (x.1, x.2 >>= fun v => standAt pos >>= fun _ => pure v)) ((evalEach [e] X.env).map fun t => (false, t)) = [(false, eval e X.env >>= fun v => standAt pos >>= fun _ => pure v)] := rfl
  have road : (displayRoad 0 [e] == DisplayRoad.constants) = false := road0 [e]
  have road2 : (displayRoad 0 [e] == DisplayRoad.unsure) = false := by rfl
  show wpAny _ _ (setDisplay (displayRoad 0 [e]) b (List.map (fun x : Bool × Sem Value => (x.1, x.2 >>= fun v => standAt pos >>= fun _ => pure v)) ((evalEach [e] X.env).map fun t => (false, t)))) _ _ _
  rw [hel]
  unfold setDisplay
  try dsimp only
  rw [if_neg (by rw [road]; exact Bool.false_ne_true)]
  unfold newSet setsByText
  refine wpAny_bind (wpAny_bind (wpAny_bind (wpAny_askSetting (wpAny_pure ?_))))
  dsimp only
  simp only [newObj]
  refine wpAny_bind (wpAny_alloc (wpAny_pure ?_))
  dsimp only
  have I1 : Inv X pins σ (upd H s.heap.objs.size (SetO X.w s.heap.objs.size (fun _ => false) 0)) { s with heap := s.heap.push { cls := .type "set", dict := none, data := .set #[] 0 (.fresh 0 0 (!X.w.params.followText "set-order")) } } :=
    I.laid (t' := s.toks) (fun b u e => Heap.get?_push_of_some _ e) (Nat.le_refl _) (setO_new (setR_fresh X.w))
  have hq := h s.heap.objs.size (I.hok.fresh (Nat.le_refl _))
  rw [road2]
  have hn : ∀ t : Sem Value, (if [(false, t)].length > 30 then 0 else (([(false, t)].findIdx? (·.1)).getD [(false, t)].length)) = [(false, t)].length := fun t => rfl
  rw [hn, List.take_length, List.drop_length]
  refine wpAny_bind (wpAny_holding ?_)
  refine wpAny_bind ?_
  show wpAny _ _ ((eval e X.env >>= fun v => standAt pos >>= fun _ => pure v) >>= fun v => holding [v] (evalAll []) >>= fun r => pure (v :: r)) _ _ _
  refine wpAny_bind (wpAny_bind (thn ((he _).run pins _ σ _ _ I1 hq) fun u s1 ⟨x, H1, I2, rx, k, ex, hD, q⟩ => ?_))
  refine wpAny_bind (wpAny_standAt (wpAny_pure ?_))
  refine wpAny_bind (wpAny_holding (wpAny_pure ?_))
  refine wpAny_pure ?_
  refine wpAny_bind (wpAny_holding ?_)
  subst ex
  obtain ⟨tk, rfl⟩ := rx
  have R := setO_get I2 hD
  rw [List.forIn_cons]
  refine wpAny_bind (wpAny_bind ?_)
  unfold setAdd
  refine wpAny_bind (wpAny_holding (wpAny_bind ((intKind X.prog X.w).pyHash (intKind_is X.prog X.w k tk) ?_)))
  refine setR_add_hashed (s := { s1 with toks := s1.toks + 1 }) R (by decide) fun h' sb new => ?_
  refine wpAny_pure ?_
  rw [List.forIn_nil]
  refine wpAny_pure ?_
  rw [if_neg Bool.false_ne_true]
  refine wpAny_pure ?_
  refine wpAny_bind (wpAny_pure (wpAny_pure (wpAny_pure ?_)))
  have he : ∃ u, h'.get? s.heap.objs.size = some u := by
    have ⟨o, _, _, _, ho, _⟩ := new
    exact ⟨o, ho⟩
  exact ⟨.ref s.heap.objs.size, upd H1 s.heap.objs.size (SetO X.w s.heap.objs.size (fun j => false || decide (j = k)) 1), I2.write (e := s.heap.objs.size) (t' := s1.toks + 1) (by rw [hD]; trivial) (.inl rfl) (fun b u hb hu => (sb.2 b hb).trans hu) he (setO_new new), rfl, q⟩
/-- sorted of a set of ints -/
def rSortedSetB (w : World) : List V → Hp → VK → Prop := fun vs H Q => ∃ (a : Addr) (S : Int → Bool) (n : Nat), vs = [V.ref a] ∧ H a = some (SetO w a S n) ∧ n ≤ 4000 ∧
  ∀ (ns : List Int) (p : Addr), ns.Pairwise (· < ·) → (∀ k : Int, k ∈ ns ↔ S k = true) → ns.length = n → H p = none → Q (.ref p) (upd H p (.lst (ns.map V.int)))
end
section
variable {P : Program} {w : World} {A : Around} {E : Value → Shared → Prop} {s : Shared} {a : Addr}
theorem sorted_setB {S : Int → Bool} {n : Nat} {Q : Value → Shared → Prop} (R : SetR w s.heap a S n) (hh : A.handled = none) (h64 : n ≤ 4000)
    (hQ : ∀ s' p (out : Array Value) (c : Nat) (ns : List Int), (∀ b o, s.heap.get? b = some o → s'.heap.get? b = some o) → s'.gens = s.gens → s'.os = s.os → s.heap.objs.size ≤ p →
      s'.heap.get? p = some (seqObj "list" out c) → IntsAre out.toList ns → ns.Pairwise (· < ·) → (∀ k, k ∈ ns ↔ S k = true) → ns.length = n → Q (.ref p) s') :
    wpAny (model P w) A (call (.builtin "sorted") [.ref a]) Q E s := by
  obtain ⟨o, es, ep, t, ho, hex, hd, g, nd, hm, hb, hf, hn, hr, hl⟩ := R
  refine Calls.call_function_entry kind_sorted plain_sorted entry_sorted (args_sorted1 _) ?_
  unfold Builtin.«sorted»
  refine wpAny_bind (m := checkCount "sorted" 1 1 _) (wpAny_pure ?_)
  refine wpAny_bind (collect_set (A := A.in1) hh ⟨o, ho, hex.1, hd⟩ hf hb hr hl fun s1 vs k1 hz g1 o1 pm => ?_)
  have hvl : vs.length = n := by rw [pm.length_eq, List.length_map, Array.length_toList]; exact hn
  have hI : IntsAre vs (vs.map Builtin.Re.reRawOf) := ints_of vs fun v hv => by
    obtain ⟨e, he, q⟩ := List.mem_map.mp (pm.mem_iff.mp hv)
    obtain ⟨k, tk, h1, _⟩ := g e he
    exact ⟨k, tk, by rw [← q]; exact h1⟩
  have pk : (vs.map Builtin.Re.reRawOf).Perm (es.toList.map keyOf) := by
    have q := pm.map Builtin.Re.reRawOf
    rw [List.map_map] at q
    exact q
  have big : vs.length ≤ sizeLine := by rw [hvl, sizeLine_eq]; omega
  refine wpAny_bind (wpAny_newList ?_ big)
  have hoL : (s1.heap.push (seqObj "list" vs.toArray 0)).get? s1.heap.objs.size = some (seqObj "list" vs.toArray 0) := Heap.get?_push_size _ rfl
  refine wpAny_bind (wpAny_holding (wpAny_call_entry slot_list_sort ⟨_, hoL, rfl⟩ entry_list_sort (SrtO.list_sort_ord SrtO.swo_int hoL big (fun h2 => SrtO.ints_sortable hI h2) fun out h1 h2 => ⟨_, rfl, ?_⟩) (args_list_sort _)))
  obtain ⟨a1, a2, a3⟩ := SrtO.ints_out hI h1 h2
  obtain ⟨c, hc⟩ := sortedHeap_at (vs := vs) (out := out.toArray) hoL
  have pn : (out.map SrtO.iv).Perm (es.toList.map keyOf) := a2.trans pk
  refine wpAny_pure ⟨_, rfl, hQ _ s1.heap.objs.size out.toArray c (out.map SrtO.iv) (fun b u e => ?_) g1 o1 hz hc a1 (lt_of_le_nodup _ a3 (pn.nodup_iff.mpr nd)) (fun k => by rw [pn.mem_iff, ← hm k]) ?_⟩
  · have q := k1 b u e
    have hlt := Heap.lt_size q
    show (sortedHeap (s1.heap.push (seqObj "list" vs.toArray 0)) s1.heap.objs.size vs out.toArray).get? b = some u
    rw [sortedHeap_old (Nat.ne_of_lt hlt) (by rw [size_push']; exact Nat.lt_succ_of_lt hlt)]
    exact Heap.get?_push_of_some _ q
  · rw [pn.length_eq, List.length_map, Array.length_toList]; exact hn
end
section
variable {X : Cx}
theorem cr_sortedSetB (hc : X.calm = true) : CallR X (.builtin "sorted") (rSortedSetB X.w) := by
  intro pins s σ H vs us Q I r h
  obtain ⟨a, S, n, rfl, ha, h64, q⟩ := h
  have R := setO_get I ha
  rw [Vals.ref1 r]
  refine sorted_setB R (I.ok.hd hc) h64 fun s' p out c ns k g o hp hg hi hs hm hl => ?_
  have hlen : (ns.map V.int).length ≤ sizeLine := by rw [List.length_map, hl, sizeLine_eq]; omega
  have hn : H p = none := I.hok.fresh hp
  have J : Inv X pins σ (upd H p (.lst (ns.map V.int))) { s with heap := s'.heap, gens := s'.gens, drawn := s'.drawn, toks := s'.toks } :=
    I.call (ch := []) (Un.laid k hp hn) (I.hok.laid k hp ⟨hlen, out.toList, c, vals_of_ints hi, hg⟩) (by rw [g]; exact I.bare) (fun _ z => nomatch z)
  have e : s' = { s with heap := s'.heap, gens := s'.gens, drawn := s'.drawn, toks := s'.toks } := by
    cases s'
    cases s
    cases o
    rfl
  rw [e]
  exact ⟨.ref p, _, J, rfl, q ns p hs hm hl hn⟩
end
section
variable {P : Program} {w : World} {K : PySem.W.Frag} {mg : Str → Option Value} {base : Heap}
/-- as Fun.ok, the code's record at hand -/
theorem Fun.okC {x qual : Str} {st : Stmt} {f : Addr} {fd : FuncData} {N ps : List Str} {k : Nat} {sp : Sp} (F : Fun K x qual st f fd) (S : FnScope N ps (defScope st)) (len : ∀ vs H Q E, sp vs H Q E → vs.length = ps.length)
    (hbody : ∀ (cdv : Value) (hcd : PySem.W.kdsCode K cdv = true) (A : Around) (outer : List Env) (s : Shared) (H : Hp) (vs : List V) (Q : VK) (E : XK), Room k (A.deeper (envOfC qual (defScope st) s.heap.objs.size f cdv)) → sp vs H Q E →
      ∃ t, PSs (cxOf CX0 P w K mg base N qual (defScope st) f cdv A outer s H E).nox (defBody st) t ∧ t { nx := fun _ H' => Q .non H', rt := Q } (start N vs) H) : FnOk P w K mg base CX0 (k + 1) f fd ps sp := by
  obtain ⟨oc, od, kV, doc, pm, an, cdv, ct, osl, rfl, lk, hcd⟩ := F.ex
  refine fn_of lk hcd S len fun A outer s H vs Q E hr hsp => ?_
  obtain ⟨t, h, q⟩ := hbody cdv (kdsCode_of hcd) A outer s H vs Q E hr hsp
  exact ⟨t, h.nox, q⟩
end
end L2
namespace J
open PySem PySem.Spec L2 PyProof.Rows
section
variable {X : Cx} {F : Fr} {g : Gm} {rest : List Stmt} {pos : Pos}
/-- x = {e} -/
theorem js_asgSet1 {i : Nat} {x : Str} {e : Expr} {px sp : Pos} {we : (Int → Prop) → Prop} {wr : Int → Prop} {D : Ends} (he : ∀ p, JE X F (g.push (.raw p (setJ X.w p []))) e (rO tI) we) (hr : ∀ p a, JSs X F ((g.push (.raw p (setJ X.w p [a]))).set i (.at p)) rest D (wr a)) (hcd : PySem.W.kdsCode X.K X.env.code = true) (hN : X.N.Nodup)
    (hp : [e].all PySem.W.kdsPlain = true := by rfl) (hi : X.N[i]? = some x := by rfl) (hx : Loc X.env.scope x := by first | exact Or.inl rfl | exact Or.inr rfl)
    (hs : swapsWith (.Set [e] 0 sp) (some (.Name x px)) pos.line X.env = pure false := by rfl) (hf : X.fn x = true ∨ X.env.scope.names.lookup x = some .local := by first | exact .inl rfl | exact .inr rfl) :
    JSs X F g (.Assign [.Name x px] (.Set [e] 0 sp) pos :: rest) D (we fun a => wLet a wr) := by
  refine pssW (pss_cons (ps_set hN hi hx (pe_set1 (te := fun p => RJ F (g.push (.raw p (setJ X.w p []))) (rO tI) we) he hcd hp) hs hf) (pssE (t := fun q : Addr × Int => RS F ((g.push (.raw q.1 (setJ X.w q.1 [q.2]))).set i (.at q.1)) D (wr q.2)) fun q => hr q.1 q.2)) fun D' σ H ⟨e, k, w⟩ => fun p hp => ?_
  have k1 : (g.push (.raw p (setJ X.w p []))).Ok F σ (upd H p (SetO X.w p (fun _ => false) 0)) := by
    rw [← setJ_nil]
    exact k.push (c := .raw p (setJ X.w p [])) (same_upd hp) rfl hp ⟨k.same.free hp, rfl, upd_same⟩
  refine ⟨k1, _, w, fun a v H1 w1 s1 ra => ?_⟩
  have ev : v = .int a := ra
  have k2 := k1.step s1
  have hraw := k2.raw (j := 0) rfl
  refine ⟨a, ev, by rw [setJ_nil] at hraw; exact hraw, (p, a), e, ?_, w1⟩
  have k3 := k2.mutC (j := 0) (c := .raw p (setJ X.w p [])) (c' := .raw p (setJ X.w p [a])) (o := setJ X.w p [a]) rfl rfl rfl ⟨k.same.free hp, rfl, upd_same⟩
  have es : setJ X.w p [a] = SetO X.w p (fun j => false || decide (j = a)) 1 := by
    unfold setJ
    congr 1
    funext j
    unfold memJ
    simp
  have k4 : (g.push (.raw p (setJ X.w p [a]))).Ok F σ (upd H1 p (setJ X.w p [a])) := k3
  rw [es] at k4
  have k5 := k4.set (i := i) (t := .at p) (v := .ref p) rfl
  rw [← es] at k5 ⊢
  exact k5
/-- sorted(a set) -/
theorem je_sortedS {e : Expr} {p : Pos} {w : (List Int → Prop) → Prop} (hg : Gl X "sorted") (hm : X.mg "sorted" = none) (ha : JE X F g e (rS X.w) w) (hc : X.calm = true := by rfl) (he : starEach [e] X.env = (false, eval e X.env) :: starEach [] X.env := by rfl) (hpl : (backTo pos (starEach [] X.env)).any (·.1) = false := by rfl) :
    JE X F g (.Call (.Name "sorted" p) [e] [] pos) (rN tI) (fun k => w fun xs => xs.length ≤ 4000 ∧ ∀ ys : List Int, ys.Pairwise (· < ·) → (∀ z, z ∈ ys ↔ z ∈ xs) → ys.length = xs.length → k ys) := by
  refine peW (pe_callB (cr_sortedSetB hc) hg hm (by decide +kernel) (pa_cons ha pa_nil he) (by decide) (by decide) he hpl) fun σ H Q ⟨k, P, w, q⟩ => ⟨k, _, w, fun xs v H1 ⟨w1, w2⟩ s1 ⟨a, ev, ha⟩ => ?_⟩
  subst ev
  refine ⟨a, _, xs.length, rfl, ha, w1, fun ns l h1 h2 h3 hl => ?_⟩
  exact q ns _ _ (w2 ns h1 (fun z => by rw [h2 z]; unfold memJ; rw [decide_eq_true_iff]) h3) (s1.trans (same_upd hl)) ⟨l, _, rfl, s1.free hl, (k.step s1).bs_new hl, paired_ints ns⟩
/-- while xs: if xs: -/
theorem jt_truL {α : Type} {A : Ty α} {e : Expr} {w : (List α → Prop) → Prop} (he : JE X F g e (rE X.K A) w) (hi : ∀ whole, isTrue e X.env whole = (do let v ← whole; standAt e.pos; holding [v] (truthy v)) := by intro _; rfl) :
    JT X F g e (fun Ya No => w fun xs => ((!xs.isEmpty) = true → Ya) ∧ ((!xs.isEmpty) = false → No)) :=
  ptW (pt_truth he hi) fun σ H Q ⟨k, A, B, w, qa, qb⟩ => ⟨k, _, w, fun xs v H1 w1 s1 ⟨a, vs, ev, hs, hp⟩ => by
    subst ev
    refine ⟨!xs.isEmpty, ?_, ?_⟩
    · refine .inl ⟨vs, hs, ?_⟩
      have hl := Paired.len hp
      cases xs with
      | nil => cases vs with
        | nil => rfl
        | cons v vs => cases hl
      | cons x xs => cases vs with
        | nil => cases hl
        | cons v vs => rfl
    · cases e : (!xs.isEmpty) with
      | true => exact qa (w1.1 e) H1 s1
      | false => exact qb (w1.2 e) H1 s1⟩
end
end J
/-! A42: generator defs with keyword-only parameters; defs that change what they are given -/
namespace L2
open PySem PySem.Spec PyProof.Rows GenF
section
variable {P : Program} {w : World} {K : PySem.W.Frag} {mg : Str → Option Value} {base : Heap} {x qual : Str} {f : Addr} {fd : FuncData} {st : Stmt} {kws : List (Str × V)}
/-- two keyword-only parameters -/
theorem funD_two {k1 k2 : Str} {v1 v2 : V} {u1 u2 : Value} {D : Addr} {oc : Value} {od an : Option Addr} {osl : Array (Option Value)} {doc pm cdv ct : Value} (l : K.lookup f = some ⟨oc, od, .func (PySem.W.fnOf x qual (defArgs st) (defBody st) (defScope st) .none (.ref D) doc pm an cdv ct), osl⟩)
    (c : PySem.W.codeIn K cdv qual = true) (k : PySem.W.keepIn K (.ref f) = true) (h1 : PySem.W.nsIn K D k1 = some (some u1)) (r1 : RelV v1 u1) (h2 : PySem.W.nsIn K D k2 = some (some u2)) (r2 : RelV v2 u2) : FunD K x qual (defArgs st) (defBody st) (defScope st) [] [(k1, v1), (k2, v2)] f (PySem.W.fnOf x qual (defArgs st) (defBody st) (defScope st) .none (.ref D) doc pm an cdv ct) :=
  ⟨⟨oc, od, .none, .ref D, doc, pm, an, cdv, ct, osl, rfl, l, c, .inl ⟨rfl, rfl⟩, .inr ⟨D, rfl, fun q hq => by
    simp only [List.mem_cons, List.not_mem_nil, or_false] at hq
    rcases hq with e | e
    · rw [e]; exact ⟨u1, h1, r1⟩
    · rw [e]; exact ⟨u2, h2, r2⟩⟩⟩, k⟩
theorem FunD.gok {N ps : List Str} {k : Nat} {sp : SpG2} (F : FunD K x qual (defArgs st) (defBody st) (defScope st) [] kws f fd) (S : GScope N ps (defScope st)) (hloc : ∀ y ∈ (defScope st).names, y.2 ≠ .cell) (len : ∀ γ c vs H Yd Kd, sp γ c vs H Yd Kd → vs.length = ps.length)
    (hbody : ∀ (cdv : Value) (A : Around) (outer : List Env) (L a : Addr) (go : Obj) (vs : List V) (H : Hp) (γ : Type) (c : γ) (Yd : YK γ) (Kd : γ → Hp → Prop), (GP.env ⟨P, w, K, mg, base, N, qual, defScope st, f, cdv, outer, L, a, go⟩).cells = [] → YMono Yd → Room k (A.deeper (GP.env ⟨P, w, K, mg, base, N, qual, defScope st, f, cdv, outer, L, a, go⟩)) → sp γ c vs H Yd Kd →
      ∃ t n, GSs2 ⟨P, w, K, mg, base, N, qual, defScope st, f, cdv, outer, L, a, go⟩ A Yd (defBody st) t ∧ t { nx := fun _ c _ H' => Kd c H', rt := fun _ c v H' => v = .non ∧ Kd c H' } n c (start N vs) H) : GFn2 P w K mg base (k + 1) f fd ps sp := by
  obtain ⟨oc, od, dV, kV, doc, pm, an, cdv, ct, osl, rfl, lk, hcd, _, _⟩ := F.ex
  exact gfn2_of lk hcd S hloc len fun A outer L a go vs H γ c Yd Kd h1 h2 hr h => hbody cdv A outer L a go vs H γ c Yd Kd h1 h2 hr h
/-- f(e, .., k = v, ..) where only keyword-only parameters have defaults -/
theorem FunD.kbinds0 {params : Arguments} {body : List Stmt} {scope : Scope} {ps : List Str} (F : FunD K x qual params body scope [] kws f fd) (n : Nat) (ks : List Str) (ms : List (Str × V)) (g : {α : Type} → List α → List α → List α → List α) (hk : kws ≠ []) (hms : ∀ q ∈ ms, q ∈ kws)
    (hrel : ∀ {vs mz zs : List V} {us mv ws : List Value}, Vals vs us → Vals mz mv → Vals zs ws → Vals (g vs mz zs) (g us mv ws))
    (h : ∀ (D : Addr) (doc pm : Value) (an : Option Addr) (cdv ct : Value) (us mv ws : List Value), us.length = n → mv.length = ms.length → ws.length = ks.length →
      KwChain D ((ms.map (·.1)).zip mv) (bindArgs (PySem.W.fnOf x qual params body scope .none (.ref D) doc pm an cdv ct) ⟨us, ks.zip ws⟩) (ps.zip (g us mv ws))) :
    ∃ mv : List Value, KBn K fd ps n ks (fun us ws => g us mv ws) (fun vs zs => g vs (ms.map (·.2)) zs) := by
  obtain ⟨oc, od, dV, kV, doc, pm, an, cdv, ct, osl, rfl, lk, hcd, hD, hK⟩ := F.ex
  rcases hD with ⟨_, rfl⟩ | ⟨e, _⟩
  · rcases hK with e | ⟨D, rfl, hq⟩
    · exact absurd e hk
    · obtain ⟨mv, hl, rk, hks⟩ := kwd_vals (ms := ms) fun q hm => hq q (hms q hm)
      exact ⟨mv, ⟨fun s us ws X l1 l2 => BindsTo.of_looks fun M => KwChain.looks X hks (h D doc pm an cdv ct us mv ws l1 hl l2), fun r1 r2 => hrel r1 rk r2⟩⟩
  · exact absurd rfl e
end
end L2
namespace GenF
open PySem PySem.Spec L2 PyProof.Rows GenW GenS
section
variable {X : Cx} {pins : List (Addr × Obj)} {k n : Nat} {f : Addr} {fd : FuncData} {ps ks : List Str} {sp : SpG2} {g : List Value → List Value → List Value} {gV : List V → List V → List V} {kws : List Keyword}
theorem run_gfnN {σ : L2.St} {H : Hp} {s : Shared} {us ws : List Value} {vs zs : List V} {γ : Type} {c : γ} {Yd : YK γ} {Kd : γ → Hp → Prop} {E1 : Value → Shared → Prop} (F : GFn2 X.prog X.w X.K X.mg X.base k f fd ps sp) (hr : Room k X.A) (hb : KBn X.K fd ps n ks g gV)
    (I : Inv X pins σ H s) (r : Vals vs us) (rz : Vals zs ws) (l1 : vs.length = n) (l2 : zs.length = ks.length) (hmo : YMono Yd) (h : sp γ c (gV vs zs) H Yd Kd) :
    wpAny (model X.prog X.w) X.A (call (.ref f) us (ks.zip ws)) (fun u s' => ∃ H1, Inv X pins σ H1 s' ∧ MadeG X pins k H1 s' c Yd Kd u) E1 s := by
  refine wpAny_call (codeAny_mono (F.run X.A X.stack s H ⟨us, ks.zip ws⟩ (g us ws) (gV vs zs) γ c Yd Kd hr I.env0 (hb.to s us ws I.kIn (r.length.symm.trans l1) (rz.length.symm.trans l2)) (hb.rel r rz) hmo h) fun r s' hq => ?_)
  cases r with
  | error e => exact False.elim hq
  | ok fl =>
    cases fl with
    | ret u =>
      obtain ⟨G, g, code, e1, e2, e3, e4, e5, e6, nc, eu, eL, ne, lt, go, gen, gd, oL, hg, os, ba, nl, kp, nL, nA, seg⟩ := hq
      refine ⟨H, I.call' (ch := []) os (Un.kept kp) (I.hok.kept kp) ba fun b z => by simp at z, G, g, code, ⟨e1, e2, e3, e4, e5, e6, nc, ?_, fun x c e => ?_, fun p hp => ?_, ?_, ne⟩, ⟨go, gen, gd, oL, nL, nA⟩, eu, hg, seg⟩
      · rw [eL]; exact I.lt
      · rw [eL]
        obtain ⟨v, q⟩ := I.cell x c e
        exact q.lt
      · rw [eL]
        exact Heap.lt_size (I.pin p hp).1
      · rw [eL]; exact I.sz
    | next => exact False.elim hq
    | brk => exact False.elim hq
    | cont => exact False.elim hq
/-- f(e, .., k = v, ..) of a generator def -/
theorem pig_callN {x : Str} {e : Expr} {es : List Expr} {t tk : TA} {p pos' : Pos} (F : GFn2 X.prog X.w X.K X.mg X.base k f fd ps sp) (hr : Room k X.A) (hg : Gl X x) (hm : X.mg x = some (.ref f)) (hk : PySem.W.keepIn X.K (.ref f) = true) (hb : KBn X.K fd ps n ks g gV)
    (ha : PA X (e :: es) t) (hkw : PK X kws tk) (hall : (backToKw pos' (keywordEach kws X.env)).all (·.1.isSome) = true := by rfl) (hks : (backToKw pos' (keywordEach kws X.env)).filterMap (·.1) = ks := by rfl)
    (hdb : (x == ("__debug__" : Str)) = false := by decide) (he : starEach (e :: es) X.env = (false, eval e X.env) :: starEach es X.env := by rfl)
    (hpl : ((backTo pos' (starEach (e :: es) X.env)).any (·.1) || (backToKw pos' (keywordEach kws X.env)).any (·.1.isNone)) = false := by rfl) :
    PIG X k (.Call (.Name x p) (e :: es) kws pos') (fun γ c σ H Yd Kd => t σ H fun vs H1 => tk σ H1 fun zs H2 => vs.length = n ∧ zs.length = ks.length ∧ sp γ c (gV vs zs) H2 Yd Kd) := by
  refine ⟨fun pins s σ H γ c Yd Kd I hmo h => ?_⟩
  refine wpAny_Call_Name_kw (ld_glob I hg hm ?_ hdb)
  refine PySem.W.callWith_KW (h₀ := X.base) I.ok.mod.kin hk hall (thn (ha.run pos' pins s σ H _ I h) fun us s1 ⟨vs, H1, I1, r, q⟩ => ?_) hpl he
  refine thn (hkw.run pos' pins s1 σ H1 _ I1 q) fun ws s2 ⟨zs, H2, I2, rz, l1, l2, q2⟩ => ⟨I2.kIn, ?_⟩
  rw [hks]
  exact run_gfnN F hr hb I2 r rz l1 l2 hmo q2
end
end GenF
namespace J
open PySem PySem.Spec L2 PyProof.Rows ClX RZ GenF
section
variable {X : Cx} {F : Fr} {g : Gm} {θ θ1 θ2 α τ : Type} {Ai : Ty α} {rest body : List Stmt} {nx bk ct : L2.St → Hp → Prop} {rt : VK} {wr : τ → Prop}
/-- the generator's promise is met where its call stands -/
theorem forG_sp {S : τ → Gm} {gT : TG} {tr : Gm → α → Gm} {b : α → τ → (τ → Prop) → Prop} {T : ATy θ} {w : ∀ τ : Type, θ → Unit → Nat → τ → (α → τ → (τ → Prop) → Prop) → (Unit → τ → Prop) → Prop} {s0 : τ} {D : Ends} {σ : L2.St} {H1 : Hp} {t : θ} {vs : List V}
    (ht : TgOk Ai gT tr) (hgm : TgMono gT) (le : Le ⟨nx, rt, bk, ct⟩ D) (k0 : (S s0).Ok F σ H1) (r : T.rel ((S s0).bs F H1) vs t) (p : ∃ n, w τ t () n s0 b (fun _ s => wr s)) :
    spJG (fun _ : Unit => []) T (fun _ _ => []) Ai w L2.St σ vs H1 (yFor gT (tExU fun (q : List Cell × (τ → Prop) × α × τ) => RS F (tr (SH (S q.2.2.2) q.1) q.2.2.1) ⟨phi F (fun s => SH (S s) q.1) q.2.1, rt, fun _ _ => False, phi F (fun s => SH (S s) q.1) q.2.1⟩ (b q.2.2.1 q.2.2.2 q.2.1)) { D with nx := fun σ H => tEx (fun s => RS F (S s) ⟨nx, rt, bk, ct⟩ (wr s)) D σ H })
      (fun σ H => tEx (fun s => RS F (S s) ⟨nx, rt, bk, ct⟩ (wr s)) D σ H) := by
  obtain ⟨n, p⟩ := p
  have k1 : (SH (S s0) []).Ok F σ H1 := by
    show (⟨(S s0).s, (S s0).c ++ []⟩ : Gm).Ok F σ H1
    rw [List.append_nil]
    exact k0
  have sb : Same ((S s0).bs F H1) ((⟨[], []⟩ : Gm).bs (FgOf k1) H1) := fun a o z => by
    refine bsA_ofB (by simp) ?_
    show (⟨(S s0).s, (S s0).c ++ []⟩ : Gm).bs F H1 a = some o
    rw [List.append_nil]
    exact z
  have core := forG_core (F := F) (S := S) (b := b) ht (D := { D with nx := fun σ H => tEx (fun s => RS F (S s) ⟨nx, rt, bk, ct⟩ (wr s)) D σ H })
  have kE : (⟨[], []⟩ : Gm).Ok (FgOf k1) [] H1 := ⟨fun a o h => rmL_le (as := adH []) a o h, .nil, List.nodup_nil, fun d hd => (nomatch hd)⟩
  refine ⟨t, (), (), vs, FgOf k1, τ, s0, fun (c : L2.St) (s : τ) (F' : Fr) => ∃ (hs : List Cell) (H7 : Hp) (k7 : (SH (S s) hs).Ok F c H7), F' = FgOf k7, b, fun _ s => wr s, n, (List.nil_append _).symm, kE, T.same sb r, ⟨[], H1, k1, rfl⟩, ⟨fun g Fg σ H x a c s P K hf kg ra hY hK => ?_⟩, ⟨fun g Fg σ H c s z hf kg _ hk => ?_⟩, p⟩
  · have q := core.to g Fg σ H x a c s P K hf kg ra hY hK
    refine hgm x c H _ _ (fun σ2 H2 ⟨q, l2, k2, w2⟩ => ⟨q, ⟨l2.nx, fun v H z => le.rt v H z, l2.bk, l2.ct⟩, k2, w2⟩) q
  · obtain ⟨hs, H7, k7, rfl⟩ := hf
    obtain ⟨ok2, _⟩ := turn_ok k7 kg
    exact ⟨s, le, (sub_front (S s) _).ok ok2, hk⟩
/-- for x in f(e, .., k = v): f a generator def with keyword-only parameters -/
theorem js_forGN {S : τ → Gm} {gT : TG} {tr : Gm → α → Gm} {b : α → τ → (τ → Prop) → Prop} {k n : Nat} {f : Addr} {fd : FuncData} {ps ks : List Str} {T : ATy θ} {T1 : ATy θ1} {T2 : ATy θ2} {ext : θ1 → θ2 → θ} {gV : List V → List V → List V} {w : ∀ τ : Type, θ → Unit → Nat → τ → (α → τ → (τ → Prop) → Prop) → (Unit → τ → Prop) → Prop} {wa : (θ1 → Prop) → Prop} {wk : (θ2 → Prop) → Prop} {x : Str} {e tg : Expr} {es : List Expr} {kws : List Keyword} {p pos pos' : Pos} {s0 : τ}
    (Fn : GFn2 X.prog X.w X.K X.mg X.base k f fd ps (spJG (fun _ : Unit => []) T (fun _ _ => []) Ai w)) (hr : Room (k + 1) X.A) (hg : Gl X x) (hm : X.mg x = some (.ref f)) (hk : PySem.W.keepIn X.K (.ref f) = true) (hb : ∃ g, KBn X.K fd ps n ks g gV) (hT : ∀ H vs zs t1 t2, T1.rel H vs t1 → T2.rel H zs t2 → vs.length = n ∧ zs.length = ks.length ∧ T.rel H (gV vs zs) (ext t1 t2))
    (ha : JA X F g (e :: es) T1 wa) (hkw : PK X kws (RA F g T2 wk))
    (hS : Sub g (S s0)) (hgt : PG X tg gT) (ht : TgOk Ai gT tr) (hgm : TgMono gT)
    (hbd : ∀ hs (N : τ → Prop) a s, JSs X F (tr (SH (S s) hs) a) body ⟨phi F (fun s => SH (S s) hs) N, rt, fun _ _ => False, phi F (fun s => SH (S s) hs) N⟩ (b a s N)) (hr2 : ∀ s, JSs X F (S s) rest ⟨nx, rt, bk, ct⟩ (wr s))
    (hpo : PassesOwn (model X.prog X.w) X.A X.env X.xe) (hxe : XeSim X) (hall : (backToKw pos' (keywordEach kws X.env)).all (·.1.isSome) = true := by rfl) (hks : (backToKw pos' (keywordEach kws X.env)).filterMap (·.1) = ks := by rfl)
    (hdb : (x == ("__debug__" : Str)) = false := by decide) (he : starEach (e :: es) X.env = (false, eval e X.env) :: starEach es X.env := by rfl) (hpl : ((backTo pos' (starEach (e :: es) X.env)).any (·.1) || (backToKw pos' (keywordEach kws X.env)).any (·.1.isNone)) = false := by rfl)
    (hfs : ∀ y, foldedSetIterable (.Call (.Name x p) (e :: es) kws pos') X.env y = pure y := by intro _; rfl) :
    JSs X F g (.For tg (.Call (.Name x p) (e :: es) kws pos') body [] pos :: rest) ⟨nx, rt, bk, ct⟩ (wa fun t1 => wk fun t2 => ∃ n, w τ (ext t1 t2) () n s0 b (fun _ s => wr s)) := by
  obtain ⟨gg, hb⟩ := hb
  refine pssW (pss_cons (ps_forG (tb := tExU fun (q : List Cell × (τ → Prop) × α × τ) => RS F (tr (SH (S q.2.2.2) q.1) q.2.2.1) ⟨phi F (fun s => SH (S s) q.1) q.2.1, rt, fun _ _ => False, phi F (fun s => SH (S s) q.1) q.2.1⟩ (b q.2.2.1 q.2.2.2 q.2.1))
    hpo hxe hr.hd hr (pig_callN Fn (hr.mono (Nat.le_succ _)) hg hm hk hb ha hkw hall hks hdb he hpl) hgt (pssEU fun q => hbd q.1 q.2.1 q.2.2.1 q.2.2.2) (fun D => yFor_mono hgm rt D) hfs) (pssE hr2)) fun D σ H ⟨le, k0, hw⟩ => ?_
  refine ⟨k0, _, hw, fun t1 vs H1 p1 s1 r1 => ⟨k0.step s1, _, p1, fun t2 zs H2 p2 s2 r2 => ?_⟩⟩
  obtain ⟨l1, l2, rT⟩ := hT _ vs zs t1 t2 (T1.same (Gm.mono s2) r1) r2
  exact ⟨l1, l2, forG_sp ht hgm le (hS.ok (k0.step (s1.trans s2))) (T.same hS.bs rT) p2⟩
end
end J
/-! A43: expressions that change what is owned; defs that change what they are given -/
namespace J
open PySem PySem.Spec L2 PyProof.Rows ClX RZ
/-- a thing at a known place -/
def tAt (p : Addr) : Ty Unit := ⟨fun _ v _ => v = .ref p, fun _ h => h⟩
section
variable {θ ι κ ρ : Type}
/-- what a def promises that is given owned things, and may change them -/
def spJM (me : ι → List V → List V) (T : ATy θ) (E : ι → κ → List Cell) (R : Ty ρ) (w : θ → κ → (ρ → κ → Prop) → Prop) : Sp := fun vs H Q _ =>
  ∃ (t : θ) (i : ι) (z : κ) (us : List V) (F : Fr) (P : ρ → κ → Prop), vs = me i us ∧ (⟨[], E i z⟩ : Gm).Ok F [] H ∧ T.rel ((⟨[], E i z⟩ : Gm).bs F H) us t ∧ w t z P ∧
    ∀ r z' v H', P r z' → (⟨[], E i z'⟩ : Gm).Ok F [] H' → R.rel ((⟨[], E i z'⟩ : Gm).bs F H') v r → Q v H'
end
section
variable {ρ ζ : Type}
def RJM (F : Fr) (g : Gm) (A : Ty ρ) (S : ζ → Gm) (w : (ρ → ζ → Prop) → Prop) : TE := fun σ H Q => g.Ok F σ H ∧ ∃ P, w P ∧ ∀ a z v H', P a z → (S z).Ok F σ H' → Same (g.bs F H) ((S z).bs F H') → A.rel ((S z).bs F H') v a → Q v H'
def RTM (F : Fr) (g : Gm) (S : ζ → Gm) (w : (ζ → Prop) → (ζ → Prop) → Prop) : TT := fun σ H Q => g.Ok F σ H ∧ ∃ A B, w A B ∧ (∀ z, A z → ∀ H', (S z).Ok F σ H' → Q true H') ∧ (∀ z, B z → ∀ H', (S z).Ok F σ H' → Q false H')
abbrev JEM (X : Cx) (F : Fr) (g : Gm) (e : Expr) (A : Ty ρ) (S : ζ → Gm) (w : (ρ → ζ → Prop) → Prop) : Prop := PE X e (RJM F g A S w)
abbrev JTM (X : Cx) (F : Fr) (g : Gm) (e : Expr) (S : ζ → Gm) (w : (ζ → Prop) → (ζ → Prop) → Prop) : Prop := PT X e (RTM F g S w)
abbrev JWM (X : Cx) (F : Fr) (g : Gm) (e : Expr) (S : ζ → Gm) (w : (ζ → Prop) → (ζ → Prop) → Prop) : Prop := PW X e (RTM F g S w)
end
section
variable {F : Fr} {g0 : Gm} {hs es es' : List Cell} {σ : L2.St} {H H' : Hp}
theorem hide_nil (es : List Cell) : hide ⟨[], es⟩ [] = es := rfl
theorem drop_ok {g : Gm} (k : g.Ok F σ H) (h : es.Sublist g.c) : (⟨[], es⟩ : Gm).Ok F [] H ∧ Same (g.bs F H) ((⟨[], es⟩ : Gm).bs F H) := by
  have sb : Same (g.bs F H) ((⟨[], es⟩ : Gm).bs F H) := bsA_sub fun _ m => (List.Sublist.filterMap _ h).subset m
  exact ⟨⟨k.same, .nil, List.Nodup.sublist (List.Sublist.filterMap _ h) k.nd, fun c hc => Cell.ok_same sb (fun _ _ z => z) (k.cells c (h.subset hc))⟩, sb⟩
/-- what is owned is handed over -/
theorem lend_ok (k : (SH g0 es).Ok F σ H) : (⟨[], es⟩ : Gm).Ok (FgOf k) [] H ∧ Same ((SH g0 es).bs F H) ((⟨[], es⟩ : Gm).bs (FgOf k) H) := by
  have nd : (⟨[], es⟩ : Gm).ad.Nodup := List.Nodup.sublist (List.Sublist.filterMap _ (List.sublist_append_right _ _)) k.nd
  refine ⟨wake_ok (Fo := F) (g := ⟨[], es⟩) (σ := []) (B0 := H) .nil nd k, fun a o e => ?_⟩
  have n := (bsA_nil e).1
  rw [SH.ad] at n
  exact bsA_ofB (fun z => n (List.mem_append_right _ z)) e
/-- and comes back -/
theorem back_ok (k : (SH g0 es).Ok F σ H) (kg : (⟨[], es'⟩ : Gm).Ok (FgOf k) [] H') : (SH g0 es').Ok F σ H' ∧ Same ((SH g0 es).bs F H) ((SH g0 es').bs F H') ∧ Same ((⟨[], es'⟩ : Gm).bs (FgOf k) H') ((SH g0 es').bs F H') := by
  obtain ⟨a, b⟩ := turn_ok k kg
  refine ⟨a, fun p o e => b p o (bsA_ofB (fun z => ?_) e), b⟩
  have n1 := (kg.ad_some z).1
  have n2 := (FgOf k).le p o e
  rw [n1] at n2
  cases n2
end
section
variable {X : Cx} {F : Fr} {g g0 : Gm} {θ θ' ι κ ρ ζ α : Type} {rest : List Stmt} {pos : Pos} {nx bk ct : L2.St → Hp → Prop} {rt : VK}
/-- f(e, ..), f changes what it is given -/
theorem je_callMut {E : ι → κ → List Cell} {i : ι} {z : κ} {me : ι → List V → List V} {f : Addr} {fd : FuncData} {ps : List Str} {T : ATy θ} {T' : ATy θ'} {ext : θ' → θ} {R : Ty ρ} {w : θ → κ → (ρ → κ → Prop) → Prop} {n : Nat} {x : Str} {e : Expr} {es : List Expr} {p pos : Pos} {wa : (θ' → Prop) → Prop}
    (Fn : FnOk X.prog X.w X.K X.mg X.base CX0 n f fd ps (spJM me T E R w)) (hr : Room n X.A) (hg : Gl X x) (hm : X.mg x = some (.ref f)) (hk : PySem.W.keepIn X.K (.ref f) = true) (hb : Binds X.K fd ps []) (hT : ∀ H vs t, T'.rel H vs t → ∃ us, vs = me i us ∧ T.rel H us (ext t))
    (ha : JA X F (SH g0 (E i z)) (e :: es) T' wa) (hdb : (x == ("__debug__" : Str)) = false := by decide) (he : starEach (e :: es) X.env = (false, eval e X.env) :: starEach es X.env := by rfl) (hpl : (backTo pos (starEach es X.env)).any (·.1) = false := by rfl) :
    JEM X F (SH g0 (E i z)) (.Call (.Name x p) (e :: es) [] pos) R (fun z' => SH g0 (E i z')) (fun k => wa fun t => w (ext t) z k) :=
  peW (pe_call Fn hr hg hm hk hb .nil pass0 ha hdb he hpl) fun σ H Q ⟨k, P, w, q⟩ => ⟨k, _, w, fun t vs H1 w1 s1 r1 => by
    have k1 := k.step s1
    obtain ⟨us, e1, r2⟩ := hT _ _ _ r1
    obtain ⟨kE, sE⟩ := lend_ok k1
    refine ⟨ext t, i, z, us, FgOf k1, P, by rw [List.append_nil]; exact e1, kE, T.same sE r2, w1, fun r z' v H' p kg rr => ?_⟩
    obtain ⟨b1, b2, b3⟩ := back_ok k1 kg
    exact q r z' v H' p b1 (fun a o e => b2 a o (Gm.mono s1 a o e)) (R.same b3 rr)⟩
theorem jtm_val {S : ζ → Gm} {e : Expr} {w : (Bool → ζ → Prop) → Prop} (h : JEM X F g e tB S w) (he : ∀ whole, isTrue e X.env whole = (do let v ← whole; standAt e.pos; holding [v] (truthy v)) := by intro _; rfl) :
    JTM X F g e S (fun A B => w fun c z => (c = true → A z) ∧ (c = false → B z)) :=
  ptW (pt_val h he) fun σ H Q ⟨k, A, B, w, qa, qb⟩ => ⟨k, _, w, fun c z v H1 w1 k1 s1 r1 => ⟨c, r1, by
    cases c with
    | true => exact qa z (w1.1 rfl) H1 k1
    | false => exact qb z (w1.2 rfl) H1 k1⟩⟩
theorem jtm_not {S : ζ → Gm} {a : Expr} {pos : Pos} {w : (ζ → Prop) → (ζ → Prop) → Prop} (h : JTM X F g a S w) : JTM X F g (.UnaryOp .Not a pos) S (fun A B => w B A) :=
  ptW (pt_not h) fun σ H Q ⟨k, A, B, w, qa, qb⟩ => ⟨k, B, A, w, qb, qa⟩
theorem jwm_oneO {S : ζ → Gm} {a : Expr} {pos : Pos} {w : (ζ → Prop) → (ζ → Prop) → Prop} (h : JTM X F g a S w) : JWM X F g (.BoolOp .Or [a] pos) S w := pw_or1 h
theorem jwm_or {S : ζ → Gm} {z0 : ζ} {a b : Expr} {rest : List Expr} {pos : Pos} {w : Prop → Prop → Prop} {u : (ζ → Prop) → (ζ → Prop) → Prop} (hS : Sub g (S z0)) (h : JT X F g a w) (h2 : JWM X F g (.BoolOp .Or (b :: rest) pos) S u) : JWM X F g (.BoolOp .Or (a :: b :: rest) pos) S (fun A B => w (A z0) (u A B)) :=
  pwW (pw_or h h2) fun σ H Q ⟨k, A, B, w, qa, qb⟩ => ⟨k, _, _, w, fun x H1 s1 => by
      show Q true H1
      exact qa z0 x H1 (hS.ok (k.step s1)), fun x H1 s1 => by
      show RTM F g S u σ H1 Q
      exact ⟨k.step s1, A, B, x, qa, qb⟩⟩
theorem jtm_w {S : ζ → Gm} {e : Expr} {w : (ζ → Prop) → (ζ → Prop) → Prop} (h : JWM X F g e S w) : JTM X F g e S w := PW.pt h
/-- if, whose body leaves -/
theorem js_ifXM {S : ζ → Gm} {c : Expr} {a : List Stmt} {wc : (ζ → Prop) → (ζ → Prop) → Prop} {wa wr : ζ → Prop} (hc : JTM X F g c S wc) (ha : ∀ z, JSs X F (S z) a ⟨fun _ _ => False, rt, bk, ct⟩ (wa z)) (hr : ∀ z, JSs X F (S z) rest ⟨nx, rt, bk, ct⟩ (wr z)) : JSs X F g (.If c a [] pos :: rest) ⟨nx, rt, bk, ct⟩ (wc wa wr) :=
  pssW (pss_cons (ps_if hc (pssE ha) pss_nil) (pssE hr)) fun D' σ H ⟨e, o, q⟩ => ⟨o, _, _, q, fun z x H' k => by
      show tEx (fun z => RS F (S z) _ (wa z)) _ σ H'
      exact ⟨z, ⟨fun _ _ z => z.elim, e.rt, e.bk, e.ct⟩, k, x⟩, fun z x H' k => by
      show tEx (fun z => RS F (S z) _ (wr z)) _ σ H'
      exact ⟨z, e, k, x⟩⟩
/-- return e, what is owned goes back as it stands -/
theorem js_retM {E : ι → κ → List Cell} {i : ι} {R : Ty ρ} {P : ρ → κ → Prop} {e : Expr} {w : (ρ → Prop) → Prop} (hrt : ∀ r z' v H', P r z' → (⟨[], E i z'⟩ : Gm).Ok F [] H' → R.rel ((⟨[], E i z'⟩ : Gm).bs F H') v r → rt v H') (z : κ) (hS : (E i z).Sublist g.c) (he : JE X F g e (rO R) w) :
    JSs X F g (.Return (some e) pos :: rest) ⟨nx, rt, bk, ct⟩ (w fun r => P r z) :=
  pssW (pss_cons (ps_ret he) pss_never) fun D σ H ⟨e, o, q⟩ => ⟨o, _, q, fun a v H' p s r => by
    obtain ⟨k1, sb⟩ := drop_ok (o.step s) hS
    exact e.rt _ _ (hrt a z v H' p k1 (R.same sb r))⟩
/-- x = e, e changes what is owned -/
theorem js_asgM {S : ζ → Gm} {i : Nat} {A : Ty α} {x : Str} {px : Pos} {e : Expr} {we : (α → ζ → Prop) → Prop} {wr : α → ζ → Prop} {D : Ends} (he : JEM X F g e A S we) (hr : ∀ a z, JSs X F ((S z).set i (.val A a)) rest D (wr a z)) (hN : X.N.Nodup)
    (hi : X.N[i]? = some x := by rfl) (hx : Loc X.env.scope x := by first | exact Or.inl rfl | exact Or.inr rfl) (hs : swapsWith e (some (.Name x px)) pos.line X.env = pure false := by rfl) (hf : X.fn x = true ∨ X.env.scope.names.lookup x = some .local := by first | exact .inl rfl | exact .inr rfl) :
    JSs X F g (.Assign [.Name x px] e pos :: rest) D (we fun a z => wLet a fun a => wr a z) :=
  pssW (pss_cons (ps_set hN hi hx he hs hf) (pssE (t := fun q : α × ζ => RS F ((S q.2).set i (.val A q.1)) D (wr q.1 q.2)) fun q => hr q.1 q.2)) fun D' σ H ⟨e, o, q⟩ => ⟨o, _, q, fun a z v H1 p k s r => ⟨(a, z), e, k.set ⟨v, rfl, r⟩, p⟩⟩
/-- e alone -/
theorem js_exprM {S : ζ → Gm} {A : Ty α} {e : Expr} {we : (α → ζ → Prop) → Prop} {wr : ζ → Prop} {D : Ends} (he : JEM X F g e A S we) (hr : ∀ z, JSs X F (S z) rest D (wr z)) (hs : swapsWith e none pos.line X.env = pure false := by rfl) : JSs X F g (.Expr e pos :: rest) D (we fun _ z => wr z) :=
  pssW (pss_cons (ps_expr he hs) (pssE hr)) fun D' σ H ⟨e, o, q⟩ => ⟨o, _, q, fun a z v H1 p k s r => ⟨z, e, k, p⟩⟩
/-- a name of what is owned, handed over -/
theorem je_at {i : Nat} {p : Addr} {x : Str} (hs : g.s[i]? = some (.at p)) (hN : X.N[i]? = some x := by rfl) (hv : Vis X.env.scope x := by first | exact Or.inl rfl | exact Or.inr (Or.inl rfl) | exact Or.inr (Or.inr rfl))
    (hd : (x == ("__debug__" : Str)) = false := by decide) (hcd : (x == ("__classdict__" : Str)) = false := by decide) : JE X F g (.Name x pos) (rO (tAt p)) (fun k => k ()) :=
  peW (pe_var hN hv hd hcd) fun σ H Q ⟨k, P, w, q⟩ => ⟨.ref p, k.ref hs, q () (.ref p) H w (Same.refl H) rfl⟩
theorem pkW {kws : List Keyword} {t t' : TA} (h : PK X kws t) (k : ∀ σ H Q, t' σ H Q → t σ H Q) : PK X kws t' := ⟨fun pos p s σ H Q I q => h.run pos p s σ H Q I (k _ _ _ q)⟩
theorem jk_nil : PK X [] (RA F g aN (fun k => k ())) := pkW pk_nil fun σ H Q ⟨k, P, w, q⟩ => q () [] H w (Same.refl H) rfl
theorem jk_cons {τ : Type} {A : Ty α} {T : ATy τ} {e : Expr} {kws : List Keyword} {nm : Option Str} {kpos : Pos} {wa : (α → Prop) → Prop} {wr : (τ → Prop) → Prop} (ha : JE X F g e (rO A) wa) (hr : PK X kws (RA F g T wr)) : PK X (⟨nm, e, kpos⟩ :: kws) (RA F g (aC A T) (fun k => wa fun x => wr fun t => k (x, t))) :=
  pkW (pk_cons ha hr) fun σ H Q ⟨k, P, w, q⟩ => ⟨k, _, w, fun x v H1 w1 s1 r1 => ⟨k.step s1, _, w1, fun t vs H2 w2 s2 r2 => q (x, t) (v :: vs) H2 w2 (s1.trans s2) ⟨v, vs, rfl, A.same (Gm.mono s2) r1, r2⟩⟩⟩
end
end J
/-! A44: sorted of a list of pairs of a number and a tuple of numbers -/
namespace J
open PySem PyProof.Rows
theorem lexJ_eq : ∀ xs ys : List Int, lexJ xs ys = HT.lexLt xs ys
  | [], [] => rfl
  | [], _ :: _ => rfl
  | _ :: _, [] => rfl
  | x :: xs, y :: ys => by
    show (if x = y then lexJ xs ys else decide (x < y)) = if x = y then HT.lexLt xs ys else decide (x < y)
    rw [lexJ_eq xs ys]
theorem lexJ_refl (xs : List Int) : lexJ xs xs = false := by
  induction xs with
  | nil => rfl
  | cons x xs ih =>
    show (if x = x then lexJ xs xs else decide (x < x)) = false
    rw [if_pos rfl, ih]
theorem swo_ltJ (k : Value → Int × List Int) : SrtO.Swo fun v u => ltJ (k v) (k u) := by
  refine ⟨fun x y h => ?_, fun x y z h1 h2 => ?_⟩
  · unfold ltJ at h ⊢
    by_cases e : (k x).1 = (k y).1
    · rw [if_pos e] at h
      rw [if_pos e.symm]
      rw [lexJ_eq] at h ⊢
      exact NtL.lex_asym _ _ h
    · rw [if_neg e] at h
      rw [if_neg (Ne.symm e)]
      have := of_decide_eq_true h
      exact decide_eq_false (by omega)
  · unfold ltJ at h1 h2 ⊢
    by_cases e1 : (k y).1 = (k x).1
    · rw [if_pos e1] at h1
      by_cases e2 : (k z).1 = (k y).1
      · rw [if_pos e2] at h2
        rw [if_pos (e2.trans e1)]
        rw [lexJ_eq] at h1 h2 ⊢
        exact NtL.lex_tr _ _ _ h1 h2
      · rw [if_neg e2] at h2
        have b := of_decide_eq_false h2
        rw [if_neg (fun q => e2 (q.trans e1.symm))]
        exact decide_eq_false (by omega)
    · rw [if_neg e1] at h1
      have a := of_decide_eq_false h1
      by_cases e2 : (k z).1 = (k y).1
      · rw [if_neg (fun q => e1 (e2.symm.trans q))]
        exact decide_eq_false (by omega)
      · rw [if_neg e2] at h2
        have b := of_decide_eq_false h2
        by_cases e3 : (k z).1 = (k x).1
        · omega
        · rw [if_neg e3]
          exact decide_eq_false (by omega)
/-- at v: a pair of a number and a tuple of numbers -/
def IsIT (h : Heap) (v : Value) (p : Int × List Int) : Prop := ∃ a o t b n its, v = .ref a ∧ h.get? a = some o ∧ o.cls = .type "tuple" ∧ o.data = .seq #[.int p.1 t, .ref b] n ∧ IsTup h b its ∧ IntsAre its.toList p.2
theorem IsIT.keeps {h h' : Heap} {v : Value} {p : Int × List Int} (x : IsIT h v p) (k : ∀ b o, h.get? b = some o → o.cls = .type "tuple" → h'.get? b = some o) : IsIT h' v p := by
  obtain ⟨a, o, t, b, n, its, e, ho, hc, hd, ⟨o2, h2, c2, d2⟩, hi⟩ := x
  exact ⟨a, o, t, b, n, its, e, k _ _ ho hc, hc, hd, ⟨o2, k _ _ h2 c2, c2, d2⟩, hi⟩
def nums (ns : List Int) : List NestedKey := ns.map .num
theorem nums_inj {ns ms : List Int} (h : nums ns = nums ms) : ns = ms := by
  induction ns generalizing ms with
  | nil => cases ms with
    | nil => rfl
    | cons m ms => cases h
  | cons n ns ih => cases ms with
    | nil => cases h
    | cons m ms =>
      injection h with h1 h2
      injection h1 with h1
      rw [h1, ih h2]
theorem nums_all {h : Heap} : ∀ {vs : List Value} {ns : List Int}, IntsAre vs ns → NestedAll h (nums ns) vs
  | _, _, .nil => .nil
  | _, _, .cons n t r => .cons (.int n t) (nums_all r)
theorem nums_depth (ns : List Int) : NestedKey.depthAll (nums ns) = 0 := by
  induction ns with
  | nil => rfl
  | cons n ns ih =>
    show max (NestedKey.depth (.num n)) (NestedKey.depthAll (nums ns)) = 0
    rw [ih]
    rfl
theorem tup_eq {A : Around} {s : Shared} {a b : Addr} {i j : Array Value} {ns ms : List Int} (ha : IsTup s.heap a i) (hb : IsTup s.heap b j) (hi : IntsAre i.toList ns) (hj : IntsAre j.toList ms) (hu : A.units + 1 < cLine) : SeqAt.EqAt A s (.ref a) (.ref b) (decide (ns = ms)) := by
  obtain ⟨o, ho, hc, n, hd⟩ := ha
  obtain ⟨o2, ho2, hc2, n2, hd2⟩ := hb
  have q := PySem.eqAt_key (.tup (nums ns)) (.tup (nums ms)) A s (.ref a) (.ref b) (.tup ho hc hd (nums_all hi)) (.tup ho2 hc2 hd2 (nums_all hj)) (by
    show A.units + min (NestedKey.depthAll (nums ns) + 1) (NestedKey.depthAll (nums ms) + 1) < cLine
    rw [nums_depth, nums_depth]
    exact hu)
  have e : NestedKey.beq (.tup (nums ns)) (.tup (nums ms)) = decide (ns = ms) := by
    rw [← NestedKey.decide_eq]
    by_cases z : ns = ms
    · rw [z, decide_eq_true rfl, decide_eq_true rfl]
    · rw [decide_eq_false z, decide_eq_false fun h => z (nums_inj (by injection h))]
  rw [e] at q
  exact q
section
variable {prog : Program} {w : World} {A : Around} {E : Value → Shared → Prop} {s : Shared}
theorem it_cmp {vs : List Value} {k : Value → Int × List Int} (hu : A.units + 1 < cLine) (hp : ∀ v ∈ vs, IsIT s.heap v (k v)) : SrtO.Cmp prog w A s (tuples' true) (fun p => p.1 ∈ vs) (SrtO.lt2 fun v u => ltJ (k v) (k u)) := by
  intro p q hm hm'
  have h1 := hp _ hm
  have h2 := hp _ hm'
  show wpAny (model prog w) A (keyLt' (tuples' true) p.1 q.1) (fun r s' => s' = s ∧ r = ltJ (k p.1) (k q.1)) (fun _ _ => False) s
  unfold ltJ
  generalize (k p.1) = x at h1 ⊢
  generalize (k q.1) = y at h2 ⊢
  obtain ⟨a, o, t, b, n, i, e, ho, hc, hd, tb, ib⟩ := h1
  obtain ⟨a', o', t', b', n', i', e', ho', hc', hd', tb', ib'⟩ := h2
  rw [e, e']
  refine PySem.W.kat_lt ho hd ho' hd' ?_
  show PySem.W.KatLex prog w A true (decide (2 < 2)) _ [(.int x.1 t, .int y.1 t'), (.ref b, .ref b')] 0 s
  refine PySem.W.kat_cons (SeqAt.EqAt.int_int x.1 t y.1 t' prog w _ _ ?_)
  refine PySem.W.kat_go (fun e1 => ?_) (fun e1 => ?_)
  · have ex : x.1 = y.1 := by simpa using e1
    refine PySem.W.kat_yes (PySem.W.kat_cons (tup_eq tb tb' ib ib' hu prog w _ _ ?_))
    refine PySem.W.kat_go (fun e2 => ?_) (fun e2 => ?_)
    · have ey : x.2 = y.2 := of_decide_eq_true e2
      have e3 : (if x.1 = y.1 then lexJ x.2 y.2 else decide (x.1 < y.1)) = false := by
        rw [if_pos ex, ey]
        exact lexJ_refl _
      exact PySem.W.kat_yes (PySem.W.kat_nil ⟨rfl, e3.symm⟩)
    · have e3 : (if x.1 = y.1 then lexJ x.2 y.2 else decide (x.1 < y.1)) = HT.lexLt x.2 y.2 := by rw [if_pos ex, lexJ_eq]
      refine PySem.W.kat_no (PySem.W.kat_one _ _ (HT.lt_tupInts tb tb' ib ib' (by omega) ?_))
      exact (show s = s ∧ HT.lexLt x.2 y.2 = (if x.1 = y.1 then lexJ x.2 y.2 else decide (x.1 < y.1)) from ⟨rfl, e3.symm⟩)
  · have ex : ¬ x.1 = y.1 := by simpa using e1
    have e3 : (if x.1 = y.1 then lexJ x.2 y.2 else decide (x.1 < y.1)) = decide (x.1 < y.1) := if_neg ex
    exact PySem.W.kat_no (oneLt_int ⟨rfl, e3.symm⟩)
theorem it_firsts {h : Heap} : ∀ {vs : List Value}, (∀ v ∈ vs, ∃ p, IsIT h v p) → ∃ fs : List Value, PySem.W.KatTups h vs fs ∧ fs.length = vs.length ∧ ∀ f ∈ fs, ∃ x t, f = Value.int x t
  | [], _ => ⟨[], .nil, rfl, fun f hf => (nomatch hf)⟩
  | v :: vs, hv => by
    obtain ⟨p, a, o, t, b, n, i, e, ho, hc, hd, _⟩ := hv v List.mem_cons_self
    obtain ⟨fs, h1, h2, h3⟩ := it_firsts fun u hu => hv u (List.mem_cons_of_mem _ hu)
    subst e
    refine ⟨.int p.1 t :: fs, .cons ho hc hd rfl h1, by rw [List.length_cons, List.length_cons, h2], fun f hf => ?_⟩
    rcases List.mem_cons.mp hf with e | hf
    · exact ⟨_, _, e⟩
    · exact h3 f hf
theorem it_sortable {a : Addr} {vs : List Value} {k : Value → Int × List Int} (hu : A.units + 1 < cLine) (h0 : 0 < vs.length) (hp : ∀ v ∈ vs, IsIT s.heap v (k v)) (ha : ∀ o, s.heap.get? a = some o → o.cls ≠ .type "tuple") : SrtO.SortableO prog w A s a vs fun v u => ltJ (k v) (k u) := by
  intro h' keep
  have hp' : ∀ v ∈ vs, IsIT h' v (k v) := fun v hm => (hp v hm).keeps fun b o e c => keep b o (fun z => by subst z; exact ha o e c) e
  obtain ⟨fs, h1, h2, h3⟩ := it_firsts fun v hm => ⟨_, hp' v hm⟩
  refine ⟨tuples' true, fun Q E hq => ?_, it_cmp hu hp'⟩
  refine PySem.W.kat_kind (T := .type "int") h1 (by omega) (fun f hm => ?_) (by rfl) ?_
  · obtain ⟨x, t, rfl⟩ := h3 f hm
    exact PySem.W.Looks.now
  · have e : (Value.type "int" != Value.type "tuple") = true := by first | decide +kernel | rfl | decide
    rw [e]
    exact hq
end
end J
namespace L2
open PySem PySem.Spec PyProof.Rows J
/-- sorted(xs), pairs of a number and a tuple of numbers: zs the items, each with what it holds -/
def rSortIT (K : PySem.W.Frag) : List V → Hp → VK → Prop := fun vs H Q => ∃ (a : Addr) (xs : List (V × (Int × List Int))), vs = [V.ref a] ∧ SqL K H a (xs.map (·.1)) ∧
  (∀ x ∈ xs, ∃ t b, x.1 = .ref t ∧ SqT K H t [.int x.2.1, .ref b] ∧ SqT K H b (x.2.2.map V.int)) ∧
  ∀ (zs : List (V × (Int × List Int))) (p : Addr), zs.Perm xs → (zs.map (·.2)).Pairwise (fun p q => ltJ q p = false) → H p = none → Q (.ref p) (upd H p (.lst (zs.map (·.1))))
section
variable {X : Cx}
open Classical in
noncomputable def itOf (h : Heap) (v : Value) : Int × List Int := if x : ∃ p, IsIT h v p then x.choose else (0, [])
theorem itOf_is {h : Heap} {v : Value} {p : Int × List Int} (x : IsIT h v p) : itOf h v = p := by
  have y : ∃ p, IsIT h v p := ⟨p, x⟩
  unfold itOf
  rw [dif_pos y]
  have z := y.choose_spec
  generalize y.choose = q at z ⊢
  obtain ⟨a, o, t, b, n, i, e, ho, hc, hd, ⟨o2, g2, c2, n2, d2⟩, ib⟩ := x
  obtain ⟨a', o', t', b', n', i', e', ho', hc', hd', ⟨o3, g3, c3, n3, d3⟩, ib'⟩ := z
  rw [e] at e'
  cases e'
  rw [ho] at ho'
  cases ho'
  rw [hd] at hd'
  injection hd' with q1 _
  have q2 := congrArg Array.toList q1
  simp only [List.cons.injEq, Value.int.injEq, Value.ref.injEq, and_true] at q2
  obtain ⟨⟨q3, _⟩, q4⟩ := q2
  subst q4
  rw [g2] at g3
  cases g3
  rw [d2] at d3
  injection d3 with q5 _
  subst q5
  have q6 : p.2 = q.2 := (SrtO.iv_ints ib).symm.trans (SrtO.iv_ints ib')
  exact Prod.ext q3.symm q6.symm
theorem cr_sortedITup (hu : X.A.units + 64 < cLine) : CallR X (.builtin "sorted") (rSortIT X.K) := by
  intro pins s σ H vs us Q I r h
  obtain ⟨a, xs, rfl, hs, hx, q⟩ := h
  obtain ⟨its, rv, hl, hz⟩ := I.list hs
  rw [Vals.ref1 r]
  obtain ⟨e1, e2⟩ := refs_back rv fun x m => by
    obtain ⟨y, hy, rfl⟩ := List.mem_map.mp m
    obtain ⟨t, b, e, _⟩ := hx y hy
    exact ⟨t, e⟩
  -- each item, seen in the heap
  have at' : ∀ x ∈ xs, ∃ v, v ∈ its ∧ x.1 = backV v ∧ IsIT s.heap v x.2 := fun x hm => by
    have hm' : x.1 ∈ xs.map (·.1) := List.mem_map.mpr ⟨x, hm, rfl⟩
    rw [e1] at hm'
    obtain ⟨v, hv, ev⟩ := List.mem_map.mp hm'
    obtain ⟨u, eu⟩ := e2 v hv
    obtain ⟨t, b, ex, h1, h2⟩ := hx x hm
    subst eu
    have et : u = t := by
      rw [ex] at ev
      exact V.ref.inj ev
    subst et
    obtain ⟨i1, r1, p1, _⟩ := I.tuple h1
    obtain ⟨i2, r2, p2, _⟩ := I.tuple h2
    obtain ⟨u1, u2, rfl, ra, rb⟩ := vals2 r1
    obtain ⟨t1, rfl⟩ := ra
    obtain rfl : u2 = Value.ref b := rb
    obtain ⟨o, ho, hc, n, hd⟩ := p1
    exact ⟨_, hv, ev.symm, _, o, t1, b, n, _, rfl, ho, hc, hd, p2, intsAre_of r2⟩
  have zipd : xs = its.map fun v => (backV v, itOf s.heap v) := by
    have len : xs.length = its.length := by
      have := congrArg List.length e1
      rw [List.length_map, List.length_map] at this
      exact this
    refine List.ext_getElem (by rw [List.length_map]; exact len) fun i h1 h2 => ?_
    rw [List.getElem_map]
    have g1 : (xs.map (·.1))[i]'(by rw [List.length_map]; exact h1) = (its.map backV)[i]'(by rw [List.length_map]; omega) := by
      simp only [e1]
    rw [List.getElem_map, List.getElem_map] at g1
    obtain ⟨v, hv, ev, iv⟩ := at' _ (List.getElem_mem h1)
    obtain ⟨t1, f1⟩ := e2 v hv
    obtain ⟨t2, f2⟩ := e2 _ (List.getElem_mem (show i < its.length by omega))
    have same : v = its[i] := by
      have q3 := ev.symm.trans g1
      rw [f1, f2] at q3 ⊢
      exact congrArg Value.ref (V.ref.inj q3)
    rw [same] at iv
    exact Prod.ext g1 (itOf_is iv).symm
  have hk : ∀ v ∈ its, IsIT s.heap v (itOf s.heap v) := fun v hv => by
    have : (backV v, itOf s.heap v) ∈ xs := by rw [zipd]; exact List.mem_map.mpr ⟨v, hv, rfl⟩
    obtain ⟨v', hv', ev, iv⟩ := at' _ this
    obtain ⟨t1, f1⟩ := e2 v hv
    obtain ⟨t2, f2⟩ := e2 v' hv'
    have ev' : backV v = backV v' := ev
    have : v = v' := by
      rw [f1, f2] at ev' ⊢
      exact congrArg Value.ref (V.ref.inj ev')
    rw [← this] at iv
    exact iv
  refine SrtO.sorted_ord (swo_ltJ (itOf s.heap)) hl.isList (by rw [← rv.length]; exact hz) (fun h2 h₁ b hb kk => ?_) fun out h1 h2 => ?_
  · refine it_sortable (s := { s with heap := h₁ }) (by show X.A.units + 1 + 1 + 1 < cLine; omega) (by omega) (fun v hm => (hk v hm).keeps fun b o e _ => (kk b o e).2) fun o e => ?_
    have e' : some o = some (seqObj "list" its.toArray 0) := e.symm.trans hb
    cases e'
    intro c
    exact absurd (Value.type.inj c) (by decide)
  · obtain ⟨ep, he'⟩ := PyProof.Rows.sortedAll_at s.heap its out.toArray
    have hlen : ((out.map fun v => ((backV v, itOf s.heap v) : V × (Int × List Int))).map (·.1)).length ≤ sizeLine := by
      rw [List.length_map, List.length_map, h2.perm.length_eq, ← rv.length]
      exact hz
    have ev : (out.map fun v => ((backV v, itOf s.heap v) : V × (Int × List Int))).map (·.1) = out.map backV := by
      rw [List.map_map]
      rfl
    refine ⟨.ref _, upd H (s.heap.objs.size + 1) (.lst ((out.map fun v => ((backV v, itOf s.heap v) : V × (Int × List Int))).map (·.1))), I.laid (t' := s.toks) (fun _ _ => PyProof.Rows.sortedAll_old) (Nat.le_succ _) ⟨hlen, out, ep, ?_, he'⟩, rfl, q _ _ ?_ ?_ (I.hok.fresh (Nat.le_succ _))⟩
    · rw [ev]
      exact vals_back fun u hu => e2 u (h2.perm.mem_iff.mp hu)
    · rw [zipd]
      exact h2.perm.map _
    · rw [List.map_map]
      exact List.pairwise_map.mpr h1
end
end L2
namespace J
open PySem PySem.Spec L2 PyProof.Rows ClX RZ
theorem pz_mem {α β : Type} {F : α → β → Prop} : ∀ {l : List α} {m : List β}, Paired F l m → ∀ x ∈ l.zip m, F x.1 x.2
  | _, _, .nil, x, h => (nomatch h)
  | _, _, .cons h r, x, hx => by
    rcases List.mem_cons.mp hx with e | hx
    · rw [e]; exact h
    · exact pz_mem r x hx
theorem pz_map {α β : Type} {F : α → β → Prop} : ∀ {l : List (α × β)}, (∀ x ∈ l, F x.1 x.2) → Paired F (l.map (·.1)) (l.map (·.2))
  | [], _ => .nil
  | x :: l, h => .cons (h x List.mem_cons_self) (pz_map fun y hy => h y (List.mem_cons_of_mem _ hy))
section
variable {X : Cx} {F : Fr} {g : Gm} {e : Expr} {p pos : Pos}
theorem je_sortedIT {w : (List (Int × List Int) → Prop) → Prop} (hu : X.A.units + 64 < cLine) (hg : Gl X "sorted") (hm : X.mg "sorted" = none) (ha : JE X F g e (rE X.K (tT X.K (a2 tI (tT X.K (aV tI))))) w) (he : starEach [e] X.env = (false, eval e X.env) :: starEach [] X.env := by rfl) (hpl : (backTo pos (starEach [] X.env)).any (·.1) = false := by rfl) :
    JE X F g (.Call (.Name "sorted" p) [e] [] pos) (rN (tT X.K (a2 tI (tT X.K (aV tI))))) (fun k => w fun xs => ∀ ys : List (Int × List Int), ys.Perm xs → ys.Pairwise (fun p q => ltJ q p = false) → k ys) := by
  refine peW (pe_callB (cr_sortedITup hu) hg hm (by decide +kernel) (pa_cons ha pa_nil he) (by decide) (by decide) he hpl) fun σ H Q ⟨k, P, w, q⟩ => ⟨k, _, w, fun xs v H1 w1 s1 ⟨a, vs, ev, hs, hp⟩ => ?_⟩
  subst ev
  have k1 := k.step s1
  have zl : (vs.zip xs).map (·.1) = vs := by
    rw [List.map_fst_zip]
    rw [Paired.len hp]
    exact Nat.le_refl _
  have zr : (vs.zip xs).map (·.2) = xs := by
    rw [List.map_snd_zip]
    rw [Paired.len hp]
    exact Nat.le_refl _
  have rel : ∀ x ∈ vs.zip xs, (tT X.K (a2 tI (tT X.K (aV tI)))).rel (g.bs F H1) x.1 x.2 := fun x hx => pz_mem hp x hx
  refine ⟨a, vs.zip xs, rfl, by rw [zl]; exact hs, fun x hx => ?_, fun zs l h1 h2 hl => ?_⟩
  · obtain ⟨t, us, et, ht, y, z, e2, ey, b, us2, ez, hb, hp2⟩ := rel x hx
    subst e2
    have ey' : y = .int x.2.1 := ey
    subst ey' ez
    exact ⟨t, b, et, k1.le.sqT' ht, by rw [← paired_int hp2]; exact k1.le.sqT' hb⟩
  · refine q (zs.map (·.2)) _ _ (w1 _ ?_ h2) (s1.trans (same_upd hl)) ⟨l, _, rfl, s1.free hl, k1.bs_new hl, ?_⟩
    · have := h1.map (·.2)
      rw [zr] at this
      exact this
    · refine pz_map fun x hx => ?_
      have := rel x (h1.mem_iff.mp hx)
      exact (tT X.K (a2 tI (tT X.K (aV tI)))).same (k1.rm_new hl) this
end
end J
/-! A45: stretches of crossings; a, b = xs.pop(); a loop whose list is bound anew; calls with keywords -/
namespace J
open PySem PySem.Spec L2 PyProof.Rows ClX RZ
section
variable {X : Cx} {F : Fr} {g : Gm} {α β γ ρ τ : Type} {K : PySem.W.Frag} {rest : List Stmt} {pos : Pos} {nx bk ct : L2.St → Hp → Prop} {rt : VK}
/-- the value itself -/
def tV : Ty V := ⟨fun _ v u => v = u, fun _ h => h⟩
def shNs : List Str := ["table", "length", "parts"]
def shA (K : PySem.W.Frag) (W : Ty (List Int × List Int)) (A : Ty α) : ATy ((List Int × List Int) × Int × List (α × Int)) := a3 W tI (tK (tT K (a2 A tI)))
def shR (K : PySem.W.Frag) (C : Addr) (W : Ty (List Int × List Int)) (H : Hp) : Sh → V → Prop
  | .leaf t l, v => (tC C shNs (shA K W tV)).rel H v (t, l, [])
  | .node t l a c b d, v => ∃ v1 v2, shR K C W H a v1 ∧ shR K C W H b v2 ∧ (tC C shNs (shA K W tV)).rel H v (t, l, [(v1, c), (v2, d)])
theorem shR.same {C : Addr} {W : Ty (List Int × List Int)} {H H' : Hp} (s : Same H H') : ∀ {t : Sh} {v : V}, shR K C W H t v → shR K C W H' t v
  | .leaf t l, v, h => (tC C shNs (shA K W tV)).same s h
  | .node t l a c b d, v, ⟨v1, v2, h1, h2, h⟩ => ⟨v1, v2, shR.same s h1, shR.same s h2, (tC C shNs (shA K W tV)).same s h⟩
def t_Sh (K : PySem.W.Frag) (C : Addr) (W : Ty (List Int × List Int)) : Ty Sh := ⟨fun H v t => shR K C W H t v, fun s h => shR.same s h⟩
theorem shA.imp {C : Addr} {W : Ty (List Int × List Int)} {A : Ty α} {B : Ty β} {H : Hp} {v : V} {t : List Int × List Int} {l : Int} {xs : List (α × Int)} {ys : List (β × Int)} (h : (tC C shNs (shA K W A)).rel H v (t, l, xs))
    (hxy : ∀ vs : List V, Paired ((tT K (a2 A tI)).rel H) vs xs → Paired ((tT K (a2 B tI)).rel H) vs ys) : (tC C shNs (shA K W B)).rel H v (t, l, ys) := by
  obtain ⟨a, dx, vs, e, hl, hlen, x, y, z, e2, h1, h2, b, us, e3, hb, hp⟩ := h
  exact ⟨a, dx, vs, e, hl, hlen, x, y, z, e2, h1, h2, b, us, e3, hb, hxy us hp⟩
theorem tup2.imp {A : Ty α} {B : Ty β} {H : Hp} {v : V} {a : α} {b : β} {c : Int} (h : (tT K (a2 A tI)).rel H v (a, c)) (hx : ∀ u, A.rel H u a → B.rel H u b) : (tT K (a2 B tI)).rel H v (b, c) := by
  obtain ⟨p, vs, e, hs, x, y, e2, h1, h2⟩ := h
  exact ⟨p, vs, e, hs, x, y, e2, hx x h1, h2⟩
theorem sh_view {C : Addr} {W : Ty (List Int × List Int)} {H : Hp} {v : V} : ∀ {s : Sh}, (t_Sh K C W).rel H v s → (tC C shNs (shA K W (t_Sh K C W))).rel H v s.flds
  | .leaf t l, h => shA.imp (h : (tC C shNs (shA K W tV)).rel H v (t, l, [])) fun vs hp => by cases hp; exact .nil
  | .node t l a c b d, h => by
    obtain ⟨v1, v2, h1, h2, h⟩ := (h : ∃ v1 v2, shR K C W H a v1 ∧ shR K C W H b v2 ∧ (tC C shNs (shA K W tV)).rel H v (t, l, [(v1, c), (v2, d)]))
    refine shA.imp h fun vs hp => ?_
    cases hp with
    | cons r1 hp => cases hp with
      | cons r2 hp =>
        cases hp
        exact .cons (tup2.imp r1 fun u e => by rw [(e : u = v1)]; exact h1) (.cons (tup2.imp r2 fun u e => by rw [(e : u = v2)]; exact h2) .nil)
theorem tup2.open {A : Ty α} {H : Hp} {v : V} {x : α × Int} (h : (tT K (a2 A tI)).rel H v x) : ∃ u, A.rel H u x.1 ∧ (tT K (a2 tV tI)).rel H v (u, x.2) := by
  obtain ⟨p, vs, e, hs, y, z, e2, h1, h2⟩ := h
  exact ⟨y, h1, p, vs, e, hs, y, z, e2, rfl, h2⟩
theorem sh_make {C : Addr} {W : Ty (List Int × List Int)} {H : Hp} {v : V} {t : List Int × List Int} {l : Int} : ∀ {ps : List (Sh × Int)} {s : Sh}, (tC C shNs (shA K W (t_Sh K C W))).rel H v (t, l, ps) → Sh.mk t l ps = some s → (t_Sh K C W).rel H v s
  | [], s, h, e => by
    have e' := Option.some.inj e
    subst e'
    exact (shA.imp h fun vs hp => by cases hp; exact .nil : (tC C shNs (shA K W tV)).rel H v (t, l, []))
  | [_], s, h, e => nomatch e
  | [x, y], s, h, e => by
    have e' := Option.some.inj e
    subst e'
    obtain ⟨a, dx, vs, e0, hl, hlen, x0, y0, z0, e2, h1, h2, b, us, e3, hb, hp⟩ := h
    cases hp with
    | cons r1 hp => cases hp with
      | cons r2 hp =>
        cases hp
        obtain ⟨u1, g1, k1⟩ := tup2.open r1
        obtain ⟨u2, g2, k2⟩ := tup2.open r2
        exact ⟨u1, u2, g1, g2, a, dx, vs, e0, hl, hlen, x0, y0, z0, e2, h1, h2, b, _, e3, hb, .cons k1 (.cons k2 .nil)⟩
  | _ :: _ :: _ :: _, s, h, e => nomatch e
theorem je_shView {C : Addr} {W : Ty (List Int × List Int)} {e : Expr} {w : (Sh → Prop) → Prop} (h : JE X F g e (rO (t_Sh X.K C W)) w) : JE X F g e (rO (tC C ["table", "length", "parts"] (a3 W tI (tK (tT X.K (a2 (t_Sh X.K C W) tI)))))) (fun k => w fun s => k s.flds) :=
  je_as h fun H v s r => sh_view r
theorem je_shMake {C : Addr} {W : Ty (List Int × List Int)} {e : Expr} {w : ((List Int × List Int) × Int × List (Sh × Int) → Prop) → Prop} (h : JE X F g e (rO (tC C ["table", "length", "parts"] (a3 W tI (tK (tT X.K (a2 (t_Sh X.K C W) tI)))))) w) :
    JE X F g e (rO (t_Sh X.K C W)) (fun k => w fun t => ∃ s, Sh.mk t.1 t.2.1 t.2.2 = some s ∧ k s) :=
  je_asO (f := fun (t : (List Int × List Int) × Int × List (Sh × Int)) => Sh.mk t.1 t.2.1 t.2.2) h fun H v t b r hb => sh_make r hb
/-- a, b = xs.pop() -/
theorem js_asgPopT {i j : Nat} {l : Addr} {A : Ty α} {xs : List α} {tg call : Expr} {gT : TG} {tr : Gm → α → Gm} {wr : α → Prop} {D : Ends} (hm : PE X call (tBM0 X.K "list" rPop (tVar i))) (hg : PG X tg gT) (ht : TgOk A gT tr)
    (hr : ∀ a, JSs X F (tr (⟨g.s, g.c.set j (.lst l A xs.dropLast)⟩ : Gm) a) rest D (wr a)) (hs : g.s[i]? = some (.at l)) (hc : g.c[j]? = some (.lst l A xs))
    (hsw : swapsWithSole [tg] call pos.line X.env = pure false := by rfl) (hw : swappedStores [tg] call X.env = pure none := by rfl) (h1 : (assignEach [tg] X.env).map (·.2) = [assign tg X.env] := by rfl) :
    JSs X F g (.Assign [tg] call pos :: rest) D (∃ a, xs.getLast? = some a ∧ wr a) := by
  refine pssW (pss_cons (ps_asg hm hg hsw hw h1) (pssE hr)) fun D' σ H ⟨e, k, a, ha, w⟩ => ?_
  obtain ⟨us, hl, pr⟩ := k.cell hc
  rw [List.getLast?_eq_getElem?] at ha
  obtain ⟨u, hu, ru⟩ := Paired.at pr ha
  have e1 := Paired.len pr
  have dr : Paired (A.rel (g.bs F H)) us.dropLast xs.dropLast := by
    rw [List.dropLast_eq_take, List.dropLast_eq_take, e1]
    exact Paired.take _ pr
  refine ⟨_, k.ref hs, .inl ⟨rfl, us, .inl (.inl hl)⟩, l, us, u, rfl, rfl, hl, by rw [e1]; exact hu, ?_⟩
  exact ht F _ σ _ u a _ (k.mut hc dr) (by rw [bs_mut hc]; exact ru) fun σ' k' => ⟨a, e, k', w⟩
/-- while, a list of whose state is bound anew -/
theorem js_whileH {ζ : Type} {test : Expr} {body : List Stmt} {S : ζ → τ → Gm} {z0 : ζ} {s0 : τ} {wt : τ → Prop → Prop → Prop} {b : τ → (τ → Prop) → (τ → Prop) → Prop} {wr : τ → Prop} (hS : Sub g (S z0 s0)) (ht : ∀ z s, JT X F (S z s) test (wt s))
    (hb : ∀ (N B : τ → Prop) z s, JSs X F (S z s) body ⟨phi F (fun q : ζ × τ => S q.1 q.2) (fun q => N q.2), rt, phi F (fun q : ζ × τ => S q.1 q.2) (fun q => B q.2), phi F (fun q : ζ × τ => S q.1 q.2) (fun q => N q.2)⟩ (b s N B)) (hr : ∀ z s, JSs X F (S z s) rest ⟨nx, rt, bk, ct⟩ (wr s)) (hpo : PassesOwn (model X.prog X.w) X.A X.env X.xe) :
    JSs X F g (.While test body [] pos :: rest) ⟨nx, rt, bk, ct⟩ (wWhile wt b wr s0) := by
  refine pssW (pss_cons (ps_while hpo (ptE (t := fun q : ζ × τ => RT F (S q.1 q.2) (wt q.2)) fun q => ht q.1 q.2) (pssE (t := fun (q : (τ → Prop) × ζ × τ) => RS F (S q.2.1 q.2.2) ⟨phi F (fun q : ζ × τ => S q.1 q.2) (fun p => q.1 p.2), rt, phi F (fun q : ζ × τ => S q.1 q.2) (fun p => wr p.2), phi F (fun q : ζ × τ => S q.1 q.2) (fun p => q.1 p.2)⟩ (b q.2.2 q.1 wr)) fun q => hb q.1 wr q.2.1 q.2.2)) (pssE (t := fun q : ζ × τ => RS F (S q.1 q.2) ⟨nx, rt, bk, ct⟩ (wr q.2)) fun q => hr q.1 q.2)) fun D σ H ⟨e, k, I, m, i0, turn⟩ => ?_
  refine ⟨fun n σ H => ∃ s : ζ × τ, (S s.1 s.2).Ok F σ H ∧ I s.2 ∧ n = m s.2, ⟨m s0, (z0, s0), hS.ok k, i0, rfl⟩, ?_⟩
  rintro n σ1 H1 ⟨s, o, hi, rfl⟩
  refine ⟨s, o, _, _, turn s.2 hi, fun x H2 s2 => ?_, fun x H2 s2 => ?_⟩
  · show ∃ N : L2.St → Hp → Prop, _
    refine ⟨phi F (fun q : ζ × τ => S q.1 q.2) fun s' => I s'.2 ∧ m s'.2 < m s.2, fun σ' H' ⟨s', o', i', l'⟩ => ⟨m s'.2, l', s', o', i', rfl⟩, ?_⟩
    exact ⟨(fun s' => I s' ∧ m s' < m s.2, s), ⟨fun _ _ z => z, e.rt, fun _ _ ⟨s, o, q⟩ => ⟨s, e, o, q⟩, fun _ _ z => z⟩, o.step s2, x⟩
  · show ∃ a, _
    exact ⟨s, e, o.step s2, x⟩
/-- f(e, .., k = v, ..) -/
theorem je_callDN {θ θ1 θ2 : Type} {n m : Nat} {f : Addr} {fd : FuncData} {ps ks : List Str} {T : ATy θ} {T1 : ATy θ1} {T2 : ATy θ2} {ext : θ1 → θ2 → θ} {gV : List V → List V → List V} {R : Res ρ} {w : θ → (ρ → Prop) → Prop} {x : Str} {e : Expr} {es : List Expr} {kws : List Keyword} {p pos : Pos} {wa : (θ1 → Prop) → Prop} {wk : (θ2 → Prop) → Prop}
    (Fn : FnOk X.prog X.w X.K X.mg X.base CX0 m f fd ps (spJ T R w)) (hr : Room m X.A) (hg : Gl X x) (hm : X.mg x = some (.ref f)) (hk : PySem.W.keepIn X.K (.ref f) = true) (hb : ∃ g, KBn X.K fd ps n ks g gV) (hT : ∀ H vs zs t1 t2, T1.rel H vs t1 → T2.rel H zs t2 → vs.length = n ∧ zs.length = ks.length ∧ T.rel H (gV vs zs) (ext t1 t2))
    (ha : JA X F g (e :: es) T1 wa) (hkw : PK X kws (RA F g T2 wk)) (hall : (backToKw pos (keywordEach kws X.env)).all (·.1.isSome) = true := by rfl) (hks : (backToKw pos (keywordEach kws X.env)).filterMap (·.1) = ks := by rfl)
    (hdb : (x == ("__debug__" : Str)) = false := by decide) (he : starEach (e :: es) X.env = (false, eval e X.env) :: starEach es X.env := by rfl) (hpl : ((backTo pos (starEach (e :: es) X.env)).any (·.1) || (backToKw pos (keywordEach kws X.env)).any (·.1.isNone)) = false := by rfl) :
    JE X F g (.Call (.Name x p) (e :: es) kws pos) R (fun k => wa fun t1 => wk fun t2 => w (ext t1 t2) k) := by
  obtain ⟨gg, hb⟩ := hb
  exact peW (pe_callN Fn hr hg hm hk hb pass0 ha hkw hall hks hdb he hpl) fun σ H Q ⟨k, P, w, q⟩ => ⟨k, _, w, fun t1 vs H1 w1 s1 r1 => ⟨k.step s1, _, w1, fun t2 zs H2 w2 s2 r2 => by
    obtain ⟨l1, l2, rT⟩ := hT _ vs zs t1 t2 (T1.same (Gm.mono s2) r1) r2
    exact ⟨l1, l2, ext t1 t2, P, (k.step (s1.trans s2)).fr, rfl, rT, w2, fun r v H3 p s3 r3 => q r v H3 p ((s1.trans s2).trans s3) (R.pre (s1.trans s2) (R.same ((k.step (s1.trans s2)).back s3) (Same.refl _) r3))⟩⟩⟩
end
end J
/-! A46: generators of numbers that are drained at once by list(..): the library's own rules (errors may leave them) -/
namespace J
open PySem PySem.Spec L2 PyProof.Rows ClX RZ
section
variable {X : Cx} {l rest : List Stmt}
theorem gss_app {t u : TGn} (a : GSs X l t) (b : GSs X rest u) : GSs X (l ++ rest) (tGThen t u) := by
  refine ⟨fun A S ip R n ys s₀ c fs K J gd lv s σ H D g hn k hI ht => ?_⟩
  have e : (execs (l ++ rest) X.env).wrap K J gd lv = (execs l X.env).wrap (fun f => match f with | .next => (execs rest X.env).wrap K J gd lv | f => K f) J gd lv := by
    rw [GenF.execs_app, Sem.bind_eq_wrap', Sem.wrap_wrap]
    exact Sem.wrap_congr _ _ _ (fun f => by cases f <;> rfl) (fun _ => rfl)
  rw [e]
  refine a.run A S ip R n ys s₀ c fs _ J gd lv s σ H { D with nx := fun ys' σ' H' => u D ys' σ' H' } g hn ⟨fun n' ys' s₀' s' f hn' hs => ?_, k.exc⟩ hI ht
  cases f with
  | next =>
    obtain ⟨σ', H', I', q⟩ := hs
    exact b.run A S ip R n' ys' s₀' c fs K J gd lv s' σ' H' D g hn' k I' q
  | brk => exact k.ok n' ys' s₀' s' .brk hn' hs
  | cont => exact k.ok n' ys' s₀' s' .cont hn' hs
  | ret u => exact k.ok n' ys' s₀' s' (.ret u) hn' hs
theorem gssWL {t t' : TGn} (h : GSs X l t) (k : ∀ D ys σ H, t' D ys σ H → t D ys σ H) : GSs X l t' := ⟨fun A S ip R n ys s₀ c fs K J gd lv s σ H D g hn kk I ht => h.run A S ip R n ys s₀ c fs K J gd lv s σ H D g hn kk I (k _ _ _ _ ht)⟩
def tExL {τ : Type} (t : τ → TGn) : TGn := fun D ys σ H => ∃ a, t a D ys σ H
theorem gssEL {τ : Type} {t : τ → TGn} (h : ∀ a, GSs X l (t a)) : GSs X l (tExL t) := ⟨fun A S ip R n ys s₀ c fs K J gd lv s σ H D g hn kk I ⟨a, ht⟩ => (h a).run A S ip R n ys s₀ c fs K J gd lv s σ H D g hn kk I ht⟩
structure LE (D D' : GEnds) : Prop where
  nx : ∀ ys σ H, D.nx ys σ H → D'.nx ys σ H
  rt : ∀ ys v H, D.rt ys v H → D'.rt ys v H
  bk : ∀ ys σ H, D.bk ys σ H → D'.bk ys σ H
  ct : ∀ ys σ H, D.ct ys σ H → D'.ct ys σ H
theorem LE.refl (D : GEnds) : LE D D := ⟨fun _ _ _ h => h, fun _ _ _ h => h, fun _ _ _ h => h, fun _ _ _ h => h⟩
/-- what is out so far: numbers -/
def RLs (F : Fr) (g : Gm) (D : GEnds) (w : List Int → Prop) : TGn := fun D' ys σ H => LE D D' ∧ ∃ xs : List Int, ys = xs.map V.int ∧ g.Ok F σ H ∧ w xs
def phiL {ζ : Type} (F : Fr) (S : ζ → Gm) (N : ζ → List Int → Prop) : List V → L2.St → Hp → Prop := fun ys σ H => ∃ (z : ζ) (xs : List Int), ys = xs.map V.int ∧ (S z).Ok F σ H ∧ N z xs
abbrev JL (X : Cx) (F : Fr) (g : Gm) (sts : List Stmt) (D : GEnds) (w : List Int → Prop) : Prop := GSs X sts (RLs F g D w)
variable {ζ : Type} {F : Fr} {g : Gm} {D : GEnds} {nx bk ct : List V → L2.St → Hp → Prop} {rt : List V → VK}
theorem jl_end {S : ζ → Gm} {N : ζ → List Int → Prop} (z : ζ) (h : Sub g (S z)) : JL X F g [] ⟨phiL F S N, rt, bk, ct⟩ (fun xs => N z xs) :=
  gssWL gss_nil fun D ys σ H ⟨e, xs, ey, k, w⟩ => e.nx ys σ H ⟨z, xs, ey, h.ok k, w⟩
/-- the end: all that is out is handed over -/
def KL (F : Fr) (P : List Int → Prop) (Kd : List V → Hp → Prop) : Prop := ∀ (xs : List Int) (H : Hp), Same F.H H → P xs → Kd (xs.map V.int) H
theorem jl_endK {P : List Int → Prop} {Kd : List V → Hp → Prop} (hE : KL F P Kd) : JL X F g [] ⟨fun ys _ H => Kd ys H, rt, bk, ct⟩ P :=
  gssWL gss_nil fun D ys σ H ⟨e, xs, ey, k, w⟩ => e.nx ys σ H (by rw [ey]; exact hE xs H k.same w)
/-- statements that hand out nothing; a return among them ends the generator -/
theorem jl_plain {S : ζ → Gm} {P : List Int → Prop} {Kd : List V → Hp → Prop} {w : (ζ → Prop) → Prop → Prop} {wr : ζ → List Int → Prop} (hE : KL F P Kd) (h : ∀ (N : ζ → Prop) (R : Prop), JSs X F g l ⟨phi F S N, fun v H => v = .non ∧ Same F.H H ∧ R, fun _ _ => False, fun _ _ => False⟩ (w N R))
    (hr : ∀ z, JL X F (S z) rest ⟨nx, fun ys v H => v = .non ∧ Kd ys H, bk, ct⟩ (wr z)) : JL X F g (l ++ rest) ⟨nx, fun ys v H => v = .non ∧ Kd ys H, bk, ct⟩ (fun xs => w (fun z => wr z xs) (P xs)) := by
  refine gssWL (gss_app (gss_pss (t := fun D σ H => ∃ q : (ζ → Prop) × Prop, RS F g ⟨phi F S q.1, fun v H => v = .non ∧ Same F.H H ∧ q.2, fun _ _ => False, fun _ _ => False⟩ (w q.1 q.2) D σ H) (pssE fun q => h q.1 q.2)) (gssEL hr)) fun D' ys σ H ⟨e, xs, ey, k, hw⟩ => ?_
  exact ⟨(fun z => wr z xs, P xs), ⟨fun σ' H' ⟨z, k', w'⟩ => ⟨z, e, xs, ey, k', w'⟩, fun v H' ⟨ev, s, p⟩ => e.rt ys v H' ⟨ev, by rw [ey]; exact hE xs H' s p⟩, fun _ _ z => z.elim, fun _ _ z => z.elim⟩, k, hw⟩
theorem jl_plain1 {S : ζ → Gm} {P : List Int → Prop} {Kd : List V → Hp → Prop} {st : Stmt} {w : (ζ → Prop) → Prop → Prop} {wr : ζ → List Int → Prop} (hE : KL F P Kd) (h : ∀ (N : ζ → Prop) (R : Prop), JSs X F g [st] ⟨phi F S N, fun v H => v = .non ∧ Same F.H H ∧ R, fun _ _ => False, fun _ _ => False⟩ (w N R))
    (hr : ∀ z, JL X F (S z) rest ⟨nx, fun ys v H => v = .non ∧ Kd ys H, bk, ct⟩ (wr z)) : JL X F g (st :: rest) ⟨nx, fun ys v H => v = .non ∧ Kd ys H, bk, ct⟩ (fun xs => wJoin (fun z => wr z xs) fun J => w J (P xs)) := jl_plain hE h hr
theorem takes_none : Takes X (fun _ _ _ _ => False) := fun u s' x => by
  obtain ⟨_, _, _, _, _, _, _, _, _, _, _, _, _, _, _, _, h⟩ := x
  exact h.elim
/-- yield e -/
theorem jl_yield {e : Expr} {yp pos : Pos} {we : (Int → Prop) → Prop} {wr : List Int → Prop} (he : JE X F g e (rO tI) we) (hr : JL X F g rest D wr) (hco : X.env.scope.isCoroutine = false := by rfl) (hi : interactive X.env = false := by rfl) :
    JL X F g (.Expr (.Yield (some e) yp) pos :: rest) D (fun xs => xs.length < 1000000 ∧ we fun a => wr (xs ++ [a])) := by
  refine gssWL (gss_cons (gs_yield he hco hi) hr) fun D' ys σ H ⟨le, xs, ey, k, hl, hw⟩ => ?_
  refine ⟨by rw [ey, List.length_map]; exact Nat.lt_of_lt_of_le hl (by decide), k, _, hw, fun a x H1 p s1 r => ?_⟩
  refine ⟨le, xs ++ [a], ?_, k.step s1, p⟩
  rw [ey, List.map_append, (r : x = V.int a)]
  rfl
/-- while -/
theorem jl_while {S : ζ → Gm} {e : Expr} {body : List Stmt} {pos : Pos} {tt : ζ → Prop → Prop → Prop} {bb : ζ → (ζ → List Int → Prop) → (ζ → List Int → Prop) → List Int → Prop} {wr : ζ → List Int → Prop} {z0 : ζ} (h0 : Sub g (S z0)) (hp : PassesOwn (model X.prog X.w) X.A X.env X.xe)
    (hc : ∀ z, JT X F (S z) e (tt z)) (hb : ∀ z N B, JL X F (S z) body ⟨phiL F S N, rt, phiL F S B, phiL F S N⟩ (bb z N B)) (hr : ∀ z, JL X F (S z) rest ⟨nx, rt, bk, ct⟩ (wr z)) :
    JL X F g (.While e body [] pos :: rest) ⟨nx, rt, bk, ct⟩ (fun xs => wWhile (fun (q : ζ × List Int) A B => tt q.1 A B) (fun q N B => bb q.1 (fun z xs => N (z, xs)) (fun z xs => B (z, xs)) q.2) (fun q => wr q.1 q.2) (z0, xs)) := by
  refine gssWL (gss_cons (gs_while (tc := fun σ H Q => ∃ q : ζ, RT F (S q) (tt q) σ H Q) (tb := tExL fun q : ζ × (ζ → List Int → Prop) => RLs F (S q.1) ⟨phiL F S q.2, rt, phiL F S wr, phiL F S q.2⟩ (bb q.1 q.2 wr)) hp ⟨fun p s σ H Q I ⟨q, h⟩ => (hc q).run p s σ H Q I h⟩ (gssEL fun q => hb q.1 q.2 wr)) (gssEL hr)) fun D' ys σ H ⟨le, xs, ey, k, I, μ, i0, st⟩ => ?_
  refine ⟨fun m ys σ H => ∃ z xs, ys = xs.map V.int ∧ (S z).Ok F σ H ∧ I (z, xs) ∧ m = μ (z, xs), ⟨_, z0, xs, ey, h0.ok k, i0, rfl⟩, ?_⟩
  rintro m ys σ H ⟨z, xs, ey, k, iz, rfl⟩
  refine ⟨z, k, _, _, st (z, xs) iz, fun h1 H1 s1 => ?_, fun h1 H1 s1 => ?_⟩
  · dsimp only
    rw [if_pos rfl]
    refine ⟨phiL F S fun z' xs' => I (z', xs') ∧ μ (z', xs') < μ (z, xs), fun ys' σ' H' ⟨z', xs', ey', k', i', l'⟩ => ⟨_, l', z', xs', ey', k', i', rfl⟩, ?_⟩
    exact ⟨(z, fun z' xs' => I (z', xs') ∧ μ (z', xs') < μ (z, xs)), ⟨fun _ _ _ h => h, le.rt, fun ys σ H ⟨z, xs, ey, k, w⟩ => ⟨z, le, xs, ey, k, w⟩, fun _ _ _ h => h⟩, xs, ey, k.step s1, h1⟩
  · dsimp only
    rw [if_neg Bool.false_ne_true]
    exact ⟨z, le, xs, ey, k.step s1, h1⟩
/-! ### calls -/
/-- a generator def of numbers: arguments, what is wanted of the list, of an error -/
def spJL {θ : Type} (T : ATy θ) (er : Nat → Addr) (en : Nat → Int → Int → List (Str × V)) (w : θ → (List Int → Prop) → EK → Prop) : SpG := fun vs H Q E => ∃ (t : θ) (P : List Int → Prop) (N : EK) (F : Fr), F.H = H ∧ T.rel F.B vs t ∧ w t P N ∧ KL F P Q ∧
  (∀ c p q, N c p q → ∀ d H2, Same F.H H2 → ErrOk en c p q d H2 → E (.ref (er c)) d H2)
section
variable {pins : List (Addr × Obj)} {k n : Nat} {f : Addr} {fd : FuncData} {ps ks : List Str} {sp : SpG} {gN : List Value → List Value → List Value} {gV : List V → List V → List V} {kws : List Keyword}
theorem run_lgN {σ : L2.St} {H : Hp} {s : Shared} {us ws : List Value} {vs zs : List V} {cont : List V → Hp → Prop} {E : XK} {E1 : Value → Shared → Prop} (F : GFn X.prog X.w X.K X.mg X.base k f fd ps sp) (hr : Room k X.A) (hb : KBn X.K fd ps n ks gN gV)
    (I : Inv X pins σ H s) (r : Vals vs us) (rz : Vals zs ws) (l1 : vs.length = n) (l2 : zs.length = ks.length) (h : sp (gV vs zs) H cont E) :
    wpAny (model X.prog X.w) X.A (call (.ref f) us (ks.zip ws)) (fun u s' => ∃ H1 sc ex, Inv X pins σ H1 sc ∧ ExOk X pins ex ∧ GMade X.prog X.w k X.stack H1 sc ex cont E u s') E1 s := by
  refine wpAny_call (codeAny_mono (F.run X.A X.stack s H ⟨us, ks.zip ws⟩ (gN us ws) (gV vs zs) cont E hr I.env0 (hb.to s us ws I.kIn (r.length.symm.trans l1) (rz.length.symm.trans l2)) (hb.rel r rz) h) fun r s' hq => ?_)
  cases r with
  | error e => exact False.elim hq
  | ok fl =>
    cases fl with
    | ret u => exact ⟨H, s, [], I, .nil, hq⟩
    | next => exact False.elim hq
    | brk => exact False.elim hq
    | cont => exact False.elim hq
/-- f(e, .., k = v, ..) of a generator def of numbers -/
theorem pgen_callN {E : XK} {x : Str} {e : Expr} {es : List Expr} {t tk : TA} {p pos' : Pos} (F : GFn X.prog X.w X.K X.mg X.base k f fd ps sp) (hr : Room k X.A) (hg : Gl X x) (hm : X.mg x = some (.ref f)) (hk : PySem.W.keepIn X.K (.ref f) = true) (hb : KBn X.K fd ps n ks gN gV)
    (ha : PA X (e :: es) t) (hkw : PK X kws tk) (hall : (backToKw pos' (keywordEach kws X.env)).all (·.1.isSome) = true := by rfl) (hks : (backToKw pos' (keywordEach kws X.env)).filterMap (·.1) = ks := by rfl)
    (hdb : (x == ("__debug__" : Str)) = false := by decide) (he : starEach (e :: es) X.env = (false, eval e X.env) :: starEach es X.env := by rfl)
    (hpl : ((backTo pos' (starEach (e :: es) X.env)).any (·.1) || (backToKw pos' (keywordEach kws X.env)).any (·.1.isNone)) = false := by rfl) :
    PGen X k (.Call (.Name x p) (e :: es) kws pos') (fun σ H cont => t σ H fun vs H1 => tk σ H1 fun zs H2 => vs.length = n ∧ zs.length = ks.length ∧ sp (gV vs zs) H2 cont E) E := by
  refine ⟨fun pins s σ H cont I h => ?_⟩
  refine wpAny_Call_Name_kw (ld_glob I hg hm ?_ hdb)
  refine PySem.W.callWith_KW (h₀ := X.base) I.ok.mod.kin hk hall (thn (ha.run pos' pins s σ H _ I h) fun us s1 ⟨vs, H1, I1, r, q⟩ => ?_) hpl he
  refine thn (hkw.run pos' pins s1 σ H1 _ I1 q) fun ws s2 ⟨zs, H2, I2, rz, l1, l2, q2⟩ => ⟨I2.kIn, ?_⟩
  rw [hks]
  exact run_lgN F hr hb I2 r rz l1 l2 q2
/-- list of a generator def's call; its errors are what this state's suite takes -/
theorem pe_listAt {e : Expr} {tg : L2.St → TGen} {E : L2.St → XK} {p pos : Pos} (h : ∀ σ, PGen X k e (tg σ) (E σ)) (hx : ∀ σ, L2.PassesAt (L2.CX X.prog X.w) X σ (E σ)) (hns : ∀ σ, NoStop X.K (E σ)) (hr : Room (k + 3) X.A) (hg : Gl X "list") (hmg : X.mg "list" = none)
    (he : starEach [e] X.env = (false, eval e X.env) :: starEach [] X.env := by rfl) : PE X (.Call (.Name "list" p) [e] [] pos) (fun σ => tListG (tg σ) σ) := by
  constructor
  intro pins s σ H Q I want
  have name : bootBuiltins "list" = some (.type "list") := by decide +kernel
  refine wpAny_Call_Name_kw (ld_blt I hg hmg name ?_ (by decide) (by decide))
  refine callWith_type1 ?_ he rfl
  rw [he]
  refine Calls.spliced_cons (thn ((h σ).run pins s σ H _ I want) fun u s1 made => Calls.spliced_nil ?_)
  obtain ⟨H1, sc, ex, I1, hex, G⟩ := made
  have older : sc.heap.objs.size ≤ s1.heap.objs.size := by
    obtain ⟨a, _, _, _, l1, l2, _⟩ := G
    exact Nat.le_trans l1 (Nat.le_of_lt l2)
  refine call_list_new hr I1.ok.frames G ?_ ?_
  · intro S s' acc c H' ys above at_S vals len os bare un hok free want'
    exact ⟨.ref S, _, I1.drained (Nat.le_trans older above) len at_S vals hex os bare un hok free, rfl, want' S free⟩
  · intro err s' g air
    have inK : X.K.In s'.heap := by
      obtain ⟨_, _, _, _, _, _, flying, _, ub, _⟩ := id air
      refine I1.ok.mod.kin.keeps fun b o old => ?_
      have there := I1.bs b o old
      refine flying.1 b o (ub.keep b o there.1 there.2 fun onStack => ?_)
      rcases List.mem_cons.mp (I1.stkSub b onStack) with own | out
      · have young := Nat.le_trans I1.ok.bsz I1.ok.above
        have low := Heap.lt_size old
        rw [own] at low
        exact (Nat.lt_irrefl _ (Nat.lt_of_lt_of_le low young)).elim
      · exact I1.ok.nofr old out
    refine ⟨notStop_of (hns σ) inK air, hx σ pins H1 sc err _ I1 ?_⟩
    obtain ⟨a, B, H', cls, d, c1, c2, c3, c4, c5, c6, bare, c8⟩ := air
    exact ⟨a, B, H', cls, d, c1, c2, c3, c4, c5, c6, allBare_setGen bare rfl, c8⟩
theorem passTwo {W : WX} {S : Value → Prop} (tk : Takes X W) (σ : L2.St) : L2.PassesAt (L2.CX X.prog X.w) X σ (fun cls d H => W cls d σ H ∧ S cls) := fun pins H s e s' I c => by
  obtain ⟨a, B, H', cls, d, c1, c2, c3, c4, c5, c6, c7, c8⟩ := c
  exact passAt tk σ pins H s e s' I ⟨a, B, H', cls, d, c1, c2, c3, c4, c5, c6, c7, c8.1⟩
/-- list(f(e, .., k = v, ..)) of a generator def of numbers; errors may leave it -/
theorem je_listG {θ θ1 θ2 : Type} {W : WX} {N : EK} {er : Nat → Addr} {en : Nat → Int → Int → List (Str × V)} {T : ATy θ} {T1 : ATy θ1} {T2 : ATy θ2} {ext : θ1 → θ2 → θ} {w : θ → (List Int → Prop) → EK → Prop} {wa : (θ1 → Prop) → Prop} {wk : (θ2 → Prop) → Prop} {x : Str} {e : Expr} {es : List Expr} {p0 p pos pos' : Pos}
    {nC : List Nat} (tk : Takes X W) (hW : WishF er en F g N W) (hS : ∀ c, c ∈ nC → PySem.W.subIn X.K (.ref (er c)) (.type "StopIteration") = some false)
    (Fn : GFn X.prog X.w X.K X.mg X.base k f fd ps (spJL T er en w)) (hr : Room (k + 3) X.A) (hg : Gl X x) (hm : X.mg x = some (.ref f)) (hk : PySem.W.keepIn X.K (.ref f) = true) (hb : ∃ gN, KBn X.K fd ps n ks gN gV)
    (hT : ∀ H vs zs t1 t2, T1.rel H vs t1 → T2.rel H zs t2 → vs.length = n ∧ zs.length = ks.length ∧ T.rel H (gV vs zs) (ext t1 t2)) (ha : JA X F g (e :: es) T1 wa) (hkw : PK X kws (RA F g T2 wk)) (hgl : Gl X "list") (hml : X.mg "list" = none)
    (hall : (backToKw pos' (keywordEach kws X.env)).all (·.1.isSome) = true := by rfl) (hks : (backToKw pos' (keywordEach kws X.env)).filterMap (·.1) = ks := by rfl) (hdb : (x == ("__debug__" : Str)) = false := by decide)
    (he : starEach (e :: es) X.env = (false, eval e X.env) :: starEach es X.env := by rfl) (hpl : ((backTo pos' (starEach (e :: es) X.env)).any (·.1) || (backToKw pos' (keywordEach kws X.env)).any (·.1.isNone)) = false := by rfl)
    (hel : starEach [.Call (.Name x p) (e :: es) kws pos'] X.env = (false, eval (.Call (.Name x p) (e :: es) kws pos') X.env) :: starEach [] X.env := by rfl) :
    JE X F g (.Call (.Name "list" p0) [.Call (.Name x p) (e :: es) kws pos'] [] pos) (rN tI) (fun K => wa fun t1 => wk fun t2 => w (ext t1 t2) K (fun c p q => c ∈ nC ∧ N c p q)) := by
  obtain ⟨gN, hb⟩ := hb
  refine peW (pe_listAt (E := fun σ cls d H => W cls d σ H ∧ PySem.W.subIn X.K cls (.type "StopIteration") = some false) (fun σ => pgen_callN Fn (hr.mono (by omega)) hg hm hk hb ha hkw hall hks hdb he hpl) (fun σ => passTwo tk σ) (fun σ cls d H h => h.2) hr hgl hml hel) fun σ H Q ⟨k0, P, hw, q⟩ => ?_
  refine ⟨k0, _, hw, fun t1 vs H1 w1 s1 r1 => ⟨k0.step s1, _, w1, fun t2 zs H2 w2 s2 r2 => ?_⟩⟩
  obtain ⟨l1, l2, rT⟩ := hT _ vs zs t1 t2 (T1.same (Gm.mono s2) r1) r2
  have k2 := k0.step (s1.trans s2)
  refine ⟨l1, l2, ext t1 t2, P, _, k2.fr, rfl, rT, w2, fun xs H3 s3 p3 l hl => ?_, fun c p q' nn d H3 s3 z => ⟨hW σ H3 (k0.step ((s1.trans s2).trans s3)) c p q' nn.2 d z, hS c nn.1⟩⟩
  have k3 := k0.step ((s1.trans s2).trans s3)
  refine q xs (.ref l) _ p3 (((s1.trans s2).trans s3).trans (same_upd hl)) ⟨l, _, rfl, ((s1.trans s2).trans s3).free hl, k3.bs_new hl, ?_⟩
  clear p3
  induction xs with
  | nil => exact .nil
  | cons x xs ih => exact .cons rfl ih
end
end
end J
namespace L2
open PySem PySem.Spec PyProof.Rows
theorem FunD.lgok {P : Program} {w : World} {K : PySem.W.Frag} {mg : Str → Option Value} {base : Heap} {x qual : Str} {f : Addr} {fd : FuncData} {st : Stmt} {kws : List (Str × V)} {N ps : List Str} {k : Nat} {sp : SpG} (F : FunD K x qual (defArgs st) (defBody st) (defScope st) [] kws f fd) (S : GScope N ps (defScope st)) (len : ∀ vs H Q E, sp vs H Q E → vs.length = ps.length)
    (hbody : ∀ (cdv : Value) (A : Around) (outer : List Env) (s : Shared) (H : Hp) (vs : List V) (Q : List V → Hp → Prop) (E : XK) (pn : List (Addr × Obj)), Room k (A.deeper (envOfC qual (defScope st) s.heap.objs.size f cdv)) → sp vs H Q E →
      ∃ t, GSs (gcxOf P w K mg base N qual (defScope st) f cdv A outer s H E pn) (defBody st) t ∧ t { nx := fun ys _ H' => Q ys H', rt := fun ys v H' => v = .non ∧ Q ys H' } [] (start N vs) H) : GFn P w K mg base (k + 1) f fd ps sp := by
  obtain ⟨oc, od, dV, kV, doc, pm, an, cdv, ct, osl, rfl, lk, hcd, _, _⟩ := F.ex
  exact gfn_of lk hcd S len fun A outer s H vs Q E pn hr h => hbody cdv A outer s H vs Q E pn hr h
end L2

namespace Slw
open PySem J
def w_law_cell (script_2 : (List Int)) (k_3 : Int) (P : Int → Prop) : Prop :=
  (((decide (k_3 < ((script_2).length : Int))) = true → (∃ x5, ixI script_2 k_3 = some x5 ∧ P x5)) ∧ ((decide (k_3 < ((script_2).length : Int))) = false → P (0 : Int)))

def w_law_row (cell_here_18 : Int) (count_19 : Int) (P : (List Int) → Prop) : Prop :=
  (wLet ([]) fun (row_here_20 : (List Int)) => (wLet (cell_here_18 - ((10 : Int) ^ (18 : Int).toNat)) fun (rest_22 : Int) => ((-(2 ^ 62) ≤ count_19 ∧ count_19 < 2 ^ 62) ∧ (wFor (fun (k_24 : Int) (s23 : Int × (List Int)) (nxt25 brk26 : (Int × (List Int)) → Prop) => (((decide (((10 : Int) ^ (18 : Int).toNat) ≤ cell_here_18)) = true → (s23.2.length < 1000000 ∧ (wLet (s23.1 % (64 : Int)) fun (y29 : Int) => (wLet (s23.1 / (64 : Int)) fun (rest_30 : Int) => (nxt25 (rest_30, (s23.2 ++ [y29]))))))) ∧ ((decide (((10 : Int) ^ (18 : Int).toNat) ≤ cell_here_18)) = false → (wLet (((cell_here_18 * (48271 : Int)) + ((k_24 + (1 : Int)) * (69621 : Int))) % (2147483647 : Int)) fun (mixed_32 : Int) => (JMul mixed_32 (((mixed_32 / (46337 : Int)) + ((3 : Int) * k_24)) + (1 : Int)) ∧ (wLet ((mixed_32 * (((mixed_32 / (46337 : Int)) + ((3 : Int) * k_24)) + (1 : Int))) % (2147483399 : Int)) fun (mixed_33 : Int) => (s23.2.length < 1000000 ∧ (wLet ((mixed_33 / (7 : Int)) % (64 : Int)) fun (y34 : Int) => (nxt25 (s23.1, (s23.2 ++ [y34]))))))))))) (fun (s23 : Int × (List Int)) => P s23.2) (rangeI 0 count_19) (rest_22, row_here_20)))))

def w_law_order (cell_here_12 : Int) (size_13 : Int) (P : (List Int) → Prop) : Prop :=
  ((-1000000 ≤ size_13 ∧ size_13 ≤ 1000000) ∧ (wLet (rangeI 0 size_13) fun (pool_14 : (List Int)) => (wLet ([]) fun (order_here_16 : (List Int)) => (w_law_row (cell_here_12) (size_13) fun r44 => (wLet r44 fun (xs36 : List Int) => (wFor (fun (digit_38 : Int) (s37 : (List Int) × (List Int)) (nxt39 brk40 : ((List Int) × (List Int)) → Prop) => (0 < ((s37.2).length : Int) ∧ ((0 ≤ (digit_38 % ((s37.2).length : Int)) ∧ (digit_38 % ((s37.2).length : Int)) < ((s37.2).length : Int)) ∧ (s37.1).length < 1000000 ∧ (s37.2).length < 1000000 ∧ ∃ y42 : Int, (s37.2)[((digit_38 % ((s37.2).length : Int))).toNat]? = some y42 ∧ (wLet ((s37.2).eraseIdx ((digit_38 % ((s37.2).length : Int))).toNat) fun (pool_43 : List Int) => (nxt39 ((s37.1 ++ [y42]), pool_43)))))) (fun (s37 : (List Int) × (List Int)) => P s37.1) xs36 (order_here_16, pool_14)))))))

def w_law_direction (one_46 : Int) (two_47 : Int) (least_48 : Int) (P : (Int × Int) → Prop) : Prop :=
  (0 < ((10 : Int) ^ (39 : Int).toNat) ∧ (wLet (least_48 + (one_46 % ((10 : Int) ^ (39 : Int).toNat))) fun (p_49 : Int) => (0 < ((10 : Int) ^ (39 : Int).toNat) ∧ (wLet (least_48 + (two_47 % ((10 : Int) ^ (39 : Int).toNat))) fun (q_50 : Int) => (wLet p_49 fun (common_51 : Int) => (wLet q_50 fun (rest_52 : Int) => (wWhile (fun (s53 : Int × Int) (kA60 kB61 : Prop) => (((decide ((0 : Int) < s53.2)) = true → kA60) ∧ ((decide ((0 : Int) < s53.2)) = false → kB61))) (fun (s53 : Int × Int) (nxt54 brk55 : (Int × Int) → Prop) => (0 < s53.2 ∧ (wLet s53.2 fun (common_57 : Int) => (wLet (s53.1 % s53.2) fun (rest_58 : Int) => (nxt54 (common_57, rest_58)))))) (fun (s53 : Int × Int) => (((decide (s53.1 = (0 : Int))) = true → P ((1 : Int), (1 : Int))) ∧ ((decide (s53.1 = (0 : Int))) = false → (JDiv s53.1 ∧ (JDiv s53.1 ∧ P ((p_49 / s53.1), (q_50 / s53.1))))))) (common_51, rest_52))))))))

def w_is_order (rooms_70 : (List Int)) (size_71 : Int) (P : Bool → Prop) : Prop :=
  (∀ sorted_72 : List Int, sorted_72.Perm rooms_70 → sorted_72.Pairwise (· ≤ ·) → ((-1000000 ≤ size_71 ∧ size_71 ≤ 1000000) ∧ (POk.pok (sorted_72 : (List Int)) ∧ POk.pok ((rangeI 0 size_71) : (List Int)) ∧ P (decide ((sorted_72 : (List Int)) = (rangeI 0 size_71))))))

def w_Plan___init__ (right_66 : (List Int)) (above_67 : (List Int)) (P : ((List Int) × (List Int)) → Prop) : Prop :=
  (wLet ((right_66).length : Int) fun (size_68 : Int) => ((decide ((1 : Int) ≤ size_68) = true → ((decide (size_68 ≤ (100 : Int)) = true → (w_is_order (right_66) (size_68) fun r78 => ((r78 = true → (w_is_order (above_67) (size_68) fun r77 => ((r77 = true → (wLet right_66 fun (f75 : (List Int)) => (wLet above_67 fun (f76 : (List Int)) => P (f75, f76)))) ∧ (r77 = false → False)))) ∧ (r78 = false → False)))) ∧ (decide (size_68 ≤ (100 : Int)) = false → False))) ∧ (decide ((1 : Int) ≤ size_68) = false → False)))

def w_shown (number_93 : Int) (P : Str → Prop) : Prop :=
  (wCut (P ("(a number of more than 60 digits)" : Str)) fun (kB95 : Prop) => ((decide ((-(1000000000000000000000000000000000000000000000000000000000000 : Int)) < number_93) = true → ((decide (number_93 < (1000000000000000000000000000000000000000000000000000000000000 : Int)) = true → ((number_93).natAbs.log2 < 1920 ∧ P (strI number_93))) ∧ (decide (number_93 < (1000000000000000000000000000000000000000000000000000000000000 : Int)) = false → kB95))) ∧ (decide ((-(1000000000000000000000000000000000000000000000000000000000000 : Int)) < number_93) = false → kB95)))

def w_check_direction_x (p_90 : Int) (q_91 : Int) (P : Unit → Prop) (N : EK) : Prop :=
  (((decide (p_90 < (0 : Int))) = true → (N 4 p_90 q_91)) ∧ ((decide (p_90 < (0 : Int))) = false → (((decide (q_91 < (0 : Int))) = true → (N 4 p_90 q_91)) ∧ ((decide (q_91 < (0 : Int))) = false → (((!decide (((Nat.gcd (p_90).natAbs (q_91).natAbs : Nat) : Int) = (1 : Int))) = true → (N 4 p_90 q_91)) ∧ ((!decide (((Nat.gcd (p_90).natAbs (q_91).natAbs : Nat) : Int) = (1 : Int))) = false → P ()))))))

def w_CrossingWord___init___x (p_88 : Int) (q_89 : Int) (P : (Int × Int) → Prop) (N : EK) : Prop :=
  (w_check_direction_x (p_88) (q_89) (fun r99 => (wLet p_88 fun (f97 : Int) => (wLet q_89 fun (f98 : Int) => P (f97, f98)))) N)

def w_Plan_size (self_93 : ((List Int) × (List Int))) (P : Int → Prop) : Prop :=
  P ((self_93.1).length : Int)

def w_Plan_behind (self_115 : ((List Int) × (List Int))) (room_116 : Int) (letter_117 : Str) (P : Int → Prop) : Prop :=
  ((decide ((0 : Int) ≤ room_116) = true → (w_Plan_size self_115 fun r122 => ((decide (room_116 < r122) = true → (((decide (letter_117 = ("r" : Str))) = true → (∃ x120, ixI self_115.1 room_116 = some x120 ∧ P x120)) ∧ ((decide (letter_117 = ("r" : Str))) = false → (∃ x121, ixI self_115.2 room_116 = some x121 ∧ P x121)))) ∧ (decide (room_116 < r122) = false → False)))) ∧ (decide ((0 : Int) ≤ room_116) = false → False))

def w_CrossingWord_round_length (self_125 : (Int × Int)) (P : Int → Prop) : Prop :=
  P (self_125.1 + self_125.2)

def w_CrossingWord_letter (self_123 : (Int × Int)) (index_124 : Int) (P : Str → Prop) : Prop :=
  (w_CrossingWord_round_length self_123 fun r128 => (wLet r128 fun (length_126 : Int) => (JMul index_124 self_123.2 ∧ (0 < length_126 ∧ (((decide (length_126 ≤ (((index_124 * self_123.2) % length_126) + self_123.2))) = true → P ("u" : Str)) ∧ ((decide (length_126 ≤ (((index_124 * self_123.2) % length_126) + self_123.2))) = false → P ("r" : Str)))))))

def w_rooms_passed (plan_82 : ((List Int) × (List Int))) (p_83 : Int) (q_84 : Int) (start_85 : Int) (crossings_86 : (Option Int)) (K : List Int → Prop) (N : EK) : Prop :=
  (wJoin (fun (s87 : (Int × Int)) => (wJoin (fun (s92 : Unit) => (wJoin (fun (s98 : Int) => (wJoin (fun (s102 : Int) => (wWhile (fun (q130 : (Int × Int) × List Int) (kA133 kB134 : Prop) => (((crossings_86.isNone) = true → kA133) ∧ ((crossings_86.isNone) = false → (∃ o111, crossings_86 = some o111 ∧ (((decide (q130.1.2 < o111)) = true → kA133) ∧ ((decide (q130.1.2 < o111)) = false → kB134)))))) (fun (q131 : (Int × Int) × List Int) (nxt107 brk108 : ((Int × Int) × List Int) → Prop) => ((q131.2).length < 1000000 ∧ (wJoin (fun (s114 : Int) => (wJoin (fun (s120 : Int) => (wJoin (fun (s124 : Unit) => (nxt107 ((s114, s120), (q131.2 ++ [q131.1.1])))) fun (J125 : Unit → Prop) => (((crossings_86.isNone) = true → (((decide (s114 = start_85)) = true → (w_CrossingWord_round_length s87 fun r129 => (0 < r129 ∧ (((decide ((s120 % r129) = (0 : Int))) = true → (K (q131.2 ++ [q131.1.1]))) ∧ ((decide ((s120 % r129) = (0 : Int))) = false → (J125 ())))))) ∧ ((decide (s114 = start_85)) = false → (J125 ())))) ∧ ((crossings_86.isNone) = false → (J125 ()))))) fun (J121 : Int → Prop) => (wLet (q131.1.2 + (1 : Int)) fun (index_123 : Int) => (J121 index_123)))) fun (J115 : Int → Prop) => (w_CrossingWord_letter s87 (q131.1.2) fun r119 => (w_Plan_behind plan_82 (q131.1.1) (r119) fun r118 => (wLet r118 fun (room_117 : Int) => (J115 room_117))))))) (fun (q132 : (Int × Int) × List Int) => (K q132.2)) ((s98, s102), ([] : List Int)))) fun (J103 : Int → Prop) => (wLet (0 : Int) fun (index_105 : Int) => (J103 index_105)))) fun (J99 : Int → Prop) => (wLet start_85 fun (room_101 : Int) => (J99 room_101)))) fun (J93 : Unit → Prop) => ((decide ((0 : Int) ≤ start_85) = true → (w_Plan_size plan_82 fun r97 => ((decide (start_85 < r97) = true → (J93 ())) ∧ (decide (start_85 < r97) = false → (N 3 start_85 0))))) ∧ (decide ((0 : Int) ≤ start_85) = false → (N 3 start_85 0))))) fun (J88 : (Int × Int) → Prop) => (w_CrossingWord___init___x (p_83) (q_84) (fun r91 => (wLet r91 fun (word_90 : (Int × Int)) => (J88 word_90))) N))

def w_law_letter (pair_151 : (Int × Int)) (index_152 : Int) (P : Str → Prop) : Prop :=
  (wLet (pair_151.1 + pair_151.2) fun (length_153 : Int) => (JMul (index_152 + (1 : Int)) pair_151.2 ∧ (JDiv length_153 ∧ (JMul index_152 pair_151.2 ∧ (JDiv length_153 ∧ (((decide (((index_152 * pair_151.2) / length_153) < (((index_152 + (1 : Int)) * pair_151.2) / length_153))) = true → P ("u" : Str)) ∧ ((decide (((index_152 * pair_151.2) / length_153) < (((index_152 + (1 : Int)) * pair_151.2) / length_153))) = false → P ("r" : Str))))))))

def w_law_rooms (lists_139 : (List (List Int))) (pair_140 : (Int × Int)) (room_141 : Int) (count_142 : Int) (P : (List Int) → Prop) : Prop :=
  (wLet ([]) fun (rooms_here_143 : (List Int)) => ((-(2 ^ 62) ≤ count_142 ∧ count_142 < 2 ^ 62) ∧ (wFor (fun (index_146 : Int) (s145 : Int × (List Int)) (nxt147 brk148 : (Int × (List Int)) → Prop) => (s145.2.length < 1000000 ∧ (wLet s145.1 fun (y150 : Int) => (w_law_letter (pair_140) (index_146) fun r158 => (∃ x155, ixI lists_139 (if (decide (r158 = ("u" : Str))) then (1 : Int) else 0) = some x155 ∧ (∃ x156, ixI x155 s145.1 = some x156 ∧ (wLet x156 fun (room_157 : Int) => (nxt147 (room_157, (s145.2 ++ [y150])))))))))) (fun (s145 : Int × (List Int)) => P s145.2) (rangeI 0 count_142) (room_141, rooms_here_143))))

def w_law_is_number (value_167 : Int) (P : Bool → Prop) : Prop :=
  ((true = true → P (!false)) ∧ (true = false → P false))

def w_law_is_row_l (actual_159 : (List Int)) (expected_160 : (List Int)) (P : Bool → Prop) : Prop :=
  ((true = true → (((!decide (((actual_159).length : Int) = ((expected_160).length : Int))) = true → P false) ∧ ((!decide (((actual_159).length : Int) = ((expected_160).length : Int))) = false → ((-(2 ^ 62) ≤ ((expected_160).length : Int) ∧ ((expected_160).length : Int) < 2 ^ 62) ∧ (wFor (fun (k_163 : Int) (s162 : Unit) (nxt164 brk165 : Unit → Prop) => (∃ x168, ixI actual_159 k_163 = some x168 ∧ (w_law_is_number (x168) fun r173 => ((r173 = true → (∃ x169, ixI actual_159 k_163 = some x169 ∧ (∃ x170, ixI expected_160 k_163 = some x170 ∧ (((!decide (x169 = x170)) = true → P false) ∧ ((!decide (x169 = x170)) = false → (nxt164 ())))))) ∧ (r173 = false → P false))))) (fun (s162 : Unit) => P true) (rangeI 0 ((expected_160).length : Int)) ()))))) ∧ (true = false → P false))

def w_law_closed (lists_179 : (List (List Int))) (pair_180 : (Int × Int)) (first_181 : Int) (P : (List Int) → Prop) : Prop :=
  (wLet (pair_180.1 + pair_180.2) fun (length_182 : Int) => (wLet ([]) fun (rooms_here_183 : (List Int)) => (wLet first_181 fun (room_185 : Int) => (∃ x186, ixI lists_179 (0 : Int) = some x186 ∧ (JMul ((x186).length : Int) length_182 ∧ ((-(2 ^ 62) ≤ (((x186).length : Int) * length_182) ∧ (((x186).length : Int) * length_182) < 2 ^ 62) ∧ (wFor (fun (index_188 : Int) (s187 : Int × (List Int)) (nxt189 brk190 : (Int × (List Int)) → Prop) => (s187.2.length < 1000000 ∧ (wLet s187.1 fun (y192 : Int) => (w_law_letter (pair_180) (index_188) fun r198 => (∃ x193, ixI lists_179 (if (decide (r198 = ("u" : Str))) then (1 : Int) else 0) = some x193 ∧ (∃ x194, ixI x193 s187.1 = some x194 ∧ (wLet x194 fun (room_195 : Int) => (((decide (room_195 = first_181)) = true → (0 < length_182 ∧ (((decide (((index_188 + (1 : Int)) % length_182) = (0 : Int))) = true → P (s187.2 ++ [y192])) ∧ ((decide (((index_188 + (1 : Int)) % length_182) = (0 : Int))) = false → (nxt189 (room_195, (s187.2 ++ [y192]))))))) ∧ ((decide (room_195 = first_181)) = false → (nxt189 (room_195, (s187.2 ++ [y192])))))))))))) (fun (s187 : Int × (List Int)) => P ([])) (rangeI 0 (((x186).length : Int) * length_182)) (room_185, rooms_here_183))))))))

def w_law_refuses (plan_225 : ((List Int) × (List Int))) (pair_226 : (Int × Int)) (room_227 : Int) (count_228 : Int) (P : Bool → Prop) : Prop :=
  (wCut (P false) fun (R229 : Prop) => (wLet (fun (cc236 : Nat) (pe237 qe238 : Int) => (cc236 = 3 ∧ (w_law_is_number (pe237) fun r242 => ((r242 = true → P (decide (pe237 = room_227))) ∧ (r242 = false → P false))))) fun (N230 : EK) => (w_rooms_passed (plan_225) (pair_226.1) (pair_226.2) (room_227) ((some count_228)) (fun r235 => R229) (fun (c232 : Nat) (p233 q234 : Int) => c232 ∈ ([3, 4] : List Nat) ∧ N230 c232 p233 q234))))

def w_law (script_1 : (List Int)) (P : Bool → Prop) : Prop :=
  (w_law_cell (script_1) ((0 : Int)) fun r281 => (wLet ((1 : Int) + (r281 % (40 : Int))) fun (size_6 : Int) => (wJoin (fun (s7 : Int) => (w_law_cell (script_1) ((1 : Int)) fun r277 => (w_law_order (r277) (s7) fun r276 => (w_law_cell (script_1) ((2 : Int)) fun r279 => (w_law_order (r279) (s7) fun r278 => (([r276, r278] : List (List Int)).length ≤ 1000 ∧ (wLet ([r276, r278]) fun (lists_45 : (List (List Int))) => (w_law_cell (script_1) ((3 : Int)) fun r274 => (w_law_cell (script_1) ((4 : Int)) fun r275 => (w_law_direction (r274) (r275) ((0 : Int)) fun r273 => (wLet r273 fun (pair_62 : (Int × Int)) => (w_law_cell (script_1) ((5 : Int)) fun r271 => (w_law_cell (script_1) ((6 : Int)) fun r272 => (w_law_direction ((r271 % (8 : Int))) ((r272 % (8 : Int))) ((0 : Int)) fun r270 => (wLet r270 fun (short_63 : (Int × Int)) => (w_law_cell (script_1) ((7 : Int)) fun r269 => (0 < s7 ∧ (wLet (r269 % s7) fun (first_64 : Int) => (w_law_cell (script_1) ((8 : Int)) fun r268 => (wLet (r268 % (81 : Int)) fun (count_65 : Int) => (∃ x79, ixI lists_45 (0 : Int) = some x79 ∧ (∃ x80, ixI lists_45 (1 : Int) = some x80 ∧ (w_Plan___init__ (x79) (x80) fun r267 => (wLet r267 fun (plan_81 : ((List Int) × (List Int))) => (w_rooms_passed (plan_81) (pair_62.1) (pair_62.2) (first_64) ((some count_65)) (fun r266 => (wLet r266 fun (found_138 : (List Int)) => (w_law_rooms (lists_45) (pair_62) (first_64) (count_65) fun r265 => (w_law_is_row_l (found_138) (r265) fun r264 => ((r264 = true → (w_rooms_passed (plan_81) (short_63.1) (short_63.2) (first_64) (none : Option Int) (fun r263 => (wLet r263 fun (found_178 : (List Int)) => (w_law_closed (lists_45) (short_63) (first_64) fun r262 => (w_law_is_row_l (found_178) (r262) fun r261 => ((r261 = true → (w_rooms_passed (plan_81) (short_63.1) (short_63.2) (first_64) ((none : Option Int)) (fun r260 => (wLet r260 fun (found_203 : (List Int)) => (w_law_closed (lists_45) (short_63) (first_64) fun r259 => (w_law_is_row_l (found_203) (r259) fun r258 => ((r258 = true → (w_rooms_passed (plan_81) (short_63.1) (short_63.2) (0 : Int) (none : Option Int) (fun r256 => (w_law_closed (lists_45) (short_63) ((0 : Int)) fun r257 => (w_law_is_row_l (r256) (r257) fun r255 => ((r255 = true → (w_rooms_passed (plan_81) (short_63.1) (short_63.2) (0 : Int) ((some count_65)) (fun r254 => (wLet r254 fun (found_215 : (List Int)) => (w_law_rooms (lists_45) (short_63) ((0 : Int)) (count_65) fun r253 => (w_law_is_row_l (found_215) (r253) fun r252 => ((r252 = true → (w_law_cell (script_1) ((9 : Int)) fun r251 => (0 < ((10 : Int) ^ (9 : Int).toNat) ∧ (wLet (r251 % ((10 : Int) ^ (9 : Int).toNat)) fun (beyond_217 : Int) => (([(-(1 : Int)), s7, (s7 + beyond_217), ((-(1 : Int)) - beyond_217)] : List Int).length ≤ 1000 ∧ (wLet ([(-(1 : Int)), s7, (s7 + beyond_217), ((-(1 : Int)) - beyond_217)]) fun (xs219 : List Int) => (wFor (fun (room_221 : Int) (s220 : Unit) (nxt222 brk223 : Unit → Prop) => (w_law_refuses (plan_81) (pair_62) (room_221) (count_65) fun r246 => ((r246 = true → (w_law_refuses (plan_81) (short_63) (room_221) ((0 : Int)) fun r245 => ((r245 = true → (nxt222 ())) ∧ (r245 = false → P false)))) ∧ (r246 = false → P false)))) (fun (s220 : Unit) => (w_rooms_passed (plan_81) (pair_62.1) (pair_62.2) (first_64) ((some (0 : Int))) (fun r250 => (POk.pok (r250 : (List Int)) ∧ POk.pok ([] : (List Int)) ∧ P (decide ((r250 : (List Int)) = [])))) (fun (c247 : Nat) (p248 q249 : Int) => c247 ∈ ([3, 4] : List Nat) ∧ (fun _ _ _ => False) c247 p248 q249))) xs219 ()))))))) ∧ (r252 = false → P false)))))) (fun (c212 : Nat) (p213 q214 : Int) => c212 ∈ ([3, 4] : List Nat) ∧ (fun _ _ _ => False) c212 p213 q214))) ∧ (r255 = false → P false))))) (fun (c208 : Nat) (p209 q210 : Int) => c208 ∈ ([3, 4] : List Nat) ∧ (fun _ _ _ => False) c208 p209 q210))) ∧ (r258 = false → P false)))))) (fun (c200 : Nat) (p201 q202 : Int) => c200 ∈ ([3, 4] : List Nat) ∧ (fun _ _ _ => False) c200 p201 q202))) ∧ (r261 = false → P false)))))) (fun (c175 : Nat) (p176 q177 : Int) => c175 ∈ ([3, 4] : List Nat) ∧ (fun _ _ _ => False) c175 p176 q177))) ∧ (r264 = false → P false)))))) (fun (c135 : Nat) (p136 q137 : Int) => c135 ∈ ([3, 4] : List Nat) ∧ (fun _ _ _ => False) c135 p136 q137)))))))))))))))))))))))))) fun (J8 : Int → Prop) => (w_law_cell (script_1) ((0 : Int)) fun r280 => (((decide (((r280 / (40 : Int)) % (8 : Int)) = (1 : Int))) = true → (wLet (100 : Int) fun (size_10 : Int) => (J8 size_10))) ∧ ((decide (((r280 / (40 : Int)) % (8 : Int)) = (1 : Int))) = false → (J8 size_6)))))))

end Slw

set_option exponentiation.threshold 20000
namespace Slw
open PySem J
/-! sizes -/
theorem log2_lt {n k : Nat} (h : n < 2 ^ k) (hk : 0 < k) : n.log2 < k := by
  by_cases h0 : n = 0
  · subst h0
    exact hk
  · exact (Nat.log2_lt h0).mpr h
def Big : Nat := 4000
theorem mul_ok {x y : Int} (hx : x.natAbs < 2 ^ Big) (hy : y.natAbs < 2 ^ Big) : JMul x y := by
  refine .inr (.inr ?_)
  have h1 := log2_lt hx (by decide)
  have h2 := log2_lt hy (by decide)
  have e : Big = 4000 := rfl
  omega
theorem mul_zero_ok {x : Int} : JMul x 0 := .inr (.inl ⟨by decide, by decide⟩)
theorem div_ok {y : Int} (h0 : 0 < y) (hy : y.natAbs < 2 ^ Big) : JDiv y := by
  refine ⟨h0, ?_⟩
  have h2 := log2_lt hy (by decide)
  have e : Big = 4000 := rfl
  omega
theorem big_of {x y : Int} (h0 : 0 ≤ x) (h : x ≤ y) (hy : y.natAbs < 2 ^ Big) : x.natAbs < 2 ^ Big := by omega
theorem big39 : (10 : Nat) ^ 39 < 2 ^ 130 := by decide
theorem pow39 : ((10 : Int) ^ (39 : Int).toNat) = 1000000000000000000000000000000000000000 := by decide
theorem big_small {x : Int} {k : Nat} (h : x.natAbs < 2 ^ k) (hk : k ≤ Big) : x.natAbs < 2 ^ Big := Nat.lt_of_lt_of_le h (Nat.pow_le_pow_right (by decide) hk)
theorem big_lit {x : Int} (h : x.natAbs ≤ 1000000000000000000000000000000000000000000000000000000000000000000000000000000000000000000000000) : x.natAbs < 2 ^ Big :=
  big_small (k := 400) (Nat.lt_of_le_of_lt h (by decide)) (by decide)
end Slw
namespace Slw
open PySem J
theorem cell_ok {ns : List Int} {k : Int} {P : Int → Prop} (h : 0 ≤ k) (q : ∀ x, P x) : w_law_cell ns k P := by
  unfold w_law_cell
  refine ⟨fun e => ?_, fun _ => q _⟩
  have h1 := of_decide_eq_true e
  have h2 : k.toNat < ns.length := by omega
  refine ⟨ns[k.toNat], ?_, q _⟩
  unfold ixI
  rw [if_pos h, List.getElem?_eq_getElem h2]
end Slw
namespace Slw
open PySem J
theorem rangeI_nat (n : Nat) : rangeI 0 (n : Int) = (List.range' 0 n).map fun (j : Nat) => (j : Int) := by
  unfold rangeI
  rw [List.range_eq_range', show ((n : Int) - 0).toNat = n by omega]
  refine List.map_congr_left fun j _ => ?_
  omega
theorem rangeI_len (n : Nat) : (rangeI 0 (n : Int)).length = n := by
  rw [rangeI_nat, List.length_map, List.length_range']
theorem mem_rangeI {n : Nat} {x : Int} : x ∈ rangeI 0 (n : Int) ↔ 0 ≤ x ∧ x < n := by
  rw [rangeI_nat, List.mem_map]
  constructor
  · rintro ⟨j, hj, rfl⟩
    have := (List.mem_range'_1.mp hj).2
    omega
  · intro ⟨h1, h2⟩
    exact ⟨x.toNat, List.mem_range'_1.mpr ⟨by omega, by omega⟩, by omega⟩
theorem rangeI_nodup (n : Nat) : (rangeI 0 (n : Int)).Nodup := by
  rw [rangeI_nat]
  exact List.Pairwise.map (R := (· ≠ ·)) _ (fun a b h z => h (by omega)) (List.nodup_range' (step := 1) (by decide))
theorem rangeI_get {n i : Nat} (h : i < (rangeI 0 (n : Int)).length) : (rangeI 0 (n : Int))[i] = (i : Int) := by
  simp [rangeI]
theorem wFor_range {σ : Type} {b : Int → σ → (σ → Prop) → (σ → Prop) → Prop} {k : σ → Prop} (n : Nat) (I : Nat → σ → Prop) (hs : ∀ i s (N : σ → Prop), i < n → I i s → (∀ s', I (i + 1) s' → N s') → b (i : Int) s N k) (hk : ∀ s, I n s → k s) (s0 : σ) (h0 : I 0 s0) : wFor b k (rangeI 0 (n : Int)) s0 := by
  rw [rangeI_nat]
  refine wFor_ok (fun r s => ∃ i, i ≤ n ∧ r = (List.range' i (n - i)).map (fun (j : Nat) => (j : Int)) ∧ I i s) ?_ ?_ _ _ ⟨0, Nat.zero_le _, by rw [Nat.sub_zero], h0⟩
  · rintro x r s N ⟨i, hi, e, hI⟩ hN
    cases hm : n - i with
    | zero =>
      rw [hm] at e
      simp at e
    | succ m =>
      rw [hm, List.range'_succ, List.map_cons] at e
      injection e with e1 e2
      subst e1
      refine hs i s N (by omega) hI fun s' h' => hN s' ⟨i + 1, by omega, ?_, h'⟩
      rw [e2, show n - (i + 1) = m by omega]
  · rintro s ⟨i, hi, e, hI⟩
    have : n - i = 0 := by
      cases hm : n - i with
      | zero => rfl
      | succ m =>
        rw [hm, List.range'_succ] at e
        simp at e
    have : i = n := by omega
    subst this
    exact hk s hI
theorem wFor_ix {α σ : Type} {b : α → σ → (σ → Prop) → (σ → Prop) → Prop} {k : σ → Prop} (l : List α) (I : Nat → σ → Prop) (hs : ∀ i (h : i < l.length) s (N : σ → Prop), I i s → (∀ s', I (i + 1) s' → N s') → b l[i] s N k) (hk : ∀ s, I l.length s → k s) (s0 : σ) (h0 : I 0 s0) : wFor b k l s0 := by
  refine wFor_ok (fun r s => ∃ i, i ≤ l.length ∧ r = l.drop i ∧ I i s) ?_ ?_ _ _ ⟨0, Nat.zero_le _, by rw [List.drop_zero], h0⟩
  · rintro x r s N ⟨i, hi, e, hI⟩ hN
    have hlt : i < l.length := by
      apply Classical.byContradiction
      intro q
      rw [List.drop_of_length_le (by omega)] at e
      cases e
    rw [List.drop_eq_getElem_cons hlt] at e
    injection e with e1 e2
    subst e1
    exact hs i hlt s N hI fun s' h' => hN s' ⟨i + 1, hlt, e2, h'⟩
  · rintro s ⟨i, hi, e, hI⟩
    have : i = l.length := by
      apply Classical.byContradiction
      intro q
      rw [List.drop_eq_getElem_cons (by omega)] at e
      cases e
    subst this
    exact hk s hI
/-- items by place -/
theorem ixI_nat {α : Type} {xs : List α} {i : Nat} (h : i < xs.length) : ixI xs (i : Int) = some xs[i] := by
  unfold ixI
  rw [if_pos (by omega), show ((i : Nat) : Int).toNat = i by omega]
  exact List.getElem?_eq_getElem h
theorem ixI_at {α : Type} {xs : List α} {i : Int} (h0 : 0 ≤ i) (h : i.toNat < xs.length) : ixI xs i = some xs[i.toNat] := by
  unfold ixI
  rw [if_pos h0]
  exact List.getElem?_eq_getElem h
theorem ixW_nat {n i : Nat} (h : i < n) : ixW n (i : Int) = some i := by
  unfold ixW
  rw [if_pos ⟨by omega, by omega⟩]
  congr 1
theorem ixW_at {n : Nat} {i : Int} (h0 : 0 ≤ i) (h : i < n) : ixW n i = some i.toNat := by
  unfold ixW
  rw [if_pos ⟨h0, h⟩]
end Slw
namespace Slw
open PySem J
theorem pow18 : ((10 : Int) ^ (18 : Int).toNat) = 1000000000000000000 := by decide
theorem small_mul {x y : Int} (h : x.natAbs < 2 ^ 64) : JMul x y := .inl ⟨by omega, by omega⟩
/-- drawn digits -/
theorem row_ok {c : Int} {n : Nat} {P : List Int → Prop} (hn : n ≤ 100000) (q : ∀ xs, xs.length = n → (∀ x ∈ xs, 0 ≤ x ∧ x < 64) → P xs) : w_law_row c n P := by
  unfold w_law_row
  refine wLet_to (wLet_to ⟨by omega, ?_⟩)
  refine wFor_range n (fun i s => s.2.length = i ∧ ∀ x ∈ s.2, 0 ≤ x ∧ x < 64) ?_ (fun s h => q _ h.1 h.2) _ ⟨rfl, fun x hx => by cases hx⟩
  rintro i ⟨r, xs⟩ N hi ⟨hl, hx⟩ hN
  dsimp only at hl hx ⊢
  have app : ∀ y, 0 ≤ y → y < 64 → ∀ r', N (r', xs ++ [y]) := fun y y0 y1 r' => hN _ ⟨by rw [List.length_append, hl]; rfl, fun x h => by
    rcases List.mem_append.mp h with h | h
    · exact hx x h
    · cases List.mem_singleton.mp h
      exact ⟨y0, y1⟩⟩
  refine ⟨fun _ => ⟨by omega, wLet_to (wLet_to (app _ (Int.emod_nonneg _ (by decide)) (Int.emod_lt_of_pos _ (by decide)) _))⟩, fun _ => wLet_ok fun m hm => ⟨small_mul ?_, wLet_to ⟨by omega, wLet_to (app _ (Int.emod_nonneg _ (by decide)) (Int.emod_lt_of_pos _ (by decide)) _)⟩⟩⟩
  have h1 := Int.emod_nonneg (c * 48271 + ((i : Int) + 1) * 69621) (show (2147483647 : Int) ≠ 0 by decide)
  have h2 := Int.emod_lt_of_pos (c * 48271 + ((i : Int) + 1) * 69621) (show (0 : Int) < 2147483647 by decide)
  omega
theorem perm_pop {l r : List Int} {t : List Int} {k : Nat} {x : Int} (hp : (l ++ r).Perm t) (hx : r[k]? = some x) : ((l ++ [x]) ++ r.eraseIdx k).Perm t := by
  have hk : k < r.length := (List.getElem?_eq_some_iff.mp hx).1
  have e : r = r.take k ++ x :: r.drop (k + 1) := by
    have := List.take_append_drop k r
    rw [List.drop_eq_getElem_cons hk] at this
    rw [List.getElem?_eq_getElem hk] at hx
    have hx' := Option.some.inj hx
    rw [hx'] at this
    exact this.symm
  refine List.Perm.trans ?_ hp
  rw [List.eraseIdx_eq_take_drop_succ, List.append_assoc, List.singleton_append]
  refine List.Perm.append_left l ?_
  have := List.perm_middle (a := x) (l₁ := r.take k) (l₂ := r.drop (k + 1))
  exact this.symm.trans (by rw [← e])
/-- a drawn order -/
theorem order_ok {c : Int} {n : Nat} {P : List Int → Prop} (hn : n ≤ 100000) (q : ∀ xs, xs.Perm (rangeI 0 n) → P xs) : w_law_order c n P := by
  unfold w_law_order
  refine ⟨by omega, wLet_to (wLet_to (row_ok hn fun ds hd _ => wLet_to ?_))⟩
  refine wFor_ok (fun r (s : List Int × List Int) => (s.1 ++ s.2).Perm (rangeI 0 n) ∧ s.2.length = r.length) ?_ ?_ _ _ ⟨by rw [List.nil_append], by rw [rangeI_len, hd]⟩
  · rintro d r ⟨o, pool⟩ N ⟨hp, hl⟩ hN
    dsimp only at hp hl ⊢
    have hpos : 0 < (pool.length : Int) := by rw [hl, List.length_cons]; omega
    have m0 := Int.emod_nonneg d (show (pool.length : Int) ≠ 0 by omega)
    have m1 := Int.emod_lt_of_pos d hpos
    have hk : (d % (pool.length : Int)).toNat < pool.length := by omega
    have tot := hp.length_eq
    rw [List.length_append, rangeI_len] at tot
    refine ⟨hpos, ⟨m0, m1⟩, by omega, by omega, pool[(d % (pool.length : Int)).toNat], List.getElem?_eq_getElem hk, wLet_to (hN _ ⟨perm_pop hp (List.getElem?_eq_getElem hk), ?_⟩)⟩
    rw [List.length_eraseIdx, if_pos hk, hl, List.length_cons]
    rfl
  · rintro ⟨o, pool⟩ ⟨hp, hl⟩
    have e : pool = [] := List.length_eq_zero_iff.mp hl
    subst e
    dsimp only at hp ⊢
    rw [List.append_nil] at hp
    exact q _ hp
end Slw
namespace Slw
open PySem J
theorem take_succ_eq {a e : List Int} {i : Nat} (ha : i < a.length) (he : i < e.length) (h : a.take i = e.take i) (x : a[i] = e[i]) : a.take (i + 1) = e.take (i + 1) := by
  rw [List.take_succ_eq_append_getElem ha, List.take_succ_eq_append_getElem he, h, x]
/-- a tuple against a list -/
theorem isrow_ok {a e : List Int} {P : Bool → Prop} (hl : e.length ≤ 1000000) (w : P (decide (a = e))) : w_law_is_row_l a e P := by
  unfold w_law_is_row_l
  refine ⟨fun _ => ⟨fun z => ?_, fun z => ⟨by omega, ?_⟩⟩, fun z => by cases z⟩
  · have ne : a ≠ e := fun q => by
      subst q
      simp at z
    rw [decide_eq_false ne] at w
    exact w
  · have el : a.length = e.length := by
      have z' : (a.length : Int) = e.length := by simpa using z
      omega
    refine wFor_range e.length (fun i _ => a.take i = e.take i) ?_ (fun _ h => ?_) () (by simp)
    · rintro i ⟨⟩ N hi h hN
      have hi2 : i < a.length := by omega
      refine ⟨a[i], ixI_nat hi2, ⟨fun _ => ⟨fun _ => ⟨a[i], ixI_nat hi2, e[i], ixI_nat hi, fun z => ?_, fun z => ?_⟩, fun z => by cases z⟩, fun z => by cases z⟩⟩
      · have ne : a ≠ e := fun q => by
          subst q
          simp at z
        rw [decide_eq_false ne] at w
        exact w
      · have ex : a[i] = e[i] := by simpa using z
        exact hN () (take_succ_eq hi2 hi h ex)
    · rw [List.take_of_length_le (by omega), List.take_of_length_le (by omega)] at h
      rw [decide_eq_true h] at w
      exact w
end Slw
namespace Slw
open PySem J
/-- the item at a place -/
def gI (xs : List Int) (i : Int) : Int := xs.getD i.toNat 0
theorem gI_ix {xs : List Int} {i : Int} (h0 : 0 ≤ i) (h : i < xs.length) : ixI xs i = some (gI xs i) := by
  rw [ixI_at h0 (by omega)]
  unfold gI
  rw [List.getD_eq_getElem?_getD, List.getElem?_eq_getElem (by omega)]
  rfl
theorem gI_mem {xs : List Int} {i : Int} (h0 : 0 ≤ i) (h : i < xs.length) : gI xs i ∈ xs := by
  unfold gI
  rw [List.getD_eq_getElem?_getD, List.getElem?_eq_getElem (by omega)]
  exact List.getElem_mem _
theorem gI_nat {xs : List Int} {i : Nat} (h : i < xs.length) : gI xs i = xs[i] := by
  unfold gI
  rw [List.getD_eq_getElem?_getD, show ((i : Nat) : Int).toNat = i by omega, List.getElem?_eq_getElem h]
  rfl
theorem orJ_nn (x y : Int) : 0 ≤ orJ x y := by
  unfold orJ
  omega
end Slw
namespace Slw
open PySem J
/-! orbits of a permutation -/
theorem nd_len : ∀ (xs ys : List Int), xs.Nodup → (∀ x ∈ xs, x ∈ ys) → xs.length ≤ ys.length
  | [], _, _, _ => Nat.zero_le _
  | x :: r, ys, hn, h => by
    have hx := h x List.mem_cons_self
    have hn' := List.nodup_cons.mp hn
    have := nd_len r (ys.erase x) hn'.2 fun y hy => (List.mem_erase_of_ne (fun e => hn'.1 (by rw [← e]; exact hy))).mpr (h y (List.mem_cons_of_mem _ hy))
    rw [List.length_erase_of_mem hx] at this
    have hp : 0 < ys.length := List.length_pos_of_mem hx
    rw [List.length_cons]
    omega
structure RT (n : Nat) (e m : List Int) : Prop where
  pe : e.Perm (rangeI 0 n)
  lm : m.length = n
  bm : ∀ x ∈ m, 0 ≤ x ∧ x < 2 ^ n
theorem RT.le {n : Nat} {e m : List Int} (R : RT n e m) : e.length = n := by rw [R.pe.length_eq, rangeI_len]
theorem RT.rng {n : Nat} {e m : List Int} (R : RT n e m) {x : Int} (h0 : 0 ≤ x) (h : x < n) : 0 ≤ gI e x ∧ gI e x < n :=
  mem_rangeI.mp (R.pe.mem_iff.mp (gI_mem h0 (by rw [R.le]; exact h)))
theorem RT.ix {n : Nat} {e m : List Int} (R : RT n e m) {x : Int} (h0 : 0 ≤ x) (h : x < n) : ixI e x = some (gI e x) := gI_ix h0 (by rw [R.le]; exact h)
theorem RT.mx {n : Nat} {e m : List Int} (R : RT n e m) {x : Int} (h0 : 0 ≤ x) (h : x < n) : ixI m x = some (gI m x) := gI_ix h0 (by rw [R.lm]; exact h)
theorem RT.mb {n : Nat} {e m : List Int} (R : RT n e m) {x : Int} (h0 : 0 ≤ x) (h : x < n) : 0 ≤ gI m x ∧ gI m x < 2 ^ n := R.bm _ (gI_mem h0 (by rw [R.lm]; exact h))
theorem RT.inj {n : Nat} {e m : List Int} (R : RT n e m) {x y : Int} (x0 : 0 ≤ x) (x1 : x < n) (y0 : 0 ≤ y) (y1 : y < n) (h : gI e x = gI e y) : x = y := by
  have nd : e.Nodup := R.pe.nodup_iff.mpr (rangeI_nodup n)
  have P := List.pairwise_iff_getElem.mp nd
  have lx : x.toNat < e.length := by rw [R.le]; omega
  have ly : y.toNat < e.length := by rw [R.le]; omega
  have ex : gI e x = e[x.toNat] := by
    have := gI_nat lx
    rw [show ((x.toNat : Nat) : Int) = x by omega] at this
    exact this
  have ey : gI e y = e[y.toNat] := by
    have := gI_nat ly
    rw [show ((y.toNat : Nat) : Int) = y by omega] at this
    exact this
  rw [ex, ey] at h
  rcases Nat.lt_trichotomy x.toNat y.toNat with q | q | q
  · exact absurd h (P _ _ lx ly q)
  · omega
  · exact absurd h.symm (P _ _ ly lx q)
def it (e : List Int) (s : Int) : Nat → Int
  | 0 => s
  | k + 1 => gI e (it e s k)
theorem RT.it {n : Nat} {e m : List Int} (R : RT n e m) {s : Int} (s0 : 0 ≤ s) (s1 : s < n) : ∀ j, 0 ≤ Slw.it e s j ∧ Slw.it e s j < n
  | 0 => ⟨s0, s1⟩
  | j + 1 => R.rng (RT.it R s0 s1 j).1 (RT.it R s0 s1 j).2
theorem RT.back {n : Nat} {e m : List Int} (R : RT n e m) {s : Int} (s0 : 0 ≤ s) (s1 : s < n) (d : Nat) : ∀ i, Slw.it e s (i + d) = Slw.it e s i → Slw.it e s d = s
  | 0, h => by
    rw [Nat.zero_add] at h
    exact h
  | i + 1, h => by
    rw [show i + 1 + d = (i + d) + 1 by omega] at h
    exact RT.back R s0 s1 d i (R.inj (R.it s0 s1 _).1 (R.it s0 s1 _).2 (R.it s0 s1 _).1 (R.it s0 s1 _).2 h)
theorem it_add (e : List Int) (s : Int) (i : Nat) : ∀ d, it e s (i + d) = it e (it e s i) d
  | 0 => rfl
  | d + 1 => by
    rw [show i + (d + 1) = (i + d) + 1 by omega]
    show gI e (it e s (i + d)) = gI e (it e (it e s i) d)
    rw [it_add e s i d]
def orb (e : List Int) (s : Int) (k : Nat) : List Int := (List.range k).map (it e s)
theorem orb_succ (e : List Int) (s : Int) (k : Nat) : orb e s (k + 1) = orb e s k ++ [it e s k] := by
  unfold orb
  rw [List.range_succ, List.map_append]
  rfl
theorem orb_len (e : List Int) (s : Int) (k : Nat) : (orb e s k).length = k := by
  unfold orb
  rw [List.length_map, List.length_range]
theorem orb_get {e : List Int} {s : Int} {k i : Nat} (h : i < (orb e s k).length) : (orb e s k)[i] = it e s i := by
  simp [orb]
theorem mem_orb {e : List Int} {s : Int} {k : Nat} {x : Int} : x ∈ orb e s k ↔ ∃ j, j < k ∧ it e s j = x := by
  unfold orb
  rw [List.mem_map]
  constructor
  · rintro ⟨j, h, r⟩
    exact ⟨j, List.mem_range.mp h, r⟩
  · rintro ⟨j, h, r⟩
    exact ⟨j, List.mem_range.mpr h, r⟩
def IsPer (e : List Int) (s : Int) (n k : Nat) : Prop := 1 ≤ k ∧ k ≤ n ∧ it e s k = s ∧ ∀ j, 0 < j → j < k → it e s j ≠ s
theorem RT.nd {n : Nat} {e m : List Int} (R : RT n e m) {s : Int} (s0 : 0 ≤ s) (s1 : s < n) {k : Nat} (h : ∀ j, 0 < j → j < k → Slw.it e s j ≠ s) : (orb e s k).Nodup := by
  refine List.pairwise_iff_getElem.mpr fun i j hi hj hij => ?_
  rw [orb_get, orb_get]
  rw [orb_len] at hi hj
  intro q
  refine h (j - i) (by omega) (by omega) (R.back s0 s1 (j - i) i ?_)
  rw [show i + (j - i) = j by omega]
  exact q.symm
theorem RT.per {n : Nat} {e m : List Int} (R : RT n e m) {s : Int} (s0 : 0 ≤ s) (s1 : s < n) : ∃ k, IsPer e s n k := by
  apply Classical.byContradiction
  intro no
  have all : ∀ j, 0 < j → j < n + 1 → Slw.it e s j ≠ s := by
    intro j
    induction j using Nat.strongRecOn with
    | ind j ih =>
      intro h0 h1 q
      exact no ⟨j, h0, by omega, q, fun i i0 i1 => ih i i1 i0 (by omega)⟩
  have := nd_len (orb e s (n + 1)) (rangeI 0 n) (R.nd s0 s1 all) fun x hx => by
    obtain ⟨j, _, rfl⟩ := mem_orb.mp hx
    exact mem_rangeI.mpr (R.it s0 s1 j)
  rw [orb_len, rangeI_len] at this
  omega
noncomputable def per (e : List Int) (n : Nat) (s : Int) : Nat := open Classical in if h : ∃ k, IsPer e s n k then Classical.choose h else 1
theorem RT.isPer {n : Nat} {e m : List Int} (R : RT n e m) {s : Int} (s0 : 0 ≤ s) (s1 : s < n) : IsPer e s n (Slw.per e n s) := by
  unfold Slw.per
  rw [dif_pos (R.per s0 s1)]
  exact Classical.choose_spec (R.per s0 s1)
/-- the ring of a start -/
noncomputable def rg (e : List Int) (n : Nat) (s : Int) : List Int := orb e s (per e n s)
def Cl (e D : List Int) : Prop := ∀ x ∈ D, gI e x ∈ D
theorem RT.rgCl {n : Nat} {e m : List Int} (R : RT n e m) {s : Int} (s0 : 0 ≤ s) (s1 : s < n) : Cl e (rg e n s) := by
  intro x hx
  obtain ⟨j, hj, rfl⟩ := mem_orb.mp hx
  obtain ⟨p1, p2, p3, _⟩ := R.isPer s0 s1
  by_cases h : j + 1 < Slw.per e n s
  · exact mem_orb.mpr ⟨j + 1, h, rfl⟩
  · have e1 : j + 1 = Slw.per e n s := by omega
    refine mem_orb.mpr ⟨0, by omega, ?_⟩
    show s = Slw.it e s (j + 1)
    rw [e1, p3]
theorem RT.rgNd {n : Nat} {e m : List Int} (R : RT n e m) {s : Int} (s0 : 0 ≤ s) (s1 : s < n) : (rg e n s).Nodup := R.nd s0 s1 (R.isPer s0 s1).2.2.2
theorem RT.inRg {n : Nat} {e m : List Int} (R : RT n e m) {s : Int} (s0 : 0 ≤ s) (s1 : s < n) : ∀ j, Slw.it e s j ∈ rg e n s
  | 0 => mem_orb.mpr ⟨0, (R.isPer s0 s1).1, rfl⟩
  | j + 1 => R.rgCl s0 s1 _ (RT.inRg R s0 s1 j)
theorem Cl.it {e D : List Int} (h : Cl e D) {x : Int} (hx : x ∈ D) : ∀ j, Slw.it e x j ∈ D
  | 0 => hx
  | j + 1 => h _ (Cl.it h hx j)
/-- a start that is not placed: none of its ring is -/
theorem RT.off {n : Nat} {e m : List Int} (R : RT n e m) {s : Int} (s0 : 0 ≤ s) (s1 : s < n) {D : List Int} (h : Cl e D) (hs : ¬ s ∈ D) : ∀ x ∈ rg e n s, ¬ x ∈ D := by
  intro x hx hd
  obtain ⟨j, hj, rfl⟩ := mem_orb.mp hx
  obtain ⟨p1, p2, p3, _⟩ := R.isPer s0 s1
  have := h.it hd (Slw.per e n s - j)
  rw [← it_add, show j + (Slw.per e n s - j) = Slw.per e n s by omega, p3] at this
  exact hs this
theorem RT.rgIn {n : Nat} {e m : List Int} (R : RT n e m) {s : Int} (s0 : 0 ≤ s) (s1 : s < n) : ∀ x ∈ rg e n s, 0 ≤ x ∧ x < n := fun x hx => by
  obtain ⟨j, _, rfl⟩ := mem_orb.mp hx
  exact R.it s0 s1 j
theorem nodup_app {D X : List Int} (h1 : D.Nodup) (h2 : X.Nodup) (h : ∀ x ∈ X, ¬ x ∈ D) : (D ++ X).Nodup :=
  List.nodup_append.mpr ⟨h1, h2, fun a ha b hb q => h b hb (by rw [← q]; exact ha)⟩
/-- the mark of rooms -/
def mkO (m xs : List Int) : Int := xs.foldl (fun a r => orJ a (gI m r)) 0
theorem mkO_app (m xs : List Int) (x : Int) : mkO m (xs ++ [x]) = orJ (mkO m xs) (gI m x) := by
  unfold mkO
  rw [List.foldl_append]
  rfl
theorem mkO_bnd {n : Nat} {m : List Int} : ∀ (k : Nat) (xs : List Int), xs.length = k → (∀ x ∈ xs, gI m x < 2 ^ n) → 0 ≤ mkO m xs ∧ mkO m xs < 2 ^ n
  | 0, xs, hl, _ => by
    have e : xs = [] := List.length_eq_zero_iff.mp hl
    subst e
    exact ⟨Int.le_refl _, Int.pow_pos (by decide)⟩
  | k + 1, xs, hl, h => by
    obtain ⟨ys, y, rfl⟩ : ∃ ys y, xs = ys ++ [y] := ⟨xs.dropLast, xs.getLast (fun z => by rw [z] at hl; cases hl), (List.dropLast_concat_getLast _).symm⟩
    rw [List.length_append] at hl
    have b := mkO_bnd k ys (by simpa using hl) fun x hx => h x (List.mem_append_left _ hx)
    have b2 := h y (by simp)
    rw [mkO_app]
    have P : ((2 : Int) ^ n) = ((2 ^ n : Nat) : Int) := by norm_cast
    rw [P] at b b2 ⊢
    unfold orJ
    have := Nat.or_lt_two_pow (x := (mkO m ys).toNat) (y := (gI m y).toNat) (n := n) (by omega) (by
      have : 0 < 2 ^ n := Nat.two_pow_pos n
      omega)
    exact ⟨by omega, by omega⟩
def bitP (mark k : Int) : Bool := decide ((andJ (mark / 2 ^ (k).toNat) (1 : Int)) = (1 : Int))
def roomsJ (n : Nat) (mark : Int) : List Int := (rangeI 0 n).filter (bitP mark)
theorem bitP_hi {b : Nat} {mark : Int} (h0 : 0 ≤ mark) (h : mark < 2 ^ b) {k : Nat} (hk : b ≤ k) : bitP mark k = false := by
  unfold bitP
  rw [show ((k : Nat) : Int).toNat = k by omega]
  have : mark / 2 ^ k = 0 := Int.ediv_eq_zero_of_lt h0 (Int.lt_of_lt_of_le h (by
    have := Nat.pow_le_pow_right (show 0 < 2 by decide) hk
    have P : ∀ n : Nat, ((2 : Int) ^ n) = ((2 ^ n : Nat) : Int) := fun n => by norm_cast
    rw [P, P]
    omega))
  rw [this]
  decide
theorem roomsJ_eq {b n : Nat} {mark : Int} (h0 : 0 ≤ mark) (h : mark < 2 ^ b) (hb : b ≤ n) : roomsJ b mark = roomsJ n mark := by
  unfold roomsJ
  have e : rangeI 0 (n : Int) = rangeI 0 (b : Int) ++ (List.range' b (n - b)).map fun (j : Nat) => (j : Int) := by
    rw [rangeI_nat, rangeI_nat, ← List.map_append]
    congr 1
    have := (List.range'_append (s := 0) (m := b) (n := n - b) (step := 1)).symm
    rw [Nat.one_mul, Nat.zero_add, show b + (n - b) = n by omega] at this
    exact this
  rw [e, List.filter_append]
  refine (List.append_nil _).symm.trans (congrArg _ (Eq.symm (List.filter_eq_nil_iff.mpr ?_)))
  intro x hx
  obtain ⟨j, hj, rfl⟩ := List.mem_map.mp hx
  have := (List.mem_range'_1.mp hj).1
  rw [bitP_hi h0 h this]
  decide
end Slw
namespace Slw
open PySem J
abbrev Pl := List Int × List Int
theorem perm_rt {n : Nat} {e : List Int} (h : e.Perm (rangeI 0 n)) : RT n e (List.replicate n 0) :=
  ⟨h, List.length_replicate, fun x hx => by
    rw [List.eq_of_mem_replicate hx]
    exact ⟨Int.le_refl _, Int.pow_pos (by decide)⟩⟩
structure IsPl (n : Nat) (t : Pl) : Prop where
  r : t.1.Perm (rangeI 0 n)
  a : t.2.Perm (rangeI 0 n)
theorem rangeI_le (n : Nat) : (rangeI 0 (n : Int)).Pairwise (· ≤ ·) := by
  rw [rangeI_nat]
  exact List.Pairwise.map (R := (· < ·)) _ (fun a b h => by omega) (List.pairwise_lt_range' (step := 1))
theorem sorted_is {n : Nat} {xs ys : List Int} (h : xs.Perm (rangeI 0 n)) (p : ys.Perm xs) (s : ys.Pairwise (· ≤ ·)) : ys = rangeI 0 n :=
  List.Perm.eq_of_pairwise (le := (· ≤ ·)) (fun a b _ _ h1 h2 => Int.le_antisymm h1 h2) s (rangeI_le n) (p.trans h)
theorem pokI (x : List Int) : POk.pok x := fun _ _ => trivial
/-! the inverse of an order -/
structure IsInv (n : Nat) (xs r : List Int) : Prop where
  l : r.length = n
  g : ∀ j : Nat, j < n → gI r (gI xs j) = j
theorem perm_gI {n : Nat} {xs : List Int} (h : xs.Perm (rangeI 0 n)) {j : Nat} (hj : j < n) : 0 ≤ gI xs j ∧ gI xs j < n :=
  (perm_rt h).rng (by omega) (by omega)
theorem perm_hit {n : Nat} {xs : List Int} (h : xs.Perm (rangeI 0 n)) {i : Nat} (hi : i < n) : ∃ j : Nat, j < n ∧ gI xs j = i := by
  have hm : (i : Int) ∈ xs := h.mem_iff.mpr (mem_rangeI.mpr ⟨by omega, by omega⟩)
  obtain ⟨j, hj, e⟩ := List.getElem_of_mem hm
  exact ⟨j, by have := h.length_eq; rw [rangeI_len] at this; omega, by rw [gI_nat hj, e]⟩
theorem IsInv.uniq {n : Nat} {xs r r2 : List Int} (h : xs.Perm (rangeI 0 n)) (a : IsInv n xs r) (b : IsInv n xs r2) : r = r2 := by
  refine List.ext_getElem (by rw [a.l, b.l]) fun i i1 i2 => ?_
  obtain ⟨j, hj, e⟩ := perm_hit h (show i < n by rw [← a.l]; exact i1)
  have e1 := a.g j hj
  have e2 := b.g j hj
  rw [e, gI_nat i1] at e1
  rw [e, gI_nat i2] at e2
  rw [e1, e2]
theorem IsInv.back {n : Nat} {xs r : List Int} (h : xs.Perm (rangeI 0 n)) (a : IsInv n xs r) : IsInv n r xs := by
  refine ⟨by have := h.length_eq; rw [rangeI_len] at this; exact this, fun i hi => ?_⟩
  obtain ⟨j, hj, e⟩ := perm_hit h hi
  have e1 := a.g j hj
  rw [e] at e1
  rw [e1, e]
theorem IsInv.perm {n : Nat} {xs r : List Int} (h : xs.Perm (rangeI 0 n)) (a : IsInv n xs r) : r.Perm (rangeI 0 n) := by
  have ge : ∀ i (hi : i < r.length), ∃ j : Nat, j < n ∧ gI xs j = i ∧ r[i] = j := fun i hi => by
    obtain ⟨j, hj, e⟩ := perm_hit h (show i < n by rw [← a.l]; exact hi)
    have e1 := a.g j hj
    rw [e, gI_nat hi] at e1
    exact ⟨j, hj, e, e1⟩
  refine (List.perm_ext_iff_of_nodup (List.pairwise_iff_getElem.mpr fun i j hi hj hij q => ?_) (rangeI_nodup n)).mpr fun x => ⟨fun hx => ?_, fun hx => ?_⟩
  · obtain ⟨a1, _, b1, c1⟩ := ge i hi
    obtain ⟨a2, _, b2, c2⟩ := ge j hj
    rw [c1, c2] at q
    have : a1 = a2 := by omega
    subst this
    omega
  · obtain ⟨i, hi, e⟩ := List.getElem_of_mem hx
    obtain ⟨j, hj, _, c⟩ := ge i hi
    rw [← e, c]
    exact mem_rangeI.mpr ⟨by omega, by omega⟩
  · have := mem_rangeI.mp hx
    have e1 := a.g x.toNat (by omega)
    have b := perm_gI h (show x.toNat < n by omega)
    rw [show ((x.toNat : Nat) : Int) = x by omega] at e1 b
    rw [← e1]
    exact gI_mem b.1 (by rw [a.l]; exact b.2)
theorem gI_set {xs : List Int} {m : Nat} {v : Int} {i : Int} (hi : 0 ≤ i) (hm : m < xs.length) : gI (xs.set m v) i = if i.toNat = m then v else gI xs i := by
  unfold gI
  rw [List.getD_eq_getElem?_getD, List.getD_eq_getElem?_getD]
  split
  · rename_i e
    rw [e, List.getElem?_set_self hm]
    rfl
  · rename_i e
    rw [List.getElem?_set_ne (fun z => e z.symm)]
/-- one store more -/
theorem inv_step {n i : Nat} {xs s : List Int} (h : xs.Perm (rangeI 0 n)) (hi : i < n) (hl : s.length = n) (hg : ∀ j : Nat, j < i → gI s (gI xs j) = j) : (s.set (gI xs i).toNat (i : Int)).length = n ∧ ∀ j : Nat, j < i + 1 → gI (s.set (gI xs i).toNat (i : Int)) (gI xs j) = j := by
  have bi := perm_gI h hi
  refine ⟨by rw [List.length_set]; exact hl, fun j hj => ?_⟩
  have bj := perm_gI h (show j < n by omega)
  rw [gI_set bj.1 (by omega)]
  by_cases q : j = i
  · subst q
    rw [if_pos rfl]
  · rw [if_neg fun z => q ?_]
    · exact hg j (by omega)
    · have := (perm_rt h).inj (x := (j : Int)) (y := (i : Int)) (by omega) (by omega) (by omega) (by omega) (by omega)
      omega
end Slw
namespace Slw
open PySem J
theorem is_order_ok {n : Nat} {xs : List Int} {P : Bool → Prop} (hn : n ≤ 1000) (h : xs.Perm (rangeI 0 n)) (w : P true) : w_is_order xs n P := by
  unfold w_is_order
  intro ys p s
  have e := sorted_is h p s
  subst e
  refine ⟨by omega, pokI _, pokI _, ?_⟩
  rw [decide_eq_true rfl]
  exact w
theorem init_pl {n : Nat} {a b : List Int} {P : Pl → Prop} (h1 : 1 ≤ n) (h2 : n ≤ 100) (ha : a.Perm (rangeI 0 n)) (hb : b.Perm (rangeI 0 n)) (w : P (a, b)) : w_Plan___init__ a b P := by
  unfold w_Plan___init__
  have la : a.length = n := by have := ha.length_eq; rw [rangeI_len] at this; exact this
  rw [la]
  refine wLet_to ⟨fun _ => ⟨fun _ => is_order_ok (by omega) ha ⟨fun _ => is_order_ok (by omega) hb ⟨fun _ => wLet_to (wLet_to w), fun z => by cases z⟩, fun z => by cases z⟩, fun z => ?_⟩, fun z => ?_⟩
  · have := of_decide_eq_false z
    omega
  · have := of_decide_eq_false z
    omega
end Slw
namespace Slw
open PySem J
/-- an order's numbers moved by an order -/
structure IsMv (n : Nat) (o xs r : List Int) : Prop where
  l : r.length = n
  g : ∀ j : Nat, j < n → gI r (gI o j) = gI o (gI xs j)
theorem perm_len {n : Nat} {xs : List Int} (h : xs.Perm (rangeI 0 n)) : xs.length = n := by
  have := h.length_eq
  rw [rangeI_len] at this
  exact this
theorem perm_inj {n : Nat} {xs : List Int} (h : xs.Perm (rangeI 0 n)) {i j : Nat} (hi : i < n) (hj : j < n) (e : gI xs i = gI xs j) : i = j := by
  have := (perm_rt h).inj (x := (i : Int)) (y := (j : Int)) (by omega) (by omega) (by omega) (by omega) e
  omega
theorem perm_nat {n : Nat} {xs : List Int} (h : xs.Perm (rangeI 0 n)) {j : Nat} (hj : j < n) : ∃ k : Nat, k < n ∧ gI xs j = k := by
  have := perm_gI h hj
  exact ⟨(gI xs j).toNat, by omega, by omega⟩
theorem gstep {n i : Nat} {o s : List Int} {f : Nat → Int} (h : o.Perm (rangeI 0 n)) (hi : i < n) (hl : s.length = n) (hg : ∀ j : Nat, j < i → gI s (gI o j) = f j) : (s.set (gI o i).toNat (f i)).length = n ∧ ∀ j : Nat, j < i + 1 → gI (s.set (gI o i).toNat (f i)) (gI o j) = f j := by
  have bi := perm_gI h hi
  refine ⟨by rw [List.length_set]; exact hl, fun j hj => ?_⟩
  have bj := perm_gI h (show j < n by omega)
  rw [gI_set bj.1 (by omega)]
  by_cases q : j = i
  · subst q
    rw [if_pos rfl]
  · rw [if_neg fun z => q (perm_inj h (by omega) hi (by omega))]
    exact hg j (by omega)
theorem same_at {n : Nat} {o r r2 : List Int} (h : o.Perm (rangeI 0 n)) (l1 : r.length = n) (l2 : r2.length = n) (g : ∀ j : Nat, j < n → gI r (gI o j) = gI r2 (gI o j)) : r = r2 := by
  refine List.ext_getElem (by rw [l1, l2]) fun i i1 i2 => ?_
  obtain ⟨j, hj, e⟩ := perm_hit h (show i < n by rw [← l1]; exact i1)
  have := g j hj
  rw [e, gI_nat i1, gI_nat i2] at this
  exact this
theorem IsMv.uniq {n : Nat} {o xs r r2 : List Int} (h : o.Perm (rangeI 0 n)) (a : IsMv n o xs r) (b : IsMv n o xs r2) : r = r2 :=
  same_at h a.l b.l fun j hj => by rw [a.g j hj, b.g j hj]
theorem IsMv.perm {n : Nat} {o xs r : List Int} (h : o.Perm (rangeI 0 n)) (hx : xs.Perm (rangeI 0 n)) (a : IsMv n o xs r) : r.Perm (rangeI 0 n) := by
  have ge : ∀ i (hi : i < r.length), ∃ j : Nat, j < n ∧ gI o j = i ∧ r[i] = gI o (gI xs j) := fun i hi => by
    obtain ⟨j, hj, e⟩ := perm_hit h (show i < n by rw [← a.l]; exact hi)
    have e1 := a.g j hj
    rw [e, gI_nat hi] at e1
    exact ⟨j, hj, e, e1⟩
  refine (List.perm_ext_iff_of_nodup (List.pairwise_iff_getElem.mpr fun i j hi hj hij q => ?_) (rangeI_nodup n)).mpr fun x => ⟨fun hx' => ?_, fun hx' => ?_⟩
  · obtain ⟨a1, h1, b1, c1⟩ := ge i hi
    obtain ⟨a2, h2, b2, c2⟩ := ge j hj
    rw [c1, c2] at q
    obtain ⟨u1, v1, w1⟩ := perm_nat hx h1
    obtain ⟨u2, v2, w2⟩ := perm_nat hx h2
    rw [w1, w2] at q
    have e := perm_inj h v1 v2 q
    subst e
    have e2 := perm_inj hx h1 h2 (by rw [w1, w2])
    subst e2
    omega
  · obtain ⟨i, hi, e⟩ := List.getElem_of_mem hx'
    obtain ⟨j, hj, _, c⟩ := ge i hi
    obtain ⟨u, v, w⟩ := perm_nat hx hj
    have b := perm_gI h v
    rw [← e, c, w]
    exact mem_rangeI.mpr b
  · have b := mem_rangeI.mp hx'
    obtain ⟨t, ht, et⟩ := perm_hit h (show x.toNat < n by omega)
    obtain ⟨j, hj, ej⟩ := perm_hit hx ht
    have e1 := a.g j hj
    rw [ej, et, show ((x.toNat : Nat) : Int) = x by omega] at e1
    have c := perm_gI h hj
    rw [← e1]
    exact gI_mem c.1 (by rw [a.l]; exact c.2)
/-- the inverse order leads back -/
theorem IsMv.back {n : Nat} {o b xs r r' : List Int} (h : o.Perm (rangeI 0 n)) (hx : xs.Perm (rangeI 0 n)) (hb : IsInv n o b) (a : IsMv n o xs r) (c : IsMv n b r r') : r' = xs := by
  have pb := hb.perm h
  refine same_at (o := b) pb c.l (perm_len hx) fun i hi => ?_
  rw [c.g i hi]
  obtain ⟨k, hk, e⟩ := perm_hit h hi
  obtain ⟨u, hu, eu⟩ := perm_nat hx hk
  have e1 := a.g k hk
  have e2 := hb.g k hk
  have e3 := hb.g u hu
  rw [e] at e1 e2
  rw [e1, e2, eu, e3]
theorem IsMv.range {n : Nat} {xs r : List Int} (hx : xs.Perm (rangeI 0 n)) (a : IsMv n (rangeI 0 n) xs r) : r = xs := by
  refine same_at (o := rangeI 0 (n : Int)) (List.Perm.refl _) a.l (perm_len hx) fun i hi => ?_
  have g : ∀ j : Nat, j < n → gI (rangeI 0 (n : Int)) j = j := fun j hj => by
    have : j < (rangeI 0 (n : Int)).length := by rw [rangeI_len]; exact hj
    rw [gI_nat this, rangeI_get]
  rw [a.g i hi]
  obtain ⟨u, hu, eu⟩ := perm_nat hx hi
  rw [eu, g u hu, g i hi, eu]
/-- one item changed: no order any more -/
theorem set_no {n k : Nat} {o : List Int} {v : Int} (h : o.Perm (rangeI 0 n)) (hk : k < n) (hv : v ≠ gI o k) : ¬ (o.set k v).Perm (rangeI 0 n) := by
  intro q
  have lo := perm_len h
  have ls : (o.set k v).length = n := by rw [List.length_set]; exact lo
  have bk := perm_gI h hk
  obtain ⟨j, hj, e⟩ := perm_hit q (show (gI o k).toNat < n by omega)
  rw [gI_set (by omega) (by omega), show (((gI o k).toNat : Nat) : Int) = gI o k by omega] at e
  split at e
  · exact hv e
  · rename_i ne
    have := perm_inj h hj hk e
    omega
theorem mod_ne {n : Int} {u d : Int} (u0 : 0 ≤ u) (u1 : u < n) (d0 : 0 ≤ d) (d1 : d < n) : (u + 1 + d) % (n + 1) ≠ u := by
  intro e
  have h := Int.mul_ediv_add_emod (u + 1 + d) (n + 1)
  rw [e] at h
  have q0 : 0 ≤ (u + 1 + d) / (n + 1) := Int.ediv_nonneg (by omega) (by omega)
  have q1 : (u + 1 + d) / (n + 1) < 2 := Int.ediv_lt_of_lt_mul (by omega) (by omega)
  rcases (by omega : (u + 1 + d) / (n + 1) = 0 ∨ (u + 1 + d) / (n + 1) = 1) with z | z
  · rw [z, Int.mul_zero] at h
    omega
  · rw [z, Int.mul_one] at h
    omega
end Slw
namespace Slw
open PySem J
theorem rangeI_sum (n m : Nat) : rangeI 0 ((n + m : Nat) : Int) = rangeI 0 (n : Int) ++ (rangeI 0 (m : Int)).map (fun x => x + (n : Int)) := by
  refine List.ext_getElem (by rw [List.length_append, List.length_map, rangeI_len, rangeI_len, rangeI_len]) fun i h1 h2 => ?_
  rw [rangeI_get h1, List.getElem_append]
  split
  · rename_i h
    rw [rangeI_get h]
  · rename_i h
    rw [rangeI_len] at h
    rw [List.getElem_map, rangeI_get]
    have e : (rangeI 0 (n : Int)).length = n := rangeI_len n
    omega
theorem gI_all {n : Nat} {r : List Int} (hr : r.length = n) : (rangeI 0 (n : Int)).map (gI r) = r := by
  refine List.ext_getElem (by rw [List.length_map, rangeI_len, hr]) fun i h1 h2 => ?_
  rw [List.getElem_map, rangeI_get, gI_nat h2]
/-- a list of sides laid side by side, t times -/
theorem tile_perm {n : Nat} {r : List Int} (hn : 0 < n) (hr : r.Perm (rangeI 0 n)) : ∀ t : Nat, ((rangeI 0 ((t * n : Nat) : Int)).map fun k => (n : Int) * (k / n) + gI r (k % n)).Perm (rangeI 0 ((t * n : Nat) : Int))
  | 0 => by
    rw [Nat.zero_mul]
    exact List.Perm.refl _
  | t + 1 => by
    have e : (t + 1) * n = t * n + n := Nat.succ_mul t n
    have hl : r.length = n := by rw [hr.length_eq, rangeI_len]
    rw [e, rangeI_sum, List.map_append]
    refine List.Perm.append (tile_perm hn hr t) ?_
    rw [List.map_map]
    have e2 : (rangeI 0 (n : Int)).map ((fun k => (n : Int) * (k / n) + gI r (k % n)) ∘ fun x => x + ((t * n : Nat) : Int)) = ((rangeI 0 (n : Int)).map (gI r)).map fun x => x + ((t * n : Nat) : Int) := by
      rw [List.map_map]
      refine List.map_congr_left fun x hx => ?_
      obtain ⟨x0, x1⟩ := mem_rangeI.mp hx
      show (n : Int) * ((x + ((t * n : Nat) : Int)) / n) + gI r ((x + ((t * n : Nat) : Int)) % n) = gI r x + ((t * n : Nat) : Int)
      have h1 : ((t * n : Nat) : Int) = (t : Int) * n := by push_cast; rfl
      rw [h1, Int.add_mul_ediv_right _ _ (by omega), Int.add_mul_emod_self_right, Int.ediv_eq_zero_of_lt x0 x1, Int.emod_eq_of_lt x0 x1, Int.zero_add, Int.mul_comm]
      omega
    rw [e2, gI_all hl]
    exact hr.map _
end Slw
namespace Slw
theorem size_of {c m : Int} {lo : Int} (hm : 0 < m) (h0 : 0 ≤ lo) : ∃ n : Nat, lo + c % m = (n : Int) ∧ lo ≤ n ∧ (n : Int) < lo + m := by
  have h1 := Int.emod_nonneg c (show m ≠ 0 by omega)
  have h2 := Int.emod_lt_of_pos c hm
  exact ⟨(lo + c % m).toNat, by omega, by omega, by omega⟩
end Slw
namespace Slw
open PySem J
theorem check_ok {p q : Int} {N : EK} {P : Unit → Prop} (hp : 0 ≤ p) (hq : 0 ≤ q) (hg : Int.gcd p q = 1) (k : P ()) : w_check_direction_x p q P N := by
  unfold w_check_direction_x
  refine ⟨fun e => ?_, fun _ => ⟨fun e => ?_, fun _ => ⟨fun e => ?_, fun _ => k⟩⟩⟩
  · have := of_decide_eq_true e; omega
  · have := of_decide_eq_true e; omega
  · have h : ((Nat.gcd p.natAbs q.natAbs : Nat) : Int) = 1 := by
      have h2 : Nat.gcd p.natAbs q.natAbs = 1 := hg
      rw [h2]; rfl
    rw [h] at e
    exact absurd e (by decide)
end Slw
namespace Slw
open PySem J
theorem gcd_step (a b : Int) (ha : 0 ≤ a) (hb : 0 < b) : Int.gcd b (a % b) = Int.gcd a b := by
  have h0 : 0 ≤ a % b := Int.emod_nonneg _ (by omega)
  unfold Int.gcd
  rw [Int.natAbs_emod_of_nonneg ha, Nat.gcd_comm, ← Nat.gcd_rec, Nat.gcd_comm]
/-- a drawn direction -/
theorem dir_ok {one two least : Int} {P : Int × Int → Prop} (h0 : 0 ≤ least) (h1 : least ≤ 1)
    (q : ∀ p q, least ≤ p → least ≤ q → p ≤ 10 ^ 39 → q ≤ 10 ^ 39 → Int.gcd p q = 1 → P (p, q)) : w_law_direction one two least P := by
  unfold w_law_direction
  rw [pow39]
  have m1 := Int.emod_nonneg one (show (1000000000000000000000000000000000000000 : Int) ≠ 0 by decide)
  have m2 := Int.emod_lt_of_pos one (show (0 : Int) < 1000000000000000000000000000000000000000 by decide)
  have n1 := Int.emod_nonneg two (show (1000000000000000000000000000000000000000 : Int) ≠ 0 by decide)
  have n2 := Int.emod_lt_of_pos two (show (0 : Int) < 1000000000000000000000000000000000000000 by decide)
  have e39 : (10 : Int) ^ 39 = 1000000000000000000000000000000000000000 := by decide
  refine ⟨by decide, wLet_ok fun p0 hp => ⟨by decide, wLet_ok fun q0 hq => wLet_to (wLet_to ?_)⟩⟩
  have p1 : least ≤ p0 := by omega
  have p2 : p0 ≤ 10 ^ 39 := by omega
  have q1 : least ≤ q0 := by omega
  have q2 : q0 ≤ 10 ^ 39 := by omega
  refine ⟨fun s => 0 ≤ s.1 ∧ 0 ≤ s.2 ∧ s.1 ≤ 10 ^ 39 ∧ s.2 ≤ 10 ^ 39 ∧ Int.gcd s.1 s.2 = Int.gcd p0 q0, fun s => s.2.toNat, ⟨by show 0 ≤ p0; omega, by show 0 ≤ q0; omega, p2, q2, rfl⟩, ?_⟩
  rintro ⟨c, r⟩ ⟨c0, r0, c1, r1, hg⟩
  dsimp only at c0 r0 c1 r1 hg ⊢
  refine ⟨fun e => ?_, fun e => ?_⟩
  · have hr := of_decide_eq_true e
    have l := Int.emod_lt_of_pos c hr
    have l0 := Int.emod_nonneg c (show r ≠ 0 by omega)
    exact ⟨hr, ⟨r0, l0, r1, by omega, by rw [gcd_step c r c0 hr, hg]⟩, by omega⟩
  · have hr := of_decide_eq_false e
    have er : r = 0 := by omega
    subst er
    have ec : (c : Int) = ((Int.gcd p0 q0 : Nat) : Int) := by
      rw [← hg, Int.gcd_zero_right]
      omega
    refine ⟨fun e => ?_, fun e => ?_⟩
    · have hc := of_decide_eq_true e
      have z : Int.gcd p0 q0 = 0 := by omega
      have zz := Int.gcd_eq_zero_iff.mp z
      exact q 1 1 (by omega) (by omega) (by decide) (by decide) (by decide)
    · have hc := of_decide_eq_false e
      have cp : 0 < c := by omega
      have dok : JDiv c := div_ok cp (big_lit (by omega))
      refine ⟨dok, dok, ?_⟩
      have gpos : 0 < Int.gcd p0 q0 := by omega
      have d1 : (c : Int) ∣ p0 := by rw [ec]; exact Int.gcd_dvd_left ..
      have d2 : (c : Int) ∣ q0 := by rw [ec]; exact Int.gcd_dvd_right ..
      have e1 := Int.ediv_mul_cancel d1
      have e2 := Int.ediv_mul_cancel d2
      have f1 : p0 / c ≤ p0 := Int.ediv_le_self _ (by omega)
      have f2 : q0 / c ≤ q0 := Int.ediv_le_self _ (by omega)
      have g1 : 0 ≤ p0 / c := Int.ediv_nonneg (by omega) (by omega)
      have g2 : 0 ≤ q0 / c := Int.ediv_nonneg (by omega) (by omega)
      have pz : p0 / c = 0 → p0 = 0 := fun z => by rw [z] at e1; omega
      have qz : q0 / c = 0 → q0 = 0 := fun z => by rw [z] at e2; omega
      refine q _ _ ?_ ?_ (by omega) (by omega) ?_
      · by_cases hz : p0 / c = 0
        · have := pz hz; omega
        · omega
      · by_cases hz : q0 / c = 0
        · have := qz hz; omega
        · omega
      · rw [ec]
        exact Int.gcd_ediv_gcd_ediv_gcd gpos
end Slw
namespace Slw
open PySem J
/-- a drawn direction, no greater than what was drawn -/
theorem dir_b {one two least b : Int} (hb : 1 ≤ b) (hb9 : b ≤ 10 ^ 39) (o1 : least + one % 10 ^ 39 ≤ b) (o2 : least + two % 10 ^ 39 ≤ b) {P : Int × Int → Prop} (h0 : 0 ≤ least) (h1 : least ≤ 1)
    (q : ∀ p q, least ≤ p → least ≤ q → p ≤ b → q ≤ b → Int.gcd p q = 1 → P (p, q)) : w_law_direction one two least P := by
  unfold w_law_direction
  rw [pow39]
  have m1 := Int.emod_nonneg one (show (1000000000000000000000000000000000000000 : Int) ≠ 0 by decide)
  have m2 := Int.emod_lt_of_pos one (show (0 : Int) < 1000000000000000000000000000000000000000 by decide)
  have n1 := Int.emod_nonneg two (show (1000000000000000000000000000000000000000 : Int) ≠ 0 by decide)
  have n2 := Int.emod_lt_of_pos two (show (0 : Int) < 1000000000000000000000000000000000000000 by decide)
  have e39b : (10 : Int) ^ 39 = 1000000000000000000000000000000000000000 := by decide
  rw [e39b] at o1 o2 hb9
  have e39 : (10 : Int) ^ 39 = 1000000000000000000000000000000000000000 := by decide
  refine ⟨by decide, wLet_ok fun p0 hp => ⟨by decide, wLet_ok fun q0 hq => wLet_to (wLet_to ?_)⟩⟩
  have p1 : least ≤ p0 := by omega
  have p2 : p0 ≤ 10 ^ 39 := by omega
  have q1 : least ≤ q0 := by omega
  have q2 : q0 ≤ 10 ^ 39 := by omega
  refine ⟨fun s => 0 ≤ s.1 ∧ 0 ≤ s.2 ∧ s.1 ≤ 10 ^ 39 ∧ s.2 ≤ 10 ^ 39 ∧ Int.gcd s.1 s.2 = Int.gcd p0 q0, fun s => s.2.toNat, ⟨by show 0 ≤ p0; omega, by show 0 ≤ q0; omega, p2, q2, rfl⟩, ?_⟩
  rintro ⟨c, r⟩ ⟨c0, r0, c1, r1, hg⟩
  dsimp only at c0 r0 c1 r1 hg ⊢
  refine ⟨fun e => ?_, fun e => ?_⟩
  · have hr := of_decide_eq_true e
    have l := Int.emod_lt_of_pos c hr
    have l0 := Int.emod_nonneg c (show r ≠ 0 by omega)
    exact ⟨hr, ⟨r0, l0, r1, by omega, by rw [gcd_step c r c0 hr, hg]⟩, by omega⟩
  · have hr := of_decide_eq_false e
    have er : r = 0 := by omega
    subst er
    have ec : (c : Int) = ((Int.gcd p0 q0 : Nat) : Int) := by
      rw [← hg, Int.gcd_zero_right]
      omega
    refine ⟨fun e => ?_, fun e => ?_⟩
    · have hc := of_decide_eq_true e
      have z : Int.gcd p0 q0 = 0 := by omega
      have zz := Int.gcd_eq_zero_iff.mp z
      exact q 1 1 (by omega) (by omega) hb hb (by decide)
    · have hc := of_decide_eq_false e
      have cp : 0 < c := by omega
      have dok : JDiv c := div_ok cp (big_lit (by omega))
      refine ⟨dok, dok, ?_⟩
      have gpos : 0 < Int.gcd p0 q0 := by omega
      have d1 : (c : Int) ∣ p0 := by rw [ec]; exact Int.gcd_dvd_left ..
      have d2 : (c : Int) ∣ q0 := by rw [ec]; exact Int.gcd_dvd_right ..
      have e1 := Int.ediv_mul_cancel d1
      have e2 := Int.ediv_mul_cancel d2
      have f1 : p0 / c ≤ p0 := Int.ediv_le_self _ (by omega)
      have f2 : q0 / c ≤ q0 := Int.ediv_le_self _ (by omega)
      have g1 : 0 ≤ p0 / c := Int.ediv_nonneg (by omega) (by omega)
      have g2 : 0 ≤ q0 / c := Int.ediv_nonneg (by omega) (by omega)
      have pz : p0 / c = 0 → p0 = 0 := fun z => by rw [z] at e1; omega
      have qz : q0 / c = 0 → q0 = 0 := fun z => by rw [z] at e2; omega
      refine q _ _ ?_ ?_ (by omega) (by omega) ?_
      · by_cases hz : p0 / c = 0
        · have := pz hz; omega
        · omega
      · by_cases hz : q0 / c = 0
        · have := qz hz; omega
        · omega
      · rw [ec]
        exact Int.gcd_ediv_gcd_ediv_gcd gpos
end Slw
namespace Slw
open PySem J
/-- the letter at k -/
def Lt (p q k : Int) : Str := if p + q ≤ k * q % (p + q) + q then ("u" : Str) else ("r" : Str)
theorem wletter_ok {p q k : Int} {P : Str → Prop} (hn : 0 < p + q) (hm : JMul k q) (h : P (Lt p q k)) : w_CrossingWord_letter (p, q) k P := by
  unfold w_CrossingWord_letter w_CrossingWord_round_length
  refine wLet_to ⟨hm, hn, fun e => ?_, fun e => ?_⟩
  · have e' := of_decide_eq_true e
    unfold Lt at h
    rw [if_pos e'] at h
    exact h
  · have e' := of_decide_eq_false e
    unfold Lt at h
    rw [if_neg e'] at h
    exact h
theorem Lt_add {p q k c : Int} : Lt p q (k + c * (p + q)) = Lt p q k := by
  unfold Lt
  have e : (k + c * (p + q)) * q = k * q + (c * q) * (p + q) := by grind
  rw [e, Int.add_mul_emod_self_right]
theorem Lt_div {p q k : Int} (hp : 0 ≤ p) (hq : 0 ≤ q) (hn : 0 < p + q) : k * q / (p + q) < (k + 1) * q / (p + q) ↔ p + q ≤ k * q % (p + q) + q := by
  have e := Int.mul_ediv_add_emod (k * q) (p + q)
  have r0 := Int.emod_nonneg (k * q) (show p + q ≠ 0 by omega)
  have r1 := Int.emod_lt_of_pos (k * q) hn
  have e2 : (k + 1) * q = (k * q % (p + q) + q) + (k * q / (p + q)) * (p + q) := by grind
  rw [e2, Int.add_mul_ediv_right _ _ (by omega)]
  generalize k * q % (p + q) = r at r0 r1 ⊢
  generalize k * q / (p + q) = d
  constructor
  · intro h
    by_cases z : p + q ≤ r + q
    · exact z
    · rw [Int.ediv_eq_zero_of_lt (by omega) (by omega)] at h
      omega
  · intro h
    have : 1 ≤ (r + q) / (p + q) := (Int.le_ediv_iff_mul_le hn).mpr (by omega)
    omega
theorem Lt_zero {p q : Int} (hp : 1 ≤ p) (hq : 1 ≤ q) : Lt p q 0 = ("r" : Str) := by
  unfold Lt
  rw [Int.zero_mul, Int.zero_emod, if_neg (by omega)]
theorem Lt_neg {p q : Int} (hp : 1 ≤ p) (hq : 1 ≤ q) : Lt p q (-1) = ("u" : Str) := by
  unfold Lt
  have e : (-1 * q) % (p + q) = p := by
    have : -1 * q = p + (-1) * (p + q) := by omega
    rw [this, Int.add_mul_emod_self_right, Int.emod_eq_of_lt (by omega) (by omega)]
  rw [e, if_pos (Int.le_refl _)]
theorem Lt_last {p q : Int} (hp : 1 ≤ p) (hq : 1 ≤ q) : Lt p q (p + q - 1) = ("u" : Str) := by
  have e : p + q - 1 = -1 + 1 * (p + q) := by omega
  rw [e, Lt_add, Lt_neg hp hq]
theorem big62 {x : Int} (h : x.natAbs ≤ 100000000000000000000000000000000000000000000000000000000000000) : x.natAbs < 2 ^ Big :=
  big_small (k := 400) (Nat.lt_of_le_of_lt h (by decide)) (by decide)
/-- a direction, its two numbers not above 10 ** 39 -/
structure Dn (p q : Int) : Prop where
  a : 0 ≤ p
  b : 0 ≤ q
  g : Int.gcd p q = 1
  le1 : p ≤ 1000000000000000000000000000000000000000
  le2 : q ≤ 1000000000000000000000000000000000000000
theorem Dn.pos {p q : Int} (h : Dn p q) : 0 < p + q := by
  have ha := h.a
  have hb := h.b
  by_cases z : p + q = 0
  · have e1 : p = 0 := by omega
    have e2 : q = 0 := by omega
    have := h.g
    rw [e1, e2] at this
    exact absurd this (by decide)
  · omega
theorem Dn.mul {p q k : Int} (h : Dn p q) (hk : k.natAbs ≤ 100000000000000000000000000000000000000000000000000000000000000) : JMul k q :=
  mul_ok (big62 hk) (big62 (by have := h.b; have := h.le2; omega))
theorem Dn.cases {p q : Int} (h : Dn p q) : (p = 1 ∧ q = 0) ∨ (p = 0 ∧ q = 1) ∨ (1 ≤ p ∧ 1 ≤ q) := by
  have ha := h.a
  have hb := h.b
  have hg := h.g
  by_cases z : p = 0
  · rw [z, Int.gcd_zero_left] at hg
    omega
  · by_cases z2 : q = 0
    · rw [z2, Int.gcd_zero_right] at hg
      omega
    · omega
theorem wl_ok {p q k : Int} {P : Str → Prop} (h : Dn p q) (hk : k.natAbs ≤ 10000000000000000000000000000000000000000000000000000000000000) (w : P (Lt p q k)) : w_CrossingWord_letter (p, q) k P :=
  wletter_ok h.pos (h.mul (by omega)) w
theorem pow60 : ((10 : Int) ^ (60 : Int).toNat) = 1000000000000000000000000000000000000000000000000000000000000 := by decide
theorem pow20 : ((10 : Int) ^ (20 : Int).toNat) = 100000000000000000000 := by decide
end Slw
namespace Slw
open PySem J
theorem lletter_ok {p q k : Int} {P : Str → Prop} (hp : 0 ≤ p) (hq : 0 ≤ q) (hn : 0 < p + q) (bn : (p + q).natAbs < 2 ^ Big) (h1 : JMul (k + 1) q) (h2 : JMul k q) (h : P (Lt p q k)) : w_law_letter (p, q) k P := by
  unfold w_law_letter
  have dk : JDiv (p + q) := div_ok hn bn
  refine wLet_to ⟨h1, dk, h2, dk, fun e => ?_, fun e => ?_⟩
  · have e' := (Lt_div hp hq hn).mp (of_decide_eq_true e)
    unfold Lt at h
    rw [if_pos e'] at h
    exact h
  · have e' := fun z => of_decide_eq_false e ((Lt_div hp hq hn).mpr z)
    unfold Lt at h
    rw [if_neg e'] at h
    exact h
theorem ll_ok {p q k : Int} {P : Str → Prop} (h : Dn p q) (hk : k.natAbs ≤ 10000000000000000000000000000000000000000000000000000000000000) (w : P (Lt p q k)) : w_law_letter (p, q) k P :=
  lletter_ok h.a h.b h.pos (big62 (by have := h.a; have := h.b; have := h.le1; have := h.le2; omega)) (h.mul (by omega)) (h.mul (by omega)) w
end Slw
namespace Slw
open PySem J
/-! walks letter by letter, without tables -/
def stp (r a : List Int) (l : Str) (x : Int) : Int := gI (if l = ("u" : Str) then a else r) x
def wk (r a : List Int) : List Str → Int → Int
  | [], x => x
  | l :: w, x => wk r a w (stp r a l x)
def vs (r a : List Int) : List Str → Int → List Int
  | [], _ => []
  | l :: w, x => x :: vs r a w (stp r a l x)
theorem wk_app (r a : List Int) : ∀ (u v : List Str) (x : Int), wk r a (u ++ v) x = wk r a v (wk r a u x)
  | [], _, _ => rfl
  | l :: u, v, x => wk_app r a u v (stp r a l x)
theorem vs_app (r a : List Int) : ∀ (u v : List Str) (x : Int), vs r a (u ++ v) x = vs r a u x ++ vs r a v (wk r a u x)
  | [], _, _ => rfl
  | l :: u, v, x => by
    show x :: vs r a (u ++ v) (stp r a l x) = x :: (vs r a u (stp r a l x) ++ _)
    rw [vs_app r a u v (stp r a l x)]
    rfl
theorem vs_len (r a : List Int) : ∀ (u : List Str) (x : Int), (vs r a u x).length = u.length
  | [], _ => rfl
  | l :: u, x => by
    show (vs r a u (stp r a l x)).length + 1 = u.length + 1
    rw [vs_len r a u _]
def Wd (p q n : Int) : List Str := (rangeI 0 n).map (Lt p q)
theorem Wd_len (p q : Int) (n : Nat) : (Wd p q (n : Int)).length = n := by
  unfold Wd
  rw [List.length_map, rangeI_len]
theorem stp_perm {n : Nat} {r a : List Int} (hr : r.Perm (rangeI 0 n)) (ha : a.Perm (rangeI 0 n)) (l : Str) : ((rangeI 0 (n : Int)).map (stp r a l)).Perm (rangeI 0 n) := by
  have lr := perm_len hr
  have la := perm_len ha
  unfold stp
  by_cases z : l = ("u" : Str)
  · simp only [z, if_true]
    rw [gI_all la]
    exact ha
  · simp only [z, if_false]
    rw [gI_all lr]
    exact hr
theorem wk_perm {n : Nat} {r a : List Int} (hr : r.Perm (rangeI 0 n)) (ha : a.Perm (rangeI 0 n)) : ∀ w : List Str, ((rangeI 0 (n : Int)).map (wk r a w)).Perm (rangeI 0 n)
  | [] => by
    have : (rangeI 0 (n : Int)).map (wk r a []) = rangeI 0 (n : Int) := List.map_id' _
    rw [this]
  | l :: w => by
    have e : (rangeI 0 (n : Int)).map (wk r a (l :: w)) = ((rangeI 0 (n : Int)).map (stp r a l)).map (wk r a w) := by
      rw [List.map_map]
      rfl
    rw [e]
    exact ((stp_perm hr ha l).map _).trans (wk_perm hr ha w)
theorem wk_rng {n : Nat} {r a : List Int} (hr : r.Perm (rangeI 0 n)) (ha : a.Perm (rangeI 0 n)) : ∀ (w : List Str) (x : Int), 0 ≤ x → x < n → 0 ≤ wk r a w x ∧ wk r a w x < n
  | [], _, h0, h1 => ⟨h0, h1⟩
  | l :: w, x, h0, h1 => by
    have g : 0 ≤ stp r a l x ∧ stp r a l x < n := by
      unfold stp
      obtain ⟨i, rfl⟩ : ∃ i : Nat, x = i := ⟨x.toNat, by omega⟩
      split
      · exact perm_gI ha (by omega)
      · exact perm_gI hr (by omega)
    exact wk_rng hr ha w _ g.1 g.2
/-- the walk of one round, as an order -/
theorem round_rt {n : Nat} {r a : List Int} (hr : r.Perm (rangeI 0 n)) (ha : a.Perm (rangeI 0 n)) (w : List Str) : RT n ((rangeI 0 (n : Int)).map (wk r a w)) (List.replicate n 0) := perm_rt (wk_perm hr ha w)
theorem round_get {n : Nat} {r a : List Int} {w : List Str} {y : Int} (h0 : 0 ≤ y) (h1 : y < n) : gI ((rangeI 0 (n : Int)).map (wk r a w)) y = wk r a w y := by
  obtain ⟨i, rfl⟩ : ∃ i : Nat, y = i := ⟨y.toNat, by omega⟩
  rw [gI_nat (by rw [List.length_map, rangeI_len]; omega), List.getElem_map, rangeI_get]
end Slw
namespace Slw
open PySem J
theorem rangeI_succ (i : Nat) : rangeI 0 (((i + 1 : Nat)) : Int) = rangeI 0 (i : Int) ++ [(i : Int)] := by
  rw [rangeI_sum i 1]
  congr 1
  show [(0 : Int) + ((0 : Nat) : Int) + (i : Int)] = [(i : Int)]
  simp
theorem Wd_succ (p q : Int) (i : Nat) : Wd p q ((i + 1 : Nat) : Int) = Wd p q (i : Int) ++ [Lt p q i] := by
  unfold Wd
  rw [rangeI_succ, List.map_append]
  rfl
theorem Wd_per {p q : Int} {L : Nat} (hL : p + q = (L : Int)) (j k : Nat) : Wd p q ((j * L + k : Nat) : Int) = Wd p q ((j * L : Nat) : Int) ++ Wd p q (k : Int) := by
  unfold Wd
  rw [rangeI_sum, List.map_append, List.map_map]
  congr 1
  refine List.map_congr_left fun x _ => ?_
  show Lt p q (x + ((j * L : Nat) : Int)) = Lt p q x
  have e : ((j * L : Nat) : Int) = (j : Int) * (p + q) := by
    rw [hL]
    push_cast
    rfl
  rw [e, Lt_add]
end Slw
namespace Slw
open PySem J
theorem shown_short : ∀ (n : Int) (P : Str → Prop), (∀ z : Str, z.length ≤ 200 → P z) → w_shown n P := by
  intro n P h
  unfold w_shown
  have h0 : P ("(a number of more than 60 digits)" : Str) := h _ (by decide +kernel)
  refine wCut_to ⟨fun h1 => ⟨fun h2 => ?_, fun _ => h0⟩, fun _ => h0⟩
  have a := of_decide_eq_true h1
  have b := of_decide_eq_true h2
  have c : n.natAbs < 10 ^ 60 := by
    have : (10 : Nat) ^ 60 = 1000000000000000000000000000000000000000000000000000000000000 := by decide
    rw [this]
    omega
  refine ⟨?_, h _ ?_⟩
  · by_cases z : n.natAbs = 0
    · rw [z]
      decide
    · exact (Nat.log2_lt z).mpr (Nat.lt_trans c (by decide))
  · unfold strI
    rw [ofString_length]
    exact Nat.le_trans (int_text_length_le10 (k := 60) (by decide) c) (by decide)
end Slw
namespace Slw
open PySem J
section
variable {n L : Nat} {r a : List Int} {p q : Int} {s : Nat}
/-- the walk after whole rounds -/
theorem wk_mul (hr : r.Perm (rangeI 0 n)) (ha : a.Perm (rangeI 0 n)) (hL : p + q = (L : Int)) (hs : s < n) : ∀ j : Nat, wk r a (Wd p q ((j * L : Nat) : Int)) s = it ((rangeI 0 (n : Int)).map (wk r a (Wd p q (L : Int)))) s j
  | 0 => by
    rw [Nat.zero_mul]
    rfl
  | j + 1 => by
    have R := round_rt hr ha (Wd p q (L : Int))
    obtain ⟨h0, h1⟩ := R.it (s := (s : Int)) (by omega) (by omega) j
    rw [Nat.succ_mul, Wd_per hL, wk_app, wk_mul hr ha hL hs j]
    exact (round_get h0 h1).symm
/-- where the walk is closed -/
structure Clo (n L : Nat) (r a : List Int) (p q : Int) (s k : Nat) : Prop where
  k1 : 1 ≤ k
  kn : k ≤ n
  iff : ∀ i : Nat, i < k * L → ((wk r a (Wd p q ((i + 1 : Nat) : Int)) s = s ∧ (i + 1) % L = 0) ↔ i + 1 = k * L)
theorem clo (hr : r.Perm (rangeI 0 n)) (ha : a.Perm (rangeI 0 n)) (hL : p + q = (L : Int)) (L1 : 1 ≤ L) (hs : s < n) : ∃ k, Clo n L r a p q s k := by
  have R := round_rt hr ha (Wd p q (L : Int))
  obtain ⟨p1, p2, p3, p4⟩ := R.isPer (s := (s : Int)) (by omega) (by omega)
  generalize per ((rangeI 0 (n : Int)).map (wk r a (Wd p q (L : Int)))) n s = k at p1 p2 p3 p4
  refine ⟨k, p1, p2, fun i hi => ⟨fun ⟨h1, h2⟩ => ?_, fun h => ?_⟩⟩
  · obtain ⟨j, hj⟩ : ∃ j, i + 1 = j * L := ⟨(i + 1) / L, by have := Nat.div_add_mod (i + 1) L; rw [h2] at this; rw [Nat.mul_comm]; omega⟩
    rw [hj, wk_mul hr ha hL hs j] at h1
    have jp : 0 < j := by
      rcases Nat.eq_zero_or_pos j with h | h
      · rw [h, Nat.zero_mul] at hj; omega
      · exact h
    have jk : ¬ j < k := fun h => p4 j jp h h1
    have jle : j ≤ k := Nat.le_of_mul_le_mul_right (show j * L ≤ k * L by omega) (by omega)
    have : j = k := by omega
    rw [hj, this]
  · rw [h]
    exact ⟨by rw [wk_mul hr ha hL hs k, p3], Nat.mul_mod_left _ _⟩
theorem behind_ok (hr : r.Perm (rangeI 0 n)) (ha : a.Perm (rangeI 0 n)) {x : Int} (x0 : 0 ≤ x) (x1 : x < n) {i : Nat} {P : Int → Prop} (w : P (stp r a (Lt p q i) x)) : w_Plan_behind (r, a) x (Lt p q i) P := by
  unfold w_Plan_behind w_Plan_size
  have lr := perm_len hr
  have la := perm_len ha
  refine ⟨fun _ => ⟨fun _ => ⟨fun z => ?_, fun z => ?_⟩, fun z => absurd (of_decide_eq_false z) (by dsimp only; omega)⟩, fun z => absurd (of_decide_eq_false z) (by omega)⟩
  · have z := of_decide_eq_true z
    refine ⟨_, gI_ix x0 (by dsimp only; omega), ?_⟩
    unfold stp at w
    rw [if_neg (by rw [z]; decide)] at w
    exact w
  · have z := of_decide_eq_false z
    refine ⟨_, gI_ix x0 (by dsimp only; omega), ?_⟩
    have u : Lt p q i = ("u" : Str) := by
      unfold Lt at z ⊢
      split
      · rfl
      · rename_i h
        rw [if_neg h] at z
        exact absurd rfl z
    unfold stp at w
    rw [if_pos u] at w
    exact w
theorem vs_one (i : Nat) : vs r a (Wd p q ((i + 1 : Nat) : Int)) s = vs r a (Wd p q (i : Int)) s ++ [wk r a (Wd p q (i : Int)) s] := by
  rw [Wd_succ, vs_app]
  rfl
theorem wk_one (i : Nat) : wk r a (Wd p q ((i + 1 : Nat) : Int)) s = stp r a (Lt p q i) (wk r a (Wd p q (i : Int)) s) := by
  rw [Wd_succ, wk_app]
  rfl
theorem vsn (i : Nat) : (vs r a (Wd p q (i : Int)) s).length = i := by rw [vs_len, Wd_len]
theorem wordx_ok {N : EK} {P : Int × Int → Prop} (D : Dn p q) (w : P (p, q)) : w_CrossingWord___init___x p q P N := by
  unfold w_CrossingWord___init___x
  exact check_ok D.a D.b D.g (wLet_to (wLet_to w))
/-- a number of crossings -/
theorem passed_c (hr : r.Perm (rangeI 0 n)) (ha : a.Perm (rangeI 0 n)) (D : Dn p q) (hs : s < n) {c : Nat} (hc : c ≤ 1000) {K : List Int → Prop} {N : EK} (w : K (vs r a (Wd p q (c : Int)) s)) : w_rooms_passed (r, a) p q (s : Int) (some (c : Int)) K N := by
  have lr := perm_len hr
  unfold w_rooms_passed
  refine wJoin_ok (fun w => w = (p, q)) (fun w ew => ?_) (fun J hJ => wordx_ok D (wLet_to (hJ _ rfl)))
  subst ew
  refine wJoin_ok (fun _ => True) (fun _ _ => ?_) (fun J hJ => ⟨fun _ => ⟨fun _ => hJ _ trivial, fun z => absurd (of_decide_eq_false z) (by dsimp only; omega)⟩, fun z => absurd (of_decide_eq_false z) (by omega)⟩)
  refine wJoin_ok (fun x => x = (s : Int)) (fun x ex => ?_) (fun J hJ => wLet_to (hJ _ rfl))
  subst ex
  refine wJoin_ok (fun x => x = 0) (fun x ex => ?_) (fun J hJ => wLet_to (hJ _ rfl))
  subst ex
  refine ⟨fun u => ∃ i : Nat, i ≤ c ∧ u = ((wk r a (Wd p q (i : Int)) s, (i : Int)), vs r a (Wd p q (i : Int)) s), fun u => c - u.2.length, ⟨0, by omega, rfl⟩, ?_⟩
  rintro _ ⟨i, hi, rfl⟩
  dsimp only
  refine ⟨fun z => (nomatch z), fun _ => ⟨_, rfl, fun z => ?_, fun z => ?_⟩⟩
  · have z := of_decide_eq_true z
    obtain ⟨g0, g1⟩ := wk_rng hr ha (Wd p q (i : Int)) s (by omega) (by omega)
    refine ⟨by rw [vsn]; omega, ?_⟩
    refine wJoin_ok (fun x => x = wk r a (Wd p q ((i + 1 : Nat) : Int)) s) (fun x ex => ?_) (fun J hJ => wl_ok D (by omega) (behind_ok hr ha g0 g1 (wLet_to (hJ _ (wk_one i).symm))))
    subst ex
    refine wJoin_ok (fun x => x = ((i + 1 : Nat) : Int)) (fun x ex => ?_) (fun J hJ => wLet_to (hJ _ (by push_cast; rfl)))
    subst ex
    refine wJoin_ok (fun _ => True) (fun _ _ => ?_) (fun J hJ => ⟨fun z => (nomatch z), fun _ => hJ _ trivial⟩)
    refine ⟨⟨i + 1, by omega, by rw [vs_one]⟩, ?_⟩
    rw [List.length_append, vsn]
    simp only [List.length_cons, List.length_nil]
    omega
  · have z := of_decide_eq_false z
    have : i = c := by omega
    subst this
    exact w
/-- until it is closed -/
theorem passed_n (hr : r.Perm (rangeI 0 n)) (ha : a.Perm (rangeI 0 n)) (hn : n ≤ 100) (D : Dn p q) (hL : p + q = (L : Int)) (L2 : L ≤ 100) (hs : s < n) {k : Nat} (C : Clo n L r a p q s k) {K : List Int → Prop} {N : EK} (w : K (vs r a (Wd p q ((k * L : Nat) : Int)) s)) : w_rooms_passed (r, a) p q (s : Int) none K N := by
  have lr := perm_len hr
  have k1 := C.k1
  have kn := C.kn
  have L1 : 1 ≤ L := by have := D.pos; omega
  have kp : 1 ≤ k * L := Nat.mul_pos C.k1 L1
  have kb : k * L ≤ 10000 := Nat.mul_le_mul (show k ≤ 100 by omega) L2
  unfold w_rooms_passed
  refine wJoin_ok (fun w => w = (p, q)) (fun w ew => ?_) (fun J hJ => wordx_ok D (wLet_to (hJ _ rfl)))
  subst ew
  refine wJoin_ok (fun _ => True) (fun _ _ => ?_) (fun J hJ => ⟨fun _ => ⟨fun _ => hJ _ trivial, fun z => absurd (of_decide_eq_false z) (by dsimp only; omega)⟩, fun z => absurd (of_decide_eq_false z) (by omega)⟩)
  refine wJoin_ok (fun x => x = (s : Int)) (fun x ex => ?_) (fun J hJ => wLet_to (hJ _ rfl))
  subst ex
  refine wJoin_ok (fun x => x = 0) (fun x ex => ?_) (fun J hJ => wLet_to (hJ _ rfl))
  subst ex
  refine ⟨fun u => ∃ i : Nat, i < k * L ∧ u = ((wk r a (Wd p q (i : Int)) s, (i : Int)), vs r a (Wd p q (i : Int)) s), fun u => k * L - u.2.length, ⟨0, by omega, rfl⟩, ?_⟩
  rintro _ ⟨i, hi, rfl⟩
  dsimp only
  refine ⟨fun _ => ?_, fun z => (nomatch z)⟩
  obtain ⟨g0, g1⟩ := wk_rng hr ha (Wd p q (i : Int)) s (by omega) (by omega)
  refine ⟨by rw [vsn]; omega, ?_⟩
  refine wJoin_ok (fun x => x = wk r a (Wd p q ((i + 1 : Nat) : Int)) s) (fun x ex => ?_) (fun J hJ => wl_ok D (by omega) (behind_ok hr ha g0 g1 (wLet_to (hJ _ (wk_one i).symm))))
  subst ex
  refine wJoin_ok (fun x => x = ((i + 1 : Nat) : Int)) (fun x ex => ?_) (fun J hJ => wLet_to (hJ _ (by push_cast; rfl)))
  subst ex
  have more : i + 1 ≠ k * L → (∃ j : Nat, j < k * L ∧ (((wk r a (Wd p q ((i + 1 : Nat) : Int)) s, ((i + 1 : Nat) : Int)), vs r a (Wd p q (i : Int)) s ++ [wk r a (Wd p q (i : Int)) s]) : (Int × Int) × List Int) = ((wk r a (Wd p q (j : Int)) s, (j : Int)), vs r a (Wd p q (j : Int)) s)) ∧ k * L - (vs r a (Wd p q (i : Int)) s ++ [wk r a (Wd p q (i : Int)) s]).length < k * L - (vs r a (Wd p q (i : Int)) s).length := fun h => by
    refine ⟨⟨i + 1, by omega, by rw [vs_one]⟩, ?_⟩
    rw [List.length_append, vsn]
    simp only [List.length_cons, List.length_nil]
    omega
  have cl := C.iff i hi
  have md : ((((i + 1 : Nat) : Int) % (p + q) = 0) ↔ (i + 1) % L = 0) := by rw [hL]; omega
  refine wJoin_ok (fun _ => i + 1 ≠ k * L) (fun _ h => more h) (fun J hJ => ⟨fun _ => ⟨fun z => ?_, fun z => hJ _ fun h => of_decide_eq_false z (cl.mpr h).1⟩, fun z => (nomatch z)⟩)
  have z := of_decide_eq_true z
  refine ⟨D.pos, fun y => ?_, fun y => hJ _ fun h => of_decide_eq_false y (md.mpr (cl.mpr h).2)⟩
  have y := md.mp (of_decide_eq_true y)
  have e := cl.mp ⟨z, y⟩
  rw [← vs_one, e]
  exact w
/-- a room that is not there -/
theorem passed_bad (hr : r.Perm (rangeI 0 n)) (D : Dn p q) {x : Int} (hx : x < 0 ∨ (n : Int) ≤ x) {c : Option Int} {K : List Int → Prop} {N : EK} (w : N 3 x 0) : w_rooms_passed (r, a) p q x c K N := by
  have lr := perm_len hr
  unfold w_rooms_passed
  refine wJoin_ok (fun w => w = (p, q)) (fun w ew => ?_) (fun J hJ => wordx_ok D (wLet_to (hJ _ rfl)))
  subst ew
  refine wJoin_ok (fun _ => False) (fun _ h => h.elim) (fun J hJ => ⟨fun z => ⟨fun z2 => ?_, fun _ => w⟩, fun _ => w⟩)
  have z := of_decide_eq_true z
  have z2 := of_decide_eq_true z2
  dsimp only at z2
  rcases hx with h | h <;> omega
theorem lists_at {l : Str} {P : List Int → Prop} (w : P (if l = ("u" : Str) then a else r)) : ∃ x, ixI [r, a] (if (decide (l = ("u" : Str))) then (1 : Int) else 0) = some x ∧ P x := by
  by_cases z : l = ("u" : Str)
  · rw [if_pos z] at w
    rw [if_pos (decide_eq_true z)]
    exact ⟨a, rfl, w⟩
  · rw [if_neg z] at w
    rw [if_neg (by rw [decide_eq_false z]; decide)]
    exact ⟨r, rfl, w⟩
theorem stp_ix (hr : r.Perm (rangeI 0 n)) (ha : a.Perm (rangeI 0 n)) {l : Str} {x : Int} (x0 : 0 ≤ x) (x1 : x < n) : ixI (if l = ("u" : Str) then a else r) x = some (stp r a l x) := by
  have lr := perm_len hr
  have la := perm_len ha
  unfold stp
  split
  · exact gI_ix x0 (by omega)
  · exact gI_ix x0 (by omega)
/-- the law's own walks -/
theorem lrooms_ok (hr : r.Perm (rangeI 0 n)) (ha : a.Perm (rangeI 0 n)) (D : Dn p q) (hs : s < n) {c : Nat} (hc : c ≤ 1000) {P : List Int → Prop} (w : P (vs r a (Wd p q (c : Int)) s)) : w_law_rooms [r, a] (p, q) (s : Int) (c : Int) P := by
  unfold w_law_rooms
  refine wLet_to ⟨by omega, ?_⟩
  refine wFor_range c (fun i u => u = (wk r a (Wd p q (i : Int)) s, vs r a (Wd p q (i : Int)) s)) (fun i u N hi hu hN => ?_) (fun u hu => by rw [hu]; exact w) _ rfl
  subst hu
  obtain ⟨g0, g1⟩ := wk_rng hr ha (Wd p q (i : Int)) s (by omega) (by omega)
  refine ⟨by dsimp only; rw [vsn]; omega, wLet_to (ll_ok D (by omega) (lists_at ⟨_, stp_ix hr ha g0 g1, wLet_to (hN _ ?_)⟩))⟩
  dsimp only
  rw [vs_one, wk_one]
theorem lclosed_ok (hr : r.Perm (rangeI 0 n)) (ha : a.Perm (rangeI 0 n)) (hn : n ≤ 100) (D : Dn p q) (hL : p + q = (L : Int)) (L2 : L ≤ 100) (hs : s < n) {k : Nat} (C : Clo n L r a p q s k) {P : List Int → Prop} (w : P (vs r a (Wd p q ((k * L : Nat) : Int)) s)) : w_law_closed [r, a] (p, q) (s : Int) P := by
  have lr := perm_len hr
  have k1 := C.k1
  have kn := C.kn
  have L1 : 1 ≤ L := by have := D.pos; omega
  have kp : 1 ≤ k * L := Nat.mul_pos C.k1 L1
  have kb : n * L ≤ 10000 := Nat.mul_le_mul hn L2
  have kL : k * L ≤ n * L := Nat.mul_le_mul_right L kn
  unfold w_law_closed
  refine wLet_to (wLet_to (wLet_to ⟨r, rfl, ?_⟩))
  dsimp only
  have e : (r.length : Int) * (p + q) = ((n * L : Nat) : Int) := by rw [lr, hL]; push_cast; rfl
  refine ⟨mul_ok (big_lit (by omega)) (big_lit (by omega)), ?_⟩
  rw [e]
  refine ⟨by omega, ?_⟩
  refine wFor_range (n * L) (fun i u => i < k * L ∧ u = (wk r a (Wd p q (i : Int)) s, vs r a (Wd p q (i : Int)) s)) (fun i u N hi hu hN => ?_) (fun u hu => absurd hu.1 (by omega)) _ ⟨by omega, rfl⟩
  obtain ⟨hik, rfl⟩ := hu
  obtain ⟨g0, g1⟩ := wk_rng hr ha (Wd p q (i : Int)) s (by omega) (by omega)
  have cl := C.iff i hik
  have md : ((((i : Int) + 1) % (p + q) = 0) ↔ (i + 1) % L = 0) := by
    have e1 : (i : Int) + 1 = ((i + 1 : Nat) : Int) := by push_cast; rfl
    rw [hL, e1]
    omega
  have more : i + 1 ≠ k * L → N (stp r a (Lt p q i) (wk r a (Wd p q (i : Int)) s), vs r a (Wd p q (i : Int)) s ++ [wk r a (Wd p q (i : Int)) s]) := fun h => hN _ ⟨by omega, by rw [vs_one, wk_one]⟩
  refine ⟨by dsimp only; rw [vsn]; omega, wLet_to (ll_ok D (by omega) (lists_at ⟨_, stp_ix hr ha g0 g1, wLet_to ⟨fun z => ⟨D.pos, fun y => ?_, fun y => more fun h => of_decide_eq_false y (md.mpr (cl.mpr h).2)⟩, fun z => more fun h => of_decide_eq_false z ?_⟩⟩))⟩
  · have z := of_decide_eq_true z
    have y := md.mp (of_decide_eq_true y)
    have e := cl.mp ⟨by rw [wk_one]; exact z, y⟩
    dsimp only
    rw [← vs_one, e]
    exact w
  · have := (cl.mpr h).1
    rw [wk_one] at this
    exact this
theorem refuses_ok (hr : r.Perm (rangeI 0 n)) (D : Dn p q) {x : Int} (hx : x < 0 ∨ (n : Int) ≤ x) {c : Int} {P : Bool → Prop} (w : P true) : w_law_refuses (r, a) (p, q) x c P := by
  unfold w_law_refuses
  refine wCut_ok fun B _ => wLet_to (passed_bad hr D hx ⟨by decide, rfl, ?_⟩)
  unfold w_law_is_number
  refine ⟨fun _ => ⟨fun _ => ?_, fun z => (nomatch z)⟩, fun z => (nomatch z)⟩
  rw [decide_eq_true rfl]
  exact w
end
end Slw
namespace Slw
open PySem J
theorem isrowt {x : List Int} {P : Bool → Prop} (h : x.length ≤ 1000000) (w : P true) : w_law_is_row_l x x P := isrow_ok h (by rw [decide_eq_true rfl]; exact w)
theorem pow9 : ((10 : Int) ^ (9 : Int).toNat) = 1000000000 := by decide
theorem law_math : ∀ ns : List Int, ns.length ≤ 63 → w_law ns (fun b => b = true) := by
  intro ns _
  unfold w_law
  have e39 : (10 : Int) ^ 39 = 1000000000000000000000000000000000000000 := by decide
  refine cell_ok (by decide) fun c0 => ?_
  obtain ⟨n0, hn0, n1, n2⟩ := size_of (c := c0) (m := 40) (lo := 1) (by decide) (by decide)
  rw [hn0]
  refine wLet_to (wJoin_ok (fun x : Int => ∃ n : Nat, x = n ∧ 1 ≤ n ∧ n ≤ 100) ?_ fun J hJ => cell_ok (by decide) fun c0 => ⟨fun _ => wLet_to (hJ _ ⟨100, rfl, by omega, by omega⟩), fun _ => hJ _ ⟨n0, rfl, by omega, by omega⟩⟩)
  rintro _ ⟨n, rfl, m1, m2⟩
  refine cell_ok (by decide) fun c1 => order_ok (by omega) fun r hr => cell_ok (by decide) fun c2 => order_ok (by omega) fun a ha => ⟨by show 2 ≤ 1000; omega, wLet_to (cell_ok (by decide) fun c3 => cell_ok (by decide) fun c4 => ?_)⟩
  refine dir_ok (by decide) (by decide) fun p q h1 h2 h3 h4 h5 => wLet_to (cell_ok (by decide) fun c5 => cell_ok (by decide) fun c6 => ?_)
  rw [e39] at h3 h4
  have D : Dn p q := ⟨h1, h2, h5, h3, h4⟩
  have s5 := Int.emod_nonneg c5 (show (8 : Int) ≠ 0 by decide)
  have t5 := Int.emod_lt_of_pos c5 (show (0 : Int) < 8 by decide)
  have s6 := Int.emod_nonneg c6 (show (8 : Int) ≠ 0 by decide)
  have t6 := Int.emod_lt_of_pos c6 (show (0 : Int) < 8 by decide)
  have o1 : (0 : Int) + c5 % 8 % 10 ^ 39 ≤ 7 := by
    rw [e39, Int.emod_eq_of_lt s5 (by omega)]
    omega
  have o2 : (0 : Int) + c6 % 8 % 10 ^ 39 ≤ 7 := by
    rw [e39, Int.emod_eq_of_lt s6 (by omega)]
    omega
  refine dir_b (b := 7) (by decide) (by decide) o1 o2 (by decide) (by decide) fun u v u1 v1 u2 v2 hg => wLet_to (cell_ok (by decide) fun c7 => ⟨by omega, ?_⟩)
  have E : Dn u v := ⟨u1, v1, hg, by omega, by omega⟩
  have l7 := Int.emod_nonneg c7 (show (n : Int) ≠ 0 by omega)
  have k7 := Int.emod_lt_of_pos c7 (show (0 : Int) < n by omega)
  obtain ⟨s, hs⟩ : ∃ s : Nat, c7 % (n : Int) = s := ⟨(c7 % (n : Int)).toNat, by omega⟩
  rw [hs] at l7 k7 ⊢
  have sn : s < n := by omega
  refine wLet_to (cell_ok (by decide) fun c8 => ?_)
  have l8 := Int.emod_nonneg c8 (show (81 : Int) ≠ 0 by decide)
  have k8 := Int.emod_lt_of_pos c8 (show (0 : Int) < 81 by decide)
  obtain ⟨c, hc⟩ : ∃ c : Nat, c8 % 81 = (c : Int) := ⟨(c8 % 81).toNat, by omega⟩
  rw [hc] at l8 k8 ⊢
  have cb : c ≤ 1000 := by omega
  obtain ⟨L, hL⟩ : ∃ L : Nat, u + v = (L : Int) := ⟨(u + v).toNat, by omega⟩
  have L2 : L ≤ 100 := by omega
  have L1 : 1 ≤ L := by have := E.pos; omega
  obtain ⟨k, C⟩ := clo hr ha hL L1 sn
  obtain ⟨k0, C0⟩ := clo (s := 0) hr ha hL L1 (by omega)
  have kb : ∀ k s, Clo n L r a u v s k → k * L ≤ 10000 := fun k s C => Nat.mul_le_mul (Nat.le_trans C.kn m2) L2
  have kb1 := kb k s C
  have kb2 := kb k0 0 C0
  refine wLet_to ⟨r, rfl, a, rfl, init_pl m1 m2 hr ha (wLet_to ?_)⟩
  dsimp only
  refine passed_c hr ha D sn cb (wLet_to (lrooms_ok hr ha D sn cb (isrowt (by rw [vsn]; omega) ⟨fun _ => ?_, fun z => (nomatch z)⟩)))
  refine passed_n hr ha m2 E hL L2 sn C (wLet_to (lclosed_ok hr ha m2 E hL L2 sn C (isrowt (by rw [vsn]; omega) ⟨fun _ => ?_, fun z => (nomatch z)⟩)))
  refine passed_n hr ha m2 E hL L2 sn C (wLet_to (lclosed_ok hr ha m2 E hL L2 sn C (isrowt (by rw [vsn]; omega) ⟨fun _ => ?_, fun z => (nomatch z)⟩)))
  refine passed_n (s := 0) hr ha m2 E hL L2 (by omega) C0 (lclosed_ok (s := 0) hr ha m2 E hL L2 (by omega) C0 (isrowt (by rw [vsn]; omega) ⟨fun _ => ?_, fun z => (nomatch z)⟩))
  refine passed_c (s := 0) hr ha E (by omega) cb (wLet_to (lrooms_ok (s := 0) hr ha E (by omega) cb (isrowt (by rw [vsn]; omega) ⟨fun _ => ?_, fun z => (nomatch z)⟩)))
  refine cell_ok (by decide) fun c9 => ?_
  rw [pow9]
  have l9 := Int.emod_nonneg c9 (show (1000000000 : Int) ≠ 0 by decide)
  refine ⟨by decide, wLet_to ⟨by show 4 ≤ 1000; omega, wLet_to ?_⟩⟩
  generalize c9 % 1000000000 = b at l9
  refine wFor_ok (fun xs _ => ∀ x ∈ xs, x < 0 ∨ (n : Int) ≤ x) (fun x xs _ N hI hN => ?_) (fun _ _ => ?_) _ _ (fun x hx => ?_)
  · have hx := hI x List.mem_cons_self
    exact refuses_ok hr D hx ⟨fun _ => refuses_ok hr E hx ⟨fun _ => hN _ fun y hy => hI y (List.mem_cons_of_mem _ hy), fun z => (nomatch z)⟩, fun z => (nomatch z)⟩
  · refine passed_c (c := 0) hr ha D sn (by omega) ⟨pokI _, pokI _, ?_⟩
    rfl
  · simp only [List.mem_cons, List.not_mem_nil, or_false] at hx
    rcases hx with rfl | rfl | rfl | rfl
    · exact .inl (by omega)
    · exact .inr (by omega)
    · exact .inr (by omega)
    · exact .inl (by omega)
end Slw

namespace Slw
open PySem L2 J
def top (i : Nat) : Stmt := PySem.Challenge.pw_slantwalk_k25_rooms_passed.main.body.getD i (.Pass ⟨0, 0, 0, 0⟩)
abbrev s_law_cell : Stmt := top 20
theorem sc_law_cell : FnScope ["_law_script", "_law_k"] ["_law_script", "_law_k"] (defScope s_law_cell) := ⟨rfl, rfl, rfl, by decide +kernel, rfl, by decide +kernel, by decide +kernel⟩

abbrev s_law_row : Stmt := top 21
theorem sc_law_row : FnScope ["_law_cell_here", "_law_count", "_law_row_here", "_law_rest", "_law_k", "_law_mixed"] ["_law_cell_here", "_law_count"] (defScope s_law_row) := ⟨rfl, rfl, rfl, by decide +kernel, rfl, by decide +kernel, by decide +kernel⟩

abbrev s_law_order : Stmt := top 22
theorem sc_law_order : FnScope ["_law_cell_here", "_law_size", "_law_pool", "_law_order_here", "_law_digit"] ["_law_cell_here", "_law_size"] (defScope s_law_order) := ⟨rfl, rfl, rfl, by decide +kernel, rfl, by decide +kernel, by decide +kernel⟩

abbrev s_law_direction : Stmt := top 23
theorem sc_law_direction : FnScope ["_law_one", "_law_two", "_law_least", "_law_p", "_law_q", "_law_common", "_law_rest"] ["_law_one", "_law_two", "_law_least"] (defScope s_law_direction) := ⟨rfl, rfl, rfl, by decide +kernel, rfl, by decide +kernel, by decide +kernel⟩

abbrev s_is_order : Stmt := top 16
theorem sc_is_order : FnScope ["rooms", "size"] ["rooms", "size"] (defScope s_is_order) := ⟨rfl, rfl, rfl, by decide +kernel, rfl, by decide +kernel, by decide +kernel⟩

abbrev s_Plan___init__ : Stmt := inClass (top 18) 1
theorem sc_Plan___init__ : FnScope ["self", "right", "above", "size"] ["self", "right", "above"] (defScope s_Plan___init__) := ⟨rfl, rfl, rfl, by decide +kernel, rfl, by decide +kernel, by decide +kernel⟩

abbrev s_shown : Stmt := top 4
theorem sc_shown : FnScope ["number"] ["number"] (defScope s_shown) := ⟨rfl, rfl, rfl, by decide +kernel, rfl, by decide +kernel, by decide +kernel⟩

abbrev s_InvalidDirection___init__ : Stmt := inClass (top 8) 0
theorem sc_InvalidDirection___init__ : L2.SupScope ["self", "p", "q"] ["self", "p", "q"] (defScope s_InvalidDirection___init__) := ⟨rfl, rfl, rfl, by decide +kernel, rfl, by decide +kernel, by decide +kernel, by decide +kernel⟩

abbrev s_check_direction : Stmt := top 10
theorem sc_check_direction : FnScope ["p", "q"] ["p", "q"] (defScope s_check_direction) := ⟨rfl, rfl, rfl, by decide +kernel, rfl, by decide +kernel, by decide +kernel⟩

abbrev s_CrossingWord___init__ : Stmt := inClass (top 12) 0
theorem sc_CrossingWord___init__ : FnScope ["self", "p", "q"] ["self", "p", "q"] (defScope s_CrossingWord___init__) := ⟨rfl, rfl, rfl, by decide +kernel, rfl, by decide +kernel, by decide +kernel⟩

abbrev s_Plan_size : Stmt := inClass (top 18) 2
theorem sc_Plan_size : FnScope ["self"] ["self"] (defScope s_Plan_size) := ⟨rfl, rfl, rfl, by decide +kernel, rfl, by decide +kernel, by decide +kernel⟩

abbrev s_InvalidRoom___init__ : Stmt := inClass (top 7) 0
theorem sc_InvalidRoom___init__ : L2.SupScope ["self", "room"] ["self", "room"] (defScope s_InvalidRoom___init__) := ⟨rfl, rfl, rfl, by decide +kernel, rfl, by decide +kernel, by decide +kernel, by decide +kernel⟩

abbrev s_Plan_behind : Stmt := inClass (top 18) 5
theorem sc_Plan_behind : FnScope ["self", "room", "letter"] ["self", "room", "letter"] (defScope s_Plan_behind) := ⟨rfl, rfl, rfl, by decide +kernel, rfl, by decide +kernel, by decide +kernel⟩

abbrev s_CrossingWord_round_length : Stmt := inClass (top 12) 1
theorem sc_CrossingWord_round_length : FnScope ["self"] ["self"] (defScope s_CrossingWord_round_length) := ⟨rfl, rfl, rfl, by decide +kernel, rfl, by decide +kernel, by decide +kernel⟩

abbrev s_CrossingWord_letter : Stmt := inClass (top 12) 2
theorem sc_CrossingWord_letter : FnScope ["self", "index", "length"] ["self", "index"] (defScope s_CrossingWord_letter) := ⟨rfl, rfl, rfl, by decide +kernel, rfl, by decide +kernel, by decide +kernel⟩

abbrev s_rooms_passed : Stmt := top 14
theorem sc_rooms_passed : GScope ["plan", "p", "q", "start", "crossings", "word", "room", "index"] ["plan", "p", "q", "start", "crossings"] (defScope s_rooms_passed) := ⟨rfl, rfl, rfl, by decide +kernel, rfl, by decide +kernel, by decide +kernel⟩

abbrev s_law_letter : Stmt := top 26
theorem sc_law_letter : FnScope ["_law_pair", "_law_index", "_law_length"] ["_law_pair", "_law_index"] (defScope s_law_letter) := ⟨rfl, rfl, rfl, by decide +kernel, rfl, by decide +kernel, by decide +kernel⟩

abbrev s_law_rooms : Stmt := top 27
theorem sc_law_rooms : FnScope ["_law_lists", "_law_pair", "_law_room", "_law_count", "_law_rooms_here", "_law_index"] ["_law_lists", "_law_pair", "_law_room", "_law_count"] (defScope s_law_rooms) := ⟨rfl, rfl, rfl, by decide +kernel, rfl, by decide +kernel, by decide +kernel⟩

abbrev s_law_is_number : Stmt := top 24
theorem sc_law_is_number : FnScope ["_law_value"] ["_law_value"] (defScope s_law_is_number) := ⟨rfl, rfl, rfl, by decide +kernel, rfl, by decide +kernel, by decide +kernel⟩

abbrev s_law_is_row : Stmt := top 25
theorem sc_law_is_row : FnScope ["_law_actual", "_law_expected", "_law_k"] ["_law_actual", "_law_expected"] (defScope s_law_is_row) := ⟨rfl, rfl, rfl, by decide +kernel, rfl, by decide +kernel, by decide +kernel⟩

abbrev s_law_closed : Stmt := top 28
theorem sc_law_closed : FnScope ["_law_lists", "_law_pair", "_law_first", "_law_length", "_law_rooms_here", "_law_room", "_law_index"] ["_law_lists", "_law_pair", "_law_first"] (defScope s_law_closed) := ⟨rfl, rfl, rfl, by decide +kernel, rfl, by decide +kernel, by decide +kernel⟩

abbrev s_law_refuses : Stmt := top 29
theorem sc_law_refuses : FnScope ["_law_plan", "_law_pair", "_law_room", "_law_count", "e"] ["_law_plan", "_law_pair", "_law_room", "_law_count"] (defScope s_law_refuses) := ⟨rfl, rfl, rfl, by decide +kernel, rfl, by decide +kernel, by decide +kernel⟩

abbrev s_law : Stmt := top 30
theorem sc_law : FnScope ["_law_script", "_law_size", "_law_lists", "_law_pair", "_law_short", "_law_first", "_law_count", "_law_plan", "_law_found", "_law_beyond", "_law_room"] ["_law_script"] (defScope s_law) := ⟨rfl, rfl, rfl, by decide +kernel, rfl, by decide +kernel, by decide +kernel⟩

/-! what the top has written -/
structure Txt (Pg : Program) (K : PySem.W.Frag) (mg : Str → Option Value) where
  a_Plan : Addr
  cl_Plan : Cls K a_Plan
  g_Plan : mg "Plan" = some (.ref a_Plan)
  a_CrossingWord : Addr
  cl_CrossingWord : Cls K a_CrossingWord
  g_CrossingWord : mg "CrossingWord" = some (.ref a_CrossingWord)
  nf_Plan__right : NoAttr K a_Plan "_right"
  nf_Plan__above : NoAttr K a_Plan "_above"
  nf_CrossingWord__p : NoAttr K a_CrossingWord "_p"
  nf_CrossingWord__q : NoAttr K a_CrossingWord "_q"
  rd_Plan : ClX.CRead K a_Plan (.type "type")
  a_InvalidDirection : Addr
  g_InvalidDirection : mg "InvalidDirection" = some (.ref a_InvalidDirection)
  a_InvalidRoom : Addr
  g_InvalidRoom : mg "InvalidRoom" = some (.ref a_InvalidRoom)
  a_InvalidDirection___init__ : Addr
  d_InvalidDirection___init__ : FuncData
  SF_InvalidDirection : L2.SupFun Pg K mg "__init__" "InvalidDirection.__init__" s_InvalidDirection___init__ a_InvalidDirection___init__ a_InvalidDirection d_InvalidDirection___init__
  te_InvalidDirection : PySem.W.typeIn K (.ref a_InvalidDirection___init__) = some (.type "function")
  be_InvalidDirection : Binds K d_InvalidDirection___init__ ["self", "p", "q"] []
  a_InvalidRoom___init__ : Addr
  d_InvalidRoom___init__ : FuncData
  SF_InvalidRoom : L2.SupFun Pg K mg "__init__" "InvalidRoom.__init__" s_InvalidRoom___init__ a_InvalidRoom___init__ a_InvalidRoom d_InvalidRoom___init__
  te_InvalidRoom : PySem.W.typeIn K (.ref a_InvalidRoom___init__) = some (.type "function")
  be_InvalidRoom : Binds K d_InvalidRoom___init__ ["self", "room"] []
  oe_InvalidDirection : OexC K a_InvalidDirection
  ie_InvalidDirection : PySem.W.findIn K (.ref a_InvalidDirection) "__init__" = some (some (.ref a_InvalidDirection___init__))
  su_InvalidDirection : L2.SupCl K a_InvalidDirection a_InvalidDirection
  oe_InvalidRoom : OexC K a_InvalidRoom
  ie_InvalidRoom : PySem.W.findIn K (.ref a_InvalidRoom) "__init__" = some (some (.ref a_InvalidRoom___init__))
  su_InvalidRoom : L2.SupCl K a_InvalidRoom a_InvalidRoom
  X_InvalidRoom : ExcC K a_InvalidRoom
  XF_InvalidRoom : XfC K a_InvalidRoom
  e_InvalidRoom_InvalidRoom : PySem.W.exmOne K (.ref a_InvalidRoom) (.ref a_InvalidRoom) = some true
  nf_InvalidDirection_p : PySem.W.findIn K (.ref a_InvalidDirection) "p" = some none
  nf_InvalidDirection_q : PySem.W.findIn K (.ref a_InvalidDirection) "q" = some none
  nf_InvalidRoom_room : PySem.W.findIn K (.ref a_InvalidRoom) "room" = some none
  zz_InvalidRoom : PySem.W.subIn K (.ref a_InvalidRoom) (.type "StopIteration") = some false
  zz_InvalidDirection : PySem.W.subIn K (.ref a_InvalidDirection) (.type "StopIteration") = some false
  tv_Plan_MOST_ROOMS : Tok
  cv_Plan_MOST_ROOMS : ClX.CVal K a_Plan (.type "type") "MOST_ROOMS" (.int (100)) (.int (100) tv_Plan_MOST_ROOMS)
  a_law_cell : Addr
  d_law_cell : FuncData
  F_law_cell : Fun K "_law_cell" "_law_cell" s_law_cell a_law_cell d_law_cell
  b_law_cell : Binds K d_law_cell ["_law_script", "_law_k"] []
  g_law_cell : mg "_law_cell" = some (.ref a_law_cell)
  a_law_row : Addr
  d_law_row : FuncData
  F_law_row : Fun K "_law_row" "_law_row" s_law_row a_law_row d_law_row
  b_law_row : Binds K d_law_row ["_law_cell_here", "_law_count"] []
  g_law_row : mg "_law_row" = some (.ref a_law_row)
  a_law_order : Addr
  d_law_order : FuncData
  F_law_order : Fun K "_law_order" "_law_order" s_law_order a_law_order d_law_order
  b_law_order : Binds K d_law_order ["_law_cell_here", "_law_size"] []
  g_law_order : mg "_law_order" = some (.ref a_law_order)
  a_law_direction : Addr
  d_law_direction : FuncData
  F_law_direction : Fun K "_law_direction" "_law_direction" s_law_direction a_law_direction d_law_direction
  b_law_direction : Binds K d_law_direction ["_law_one", "_law_two", "_law_least"] []
  g_law_direction : mg "_law_direction" = some (.ref a_law_direction)
  a_is_order : Addr
  d_is_order : FuncData
  F_is_order : Fun K "is_order" "is_order" s_is_order a_is_order d_is_order
  b_is_order : Binds K d_is_order ["rooms", "size"] []
  g_is_order : mg "is_order" = some (.ref a_is_order)
  a_Plan___init__ : Addr
  d_Plan___init__ : FuncData
  F_Plan___init__ : Fun K "__init__" "Plan.__init__" s_Plan___init__ a_Plan___init__ d_Plan___init__
  b_Plan___init__ : Binds K d_Plan___init__ ["self", "right", "above"] []
  M_Plan___init__ : Mk K a_Plan a_Plan___init__
  a_shown : Addr
  d_shown : FuncData
  F_shown : Fun K "_shown" "_shown" s_shown a_shown d_shown
  b_shown : Binds K d_shown ["number"] []
  g_shown : mg "_shown" = some (.ref a_shown)
  a_check_direction : Addr
  d_check_direction : FuncData
  F_check_direction : Fun K "check_direction" "check_direction" s_check_direction a_check_direction d_check_direction
  b_check_direction : Binds K d_check_direction ["p", "q"] []
  g_check_direction : mg "check_direction" = some (.ref a_check_direction)
  a_CrossingWord___init__ : Addr
  d_CrossingWord___init__ : FuncData
  F_CrossingWord___init__ : Fun K "__init__" "CrossingWord.__init__" s_CrossingWord___init__ a_CrossingWord___init__ d_CrossingWord___init__
  b_CrossingWord___init__ : Binds K d_CrossingWord___init__ ["self", "p", "q"] []
  M_CrossingWord___init__ : Mk K a_CrossingWord a_CrossingWord___init__
  a_Plan_size : Addr
  d_Plan_size : FuncData
  F_Plan_size : Fun K "size" "Plan.size" s_Plan_size a_Plan_size d_Plan_size
  b_Plan_size : Binds K d_Plan_size ["self"] []
  p_Plan_size : Addr
  M_Plan_size : PropOf K a_Plan "size" p_Plan_size a_Plan_size
  a_Plan_behind : Addr
  d_Plan_behind : FuncData
  F_Plan_behind : Fun K "behind" "Plan.behind" s_Plan_behind a_Plan_behind d_Plan_behind
  b_Plan_behind : Binds K d_Plan_behind ["self", "room", "letter"] []
  M_Plan_behind : Meth K a_Plan "behind" a_Plan_behind
  a_CrossingWord_round_length : Addr
  d_CrossingWord_round_length : FuncData
  F_CrossingWord_round_length : Fun K "round_length" "CrossingWord.round_length" s_CrossingWord_round_length a_CrossingWord_round_length d_CrossingWord_round_length
  b_CrossingWord_round_length : Binds K d_CrossingWord_round_length ["self"] []
  p_CrossingWord_round_length : Addr
  M_CrossingWord_round_length : PropOf K a_CrossingWord "round_length" p_CrossingWord_round_length a_CrossingWord_round_length
  a_CrossingWord_letter : Addr
  d_CrossingWord_letter : FuncData
  F_CrossingWord_letter : Fun K "letter" "CrossingWord.letter" s_CrossingWord_letter a_CrossingWord_letter d_CrossingWord_letter
  b_CrossingWord_letter : Binds K d_CrossingWord_letter ["self", "index"] []
  M_CrossingWord_letter : Meth K a_CrossingWord "letter" a_CrossingWord_letter
  a_rooms_passed : Addr
  d_rooms_passed : FuncData
  F_rooms_passed : FunD K "rooms_passed" "rooms_passed" (defArgs s_rooms_passed) (defBody s_rooms_passed) (defScope s_rooms_passed) [] [("start", .int 0), ("crossings", .non)] a_rooms_passed d_rooms_passed
  g_rooms_passed : mg "rooms_passed" = some (.ref a_rooms_passed)
  a_law_letter : Addr
  d_law_letter : FuncData
  F_law_letter : Fun K "_law_letter" "_law_letter" s_law_letter a_law_letter d_law_letter
  b_law_letter : Binds K d_law_letter ["_law_pair", "_law_index"] []
  g_law_letter : mg "_law_letter" = some (.ref a_law_letter)
  a_law_rooms : Addr
  d_law_rooms : FuncData
  F_law_rooms : Fun K "_law_rooms" "_law_rooms" s_law_rooms a_law_rooms d_law_rooms
  b_law_rooms : Binds K d_law_rooms ["_law_lists", "_law_pair", "_law_room", "_law_count"] []
  g_law_rooms : mg "_law_rooms" = some (.ref a_law_rooms)
  a_law_is_number : Addr
  d_law_is_number : FuncData
  F_law_is_number : Fun K "_law_is_number" "_law_is_number" s_law_is_number a_law_is_number d_law_is_number
  b_law_is_number : Binds K d_law_is_number ["_law_value"] []
  g_law_is_number : mg "_law_is_number" = some (.ref a_law_is_number)
  a_law_is_row : Addr
  d_law_is_row : FuncData
  F_law_is_row : Fun K "_law_is_row" "_law_is_row" s_law_is_row a_law_is_row d_law_is_row
  b_law_is_row : Binds K d_law_is_row ["_law_actual", "_law_expected"] []
  g_law_is_row : mg "_law_is_row" = some (.ref a_law_is_row)
  a_law_closed : Addr
  d_law_closed : FuncData
  F_law_closed : Fun K "_law_closed" "_law_closed" s_law_closed a_law_closed d_law_closed
  b_law_closed : Binds K d_law_closed ["_law_lists", "_law_pair", "_law_first"] []
  g_law_closed : mg "_law_closed" = some (.ref a_law_closed)
  a_law_refuses : Addr
  d_law_refuses : FuncData
  F_law_refuses : Fun K "_law_refuses" "_law_refuses" s_law_refuses a_law_refuses d_law_refuses
  b_law_refuses : Binds K d_law_refuses ["_law_plan", "_law_pair", "_law_room", "_law_count"] []
  g_law_refuses : mg "_law_refuses" = some (.ref a_law_refuses)
  a_law : Addr
  d_law : FuncData
  F_law : Fun K "law" "law" s_law a_law d_law
  b_law : Binds K d_law ["_law_script"] []
  g_law : mg "law" = some (.ref a_law)
  m_bool : mg "bool" = none
  m_gcd : mg "gcd" = some (.builtin "math.gcd")
  m_int : mg "int" = none
  m_isinstance : mg "isinstance" = none
  m_len : mg "len" = none
  m_list : mg "list" = none
  m_range : mg "range" = none
  m_sorted : mg "sorted" = none
  m_str : mg "str" = none
  m_tuple : mg "tuple" = none
  t__LONG : Tok
  c__LONG : mg "_LONG" = some (.int (1000000000000000000000000000000000000000000000000000000000000) t__LONG)

def exn : Nat → Int → Int → List (Str × L2.V)
  | 3, p, _ => [("room", .int p)]
  | 4, p, q => [("q", .int q), ("p", .int p)]
  | _, _, _ => []
def Txt.er {Pg : Program} {K : PySem.W.Frag} {mg : Str → Option Value} (T : Txt Pg K mg) : Nat → Addr
  | 3 => T.a_InvalidRoom
  | 4 => T.a_InvalidDirection
  | _ => 0
theorem Txt.noStop {Pg : Program} {K : PySem.W.Frag} {mg : Str → Option Value} (T : Txt Pg K mg) : ∀ c : Nat, (c ∈ [3, 4]) → PySem.W.subIn K (.ref (T.er c)) (.type "StopIteration") = some false := fun c h => by
  simp only [List.mem_cons, List.not_mem_nil, or_false] at h
  rcases h with rfl | rfl
  · exact T.zz_InvalidRoom
  · exact T.zz_InvalidDirection

section
variable {Pg : Program} {w : World} {K : PySem.W.Frag} {mg : Str → Option Value} {base : Heap}
theorem ok_law_cell (T : Txt Pg K mg) : FnOk Pg w K mg base CX0 1 T.a_law_cell T.d_law_cell ["_law_script", "_law_k"] (spJ (aC (tL K tI) (aC tI aN)) (rO tI) fun t => w_law_cell t.1 t.2.1) := by
  refine T.F_law_cell.ok sc_law_cell (fun vs H Q E h => ?_) (fun cdv A outer s H vs Q E hr h => ?_)
  · obtain ⟨t, P, F, rfl, ⟨v0, _, rfl, r0, v1, _, rfl, r1, e0⟩, _⟩ := h
    have e1 := (e0 : _ = [])
    subst e1
    rfl
  · obtain ⟨⟨x0, x1, _⟩, P, F, rfl, ⟨v0, _, rfl, r0, v1, _, rfl, r1, e0⟩, hw, hrt⟩ := h
    have e1 := (e0 : _ = [])
    subst e1
    have sc := sc_law_cell
    exact ⟨_, (show JSs _ F ⟨[sv (tL K tI) x0, sv tI x1], []⟩ _ ⟨fun _ H' => Q .non H', Q, fun _ _ => False, fun _ _ => False⟩ _ from
      (js_ifX (jt_lt (je_var (i := 1) (A := tI) (a := x1) rfl) (je_lenL (by rfl) T.m_len (je_ebL (je_eL (je_var (i := 0) (A := (tL K tI)) (a := x0) rfl))))) (js_ret hrt (je_ixL (je_eL (je_var (i := 0) (A := (tL K tI)) (a := x0) rfl)) (je_var (i := 1) (A := tI) (a := x1) rfl))) (js_ret hrt je_int))), ⟨Le.refl _, ⟨Same.refl _, (Par.cons ⟨v0, rfl, J.fr_in r0⟩ (Par.cons ⟨v1, rfl, J.fr_in r1⟩ Par.nil)), List.nodup_nil, fun c hc => by cases hc⟩, hw⟩⟩

theorem ok_law_row (T : Txt Pg K mg) : FnOk Pg w K mg base CX0 1 T.a_law_row T.d_law_row ["_law_cell_here", "_law_count"] (spJ (aC tI (aC tI aN)) (rN tI) fun t => w_law_row t.1 t.2.1) := by
  refine T.F_law_row.ok sc_law_row (fun vs H Q E h => ?_) (fun cdv A outer s H vs Q E hr h => ?_)
  · obtain ⟨t, P, F, rfl, ⟨v0, _, rfl, r0, v1, _, rfl, r1, e0⟩, _⟩ := h
    have e1 := (e0 : _ = [])
    subst e1
    rfl
  · obtain ⟨⟨x0, x1, _⟩, P, F, rfl, ⟨v0, _, rfl, r0, v1, _, rfl, r1, e0⟩, hw, hrt⟩ := h
    have e1 := (e0 : _ = [])
    subst e1
    have sc := sc_law_row
    exact ⟨_, (show JSs _ F ⟨[sv tI x0, sv tI x1, .any, .any, .any, .any], []⟩ _ ⟨fun _ H' => Q .non H', Q, fun _ _ => False, fun _ _ => False⟩ _ from
      (js_stN (i := 2) (ps_set (i := 2) sc.nd rfl (by first | exact Or.inl rfl | exact Or.inr rfl) (je_lst0 (A := tI)) rfl (by first | exact .inl rfl | exact .inr rfl)) (fun p21 row_here_20 => (js_asg (i := 3) (je_sub (je_var (i := 0) (A := tI) (a := x0) rfl) je_powL) (fun rest_22 => (js_forR (S := fun (s23 : Int × (List Int)) => ⟨[sv tI x0, sv tI x1, .at p21, sv tI s23.1, .any, .any], [.lst p21 tI s23.2]⟩) (s0 := (rest_22, row_here_20)) (by rfl) T.m_range (je_var (i := 1) (A := tI) (a := x1) rfl) ⟨(.same (.same (.same (.same (.any (.any .nil)))))), (.cons₂ _ .slnil)⟩ (pg_name (i := 4) sc.nd rfl (Or.inl rfl)) (tg_name) (fun nxt25 brk26 k_24 s23 => (js_if (jt_ge (je_var (i := 0) (A := tI) (a := x0) rfl) je_powL) (js_app (i := 2) (j := 0) (pe_bm PySem.F.plainAttrs_list PySem.F.slot_list_append PySem.F.type_list_append mt_append (pv 2) (pa_cons (je_modL (je_int1 (by rfl) T.m_int (je_var (i := 3) (A := tI) (a := s23.1) rfl))) pa_nil)) (fun y29 => (js_asg (i := 3) (je_fdivL (je_var (i := 3) (A := tI) (a := s23.1) rfl)) (fun rest_30 => (js_end (rest_30, (s23.2 ++ [y29])) ⟨(.same (.same (.same (.same (.any (.any .nil)))))), (.cons₂ _ .slnil)⟩)) sc.nd)) rfl rfl) (js_asg (i := 5) (je_modL (je_int1 (by rfl) T.m_int (je_add (je_mulL (je_var (i := 0) (A := tI) (a := x0) rfl)) (je_mulL (je_add (je_var (i := 4) (A := tI) (a := k_24) rfl) je_int))))) (fun mixed_32 => (js_asg (i := 5) (je_modL (je_int1 (by rfl) T.m_int (je_mul (je_var (i := 5) (A := tI) (a := mixed_32) rfl) (je_add (je_add (je_fdivL (je_var (i := 5) (A := tI) (a := mixed_32) rfl)) (je_mulR (je_var (i := 4) (A := tI) (a := k_24) rfl))) je_int)))) (fun mixed_33 => (js_app (i := 2) (j := 0) (pe_bm PySem.F.plainAttrs_list PySem.F.slot_list_append PySem.F.type_list_append mt_append (pv 2) (pa_cons (je_modL (je_fdivL (je_var (i := 5) (A := tI) (a := mixed_33) rfl))) pa_nil)) (fun y34 => (js_end (s23.1, (s23.2 ++ [y34])) ⟨(.same (.same (.same (.same (.any (.any .nil)))))), (.cons₂ _ .slnil)⟩)) rfl rfl)) sc.nd)) sc.nd))) (fun s23 => (js_retC (i := 2) (j := 0) hrt rfl rfl)) PassesOwn.never)) sc.nd)))), ⟨Le.refl _, ⟨Same.refl _, (Par.cons ⟨v0, rfl, J.fr_in r0⟩ (Par.cons ⟨v1, rfl, J.fr_in r1⟩ (Par.cons trivial (Par.cons trivial (Par.cons trivial (Par.cons trivial Par.nil)))))), List.nodup_nil, fun c hc => by cases hc⟩, hw⟩⟩

theorem ok_law_order (T : Txt Pg K mg) : FnOk Pg w K mg base CX0 2 T.a_law_order T.d_law_order ["_law_cell_here", "_law_size"] (spJ (aC tI (aC tI aN)) (rN tI) fun t => w_law_order t.1 t.2.1) := by
  refine T.F_law_order.ok sc_law_order (fun vs H Q E h => ?_) (fun cdv A outer s H vs Q E hr h => ?_)
  · obtain ⟨t, P, F, rfl, ⟨v0, _, rfl, r0, v1, _, rfl, r1, e0⟩, _⟩ := h
    have e1 := (e0 : _ = [])
    subst e1
    rfl
  · obtain ⟨⟨x0, x1, _⟩, P, F, rfl, ⟨v0, _, rfl, r0, v1, _, rfl, r1, e0⟩, hw, hrt⟩ := h
    have e1 := (e0 : _ = [])
    subst e1
    have sc := sc_law_order
    exact ⟨_, (show JSs _ F ⟨[sv tI x0, sv tI x1, .any, .any, .any], []⟩ _ ⟨fun _ H' => Q .non H', Q, fun _ _ => False, fun _ _ => False⟩ _ from
      (js_stN (i := 2) (ps_set (i := 2) sc.nd rfl (by first | exact Or.inl rfl | exact Or.inr rfl) (je_listR (by rfl) T.m_list (by rfl) T.m_range (je_var (i := 1) (A := tI) (a := x1) rfl)) rfl (by first | exact .inl rfl | exact .inr rfl)) (fun p15 pool_14 => (js_stN (i := 3) (ps_set (i := 3) sc.nd rfl (by first | exact Or.inl rfl | exact Or.inr rfl) (je_lst0 (A := tI)) rfl (by first | exact .inl rfl | exact .inr rfl)) (fun p17 order_here_16 => (js_forL (A := tI) (S := fun v35 xs36 => fun (s37 : (List Int) × (List Int)) => ⟨[sv tI x0, sv tI x1, .at p15, .at p17, .any], [.fix (tK tI) v35 xs36, .lst p17 tI s37.1, .lst p15 tI s37.2]⟩) (s0 := (order_here_16, pool_14)) (j := 0) (je_new (je_call (ok_law_row T) (hr.mono (by decide)) (by rfl) T.g_law_row T.F_law_row.kp T.b_law_row (ja_cons (je_var (i := 0) (A := tI) (a := x0) rfl) (ja_cons (je_var (i := 1) (A := tI) (a := x1) rfl) ja_nil)))) (fun v35 xs36 => ⟨(.same (.same (.same (.same (.any .nil))))), (.cons₂ _ (.cons₂ _ (.cons₂ _ .slnil)))⟩) (fun v35 xs36 _ => rfl) (pg_name (i := 4) sc.nd rfl (Or.inl rfl)) (tg_name) (fun v35 xs36 nxt39 brk40 digit_38 s37 => (js_appPop (i := 3) (j := 1) (i2 := 2) (j2 := 2) (pe_bm PySem.F.plainAttrs_list PySem.F.slot_list_append PySem.F.type_list_append mt_append (pv 3) (pa_cons (pe_bm PySem.F.plainAttrs_list PySem.F.slot_list_pop PySem.F.type_list_pop mt_popAt (pv 2) (pa_cons (je_mod (je_int1 (by rfl) T.m_int (je_var (i := 4) (A := tI) (a := digit_38) rfl)) (je_lenL (by rfl) T.m_len (je_ebL (je_e (je_cell (i := 2) (j := 2) (p := p15) (A := tI) (xs := s37.2) rfl rfl))))) pa_nil)) pa_nil)) (fun y42 pool_43 => (js_end ((s37.1 ++ [y42]), pool_43) ⟨(.same (.same (.same (.same (.any .nil))))), (.cons₂ _ (.cons₂ _ (.cons₂ _ .slnil)))⟩)) rfl rfl rfl rfl (by decide))) (fun v35 xs36 s37 => (js_retC (i := 3) (j := 1) hrt rfl rfl)) PassesOwn.never)))))), ⟨Le.refl _, ⟨Same.refl _, (Par.cons ⟨v0, rfl, J.fr_in r0⟩ (Par.cons ⟨v1, rfl, J.fr_in r1⟩ (Par.cons trivial (Par.cons trivial (Par.cons trivial Par.nil))))), List.nodup_nil, fun c hc => by cases hc⟩, hw⟩⟩

theorem ok_law_direction (T : Txt Pg K mg) : FnOk Pg w K mg base CX0 1 T.a_law_direction T.d_law_direction ["_law_one", "_law_two", "_law_least"] (spJ (aC tI (aC tI (aC tI aN))) (rO (tT K (a2 tI tI))) fun t => w_law_direction t.1 t.2.1 t.2.2.1) := by
  refine T.F_law_direction.ok sc_law_direction (fun vs H Q E h => ?_) (fun cdv A outer s H vs Q E hr h => ?_)
  · obtain ⟨t, P, F, rfl, ⟨v0, _, rfl, r0, v1, _, rfl, r1, v2, _, rfl, r2, e0⟩, _⟩ := h
    have e1 := (e0 : _ = [])
    subst e1
    rfl
  · obtain ⟨⟨x0, x1, x2, _⟩, P, F, rfl, ⟨v0, _, rfl, r0, v1, _, rfl, r1, v2, _, rfl, r2, e0⟩, hw, hrt⟩ := h
    have e1 := (e0 : _ = [])
    subst e1
    have sc := sc_law_direction
    exact ⟨_, (show JSs _ F ⟨[sv tI x0, sv tI x1, sv tI x2, .any, .any, .any, .any], []⟩ _ ⟨fun _ H' => Q .non H', Q, fun _ _ => False, fun _ _ => False⟩ _ from
      (js_asg (i := 3) (je_add (je_var (i := 2) (A := tI) (a := x2) rfl) (je_mod (je_int1 (by rfl) T.m_int (je_var (i := 0) (A := tI) (a := x0) rfl)) je_powL)) (fun p_49 => (js_asg (i := 4) (je_add (je_var (i := 2) (A := tI) (a := x2) rfl) (je_mod (je_int1 (by rfl) T.m_int (je_var (i := 1) (A := tI) (a := x1) rfl)) je_powL)) (fun q_50 => (js_asg (i := 5) (je_var (i := 3) (A := tI) (a := p_49) rfl) (fun common_51 => (js_asg (i := 6) (je_var (i := 4) (A := tI) (a := q_50) rfl) (fun rest_52 => (js_while (S := fun (s53 : Int × Int) => ⟨[sv tI x0, sv tI x1, sv tI x2, sv tI p_49, sv tI q_50, sv tI s53.1, sv tI s53.2], []⟩) (s0 := (common_51, rest_52)) ⟨(.same (.same (.same (.same (.same (.same (.same .nil))))))), .slnil⟩ (fun s53 => (jt_gt (je_var (i := 6) (A := tI) (a := s53.2) rfl) je_int)) (fun nxt54 brk55 s53 => (js_par (i := 5) (j := 6) (je_var (i := 6) (A := tI) (a := s53.2) rfl) (je_mod (je_int1 (by rfl) T.m_int (je_var (i := 5) (A := tI) (a := s53.1) rfl)) (je_var (i := 6) (A := tI) (a := s53.2) rfl)) (fun common_57 rest_58 => (js_end (common_57, rest_58) ⟨(.same (.same (.same (.same (.same (.same (.same .nil))))))), .slnil⟩)) sc.nd)) (fun s53 => (js_ifX (jt_eqI (je_var (i := 5) (A := tI) (a := s53.1) rfl) je_int) (js_ret hrt (je_tup2 je_int je_int)) (js_ret hrt (je_tup2 (je_fdiv (je_var (i := 3) (A := tI) (a := p_49) rfl) (je_var (i := 5) (A := tI) (a := s53.1) rfl)) (je_fdiv (je_var (i := 4) (A := tI) (a := q_50) rfl) (je_var (i := 5) (A := tI) (a := s53.1) rfl)))))) PassesOwn.never)) sc.nd)) sc.nd)) sc.nd)) sc.nd)), ⟨Le.refl _, ⟨Same.refl _, (Par.cons ⟨v0, rfl, J.fr_in r0⟩ (Par.cons ⟨v1, rfl, J.fr_in r1⟩ (Par.cons ⟨v2, rfl, J.fr_in r2⟩ (Par.cons trivial (Par.cons trivial (Par.cons trivial (Par.cons trivial Par.nil))))))), List.nodup_nil, fun c hc => by cases hc⟩, hw⟩⟩

theorem ok_is_order (T : Txt Pg K mg) : FnOk Pg w K mg base CX0 1 T.a_is_order T.d_is_order ["rooms", "size"] (spJ (aC (tK tI) (aC tI aN)) (rO tB) fun t => w_is_order t.1 t.2.1) := by
  refine T.F_is_order.ok sc_is_order (fun vs H Q E h => ?_) (fun cdv A outer s H vs Q E hr h => ?_)
  · obtain ⟨t, P, F, rfl, ⟨v0, _, rfl, r0, v1, _, rfl, r1, e0⟩, _⟩ := h
    have e1 := (e0 : _ = [])
    subst e1
    rfl
  · obtain ⟨⟨x0, x1, _⟩, P, F, rfl, ⟨v0, _, rfl, r0, v1, _, rfl, r1, e0⟩, hw, hrt⟩ := h
    have e1 := (e0 : _ = [])
    subst e1
    have sc := sc_is_order
    exact ⟨_, (show JSs _ F ⟨[sv (tK tI) x0, sv tI x1], []⟩ _ ⟨fun _ H' => Q .non H', Q, fun _ _ => False, fun _ _ => False⟩ _ from
      (js_ret hrt (je_eqD (K := K) (A := (tK tI)) hr.units (je_b (je_new (je_sorted (by rfl) T.m_sorted (je_ebL (je_e (je_eK (je_var (i := 0) (A := (tK tI)) (a := x0) rfl))))))) (je_b (je_new (je_listR (by rfl) T.m_list (by rfl) T.m_range (je_var (i := 1) (A := tI) (a := x1) rfl))))))), ⟨Le.refl _, ⟨Same.refl _, (Par.cons ⟨v0, rfl, J.fr_in r0⟩ (Par.cons ⟨v1, rfl, J.fr_in r1⟩ Par.nil)), List.nodup_nil, fun c hc => by cases hc⟩, hw⟩⟩

theorem ok_Plan___init__ (T : Txt Pg K mg) : FnOk Pg w K mg base CX0 2 T.a_Plan___init__ T.d_Plan___init__ ["self", "right", "above"] (spI T.a_Plan ["_right", "_above"] (aC (tK tI) (aC (tK tI) aN)) (a2 (tT K (aV tI)) (tT K (aV tI))) fun t => w_Plan___init__ t.1 t.2.1) := by
  refine T.F_Plan___init__.ok sc_Plan___init__ (fun vs H Q E h => ?_) (fun cdv A outer s H vs Q E hr h => ?_)
  · obtain ⟨x, dx, ws, t, P, F, rfl, hx, hdx, hne, rfl, ⟨v0, _, rfl, r0, v1, _, rfl, r1, e0⟩, _⟩ := h
    have e1 := (e0 : _ = [])
    subst e1
    rfl
  · obtain ⟨x, dx, ws, ⟨x0, x1, _⟩, P, F, rfl, hx, hdx, hne, rfl, ⟨v0, _, rfl, r0, v1, _, rfl, r1, e0⟩, hw, hq⟩ := h
    have e1 := (e0 : _ = [])
    subst e1
    have sc := sc_Plan___init__
    exact ⟨_, (show JSs _ F ⟨[.at x, sv (tK tI) x0, sv (tK tI) x1, .any], [.ins x dx T.a_Plan [] aN ()]⟩ _ ⟨fun _ H' => Q .non H', Q, fun _ _ => False, fun _ _ => False⟩ _ from
      (js_asg (i := 3) (je_lenL (by rfl) T.m_len (je_ebL (je_e (je_eK (je_var (i := 1) (A := (tK tI)) (a := x0) rfl))))) (fun size_68 => (js_ifX (jt_not (jt_leLe je_int (je_var (i := 3) (A := tI) (a := size_68) rfl) (je_cval (A := tI) (by rfl) T.g_Plan T.rd_Plan T.cv_Plan_MOST_ROOMS (fun _ => rfl)))) js_never (js_ifX (jt_not (jt_val (je_call (ok_is_order T) (hr.mono (by decide)) (by rfl) T.g_is_order T.F_is_order.kp T.b_is_order (ja_cons (je_var (i := 1) (A := (tK tI)) (a := x0) rfl) (ja_cons (je_var (i := 3) (A := tI) (a := size_68) rfl) ja_nil))))) js_never (js_ifX (jt_not (jt_val (je_call (ok_is_order T) (hr.mono (by decide)) (by rfl) T.g_is_order T.F_is_order.kp T.b_is_order (ja_cons (je_var (i := 2) (A := (tK tI)) (a := x1) rfl) (ja_cons (je_var (i := 3) (A := tI) (a := size_68) rfl) ja_nil))))) js_never (js_fld (i := 0) (j := 0) T.cl_Plan T.nf_Plan__right (je_tupleL (by rfl) T.m_tuple (je_e (je_eK (je_var (i := 1) (A := (tK tI)) (a := x0) rfl)))) (fun f75 => (js_fld (i := 0) (j := 0) T.cl_Plan T.nf_Plan__above (je_tupleL (by rfl) T.m_tuple (je_e (je_eK (je_var (i := 2) (A := (tK tI)) (a := x1) rfl)))) (fun f76 => (js_endI (κ := ((List Int) × (List Int))) (u := (f75, f76)) (fun σ H k p => hq _ H p k.same (J.init_end (j := 0) k rfl sn2)))) rfl rfl)) rfl rfl))))) sc.nd)), ⟨Le.refl _, J.init_ok hx hdx hne (Par.cons rfl (Par.cons ⟨v0, rfl, r0⟩ (Par.cons ⟨v1, rfl, r1⟩ (Par.cons trivial Par.nil)))), hw⟩⟩

theorem ok_shown (T : Txt Pg K mg) : FnOk Pg w K mg base CX0 1 T.a_shown T.d_shown ["number"] (spJ (aC tI aN) (rO tS) fun t => w_shown t.1) := by
  refine T.F_shown.ok sc_shown (fun vs H Q E h => ?_) (fun cdv A outer s H vs Q E hr h => ?_)
  · obtain ⟨t, P, F, rfl, ⟨v0, _, rfl, r0, e0⟩, _⟩ := h
    have e1 := (e0 : _ = [])
    subst e1
    rfl
  · obtain ⟨⟨x0, _⟩, P, F, rfl, ⟨v0, _, rfl, r0, e0⟩, hw, hrt⟩ := h
    have e1 := (e0 : _ = [])
    subst e1
    have sc := sc_shown
    exact ⟨_, (show JSs _ F ⟨[sv tI x0], []⟩ _ ⟨fun _ H' => Q .non H', Q, fun _ _ => False, fun _ _ => False⟩ _ from
      (js_ifX_b (jt_ltLt (je_neg (je_globI (by rfl) T.c__LONG ⟨_, rfl⟩)) (je_var (i := 0) (A := tI) (a := x0) rfl) (je_globI (by rfl) T.c__LONG ⟨_, rfl⟩)) (js_ret hrt (je_strI (by rfl) T.m_str (je_var (i := 0) (A := tI) (a := x0) rfl))) (js_ret hrt je_str))), ⟨Le.refl _, ⟨Same.refl _, (Par.cons ⟨v0, rfl, J.fr_in r0⟩ Par.nil), List.nodup_nil, fun c hc => by cases hc⟩, hw⟩⟩

theorem ok_err_InvalidDirection (T : Txt Pg K mg) : FnOk Pg w K mg base (L2.CX Pg w) 2 T.a_InvalidDirection___init__ T.d_InvalidDirection___init__ ["self", "p", "q"] (spErr T.a_InvalidDirection 2 (fun is => ([("p" : Str), ("q" : Str)].zip is).reverse)) :=
  T.SF_InvalidDirection.ok2 (k := 1) sc_InvalidDirection___init__ rfl rfl rfl rfl rfl T.su_InvalidDirection T.nf_InvalidDirection_p T.nf_InvalidDirection_q (fun _ _ _ => rfl) (fun _ _ _ => rfl) (fun _ _ _ => rfl) (fun _ _ _ => rfl) (fun _ _ _ => rfl) (by decide) (by decide) (by decide) (by decide) (fun _ _ _ _ _ _ _ hr => (parts4 (by decide) (pe_shown (i := 1) shown_short (ok_shown T) (hr.mono (by decide)) (by rfl) T.g_shown T.F_shown.kp T.b_shown rfl (.inl rfl)) (by decide) (pe_shown (i := 2) shown_short (ok_shown T) (hr.mono (by decide)) (by rfl) T.g_shown T.F_shown.kp T.b_shown rfl (.inl rfl))))

theorem ok_check_direction_x (T : Txt Pg K mg) : FnOk Pg w K mg base (L2.CX Pg w) 4 T.a_check_direction T.d_check_direction ["p", "q"] (spJF (aC tI (aC tI aN)) (rO tN) T.er exn fun t => w_check_direction_x t.1 t.2.1) := by
  refine T.F_check_direction.okX sc_check_direction (fun vs H Q E h => ?_) (fun cdv A outer s H vs Q E hr h => ?_)
  · obtain ⟨t, P, N, F, rfl, ⟨v0, _, rfl, r0, v1, _, rfl, r1, e0⟩, _⟩ := h
    have e1 := (e0 : _ = [])
    subst e1
    rfl
  · obtain ⟨⟨x0, x1, _⟩, P, N, F, rfl, ⟨v0, _, rfl, r0, v1, _, rfl, r1, e0⟩, hw, hrt, hN⟩ := h
    have e1 := (e0 : _ = [])
    subst e1
    have sc := sc_check_direction
    have hnx : ∀ (σ : L2.St) (H' : Hp), Same F.H H' → P () → Q .non H' := fun _ H' s p => hrt () .non H' p s rfl
    exact ⟨_, (show JSs _ F ⟨[sv tI x0, sv tI x1], []⟩ _ ⟨fun _ H' => Q .non H', Q, fun _ _ => False, fun _ _ => False⟩ _ from
      (js_if (jt_w (jw_or (jt_lt (je_var (i := 0) (A := tI) (a := x0) rfl) je_int) (jw_or (jt_lt (je_var (i := 1) (A := tI) (a := x1) rfl) je_int) (jw_oneO (jt_neI (je_gcd (by rfl) T.m_gcd (je_var (i := 0) (A := tI) (a := x0) rfl) (je_var (i := 1) (A := tI) (a := x1) rfl)) je_int))))) (js_raiseF (er := T.er) (en := exn) (c := 4) (W := (fun cls d _ H => E cls d H)) (N := N) (T := (aC tI (aC tI aN))) (f1 := fun (t : Int × Int × Unit) => t.1) (f2 := fun (t : Int × Int × Unit) => t.2.1) rfl (takes_of rfl rfl rfl rfl) (fun σ H k c p q nn d z => hN c p q nn d H k.same z) T.oe_InvalidDirection T.ie_InvalidDirection T.te_InvalidDirection (ok_err_InvalidDirection T) (hr.mono (by decide)) T.be_InvalidDirection (by rfl) T.g_InvalidDirection (ja_cons (je_var (i := 0) (A := tI) (a := x0) rfl) (ja_cons (je_var (i := 1) (A := tI) (a := x1) rfl) ja_nil)) (num2 (c := 4) (en := exn) (f1 := "p") (f2 := "q") fun _ _ => rfl) (by decide) (fun _ _ => ⟨_, _, rfl⟩)) (js_endN hnx))), ⟨Le.refl _, ⟨Same.refl _, (Par.cons ⟨v0, rfl, J.fr_in r0⟩ (Par.cons ⟨v1, rfl, J.fr_in r1⟩ Par.nil)), List.nodup_nil, fun c hc => by cases hc⟩, hw⟩⟩

theorem ok_CrossingWord___init___x (T : Txt Pg K mg) : FnOk Pg w K mg base (L2.CX Pg w) 5 T.a_CrossingWord___init__ T.d_CrossingWord___init__ ["self", "p", "q"] (spIF T.a_CrossingWord ["_p", "_q"] (aC tI (aC tI aN)) (a2 tI tI) T.er exn fun t => w_CrossingWord___init___x t.1 t.2.1) := by
  refine T.F_CrossingWord___init__.okX sc_CrossingWord___init__ (fun vs H Q E h => ?_) (fun cdv A outer s H vs Q E hr h => ?_)
  · obtain ⟨x, dx, ws, t, P, N, F, rfl, hx, hdx, hne, rfl, ⟨v0, _, rfl, r0, v1, _, rfl, r1, e0⟩, _⟩ := h
    have e1 := (e0 : _ = [])
    subst e1
    rfl
  · obtain ⟨x, dx, ws, ⟨x0, x1, _⟩, P, N, F, rfl, hx, hdx, hne, rfl, ⟨v0, _, rfl, r0, v1, _, rfl, r1, e0⟩, hw, hq, hN⟩ := h
    have e1 := (e0 : _ = [])
    subst e1
    have sc := sc_CrossingWord___init__
    exact ⟨_, (show JSs _ F ⟨[.at x, sv tI x0, sv tI x1], [.ins x dx T.a_CrossingWord [] aN ()]⟩ _ ⟨fun _ H' => Q .non H', Q, fun _ _ => False, fun _ _ => False⟩ _ from
      (js_expr (je_callF (er := T.er) (en := exn) (W := (fun cls d _ H => E cls d H)) (N := N) (takes_of rfl rfl rfl rfl) (fun σ H k c p q nn d z => hN c p q nn d H k.same z) (ok_check_direction_x T) (hr.mono (by decide)) (by rfl) T.g_check_direction T.F_check_direction.kp T.b_check_direction (ja_cons (je_var (i := 1) (A := tI) (a := x0) rfl) (ja_cons (je_var (i := 2) (A := tI) (a := x1) rfl) ja_nil))) (js_fld (i := 0) (j := 0) T.cl_CrossingWord T.nf_CrossingWord__p (je_var (i := 1) (A := tI) (a := x0) rfl) (fun f97 => (js_fld (i := 0) (j := 0) T.cl_CrossingWord T.nf_CrossingWord__q (je_var (i := 2) (A := tI) (a := x1) rfl) (fun f98 => (js_endI (κ := (Int × Int)) (u := (f97, f98)) (fun σ H k p => hq _ H p k.same (J.init_end (j := 0) k rfl sn2)))) rfl rfl)) rfl rfl))), ⟨Le.refl _, J.init_ok hx hdx hne (Par.cons rfl (Par.cons ⟨v0, rfl, r0⟩ (Par.cons ⟨v1, rfl, r1⟩ Par.nil))), hw⟩⟩

theorem ok_Plan_size (T : Txt Pg K mg) : FnOk Pg w K mg base CX0 1 T.a_Plan_size T.d_Plan_size ["self"] (spJ (aC (tC T.a_Plan ["_right", "_above"] (a2 (tT K (aV tI)) (tT K (aV tI)))) aN) (rO tI) fun t => w_Plan_size t.1) := by
  refine T.F_Plan_size.ok sc_Plan_size (fun vs H Q E h => ?_) (fun cdv A outer s H vs Q E hr h => ?_)
  · obtain ⟨t, P, F, rfl, ⟨v0, _, rfl, r0, e0⟩, _⟩ := h
    have e1 := (e0 : _ = [])
    subst e1
    rfl
  · obtain ⟨⟨x0, _⟩, P, F, rfl, ⟨v0, _, rfl, r0, e0⟩, hw, hrt⟩ := h
    have e1 := (e0 : _ = [])
    subst e1
    have sc := sc_Plan_size
    exact ⟨_, (show JSs _ F ⟨[sv (tC T.a_Plan ["_right", "_above"] (a2 (tT K (aV tI)) (tT K (aV tI)))) x0], []⟩ _ ⟨fun _ H' => Q .non H', Q, fun _ _ => False, fun _ _ => False⟩ _ from
      (js_ret hrt (je_lenT (by rfl) T.m_len (je_fld (A := (tT K (aV tI))) (h := fun (t : ((List Int) × (List Int))) => t.1) (je_var (i := 0) (A := (tC T.a_Plan ["_right", "_above"] (a2 (tT K (aV tI)) (tT K (aV tI))))) (a := x0) rfl) T.cl_Plan T.nf_Plan__right (fun _ _ _ ⟨y0, y1, e0, h0, h1⟩ => ⟨y0, by rw [e0]; rfl, h0⟩)) len_aV))), ⟨Le.refl _, ⟨Same.refl _, (Par.cons ⟨v0, rfl, J.fr_in r0⟩ Par.nil), List.nodup_nil, fun c hc => by cases hc⟩, hw⟩⟩

theorem ok_err_InvalidRoom (T : Txt Pg K mg) : FnOk Pg w K mg base (L2.CX Pg w) 2 T.a_InvalidRoom___init__ T.d_InvalidRoom___init__ ["self", "room"] (spErr T.a_InvalidRoom 1 (fun is => [("room" : Str)].zip is)) :=
  T.SF_InvalidRoom.ok1 (k := 1) sc_InvalidRoom___init__ rfl rfl rfl rfl rfl T.su_InvalidRoom T.nf_InvalidRoom_room (fun _ _ _ => rfl) (fun _ _ _ => rfl) (fun _ _ _ => rfl) (fun _ _ _ => rfl) (by decide) (by decide) (fun _ _ _ _ _ _ _ hr => (parts2 (by decide) (pe_shown (i := 1) shown_short (ok_shown T) (hr.mono (by decide)) (by rfl) T.g_shown T.F_shown.kp T.b_shown rfl (.inl rfl))))

theorem ok_Plan_behind (T : Txt Pg K mg) : FnOk Pg w K mg base CX0 3 T.a_Plan_behind T.d_Plan_behind ["self", "room", "letter"] (spJ (aC (tC T.a_Plan ["_right", "_above"] (a2 (tT K (aV tI)) (tT K (aV tI)))) (aC tI (aC tS aN))) (rO tI) fun t => w_Plan_behind t.1 t.2.1 t.2.2.1) := by
  refine T.F_Plan_behind.ok sc_Plan_behind (fun vs H Q E h => ?_) (fun cdv A outer s H vs Q E hr h => ?_)
  · obtain ⟨t, P, F, rfl, ⟨v0, _, rfl, r0, v1, _, rfl, r1, v2, _, rfl, r2, e0⟩, _⟩ := h
    have e1 := (e0 : _ = [])
    subst e1
    rfl
  · obtain ⟨⟨x0, x1, x2, _⟩, P, F, rfl, ⟨v0, _, rfl, r0, v1, _, rfl, r1, v2, _, rfl, r2, e0⟩, hw, hrt⟩ := h
    have e1 := (e0 : _ = [])
    subst e1
    have sc := sc_Plan_behind
    exact ⟨_, (show JSs _ F ⟨[sv (tC T.a_Plan ["_right", "_above"] (a2 (tT K (aV tI)) (tT K (aV tI)))) x0, sv tI x1, sv tS x2], []⟩ _ ⟨fun _ H' => Q .non H', Q, fun _ _ => False, fun _ _ => False⟩ _ from
      (js_ifX (jt_not (jt_leLt je_int (je_var (i := 1) (A := tI) (a := x1) rfl) (je_prop (je_var (i := 0) (A := (tC T.a_Plan ["_right", "_above"] (a2 (tT K (aV tI)) (tT K (aV tI))))) (a := x0) rfl) T.cl_Plan T.M_Plan_size (ok_Plan_size T) (hr.mono (by decide)) T.b_Plan_size))) js_never (js_ifX (jt_eqS (je_var (i := 2) (A := tS) (a := x2) rfl) je_str) (js_ret hrt (je_ixV (je_fld (A := (tT K (aV tI))) (h := fun (t : ((List Int) × (List Int))) => t.1) (je_var (i := 0) (A := (tC T.a_Plan ["_right", "_above"] (a2 (tT K (aV tI)) (tT K (aV tI))))) (a := x0) rfl) T.cl_Plan T.nf_Plan__right (fun _ _ _ ⟨y0, y1, e0, h0, h1⟩ => ⟨y0, by rw [e0]; rfl, h0⟩)) (je_var (i := 1) (A := tI) (a := x1) rfl))) (js_ret hrt (je_ixV (je_fld (A := (tT K (aV tI))) (h := fun (t : ((List Int) × (List Int))) => t.2) (je_var (i := 0) (A := (tC T.a_Plan ["_right", "_above"] (a2 (tT K (aV tI)) (tT K (aV tI))))) (a := x0) rfl) T.cl_Plan T.nf_Plan__above (fun _ _ _ ⟨y0, y1, e0, h0, h1⟩ => ⟨y1, by rw [e0]; rfl, h1⟩)) (je_var (i := 1) (A := tI) (a := x1) rfl)))))), ⟨Le.refl _, ⟨Same.refl _, (Par.cons ⟨v0, rfl, J.fr_in r0⟩ (Par.cons ⟨v1, rfl, J.fr_in r1⟩ (Par.cons ⟨v2, rfl, J.fr_in r2⟩ Par.nil))), List.nodup_nil, fun c hc => by cases hc⟩, hw⟩⟩

theorem ok_CrossingWord_round_length (T : Txt Pg K mg) : FnOk Pg w K mg base CX0 1 T.a_CrossingWord_round_length T.d_CrossingWord_round_length ["self"] (spJ (aC (tC T.a_CrossingWord ["_p", "_q"] (a2 tI tI)) aN) (rO tI) fun t => w_CrossingWord_round_length t.1) := by
  refine T.F_CrossingWord_round_length.ok sc_CrossingWord_round_length (fun vs H Q E h => ?_) (fun cdv A outer s H vs Q E hr h => ?_)
  · obtain ⟨t, P, F, rfl, ⟨v0, _, rfl, r0, e0⟩, _⟩ := h
    have e1 := (e0 : _ = [])
    subst e1
    rfl
  · obtain ⟨⟨x0, _⟩, P, F, rfl, ⟨v0, _, rfl, r0, e0⟩, hw, hrt⟩ := h
    have e1 := (e0 : _ = [])
    subst e1
    have sc := sc_CrossingWord_round_length
    exact ⟨_, (show JSs _ F ⟨[sv (tC T.a_CrossingWord ["_p", "_q"] (a2 tI tI)) x0], []⟩ _ ⟨fun _ H' => Q .non H', Q, fun _ _ => False, fun _ _ => False⟩ _ from
      (js_ret hrt (je_add (je_fld (A := tI) (h := fun (t : (Int × Int)) => t.1) (je_var (i := 0) (A := (tC T.a_CrossingWord ["_p", "_q"] (a2 tI tI))) (a := x0) rfl) T.cl_CrossingWord T.nf_CrossingWord__p (fun _ _ _ ⟨y0, y1, e0, h0, h1⟩ => ⟨y0, by rw [e0]; rfl, h0⟩)) (je_fld (A := tI) (h := fun (t : (Int × Int)) => t.2) (je_var (i := 0) (A := (tC T.a_CrossingWord ["_p", "_q"] (a2 tI tI))) (a := x0) rfl) T.cl_CrossingWord T.nf_CrossingWord__q (fun _ _ _ ⟨y0, y1, e0, h0, h1⟩ => ⟨y1, by rw [e0]; rfl, h1⟩))))), ⟨Le.refl _, ⟨Same.refl _, (Par.cons ⟨v0, rfl, J.fr_in r0⟩ Par.nil), List.nodup_nil, fun c hc => by cases hc⟩, hw⟩⟩

theorem ok_CrossingWord_letter (T : Txt Pg K mg) : FnOk Pg w K mg base CX0 3 T.a_CrossingWord_letter T.d_CrossingWord_letter ["self", "index"] (spJ (aC (tC T.a_CrossingWord ["_p", "_q"] (a2 tI tI)) (aC tI aN)) (rO tS) fun t => w_CrossingWord_letter t.1 t.2.1) := by
  refine T.F_CrossingWord_letter.ok sc_CrossingWord_letter (fun vs H Q E h => ?_) (fun cdv A outer s H vs Q E hr h => ?_)
  · obtain ⟨t, P, F, rfl, ⟨v0, _, rfl, r0, v1, _, rfl, r1, e0⟩, _⟩ := h
    have e1 := (e0 : _ = [])
    subst e1
    rfl
  · obtain ⟨⟨x0, x1, _⟩, P, F, rfl, ⟨v0, _, rfl, r0, v1, _, rfl, r1, e0⟩, hw, hrt⟩ := h
    have e1 := (e0 : _ = [])
    subst e1
    have sc := sc_CrossingWord_letter
    exact ⟨_, (show JSs _ F ⟨[sv (tC T.a_CrossingWord ["_p", "_q"] (a2 tI tI)) x0, sv tI x1, .any], []⟩ _ ⟨fun _ H' => Q .non H', Q, fun _ _ => False, fun _ _ => False⟩ _ from
      (js_asg (i := 2) (je_prop (je_var (i := 0) (A := (tC T.a_CrossingWord ["_p", "_q"] (a2 tI tI))) (a := x0) rfl) T.cl_CrossingWord T.M_CrossingWord_round_length (ok_CrossingWord_round_length T) (hr.mono (by decide)) T.b_CrossingWord_round_length) (fun length_126 => (js_ifX (jt_ge (je_add (je_mod (je_mul (je_var (i := 1) (A := tI) (a := x1) rfl) (je_fld (A := tI) (h := fun (t : (Int × Int)) => t.2) (je_var (i := 0) (A := (tC T.a_CrossingWord ["_p", "_q"] (a2 tI tI))) (a := x0) rfl) T.cl_CrossingWord T.nf_CrossingWord__q (fun _ _ _ ⟨y0, y1, e0, h0, h1⟩ => ⟨y1, by rw [e0]; rfl, h1⟩))) (je_var (i := 2) (A := tI) (a := length_126) rfl)) (je_fld (A := tI) (h := fun (t : (Int × Int)) => t.2) (je_var (i := 0) (A := (tC T.a_CrossingWord ["_p", "_q"] (a2 tI tI))) (a := x0) rfl) T.cl_CrossingWord T.nf_CrossingWord__q (fun _ _ _ ⟨y0, y1, e0, h0, h1⟩ => ⟨y1, by rw [e0]; rfl, h1⟩))) (je_var (i := 2) (A := tI) (a := length_126) rfl)) (js_ret hrt je_str) (js_ret hrt je_str))) sc.nd)), ⟨Le.refl _, ⟨Same.refl _, (Par.cons ⟨v0, rfl, J.fr_in r0⟩ (Par.cons ⟨v1, rfl, J.fr_in r1⟩ (Par.cons trivial Par.nil))), List.nodup_nil, fun c hc => by cases hc⟩, hw⟩⟩

theorem ok_rooms_passed (T : Txt Pg K mg) : GFn Pg w K mg base 7 T.a_rooms_passed T.d_rooms_passed ["plan", "p", "q", "start", "crossings"] (spJL (aC (tC T.a_Plan ["_right", "_above"] (a2 (tT K (aV tI)) (tT K (aV tI)))) (aC tI (aC tI (aC tI (aC (tO tI) aN))))) T.er exn (fun t => w_rooms_passed t.1 t.2.1 t.2.2.1 t.2.2.2.1 t.2.2.2.2.1)) := by
  refine T.F_rooms_passed.lgok sc_rooms_passed (fun vs H Q E h => ?_) (fun cdv A outer s H vs Q E pn hr h => ?_)
  · obtain ⟨t, P, N, F, rfl, ⟨v0, _, rfl, r0, v1, _, rfl, r1, v2, _, rfl, r2, v3, _, rfl, r3, v4, _, rfl, r4, e0⟩, _⟩ := h
    have e1 := (e0 : _ = [])
    subst e1
    rfl
  · obtain ⟨⟨x0, x1, x2, x3, x4, _⟩, K0, N, F, rfl, ⟨v0, _, rfl, r0, v1, _, rfl, r1, v2, _, rfl, r2, v3, _, rfl, r3, v4, _, rfl, r4, e0⟩, hw, hE, hN⟩ := h
    have e1 := (e0 : _ = [])
    subst e1
    have sc := sc_rooms_passed
    exact ⟨_, (show JL _ F ⟨[sv (tC T.a_Plan ["_right", "_above"] (a2 (tT K (aV tI)) (tT K (aV tI)))) x0, sv tI x1, sv tI x2, sv tI x3, sv (tO tI) x4, .any, .any, .any], []⟩ _ ⟨fun ys _ H' => Q ys H', fun ys v H' => v = .non ∧ Q ys H', fun _ _ _ => False, fun _ _ _ => False⟩ _ from
      (jl_plain1 (S := fun (s87 : (Int × Int)) => ⟨[sv (tC T.a_Plan ["_right", "_above"] (a2 (tT K (aV tI)) (tT K (aV tI)))) x0, sv tI x1, sv tI x2, sv tI x3, sv (tO tI) x4, sv (tC T.a_CrossingWord ["_p", "_q"] (a2 tI tI)) s87, .any, .any], []⟩) hE (fun J88 R => (js_asg (i := 5) (je_makeF (er := T.er) (en := exn) (W := (fun cls d _ H => E cls d H)) (N := N) (T := (aC tI (aC tI aN))) (U := (a2 tI tI)) (w := fun t => w_CrossingWord___init___x t.1 t.2.1) takes_gcx (fun σ H k c p q nn d z => hN c p q nn d H k.same z) T.M_CrossingWord___init__ (ok_CrossingWord___init___x T) (hr.mono (by decide)) (by rfl) T.g_CrossingWord T.b_CrossingWord___init__ (ja_cons (je_var (i := 1) (A := tI) (a := x1) rfl) (ja_cons (je_var (i := 2) (A := tI) (a := x2) rfl) ja_nil))) (fun word_90 => (js_end word_90 ⟨(.same (.same (.same (.same (.same (.same (.any (.any .nil)))))))), .slnil⟩)) sc.nd)) (fun s87 => (jl_plain1 (S := fun (s92 : Unit) => ⟨[sv (tC T.a_Plan ["_right", "_above"] (a2 (tT K (aV tI)) (tT K (aV tI)))) x0, sv tI x1, sv tI x2, sv tI x3, sv (tO tI) x4, sv (tC T.a_CrossingWord ["_p", "_q"] (a2 tI tI)) s87, .any, .any], []⟩) hE (fun J93 R => (js_if (jt_not (jt_leLt je_int (je_var (i := 3) (A := tI) (a := x3) rfl) (je_prop (je_var (i := 0) (A := (tC T.a_Plan ["_right", "_above"] (a2 (tT K (aV tI)) (tT K (aV tI))))) (a := x0) rfl) T.cl_Plan T.M_Plan_size (ok_Plan_size T) (hr.mono (by decide)) T.b_Plan_size))) (js_raiseF (er := T.er) (en := exn) (c := 3) (W := (fun cls d _ H => E cls d H)) (N := N) (T := (aC tI aN)) (f1 := fun (t : Int × Unit) => t.1) (f2 := fun (t : Int × Unit) => 0) rfl takes_gcx (fun σ H k c p q nn d z => hN c p q nn d H k.same z) T.oe_InvalidRoom T.ie_InvalidRoom T.te_InvalidRoom (ok_err_InvalidRoom T) (hr.mono (by decide)) T.be_InvalidRoom (by rfl) T.g_InvalidRoom (ja_cons (je_var (i := 3) (A := tI) (a := x3) rfl) ja_nil) (num1 (c := 3) (en := exn) (f1 := "room") fun _ => rfl) (by decide) (fun _ _ => ⟨_, _, rfl⟩)) (js_end () ⟨(.same (.same (.same (.same (.same (.same (.any (.any .nil)))))))), .slnil⟩))) (fun s92 => (jl_plain1 (S := fun (s98 : Int) => ⟨[sv (tC T.a_Plan ["_right", "_above"] (a2 (tT K (aV tI)) (tT K (aV tI)))) x0, sv tI x1, sv tI x2, sv tI x3, sv (tO tI) x4, sv (tC T.a_CrossingWord ["_p", "_q"] (a2 tI tI)) s87, sv tI s98, .any], []⟩) hE (fun J99 R => (js_asg (i := 6) (je_var (i := 3) (A := tI) (a := x3) rfl) (fun room_101 => (js_end room_101 ⟨(.same (.same (.same (.same (.same (.same (.same (.any .nil)))))))), .slnil⟩)) sc.nd)) (fun s98 => (jl_plain1 (S := fun (s102 : Int) => ⟨[sv (tC T.a_Plan ["_right", "_above"] (a2 (tT K (aV tI)) (tT K (aV tI)))) x0, sv tI x1, sv tI x2, sv tI x3, sv (tO tI) x4, sv (tC T.a_CrossingWord ["_p", "_q"] (a2 tI tI)) s87, sv tI s98, sv tI s102], []⟩) hE (fun J103 R => (js_asg (i := 7) je_int (fun index_105 => (js_end index_105 ⟨(.same (.same (.same (.same (.same (.same (.same (.same .nil)))))))), .slnil⟩)) sc.nd)) (fun s102 => (jl_while (S := fun (s106 : Int × Int) => ⟨[sv (tC T.a_Plan ["_right", "_above"] (a2 (tT K (aV tI)) (tT K (aV tI)))) x0, sv tI x1, sv tI x2, sv tI x3, sv (tO tI) x4, sv (tC T.a_CrossingWord ["_p", "_q"] (a2 tI tI)) s87, sv tI s106.1, sv tI s106.2], []⟩) (z0 := (s98, s102)) ⟨(.same (.same (.same (.same (.same (.same (.same (.same .nil)))))))), .slnil⟩ owns_gcx (fun s106 => (jt_w (jw_or (jt_isN (je_var (i := 4) (A := (tO tI)) (a := x4) rfl)) (jw_oneO (jt_lt (je_var (i := 7) (A := tI) (a := s106.2) rfl) (je_get (je_var (i := 4) (A := (tO tI)) (a := x4) rfl))))))) (fun s106 nxt107 brk108 => (jl_yield (je_var (i := 6) (A := tI) (a := s106.1) rfl) (jl_plain1 (S := fun (s114 : Int) => ⟨[sv (tC T.a_Plan ["_right", "_above"] (a2 (tT K (aV tI)) (tT K (aV tI)))) x0, sv tI x1, sv tI x2, sv tI x3, sv (tO tI) x4, sv (tC T.a_CrossingWord ["_p", "_q"] (a2 tI tI)) s87, sv tI s114, sv tI s106.2], []⟩) hE (fun J115 R => (js_asg (i := 6) (je_meth (je_var (i := 0) (A := (tC T.a_Plan ["_right", "_above"] (a2 (tT K (aV tI)) (tT K (aV tI))))) (a := x0) rfl) T.cl_Plan T.M_Plan_behind (ok_Plan_behind T) (hr.mono (by decide)) T.b_Plan_behind (ja_cons (je_var (i := 6) (A := tI) (a := s106.1) rfl) (ja_cons (je_meth (je_var (i := 5) (A := (tC T.a_CrossingWord ["_p", "_q"] (a2 tI tI))) (a := s87) rfl) T.cl_CrossingWord T.M_CrossingWord_letter (ok_CrossingWord_letter T) (hr.mono (by decide)) T.b_CrossingWord_letter (ja_cons (je_var (i := 7) (A := tI) (a := s106.2) rfl) ja_nil) (fun vs h => match vs, h with | [_, _], _ => rfl)) ja_nil)) (fun vs h => match vs, h with | [_, _], _ => rfl)) (fun room_117 => (js_end room_117 ⟨(.same (.same (.same (.same (.same (.same (.same (.same .nil)))))))), .slnil⟩)) sc.nd)) (fun s114 => (jl_plain1 (S := fun (s120 : Int) => ⟨[sv (tC T.a_Plan ["_right", "_above"] (a2 (tT K (aV tI)) (tT K (aV tI)))) x0, sv tI x1, sv tI x2, sv tI x3, sv (tO tI) x4, sv (tC T.a_CrossingWord ["_p", "_q"] (a2 tI tI)) s87, sv tI s114, sv tI s120], []⟩) hE (fun J121 R => (js_augI (i := 7) rfl je_int (fun index_123 => (js_end index_123 ⟨(.same (.same (.same (.same (.same (.same (.same (.same .nil)))))))), .slnil⟩)) sc.nd)) (fun s120 => (jl_plain1 (S := fun (s124 : Unit) => ⟨[sv (tC T.a_Plan ["_right", "_above"] (a2 (tT K (aV tI)) (tT K (aV tI)))) x0, sv tI x1, sv tI x2, sv tI x3, sv (tO tI) x4, sv (tC T.a_CrossingWord ["_p", "_q"] (a2 tI tI)) s87, sv tI s114, sv tI s120], []⟩) hE (fun J125 R => (js_if (jt_w (jw_and (jt_isN (je_var (i := 4) (A := (tO tI)) (a := x4) rfl)) (jw_and (jt_eqI (je_var (i := 6) (A := tI) (a := s114) rfl) (je_var (i := 3) (A := tI) (a := x3) rfl)) (jw_one (jt_eqI (je_mod (je_var (i := 7) (A := tI) (a := s120) rfl) (je_prop (je_var (i := 5) (A := (tC T.a_CrossingWord ["_p", "_q"] (a2 tI tI))) (a := s87) rfl) T.cl_CrossingWord T.M_CrossingWord_round_length (ok_CrossingWord_round_length T) (hr.mono (by decide)) T.b_CrossingWord_round_length)) je_int))))) (js_retN (P := fun _ => R) (fun _ v H p s r => ⟨r, s, p⟩)) (js_end () ⟨(.same (.same (.same (.same (.same (.same (.same (.same .nil)))))))), .slnil⟩))) (fun s124 => (jl_end (s114, s120) ⟨(.same (.same (.same (.same (.same (.same (.same (.same .nil)))))))), .slnil⟩))))))))) (fun s106 => (jl_endK hE)))))))))))), ⟨LE.refl _, [], rfl, ⟨Same.refl _, (Par.cons ⟨v0, rfl, J.fr_in r0⟩ (Par.cons ⟨v1, rfl, J.fr_in r1⟩ (Par.cons ⟨v2, rfl, J.fr_in r2⟩ (Par.cons ⟨v3, rfl, J.fr_in r3⟩ (Par.cons ⟨v4, rfl, J.fr_in r4⟩ (Par.cons trivial (Par.cons trivial (Par.cons trivial Par.nil)))))))), List.nodup_nil, fun c hc => by cases hc⟩, hw⟩⟩

theorem kb_rooms_passed_start_crossings (T : Txt Pg K mg) : ∃ g, KBn K T.d_rooms_passed ["plan", "p", "q", "start", "crossings"] 3 ["start", "crossings"] g (fun vs zs => vs ++ (zs ++ [])) := by
  obtain ⟨mv, h⟩ := T.F_rooms_passed.kbinds0 (ps := ["plan", "p", "q", "start", "crossings"]) 3 ["start", "crossings"] [] (fun vs mz zs => vs ++ (zs ++ mz)) (by simp) (by simp) (fun r1 r2 r3 => r1.append (r3.append r2)) (fun D doc pm an cdv ct us mv ws h1 h2 h3 => match us, mv, ws, h1, h2, h3 with | [_, _, _], [], [_, _], _, _, _ => rfl)
  exact ⟨_, h⟩

theorem ok_law_letter (T : Txt Pg K mg) : FnOk Pg w K mg base CX0 1 T.a_law_letter T.d_law_letter ["_law_pair", "_law_index"] (spJ (aC (tT K (a2 tI tI)) (aC tI aN)) (rO tS) fun t => w_law_letter t.1 t.2.1) := by
  refine T.F_law_letter.ok sc_law_letter (fun vs H Q E h => ?_) (fun cdv A outer s H vs Q E hr h => ?_)
  · obtain ⟨t, P, F, rfl, ⟨v0, _, rfl, r0, v1, _, rfl, r1, e0⟩, _⟩ := h
    have e1 := (e0 : _ = [])
    subst e1
    rfl
  · obtain ⟨⟨x0, x1, _⟩, P, F, rfl, ⟨v0, _, rfl, r0, v1, _, rfl, r1, e0⟩, hw, hrt⟩ := h
    have e1 := (e0 : _ = [])
    subst e1
    have sc := sc_law_letter
    exact ⟨_, (show JSs _ F ⟨[sv (tT K (a2 tI tI)) x0, sv tI x1, .any], []⟩ _ ⟨fun _ H' => Q .non H', Q, fun _ _ => False, fun _ _ => False⟩ _ from
      (js_asg (i := 2) (je_add (je_2a (je_var (i := 0) (A := (tT K (a2 tI tI))) (a := x0) rfl)) (je_2b (je_var (i := 0) (A := (tT K (a2 tI tI))) (a := x0) rfl))) (fun length_153 => (js_ifX (jt_gt (je_fdiv (je_mul (je_add (je_var (i := 1) (A := tI) (a := x1) rfl) je_int) (je_2b (je_var (i := 0) (A := (tT K (a2 tI tI))) (a := x0) rfl))) (je_var (i := 2) (A := tI) (a := length_153) rfl)) (je_fdiv (je_mul (je_var (i := 1) (A := tI) (a := x1) rfl) (je_2b (je_var (i := 0) (A := (tT K (a2 tI tI))) (a := x0) rfl))) (je_var (i := 2) (A := tI) (a := length_153) rfl))) (js_ret hrt je_str) (js_ret hrt je_str))) sc.nd)), ⟨Le.refl _, ⟨Same.refl _, (Par.cons ⟨v0, rfl, J.fr_in r0⟩ (Par.cons ⟨v1, rfl, J.fr_in r1⟩ (Par.cons trivial Par.nil))), List.nodup_nil, fun c hc => by cases hc⟩, hw⟩⟩

theorem ok_law_rooms (T : Txt Pg K mg) : FnOk Pg w K mg base CX0 2 T.a_law_rooms T.d_law_rooms ["_law_lists", "_law_pair", "_law_room", "_law_count"] (spJ (aC (tK (tK tI)) (aC (tT K (a2 tI tI)) (aC tI (aC tI aN)))) (rN tI) fun t => w_law_rooms t.1 t.2.1 t.2.2.1 t.2.2.2.1) := by
  refine T.F_law_rooms.ok sc_law_rooms (fun vs H Q E h => ?_) (fun cdv A outer s H vs Q E hr h => ?_)
  · obtain ⟨t, P, F, rfl, ⟨v0, _, rfl, r0, v1, _, rfl, r1, v2, _, rfl, r2, v3, _, rfl, r3, e0⟩, _⟩ := h
    have e1 := (e0 : _ = [])
    subst e1
    rfl
  · obtain ⟨⟨x0, x1, x2, x3, _⟩, P, F, rfl, ⟨v0, _, rfl, r0, v1, _, rfl, r1, v2, _, rfl, r2, v3, _, rfl, r3, e0⟩, hw, hrt⟩ := h
    have e1 := (e0 : _ = [])
    subst e1
    have sc := sc_law_rooms
    exact ⟨_, (show JSs _ F ⟨[sv (tK (tK tI)) x0, sv (tT K (a2 tI tI)) x1, sv tI x2, sv tI x3, .any, .any], []⟩ _ ⟨fun _ H' => Q .non H', Q, fun _ _ => False, fun _ _ => False⟩ _ from
      (js_stN (i := 4) (ps_set (i := 4) sc.nd rfl (by first | exact Or.inl rfl | exact Or.inr rfl) (je_lst0 (A := tI)) rfl (by first | exact .inl rfl | exact .inr rfl)) (fun p144 rooms_here_143 => (js_forR (S := fun (s145 : Int × (List Int)) => ⟨[sv (tK (tK tI)) x0, sv (tT K (a2 tI tI)) x1, sv tI s145.1, sv tI x3, .at p144, .any], [.lst p144 tI s145.2]⟩) (s0 := (x2, rooms_here_143)) (by rfl) T.m_range (je_var (i := 3) (A := tI) (a := x3) rfl) ⟨(.same (.same (.same (.same (.same (.any .nil)))))), (.cons₂ _ .slnil)⟩ (pg_name (i := 5) sc.nd rfl (Or.inl rfl)) (tg_name) (fun nxt147 brk148 index_146 s145 => (js_app (i := 4) (j := 0) (pe_bm PySem.F.plainAttrs_list PySem.F.slot_list_append PySem.F.type_list_append mt_append (pv 4) (pa_cons (je_var (i := 2) (A := tI) (a := s145.1) rfl) pa_nil)) (fun y150 => (js_asg (i := 2) (je_ixL (je_e (je_eK (je_ixL (je_e (je_eK (je_var (i := 0) (A := (tK (tK tI))) (a := x0) rfl))) (je_intB (by rfl) T.m_int (je_eqS (je_call (ok_law_letter T) (hr.mono (by decide)) (by rfl) T.g_law_letter T.F_law_letter.kp T.b_law_letter (ja_cons (je_var (i := 1) (A := (tT K (a2 tI tI))) (a := x1) rfl) (ja_cons (je_var (i := 5) (A := tI) (a := index_146) rfl) ja_nil))) je_str))))) (je_var (i := 2) (A := tI) (a := s145.1) rfl)) (fun room_157 => (js_end (room_157, (s145.2 ++ [y150])) ⟨(.same (.same (.same (.same (.same (.any .nil)))))), (.cons₂ _ .slnil)⟩)) sc.nd)) rfl rfl)) (fun s145 => (js_retC (i := 4) (j := 0) hrt rfl rfl)) PassesOwn.never)))), ⟨Le.refl _, ⟨Same.refl _, (Par.cons ⟨v0, rfl, J.fr_in r0⟩ (Par.cons ⟨v1, rfl, J.fr_in r1⟩ (Par.cons ⟨v2, rfl, J.fr_in r2⟩ (Par.cons ⟨v3, rfl, J.fr_in r3⟩ (Par.cons trivial (Par.cons trivial Par.nil)))))), List.nodup_nil, fun c hc => by cases hc⟩, hw⟩⟩

theorem ok_law_is_number (T : Txt Pg K mg) : FnOk Pg w K mg base CX0 1 T.a_law_is_number T.d_law_is_number ["_law_value"] (spJ (aC tI aN) (rO tB) fun t => w_law_is_number t.1) := by
  refine T.F_law_is_number.ok sc_law_is_number (fun vs H Q E h => ?_) (fun cdv A outer s H vs Q E hr h => ?_)
  · obtain ⟨t, P, F, rfl, ⟨v0, _, rfl, r0, e0⟩, _⟩ := h
    have e1 := (e0 : _ = [])
    subst e1
    rfl
  · obtain ⟨⟨x0, _⟩, P, F, rfl, ⟨v0, _, rfl, r0, e0⟩, hw, hrt⟩ := h
    have e1 := (e0 : _ = [])
    subst e1
    have sc := sc_law_is_number
    exact ⟨_, (show JSs _ F ⟨[sv tI x0], []⟩ _ ⟨fun _ H' => Q .non H', Q, fun _ _ => False, fun _ _ => False⟩ _ from
      (js_ret hrt (je_and (je_isi (T := "int") (t := "int") (b := true) (by rfl) T.m_isinstance tyI (by decide +kernel) (je_b (je_var (i := 0) (A := tI) (a := x0) rfl)) (pe_bltn (by rfl) T.m_int (by decide +kernel) rfl)) (je_one (je_not (je_isi (T := "bool") (t := "int") (b := false) (by rfl) T.m_isinstance tyI (by decide +kernel) (je_b (je_var (i := 0) (A := tI) (a := x0) rfl)) (pe_bltn (by rfl) T.m_bool (by decide +kernel) rfl))))))), ⟨Le.refl _, ⟨Same.refl _, (Par.cons ⟨v0, rfl, J.fr_in r0⟩ Par.nil), List.nodup_nil, fun c hc => by cases hc⟩, hw⟩⟩

theorem ok_law_is_row_l (T : Txt Pg K mg) : FnOk Pg w K mg base CX0 2 T.a_law_is_row T.d_law_is_row ["_law_actual", "_law_expected"] (spJ (aC (tT K (aV tI)) (aC (tK tI) aN)) (rO tB) fun t => w_law_is_row_l t.1 t.2.1) := by
  refine T.F_law_is_row.ok sc_law_is_row (fun vs H Q E h => ?_) (fun cdv A outer s H vs Q E hr h => ?_)
  · obtain ⟨t, P, F, rfl, ⟨v0, _, rfl, r0, v1, _, rfl, r1, e0⟩, _⟩ := h
    have e1 := (e0 : _ = [])
    subst e1
    rfl
  · obtain ⟨⟨x0, x1, _⟩, P, F, rfl, ⟨v0, _, rfl, r0, v1, _, rfl, r1, e0⟩, hw, hrt⟩ := h
    have e1 := (e0 : _ = [])
    subst e1
    have sc := sc_law_is_row
    exact ⟨_, (show JSs _ F ⟨[sv (tT K (aV tI)) x0, sv (tK tI) x1, .any], []⟩ _ ⟨fun _ H' => Q .non H', Q, fun _ _ => False, fun _ _ => False⟩ _ from
      (js_ifX (jt_w (jw_or (jt_not (jt_val (je_isi (T := "tuple") (t := "tuple") (b := true) (by rfl) T.m_isinstance tyT (by decide +kernel) (je_b (je_var (i := 0) (A := (tT K (aV tI))) (a := x0) rfl)) (pe_bltn (by rfl) T.m_tuple (by decide +kernel) rfl)))) (jw_oneO (jt_neI (je_lenT (by rfl) T.m_len (je_var (i := 0) (A := (tT K (aV tI))) (a := x0) rfl) len_aV) (je_lenL (by rfl) T.m_len (je_ebL (je_e (je_eK (je_var (i := 1) (A := (tK tI)) (a := x1) rfl))))))))) (js_ret hrt je_bl) (js_forR (S := fun (s162 : Unit) => ⟨[sv (tT K (aV tI)) x0, sv (tK tI) x1, .any], []⟩) (s0 := ()) (by rfl) T.m_range (je_lenL (by rfl) T.m_len (je_ebL (je_e (je_eK (je_var (i := 1) (A := (tK tI)) (a := x1) rfl))))) ⟨(.same (.same (.any .nil))), .slnil⟩ (pg_name (i := 2) sc.nd rfl (Or.inl rfl)) (tg_name) (fun nxt164 brk165 k_163 s162 => (js_if (jt_w (jw_or (jt_not (jt_val (je_call (ok_law_is_number T) (hr.mono (by decide)) (by rfl) T.g_law_is_number T.F_law_is_number.kp T.b_law_is_number (ja_cons (je_ixV (je_var (i := 0) (A := (tT K (aV tI))) (a := x0) rfl) (je_var (i := 2) (A := tI) (a := k_163) rfl)) ja_nil)))) (jw_oneO (jt_neI (je_ixV (je_var (i := 0) (A := (tT K (aV tI))) (a := x0) rfl) (je_var (i := 2) (A := tI) (a := k_163) rfl)) (je_ixL (je_e (je_eK (je_var (i := 1) (A := (tK tI)) (a := x1) rfl))) (je_var (i := 2) (A := tI) (a := k_163) rfl)))))) (js_ret hrt je_bl) (js_end () ⟨(.same (.same (.any .nil))), .slnil⟩))) (fun s162 => (js_ret hrt je_bl)) PassesOwn.never))), ⟨Le.refl _, ⟨Same.refl _, (Par.cons ⟨v0, rfl, J.fr_in r0⟩ (Par.cons ⟨v1, rfl, J.fr_in r1⟩ (Par.cons trivial Par.nil))), List.nodup_nil, fun c hc => by cases hc⟩, hw⟩⟩

theorem kb_rooms_passed_start (T : Txt Pg K mg) : ∃ g, KBn K T.d_rooms_passed ["plan", "p", "q", "start", "crossings"] 3 ["start"] g (fun vs zs => vs ++ (zs ++ [.non])) := by
  obtain ⟨mv, h⟩ := T.F_rooms_passed.kbinds0 (ps := ["plan", "p", "q", "start", "crossings"]) 3 ["start"] [("crossings", .non)] (fun vs mz zs => vs ++ (zs ++ mz)) (by simp) (by simp) (fun r1 r2 r3 => r1.append (r3.append r2)) (fun D doc pm an cdv ct us mv ws h1 h2 h3 => match us, mv, ws, h1, h2, h3 with | [_, _, _], [_], [_], _, _, _ => ⟨_, _, _, _, _, _, rfl, rfl, rfl⟩)
  exact ⟨_, h⟩

theorem ok_law_closed (T : Txt Pg K mg) : FnOk Pg w K mg base CX0 2 T.a_law_closed T.d_law_closed ["_law_lists", "_law_pair", "_law_first"] (spJ (aC (tK (tK tI)) (aC (tT K (a2 tI tI)) (aC tI aN))) (rN tI) fun t => w_law_closed t.1 t.2.1 t.2.2.1) := by
  refine T.F_law_closed.ok sc_law_closed (fun vs H Q E h => ?_) (fun cdv A outer s H vs Q E hr h => ?_)
  · obtain ⟨t, P, F, rfl, ⟨v0, _, rfl, r0, v1, _, rfl, r1, v2, _, rfl, r2, e0⟩, _⟩ := h
    have e1 := (e0 : _ = [])
    subst e1
    rfl
  · obtain ⟨⟨x0, x1, x2, _⟩, P, F, rfl, ⟨v0, _, rfl, r0, v1, _, rfl, r1, v2, _, rfl, r2, e0⟩, hw, hrt⟩ := h
    have e1 := (e0 : _ = [])
    subst e1
    have sc := sc_law_closed
    exact ⟨_, (show JSs _ F ⟨[sv (tK (tK tI)) x0, sv (tT K (a2 tI tI)) x1, sv tI x2, .any, .any, .any, .any], []⟩ _ ⟨fun _ H' => Q .non H', Q, fun _ _ => False, fun _ _ => False⟩ _ from
      (js_asg (i := 3) (je_add (je_2a (je_var (i := 1) (A := (tT K (a2 tI tI))) (a := x1) rfl)) (je_2b (je_var (i := 1) (A := (tT K (a2 tI tI))) (a := x1) rfl))) (fun length_182 => (js_stN (i := 4) (ps_set (i := 4) sc.nd rfl (by first | exact Or.inl rfl | exact Or.inr rfl) (je_lst0 (A := tI)) rfl (by first | exact .inl rfl | exact .inr rfl)) (fun p184 rooms_here_183 => (js_asg (i := 5) (je_var (i := 2) (A := tI) (a := x2) rfl) (fun room_185 => (js_forR (S := fun (s187 : Int × (List Int)) => ⟨[sv (tK (tK tI)) x0, sv (tT K (a2 tI tI)) x1, sv tI x2, sv tI length_182, .at p184, sv tI s187.1, .any], [.lst p184 tI s187.2]⟩) (s0 := (room_185, rooms_here_183)) (by rfl) T.m_range (je_mul (je_lenL (by rfl) T.m_len (je_ebL (je_e (je_eK (je_ixL (je_e (je_eK (je_var (i := 0) (A := (tK (tK tI))) (a := x0) rfl))) je_int))))) (je_var (i := 3) (A := tI) (a := length_182) rfl)) ⟨(.same (.same (.same (.same (.same (.same (.any .nil))))))), (.cons₂ _ .slnil)⟩ (pg_name (i := 6) sc.nd rfl (Or.inl rfl)) (tg_name) (fun nxt189 brk190 index_188 s187 => (js_app (i := 4) (j := 0) (pe_bm PySem.F.plainAttrs_list PySem.F.slot_list_append PySem.F.type_list_append mt_append (pv 4) (pa_cons (je_var (i := 5) (A := tI) (a := s187.1) rfl) pa_nil)) (fun y192 => (js_asg (i := 5) (je_ixL (je_e (je_eK (je_ixL (je_e (je_eK (je_var (i := 0) (A := (tK (tK tI))) (a := x0) rfl))) (je_intB (by rfl) T.m_int (je_eqS (je_call (ok_law_letter T) (hr.mono (by decide)) (by rfl) T.g_law_letter T.F_law_letter.kp T.b_law_letter (ja_cons (je_var (i := 1) (A := (tT K (a2 tI tI))) (a := x1) rfl) (ja_cons (je_var (i := 6) (A := tI) (a := index_188) rfl) ja_nil))) je_str))))) (je_var (i := 5) (A := tI) (a := s187.1) rfl)) (fun room_195 => (js_if (jt_w (jw_and (jt_eqI (je_var (i := 5) (A := tI) (a := room_195) rfl) (je_var (i := 2) (A := tI) (a := x2) rfl)) (jw_one (jt_eqI (je_mod (je_int1 (by rfl) T.m_int (je_add (je_var (i := 6) (A := tI) (a := index_188) rfl) je_int)) (je_var (i := 3) (A := tI) (a := length_182) rfl)) je_int)))) (js_retC (i := 4) (j := 0) hrt rfl rfl) (js_end (room_195, (s187.2 ++ [y192])) ⟨(.same (.same (.same (.same (.same (.same (.any .nil))))))), (.cons₂ _ .slnil)⟩))) sc.nd)) rfl rfl)) (fun s187 => (js_ret hrt (je_lst0 (A := tI)))) PassesOwn.never)) sc.nd)))) sc.nd)), ⟨Le.refl _, ⟨Same.refl _, (Par.cons ⟨v0, rfl, J.fr_in r0⟩ (Par.cons ⟨v1, rfl, J.fr_in r1⟩ (Par.cons ⟨v2, rfl, J.fr_in r2⟩ (Par.cons trivial (Par.cons trivial (Par.cons trivial (Par.cons trivial Par.nil))))))), List.nodup_nil, fun c hc => by cases hc⟩, hw⟩⟩

theorem kb_rooms_passed_ (T : Txt Pg K mg) : ∃ g, KBn K T.d_rooms_passed ["plan", "p", "q", "start", "crossings"] 3 [] g (fun vs zs => vs ++ (zs ++ [.int 0, .non])) := by
  obtain ⟨mv, h⟩ := T.F_rooms_passed.kbinds0 (ps := ["plan", "p", "q", "start", "crossings"]) 3 [] [("start", .int 0), ("crossings", .non)] (fun vs mz zs => vs ++ (zs ++ mz)) (by simp) (by simp) (fun r1 r2 r3 => r1.append (r3.append r2)) (fun D doc pm an cdv ct us mv ws h1 h2 h3 => match us, mv, ws, h1, h2, h3 with | [_, _, _], [_, _], [], _, _, _ => ⟨_, _, _, _, _, _, rfl, rfl, ⟨_, _, _, _, _, _, rfl, rfl, rfl⟩⟩)
  exact ⟨_, h⟩

theorem kb_rooms_passed_crossings (T : Txt Pg K mg) : ∃ g, KBn K T.d_rooms_passed ["plan", "p", "q", "start", "crossings"] 3 ["crossings"] g (fun vs zs => vs ++ ([.int 0] ++ zs)) := by
  obtain ⟨mv, h⟩ := T.F_rooms_passed.kbinds0 (ps := ["plan", "p", "q", "start", "crossings"]) 3 ["crossings"] [("start", .int 0)] (fun vs mz zs => vs ++ (mz ++ zs)) (by simp) (by simp) (fun r1 r2 r3 => r1.append (r2.append r3)) (fun D doc pm an cdv ct us mv ws h1 h2 h3 => match us, mv, ws, h1, h2, h3 with | [_, _, _], [_], [_], _, _, _ => ⟨_, _, _, _, _, _, rfl, rfl, rfl⟩)
  exact ⟨_, h⟩

theorem okq_law_is_number (T : Txt Pg K mg) : FnQ Pg w K mg base CX0 1 T.a_law_is_number T.d_law_is_number ["_law_value"] (spJ (aC tI aN) (rO tB) fun t => w_law_is_number t.1) := by
  refine T.F_law_is_number.okQ sc_law_is_number (fun vs H Q E h => ?_) (fun cdv A outer s H vs Q E hr h => ?_)
  · obtain ⟨t, P, F, rfl, ⟨v0, _, rfl, r0, e0⟩, _⟩ := h
    have e1 := (e0 : _ = [])
    subst e1
    rfl
  · obtain ⟨⟨x0, _⟩, P, F, rfl, ⟨v0, _, rfl, r0, e0⟩, hw, hrt⟩ := h
    have e1 := (e0 : _ = [])
    subst e1
    have sc := sc_law_is_number
    exact ⟨_, (show JSs _ F ⟨[sv tI x0], []⟩ _ ⟨fun _ H' => Q .non H', Q, fun _ _ => False, fun _ _ => False⟩ _ from
      (js_ret hrt (je_and (je_isi (T := "int") (t := "int") (b := true) (by rfl) T.m_isinstance tyI (by decide +kernel) (je_b (je_var (i := 0) (A := tI) (a := x0) rfl)) (pe_bltn (by rfl) T.m_int (by decide +kernel) rfl)) (je_one (je_not (je_isi (T := "bool") (t := "int") (b := false) (by rfl) T.m_isinstance tyI (by decide +kernel) (je_b (je_var (i := 0) (A := tI) (a := x0) rfl)) (pe_bltn (by rfl) T.m_bool (by decide +kernel) rfl))))))), ⟨Le.refl _, ⟨Same.refl _, (Par.cons ⟨v0, rfl, J.fr_in r0⟩ Par.nil), List.nodup_nil, fun c hc => by cases hc⟩, hw⟩⟩

theorem ok_law_refuses (T : Txt Pg K mg) : FnOk Pg w K mg base CX0 11 T.a_law_refuses T.d_law_refuses ["_law_plan", "_law_pair", "_law_room", "_law_count"] (spJ (aC (tC T.a_Plan ["_right", "_above"] (a2 (tT K (aV tI)) (tT K (aV tI)))) (aC (tT K (a2 tI tI)) (aC tI (aC tI aN)))) (rO tB) fun t => w_law_refuses t.1 t.2.1 t.2.2.1 t.2.2.2.1) := by
  refine T.F_law_refuses.ok sc_law_refuses (fun vs H Q E h => ?_) (fun cdv A outer s H vs Q E hr h => ?_)
  · obtain ⟨t, P, F, rfl, ⟨v0, _, rfl, r0, v1, _, rfl, r1, v2, _, rfl, r2, v3, _, rfl, r3, e0⟩, _⟩ := h
    have e1 := (e0 : _ = [])
    subst e1
    rfl
  · obtain ⟨⟨x0, x1, x2, x3, _⟩, P, F, rfl, ⟨v0, _, rfl, r0, v1, _, rfl, r1, v2, _, rfl, r2, v3, _, rfl, r3, e0⟩, hw, hrt⟩ := h
    have e1 := (e0 : _ = [])
    subst e1
    have sc := sc_law_refuses
    exact ⟨_, (show JSs _ F ⟨[sv (tC T.a_Plan ["_right", "_above"] (a2 (tT K (aV tI)) (tT K (aV tI)))) x0, sv (tT K (a2 tI tI)) x1, sv tI x2, sv tI x3, .any], []⟩ _ ⟨fun _ H' => Q .non H', Q, fun _ _ => False, fun _ _ => False⟩ _ from
      (js_tryF (er := T.er) (en := exn) (i := 4) (wc := fun (R229 : Prop) (cc236 : Nat) (pe237 qe238 : Int) => (cc236 = 3 ∧ (w_law_is_number (pe237) fun r242 => ((r242 = true → P (decide (pe237 = x2))) ∧ (r242 = false → P false))))) (wb := fun (R229 : Prop) (N230 : EK) => (w_rooms_passed (x0) (x1.1) (x1.2) (x2) ((some x3)) (fun r235 => R229) (fun (c232 : Nat) (p233 q234 : Int) => c232 ∈ ([3, 4] : List Nat) ∧ N230 c232 p233 q234))) (Wo := fun _ _ _ _ => False) rfl rfl sc.nd rfl rfl ⟨by rfl, by decide, Or.inl T.g_InvalidRoom⟩ rfl takes0 (fun R229 N230 W pn xe tk hW => (js_expr (je_new (je_listG (er := T.er) (en := exn) (W := W) (N := N230) (T := (aC (tC T.a_Plan ["_right", "_above"] (a2 (tT K (aV tI)) (tT K (aV tI)))) (aC tI (aC tI (aC tI (aC (tO tI) aN)))))) (T1 := (aC (tC T.a_Plan ["_right", "_above"] (a2 (tT K (aV tI)) (tT K (aV tI)))) (aC tI (aC tI aN)))) (T2 := (aC tI (aC (tO tI) aN))) (ext := (fun (t1 : ((List Int) × (List Int)) × Int × Int × Unit) (t2 : Int × (Option Int) × Unit) => (t1.1, t1.2.1, t1.2.2.1, t2.1, t2.2.1, ()))) (nC := [3, 4]) tk hW T.noStop (ok_rooms_passed T) (hr.mono (by decide)) (by rfl) T.g_rooms_passed T.F_rooms_passed.kp (kb_rooms_passed_start_crossings T) (fun H vs zs t1 t2 h1 h2 => by obtain ⟨v0, _, rfl, r0, v1, _, rfl, r1, v2, _, rfl, r2, e0⟩ := h1; have e1 := (e0 : _ = []); subst e1; obtain ⟨u0, _, rfl, q0, u1, _, rfl, q1, f0⟩ := h2; have e3 := (f0 : _ = []); subst e3; exact ⟨rfl, rfl, v0, _, rfl, r0, v1, _, rfl, r1, v2, _, rfl, r2, u0, _, rfl, q0, u1, _, rfl, q1, rfl⟩) (ja_cons (je_var (i := 0) (A := (tC T.a_Plan ["_right", "_above"] (a2 (tT K (aV tI)) (tT K (aV tI))))) (a := x0) rfl) (ja_cons (je_2a (je_var (i := 1) (A := (tT K (a2 tI tI))) (a := x1) rfl)) (ja_cons (je_2b (je_var (i := 1) (A := (tT K (a2 tI tI))) (a := x1) rfl)) ja_nil))) (jk_cons (je_var (i := 2) (A := tI) (a := x2) rfl) (jk_cons (je_some (je_var (i := 3) (A := tI) (a := x3) rfl) nn_I) jk_nil)) (by rfl) T.m_list)) (js_endZ (fun σ H k => ((show Sub _ _ from ⟨(.same (.same (.same (.same (.any .nil))))), .slnil⟩).ok k))))) (fun R229 cc236 pe237 qe238 hcc => by {obtain ⟨ec, hcc⟩ := hcc; subst ec; exact .inl ⟨T.e_InvalidRoom_InvalidRoom, _, (by exact hcc), fun ea240 oe pn ed241 hz hv => (js_ret hrt (je_and (je_callQ (okq_law_is_number T) (roomH_mark (by exact hr.mono (by decide))) (by rfl) T.g_law_is_number T.F_law_is_number.kp T.b_law_is_number (ja_cons (je_xf (v := pe237) T.XF_InvalidRoom T.nf_InvalidRoom_room hz hv (je_var (i := 4) (A := (tEr exn 3 pe237 qe238 ea240 ed241)) (a := ()) rfl) (by rfl) (by rfl)) ja_nil)) (je_one (je_eqI (je_xf (v := pe237) T.XF_InvalidRoom T.nf_InvalidRoom_room hz hv (je_var (i := 4) (A := (tEr exn 3 pe237 qe238 ea240 ed241)) (a := ()) rfl) (by rfl) (by rfl)) (je_var (i := 2) (A := tI) (a := x2) rfl)))))⟩}) (js_ret hrt je_bl))), ⟨Le.refl _, ⟨Same.refl _, (Par.cons ⟨v0, rfl, J.fr_in r0⟩ (Par.cons ⟨v1, rfl, J.fr_in r1⟩ (Par.cons ⟨v2, rfl, J.fr_in r2⟩ (Par.cons ⟨v3, rfl, J.fr_in r3⟩ (Par.cons trivial Par.nil))))), List.nodup_nil, fun c hc => by cases hc⟩, hw⟩⟩

theorem ok_law (T : Txt Pg K mg) : FnOk Pg w K mg base CX0 12 T.a_law T.d_law ["_law_script"] (spJ (aC (tL K tI) aN) (rO tB) fun t => w_law t.1) := by
  refine T.F_law.ok sc_law (fun vs H Q E h => ?_) (fun cdv A outer s H vs Q E hr h => ?_)
  · obtain ⟨t, P, F, rfl, ⟨v0, _, rfl, r0, e0⟩, _⟩ := h
    have e1 := (e0 : _ = [])
    subst e1
    rfl
  · obtain ⟨⟨x0, _⟩, P, F, rfl, ⟨v0, _, rfl, r0, e0⟩, hw, hrt⟩ := h
    have e1 := (e0 : _ = [])
    subst e1
    have sc := sc_law
    exact ⟨_, (show JSs _ F ⟨[sv (tL K tI) x0, .any, .any, .any, .any, .any, .any, .any, .any, .any, .any], []⟩ _ ⟨fun _ H' => Q .non H', Q, fun _ _ => False, fun _ _ => False⟩ _ from
      (js_asg (i := 1) (je_add je_int (je_modL (je_int1 (by rfl) T.m_int (je_call (ok_law_cell T) (hr.mono (by decide)) (by rfl) T.g_law_cell T.F_law_cell.kp T.b_law_cell (ja_cons (je_var (i := 0) (A := (tL K tI)) (a := x0) rfl) (ja_cons je_int ja_nil)))))) (fun size_6 => (js_ifJ (S := fun (s7 : Int) => ⟨[sv (tL K tI) x0, sv tI s7, .any, .any, .any, .any, .any, .any, .any, .any, .any], []⟩) (jt_eqI (je_modL (je_fdivL (je_int1 (by rfl) T.m_int (je_call (ok_law_cell T) (hr.mono (by decide)) (by rfl) T.g_law_cell T.F_law_cell.kp T.b_law_cell (ja_cons (je_var (i := 0) (A := (tL K tI)) (a := x0) rfl) (ja_cons je_int ja_nil)))))) je_int) (fun (J8 : Int → Prop) => (js_asg (i := 1) je_int (fun size_10 => (js_end size_10 ⟨(.same (.same (.any (.any (.any (.any (.any (.any (.any (.any (.any .nil))))))))))), .slnil⟩)) sc.nd)) (fun (J8 : Int → Prop) => (js_end size_6 ⟨(.same (.same (.any (.any (.any (.any (.any (.any (.any (.any (.any .nil))))))))))), .slnil⟩)) (fun s7 => (js_stF (i := 2) (ps_set (i := 2) sc.nd rfl (by first | exact Or.inl rfl | exact Or.inr rfl) (je_lst (ja_consV (je_new (je_call (ok_law_order T) (hr.mono (by decide)) (by rfl) T.g_law_order T.F_law_order.kp T.b_law_order (ja_cons (je_call (ok_law_cell T) (hr.mono (by decide)) (by rfl) T.g_law_cell T.F_law_cell.kp T.b_law_cell (ja_cons (je_var (i := 0) (A := (tL K tI)) (a := x0) rfl) (ja_cons je_int ja_nil))) (ja_cons (je_var (i := 1) (A := tI) (a := s7) rfl) ja_nil)))) (ja_consV (je_new (je_call (ok_law_order T) (hr.mono (by decide)) (by rfl) T.g_law_order T.F_law_order.kp T.b_law_order (ja_cons (je_call (ok_law_cell T) (hr.mono (by decide)) (by rfl) T.g_law_cell T.F_law_cell.kp T.b_law_cell (ja_cons (je_var (i := 0) (A := (tL K tI)) (a := x0) rfl) (ja_cons je_int ja_nil))) (ja_cons (je_var (i := 1) (A := tI) (a := s7) rfl) ja_nil)))) (ja_nilV (A := (tK tI)))))) rfl (by first | exact .inl rfl | exact .inr rfl)) (fun lists_45 => (js_asg (i := 3) (je_call (ok_law_direction T) (hr.mono (by decide)) (by rfl) T.g_law_direction T.F_law_direction.kp T.b_law_direction (ja_cons (je_call (ok_law_cell T) (hr.mono (by decide)) (by rfl) T.g_law_cell T.F_law_cell.kp T.b_law_cell (ja_cons (je_var (i := 0) (A := (tL K tI)) (a := x0) rfl) (ja_cons je_int ja_nil))) (ja_cons (je_call (ok_law_cell T) (hr.mono (by decide)) (by rfl) T.g_law_cell T.F_law_cell.kp T.b_law_cell (ja_cons (je_var (i := 0) (A := (tL K tI)) (a := x0) rfl) (ja_cons je_int ja_nil))) (ja_cons je_int ja_nil)))) (fun pair_62 => (js_asg (i := 4) (je_call (ok_law_direction T) (hr.mono (by decide)) (by rfl) T.g_law_direction T.F_law_direction.kp T.b_law_direction (ja_cons (je_modL (je_int1 (by rfl) T.m_int (je_call (ok_law_cell T) (hr.mono (by decide)) (by rfl) T.g_law_cell T.F_law_cell.kp T.b_law_cell (ja_cons (je_var (i := 0) (A := (tL K tI)) (a := x0) rfl) (ja_cons je_int ja_nil))))) (ja_cons (je_modL (je_int1 (by rfl) T.m_int (je_call (ok_law_cell T) (hr.mono (by decide)) (by rfl) T.g_law_cell T.F_law_cell.kp T.b_law_cell (ja_cons (je_var (i := 0) (A := (tL K tI)) (a := x0) rfl) (ja_cons je_int ja_nil))))) (ja_cons je_int ja_nil)))) (fun short_63 => (js_asg (i := 5) (je_mod (je_int1 (by rfl) T.m_int (je_call (ok_law_cell T) (hr.mono (by decide)) (by rfl) T.g_law_cell T.F_law_cell.kp T.b_law_cell (ja_cons (je_var (i := 0) (A := (tL K tI)) (a := x0) rfl) (ja_cons je_int ja_nil)))) (je_var (i := 1) (A := tI) (a := s7) rfl)) (fun first_64 => (js_asg (i := 6) (je_modL (je_int1 (by rfl) T.m_int (je_call (ok_law_cell T) (hr.mono (by decide)) (by rfl) T.g_law_cell T.F_law_cell.kp T.b_law_cell (ja_cons (je_var (i := 0) (A := (tL K tI)) (a := x0) rfl) (ja_cons je_int ja_nil))))) (fun count_65 => (js_asg (i := 7) (je_make (T := (aC (tK tI) (aC (tK tI) aN))) (U := (a2 (tT K (aV tI)) (tT K (aV tI)))) (w := fun t => w_Plan___init__ t.1 t.2.1) T.M_Plan___init__ (ok_Plan___init__ T) (hr.mono (by decide)) (by rfl) T.g_Plan T.b_Plan___init__ (ja_cons (je_new (je_listL (by rfl) T.m_list (je_e (je_eK (je_ixL (je_e (je_eK (je_var (i := 2) (A := (tK (tK tI))) (a := lists_45) rfl))) je_int))))) (ja_cons (je_new (je_listL (by rfl) T.m_list (je_e (je_eK (je_ixL (je_e (je_eK (je_var (i := 2) (A := (tK (tK tI))) (a := lists_45) rfl))) je_int))))) ja_nil))) (fun plan_81 => (js_stF (i := 8) (ps_set (i := 8) sc.nd rfl (by first | exact Or.inl rfl | exact Or.inr rfl) (je_listG (er := T.er) (en := exn) (W := (fun _ _ _ _ => False)) (N := (fun _ _ _ => False)) (T := (aC (tC T.a_Plan ["_right", "_above"] (a2 (tT K (aV tI)) (tT K (aV tI)))) (aC tI (aC tI (aC tI (aC (tO tI) aN)))))) (T1 := (aC (tC T.a_Plan ["_right", "_above"] (a2 (tT K (aV tI)) (tT K (aV tI)))) (aC tI (aC tI aN)))) (T2 := (aC tI (aC (tO tI) aN))) (ext := (fun (t1 : ((List Int) × (List Int)) × Int × Int × Unit) (t2 : Int × (Option Int) × Unit) => (t1.1, t1.2.1, t1.2.2.1, t2.1, t2.2.1, ()))) (nC := [3, 4]) takes_none (fun _ _ _ _ _ _ h _ _ => h) T.noStop (ok_rooms_passed T) (hr.mono (by decide)) (by rfl) T.g_rooms_passed T.F_rooms_passed.kp (kb_rooms_passed_start_crossings T) (fun H vs zs t1 t2 h1 h2 => by obtain ⟨v0, _, rfl, r0, v1, _, rfl, r1, v2, _, rfl, r2, e0⟩ := h1; have e1 := (e0 : _ = []); subst e1; obtain ⟨u0, _, rfl, q0, u1, _, rfl, q1, f0⟩ := h2; have e3 := (f0 : _ = []); subst e3; exact ⟨rfl, rfl, v0, _, rfl, r0, v1, _, rfl, r1, v2, _, rfl, r2, u0, _, rfl, q0, u1, _, rfl, q1, rfl⟩) (ja_cons (je_var (i := 7) (A := (tC T.a_Plan ["_right", "_above"] (a2 (tT K (aV tI)) (tT K (aV tI))))) (a := plan_81) rfl) (ja_cons (je_2a (je_var (i := 3) (A := (tT K (a2 tI tI))) (a := pair_62) rfl)) (ja_cons (je_2b (je_var (i := 3) (A := (tT K (a2 tI tI))) (a := pair_62) rfl)) ja_nil))) (jk_cons (je_var (i := 5) (A := tI) (a := first_64) rfl) (jk_cons (je_some (je_var (i := 6) (A := tI) (a := count_65) rfl) nn_I) jk_nil)) (by rfl) T.m_list) rfl (by first | exact .inl rfl | exact .inr rfl)) (fun found_138 => (js_ifX (jt_not (jt_val (je_call (ok_law_is_row_l T) (hr.mono (by decide)) (by rfl) T.g_law_is_row T.F_law_is_row.kp T.b_law_is_row (ja_cons (je_tupleL (by rfl) T.m_tuple (je_e (je_eK (je_var (i := 8) (A := (tK tI)) (a := found_138) rfl)))) (ja_cons (je_new (je_call (ok_law_rooms T) (hr.mono (by decide)) (by rfl) T.g_law_rooms T.F_law_rooms.kp T.b_law_rooms (ja_cons (je_var (i := 2) (A := (tK (tK tI))) (a := lists_45) rfl) (ja_cons (je_var (i := 3) (A := (tT K (a2 tI tI))) (a := pair_62) rfl) (ja_cons (je_var (i := 5) (A := tI) (a := first_64) rfl) (ja_cons (je_var (i := 6) (A := tI) (a := count_65) rfl) ja_nil)))))) ja_nil))))) (js_ret hrt je_bl) (js_stF (i := 8) (ps_set (i := 8) sc.nd rfl (by first | exact Or.inl rfl | exact Or.inr rfl) (je_listG (er := T.er) (en := exn) (W := (fun _ _ _ _ => False)) (N := (fun _ _ _ => False)) (T := (aC (tC T.a_Plan ["_right", "_above"] (a2 (tT K (aV tI)) (tT K (aV tI)))) (aC tI (aC tI (aC tI (aC (tO tI) aN)))))) (T1 := (aC (tC T.a_Plan ["_right", "_above"] (a2 (tT K (aV tI)) (tT K (aV tI)))) (aC tI (aC tI aN)))) (T2 := (aC tI aN)) (ext := (fun (t1 : ((List Int) × (List Int)) × Int × Int × Unit) (t2 : Int × Unit) => (t1.1, t1.2.1, t1.2.2.1, t2.1, (none : Option Int), ()))) (nC := [3, 4]) takes_none (fun _ _ _ _ _ _ h _ _ => h) T.noStop (ok_rooms_passed T) (hr.mono (by decide)) (by rfl) T.g_rooms_passed T.F_rooms_passed.kp (kb_rooms_passed_start T) (fun H vs zs t1 t2 h1 h2 => by obtain ⟨v0, _, rfl, r0, v1, _, rfl, r1, v2, _, rfl, r2, e0⟩ := h1; have e1 := (e0 : _ = []); subst e1; obtain ⟨u0, _, rfl, q0, f0⟩ := h2; have e3 := (f0 : _ = []); subst e3; exact ⟨rfl, rfl, v0, _, rfl, r0, v1, _, rfl, r1, v2, _, rfl, r2, u0, _, rfl, q0, _, _, rfl, rfl, rfl⟩) (ja_cons (je_var (i := 7) (A := (tC T.a_Plan ["_right", "_above"] (a2 (tT K (aV tI)) (tT K (aV tI))))) (a := plan_81) rfl) (ja_cons (je_2a (je_var (i := 4) (A := (tT K (a2 tI tI))) (a := short_63) rfl)) (ja_cons (je_2b (je_var (i := 4) (A := (tT K (a2 tI tI))) (a := short_63) rfl)) ja_nil))) (jk_cons (je_var (i := 5) (A := tI) (a := first_64) rfl) jk_nil) (by rfl) T.m_list) rfl (by first | exact .inl rfl | exact .inr rfl)) (fun found_178 => (js_ifX (jt_not (jt_val (je_call (ok_law_is_row_l T) (hr.mono (by decide)) (by rfl) T.g_law_is_row T.F_law_is_row.kp T.b_law_is_row (ja_cons (je_tupleL (by rfl) T.m_tuple (je_e (je_eK (je_var (i := 8) (A := (tK tI)) (a := found_178) rfl)))) (ja_cons (je_new (je_call (ok_law_closed T) (hr.mono (by decide)) (by rfl) T.g_law_closed T.F_law_closed.kp T.b_law_closed (ja_cons (je_var (i := 2) (A := (tK (tK tI))) (a := lists_45) rfl) (ja_cons (je_var (i := 4) (A := (tT K (a2 tI tI))) (a := short_63) rfl) (ja_cons (je_var (i := 5) (A := tI) (a := first_64) rfl) ja_nil))))) ja_nil))))) (js_ret hrt je_bl) (js_stF (i := 8) (ps_set (i := 8) sc.nd rfl (by first | exact Or.inl rfl | exact Or.inr rfl) (je_listG (er := T.er) (en := exn) (W := (fun _ _ _ _ => False)) (N := (fun _ _ _ => False)) (T := (aC (tC T.a_Plan ["_right", "_above"] (a2 (tT K (aV tI)) (tT K (aV tI)))) (aC tI (aC tI (aC tI (aC (tO tI) aN)))))) (T1 := (aC (tC T.a_Plan ["_right", "_above"] (a2 (tT K (aV tI)) (tT K (aV tI)))) (aC tI (aC tI aN)))) (T2 := (aC tI (aC (tO tI) aN))) (ext := (fun (t1 : ((List Int) × (List Int)) × Int × Int × Unit) (t2 : Int × (Option Int) × Unit) => (t1.1, t1.2.1, t1.2.2.1, t2.1, t2.2.1, ()))) (nC := [3, 4]) takes_none (fun _ _ _ _ _ _ h _ _ => h) T.noStop (ok_rooms_passed T) (hr.mono (by decide)) (by rfl) T.g_rooms_passed T.F_rooms_passed.kp (kb_rooms_passed_start_crossings T) (fun H vs zs t1 t2 h1 h2 => by obtain ⟨v0, _, rfl, r0, v1, _, rfl, r1, v2, _, rfl, r2, e0⟩ := h1; have e1 := (e0 : _ = []); subst e1; obtain ⟨u0, _, rfl, q0, u1, _, rfl, q1, f0⟩ := h2; have e3 := (f0 : _ = []); subst e3; exact ⟨rfl, rfl, v0, _, rfl, r0, v1, _, rfl, r1, v2, _, rfl, r2, u0, _, rfl, q0, u1, _, rfl, q1, rfl⟩) (ja_cons (je_var (i := 7) (A := (tC T.a_Plan ["_right", "_above"] (a2 (tT K (aV tI)) (tT K (aV tI))))) (a := plan_81) rfl) (ja_cons (je_2a (je_var (i := 4) (A := (tT K (a2 tI tI))) (a := short_63) rfl)) (ja_cons (je_2b (je_var (i := 4) (A := (tT K (a2 tI tI))) (a := short_63) rfl)) ja_nil))) (jk_cons (je_var (i := 5) (A := tI) (a := first_64) rfl) (jk_cons (je_N2O je_non) jk_nil)) (by rfl) T.m_list) rfl (by first | exact .inl rfl | exact .inr rfl)) (fun found_203 => (js_ifX (jt_not (jt_val (je_call (ok_law_is_row_l T) (hr.mono (by decide)) (by rfl) T.g_law_is_row T.F_law_is_row.kp T.b_law_is_row (ja_cons (je_tupleL (by rfl) T.m_tuple (je_e (je_eK (je_var (i := 8) (A := (tK tI)) (a := found_203) rfl)))) (ja_cons (je_new (je_call (ok_law_closed T) (hr.mono (by decide)) (by rfl) T.g_law_closed T.F_law_closed.kp T.b_law_closed (ja_cons (je_var (i := 2) (A := (tK (tK tI))) (a := lists_45) rfl) (ja_cons (je_var (i := 4) (A := (tT K (a2 tI tI))) (a := short_63) rfl) (ja_cons (je_var (i := 5) (A := tI) (a := first_64) rfl) ja_nil))))) ja_nil))))) (js_ret hrt je_bl) (js_ifX (jt_not (jt_val (je_call (ok_law_is_row_l T) (hr.mono (by decide)) (by rfl) T.g_law_is_row T.F_law_is_row.kp T.b_law_is_row (ja_cons (je_tupleL (by rfl) T.m_tuple (je_e (je_eN (je_listG (er := T.er) (en := exn) (W := (fun _ _ _ _ => False)) (N := (fun _ _ _ => False)) (T := (aC (tC T.a_Plan ["_right", "_above"] (a2 (tT K (aV tI)) (tT K (aV tI)))) (aC tI (aC tI (aC tI (aC (tO tI) aN)))))) (T1 := (aC (tC T.a_Plan ["_right", "_above"] (a2 (tT K (aV tI)) (tT K (aV tI)))) (aC tI (aC tI aN)))) (T2 := aN) (ext := (fun (t1 : ((List Int) × (List Int)) × Int × Int × Unit) (t2 : Unit) => (t1.1, t1.2.1, t1.2.2.1, (0 : Int), (none : Option Int), ()))) (nC := [3, 4]) takes_none (fun _ _ _ _ _ _ h _ _ => h) T.noStop (ok_rooms_passed T) (hr.mono (by decide)) (by rfl) T.g_rooms_passed T.F_rooms_passed.kp (kb_rooms_passed_ T) (fun H vs zs t1 t2 h1 h2 => by obtain ⟨v0, _, rfl, r0, v1, _, rfl, r1, v2, _, rfl, r2, e0⟩ := h1; have e1 := (e0 : _ = []); subst e1; have e3 := (h2 : _ = []); subst e3; exact ⟨rfl, rfl, v0, _, rfl, r0, v1, _, rfl, r1, v2, _, rfl, r2, _, _, rfl, rfl, _, _, rfl, rfl, rfl⟩) (ja_cons (je_var (i := 7) (A := (tC T.a_Plan ["_right", "_above"] (a2 (tT K (aV tI)) (tT K (aV tI))))) (a := plan_81) rfl) (ja_cons (je_2a (je_var (i := 4) (A := (tT K (a2 tI tI))) (a := short_63) rfl)) (ja_cons (je_2b (je_var (i := 4) (A := (tT K (a2 tI tI))) (a := short_63) rfl)) ja_nil))) jk_nil (by rfl) T.m_list)))) (ja_cons (je_new (je_call (ok_law_closed T) (hr.mono (by decide)) (by rfl) T.g_law_closed T.F_law_closed.kp T.b_law_closed (ja_cons (je_var (i := 2) (A := (tK (tK tI))) (a := lists_45) rfl) (ja_cons (je_var (i := 4) (A := (tT K (a2 tI tI))) (a := short_63) rfl) (ja_cons je_int ja_nil))))) ja_nil))))) (js_ret hrt je_bl) (js_stF (i := 8) (ps_set (i := 8) sc.nd rfl (by first | exact Or.inl rfl | exact Or.inr rfl) (je_listG (er := T.er) (en := exn) (W := (fun _ _ _ _ => False)) (N := (fun _ _ _ => False)) (T := (aC (tC T.a_Plan ["_right", "_above"] (a2 (tT K (aV tI)) (tT K (aV tI)))) (aC tI (aC tI (aC tI (aC (tO tI) aN)))))) (T1 := (aC (tC T.a_Plan ["_right", "_above"] (a2 (tT K (aV tI)) (tT K (aV tI)))) (aC tI (aC tI aN)))) (T2 := (aC (tO tI) aN)) (ext := (fun (t1 : ((List Int) × (List Int)) × Int × Int × Unit) (t2 : (Option Int) × Unit) => (t1.1, t1.2.1, t1.2.2.1, (0 : Int), t2.1, ()))) (nC := [3, 4]) takes_none (fun _ _ _ _ _ _ h _ _ => h) T.noStop (ok_rooms_passed T) (hr.mono (by decide)) (by rfl) T.g_rooms_passed T.F_rooms_passed.kp (kb_rooms_passed_crossings T) (fun H vs zs t1 t2 h1 h2 => by obtain ⟨v0, _, rfl, r0, v1, _, rfl, r1, v2, _, rfl, r2, e0⟩ := h1; have e1 := (e0 : _ = []); subst e1; obtain ⟨u0, _, rfl, q0, f0⟩ := h2; have e3 := (f0 : _ = []); subst e3; exact ⟨rfl, rfl, v0, _, rfl, r0, v1, _, rfl, r1, v2, _, rfl, r2, _, _, rfl, rfl, u0, _, rfl, q0, rfl⟩) (ja_cons (je_var (i := 7) (A := (tC T.a_Plan ["_right", "_above"] (a2 (tT K (aV tI)) (tT K (aV tI))))) (a := plan_81) rfl) (ja_cons (je_2a (je_var (i := 4) (A := (tT K (a2 tI tI))) (a := short_63) rfl)) (ja_cons (je_2b (je_var (i := 4) (A := (tT K (a2 tI tI))) (a := short_63) rfl)) ja_nil))) (jk_cons (je_some (je_var (i := 6) (A := tI) (a := count_65) rfl) nn_I) jk_nil) (by rfl) T.m_list) rfl (by first | exact .inl rfl | exact .inr rfl)) (fun found_215 => (js_ifX (jt_not (jt_val (je_call (ok_law_is_row_l T) (hr.mono (by decide)) (by rfl) T.g_law_is_row T.F_law_is_row.kp T.b_law_is_row (ja_cons (je_tupleL (by rfl) T.m_tuple (je_e (je_eK (je_var (i := 8) (A := (tK tI)) (a := found_215) rfl)))) (ja_cons (je_new (je_call (ok_law_rooms T) (hr.mono (by decide)) (by rfl) T.g_law_rooms T.F_law_rooms.kp T.b_law_rooms (ja_cons (je_var (i := 2) (A := (tK (tK tI))) (a := lists_45) rfl) (ja_cons (je_var (i := 4) (A := (tT K (a2 tI tI))) (a := short_63) rfl) (ja_cons je_int (ja_cons (je_var (i := 6) (A := tI) (a := count_65) rfl) ja_nil)))))) ja_nil))))) (js_ret hrt je_bl) (js_asg (i := 9) (je_mod (je_int1 (by rfl) T.m_int (je_call (ok_law_cell T) (hr.mono (by decide)) (by rfl) T.g_law_cell T.F_law_cell.kp T.b_law_cell (ja_cons (je_var (i := 0) (A := (tL K tI)) (a := x0) rfl) (ja_cons je_int ja_nil)))) je_powL) (fun beyond_217 => (js_forL (A := tI) (S := fun v218 xs219 => fun (s220 : Unit) => ⟨[sv (tL K tI) x0, sv tI s7, sv (tK (tK tI)) lists_45, sv (tT K (a2 tI tI)) pair_62, sv (tT K (a2 tI tI)) short_63, sv tI first_64, sv tI count_65, sv (tC T.a_Plan ["_right", "_above"] (a2 (tT K (aV tI)) (tT K (aV tI)))) plan_81, sv (tK tI) found_215, sv tI beyond_217, .any], [.fix (tK tI) v218 xs219]⟩) (s0 := ()) (j := 0) (je_new (je_lst (ja_consV (je_neg je_int) (ja_consV (je_var (i := 1) (A := tI) (a := s7) rfl) (ja_consV (je_add (je_var (i := 1) (A := tI) (a := s7) rfl) (je_var (i := 9) (A := tI) (a := beyond_217) rfl)) (ja_consV (je_sub (je_neg je_int) (je_var (i := 9) (A := tI) (a := beyond_217) rfl)) (ja_nilV (A := tI)))))))) (fun v218 xs219 => ⟨(.same (.same (.same (.same (.same (.same (.same (.same (.same (.same (.any .nil))))))))))), (.cons₂ _ .slnil)⟩) (fun v218 xs219 _ => rfl) (pg_name (i := 10) sc.nd rfl (Or.inl rfl)) (tg_name) (fun v218 xs219 nxt222 brk223 room_221 s220 => (js_if (jt_w (jw_or (jt_not (jt_val (je_call (ok_law_refuses T) (hr.mono (by decide)) (by rfl) T.g_law_refuses T.F_law_refuses.kp T.b_law_refuses (ja_cons (je_var (i := 7) (A := (tC T.a_Plan ["_right", "_above"] (a2 (tT K (aV tI)) (tT K (aV tI))))) (a := plan_81) rfl) (ja_cons (je_var (i := 3) (A := (tT K (a2 tI tI))) (a := pair_62) rfl) (ja_cons (je_var (i := 10) (A := tI) (a := room_221) rfl) (ja_cons (je_var (i := 6) (A := tI) (a := count_65) rfl) ja_nil))))))) (jw_oneO (jt_not (jt_val (je_call (ok_law_refuses T) (hr.mono (by decide)) (by rfl) T.g_law_refuses T.F_law_refuses.kp T.b_law_refuses (ja_cons (je_var (i := 7) (A := (tC T.a_Plan ["_right", "_above"] (a2 (tT K (aV tI)) (tT K (aV tI))))) (a := plan_81) rfl) (ja_cons (je_var (i := 4) (A := (tT K (a2 tI tI))) (a := short_63) rfl) (ja_cons (je_var (i := 10) (A := tI) (a := room_221) rfl) (ja_cons je_int ja_nil)))))))))) (js_ret hrt je_bl) (js_end () ⟨(.same (.same (.same (.same (.same (.same (.same (.same (.same (.same (.any .nil))))))))))), (.cons₂ _ .slnil)⟩))) (fun v218 xs219 s220 => (js_ret hrt (je_eqD (K := K) (A := (tK tI)) hr.units (je_b (je_new (je_listG (er := T.er) (en := exn) (W := (fun _ _ _ _ => False)) (N := (fun _ _ _ => False)) (T := (aC (tC T.a_Plan ["_right", "_above"] (a2 (tT K (aV tI)) (tT K (aV tI)))) (aC tI (aC tI (aC tI (aC (tO tI) aN)))))) (T1 := (aC (tC T.a_Plan ["_right", "_above"] (a2 (tT K (aV tI)) (tT K (aV tI)))) (aC tI (aC tI aN)))) (T2 := (aC tI (aC (tO tI) aN))) (ext := (fun (t1 : ((List Int) × (List Int)) × Int × Int × Unit) (t2 : Int × (Option Int) × Unit) => (t1.1, t1.2.1, t1.2.2.1, t2.1, t2.2.1, ()))) (nC := [3, 4]) takes_none (fun _ _ _ _ _ _ h _ _ => h) T.noStop (ok_rooms_passed T) (hr.mono (by decide)) (by rfl) T.g_rooms_passed T.F_rooms_passed.kp (kb_rooms_passed_start_crossings T) (fun H vs zs t1 t2 h1 h2 => by obtain ⟨v0, _, rfl, r0, v1, _, rfl, r1, v2, _, rfl, r2, e0⟩ := h1; have e1 := (e0 : _ = []); subst e1; obtain ⟨u0, _, rfl, q0, u1, _, rfl, q1, f0⟩ := h2; have e3 := (f0 : _ = []); subst e3; exact ⟨rfl, rfl, v0, _, rfl, r0, v1, _, rfl, r1, v2, _, rfl, r2, u0, _, rfl, q0, u1, _, rfl, q1, rfl⟩) (ja_cons (je_var (i := 7) (A := (tC T.a_Plan ["_right", "_above"] (a2 (tT K (aV tI)) (tT K (aV tI))))) (a := plan_81) rfl) (ja_cons (je_2a (je_var (i := 3) (A := (tT K (a2 tI tI))) (a := pair_62) rfl)) (ja_cons (je_2b (je_var (i := 3) (A := (tT K (a2 tI tI))) (a := pair_62) rfl)) ja_nil))) (jk_cons (je_var (i := 5) (A := tI) (a := first_64) rfl) (jk_cons (je_some je_int nn_I) jk_nil)) (by rfl) T.m_list))) (je_b (je_new (je_lst0 (A := tI))))))) PassesOwn.never)) sc.nd))))))))))))))) sc.nd)) sc.nd)) sc.nd)) sc.nd)) sc.nd)))))) sc.nd)), ⟨Le.refl _, ⟨Same.refl _, (Par.cons ⟨v0, rfl, J.fr_in r0⟩ (Par.cons trivial (Par.cons trivial (Par.cons trivial (Par.cons trivial (Par.cons trivial (Par.cons trivial (Par.cons trivial (Par.cons trivial (Par.cons trivial (Par.cons trivial Par.nil))))))))))), List.nodup_nil, fun c hc => by cases hc⟩, hw⟩⟩

end
theorem all_mk {l : PySem.W.OpenLaw} {w : World} {K : PySem.W.Frag} {h : Heap} {mg : Str → Option Value} {fa : Addr} (X : K.In h) (G : h.Ns mainGlobals mg) (hfa : mg "law" = some (.ref fa))
    {aPlan : Addr}
    {aCrossingWord : Addr}
    {aInvalidDirection : Addr}
    {aInvalidRoom : Addr}
    {aInvalidDirection___init__ ccInvalidDirection___init__ cdaInvalidDirection___init__ : Addr} {odInvalidDirection___init__ anInvalidDirection___init__ cldInvalidDirection___init__ cddInvalidDirection___init__ : Option Addr} {slInvalidDirection___init__ cslInvalidDirection___init__ ccsInvalidDirection___init__ : Array (Option Value)} {ocInvalidDirection___init__ kVInvalidDirection___init__ dcInvalidDirection___init__ pmInvalidDirection___init__ ctInvalidDirection___init__ clInvalidDirection___init__ cclInvalidDirection___init__ : Value} {vscInvalidDirection___init__ : Array Value} {fileInvalidDirection___init__ : Str} {tfInvalidDirection___init__ : Tok}
    {aInvalidRoom___init__ ccInvalidRoom___init__ cdaInvalidRoom___init__ : Addr} {odInvalidRoom___init__ anInvalidRoom___init__ cldInvalidRoom___init__ cddInvalidRoom___init__ : Option Addr} {slInvalidRoom___init__ cslInvalidRoom___init__ ccsInvalidRoom___init__ : Array (Option Value)} {ocInvalidRoom___init__ kVInvalidRoom___init__ dcInvalidRoom___init__ pmInvalidRoom___init__ ctInvalidRoom___init__ clInvalidRoom___init__ cclInvalidRoom___init__ : Value} {vscInvalidRoom___init__ : Array Value} {fileInvalidRoom___init__ : Str} {tfInvalidRoom___init__ : Tok}
    {nmInvalidDirection qInvalidDirection : Str} {NInvalidDirection : Addr} {bsInvalidDirection bmInvalidDirection subInvalidDirection : List Value} {snInvalidDirection : List Str} {abInvalidDirection : Bool} {colInvalidDirection : Option Bool} {ddInvalidDirection : Option Addr} {k0InvalidDirection k1InvalidDirection k2InvalidDirection k3InvalidDirection k5InvalidDirection : Option Value}
    {nmInvalidRoom qInvalidRoom : Str} {NInvalidRoom : Addr} {bsInvalidRoom bmInvalidRoom subInvalidRoom : List Value} {snInvalidRoom : List Str} {abInvalidRoom : Bool} {colInvalidRoom : Option Bool} {ddInvalidRoom : Option Addr} {k0InvalidRoom k1InvalidRoom k2InvalidRoom k3InvalidRoom k5InvalidRoom : Option Value}
    {tvPlan_MOST_ROOMS : Tok}
    {alaw_cell : Addr} {odlaw_cell anlaw_cell : Option Addr} {sllaw_cell : Array (Option Value)} {oclaw_cell kVlaw_cell dclaw_cell pmlaw_cell cdlaw_cell ctlaw_cell : Value}
    {alaw_row : Addr} {odlaw_row anlaw_row : Option Addr} {sllaw_row : Array (Option Value)} {oclaw_row kVlaw_row dclaw_row pmlaw_row cdlaw_row ctlaw_row : Value}
    {alaw_order : Addr} {odlaw_order anlaw_order : Option Addr} {sllaw_order : Array (Option Value)} {oclaw_order kVlaw_order dclaw_order pmlaw_order cdlaw_order ctlaw_order : Value}
    {alaw_direction : Addr} {odlaw_direction anlaw_direction : Option Addr} {sllaw_direction : Array (Option Value)} {oclaw_direction kVlaw_direction dclaw_direction pmlaw_direction cdlaw_direction ctlaw_direction : Value}
    {ais_order : Addr} {odis_order anis_order : Option Addr} {slis_order : Array (Option Value)} {ocis_order kVis_order dcis_order pmis_order cdis_order ctis_order : Value}
    {aPlan___init__ : Addr} {odPlan___init__ anPlan___init__ : Option Addr} {slPlan___init__ : Array (Option Value)} {ocPlan___init__ kVPlan___init__ dcPlan___init__ pmPlan___init__ cdPlan___init__ ctPlan___init__ : Value}
    {ashown : Addr} {odshown anshown : Option Addr} {slshown : Array (Option Value)} {ocshown kVshown dcshown pmshown cdshown ctshown : Value}
    {acheck_direction : Addr} {odcheck_direction ancheck_direction : Option Addr} {slcheck_direction : Array (Option Value)} {occheck_direction kVcheck_direction dccheck_direction pmcheck_direction cdcheck_direction ctcheck_direction : Value}
    {aCrossingWord___init__ : Addr} {odCrossingWord___init__ anCrossingWord___init__ : Option Addr} {slCrossingWord___init__ : Array (Option Value)} {ocCrossingWord___init__ kVCrossingWord___init__ dcCrossingWord___init__ pmCrossingWord___init__ cdCrossingWord___init__ ctCrossingWord___init__ : Value}
    {aPlan_size : Addr} {odPlan_size anPlan_size : Option Addr} {slPlan_size : Array (Option Value)} {ocPlan_size kVPlan_size dcPlan_size pmPlan_size cdPlan_size ctPlan_size : Value}
    {pPlan_size : Addr} {restPlan_size : List Value}
    {aPlan_behind : Addr} {odPlan_behind anPlan_behind : Option Addr} {slPlan_behind : Array (Option Value)} {ocPlan_behind kVPlan_behind dcPlan_behind pmPlan_behind cdPlan_behind ctPlan_behind : Value}
    {aCrossingWord_round_length : Addr} {odCrossingWord_round_length anCrossingWord_round_length : Option Addr} {slCrossingWord_round_length : Array (Option Value)} {ocCrossingWord_round_length kVCrossingWord_round_length dcCrossingWord_round_length pmCrossingWord_round_length cdCrossingWord_round_length ctCrossingWord_round_length : Value}
    {pCrossingWord_round_length : Addr} {restCrossingWord_round_length : List Value}
    {aCrossingWord_letter : Addr} {odCrossingWord_letter anCrossingWord_letter : Option Addr} {slCrossingWord_letter : Array (Option Value)} {ocCrossingWord_letter kVCrossingWord_letter dcCrossingWord_letter pmCrossingWord_letter cdCrossingWord_letter ctCrossingWord_letter : Value}
    {arooms_passed kdrooms_passed : Addr} {odrooms_passed anrooms_passed : Option Addr} {slrooms_passed : Array (Option Value)} {ocrooms_passed dcrooms_passed pmrooms_passed cdrooms_passed ctrooms_passed : Value}
    {dtrooms_passed : Tok}
    {alaw_letter : Addr} {odlaw_letter anlaw_letter : Option Addr} {sllaw_letter : Array (Option Value)} {oclaw_letter kVlaw_letter dclaw_letter pmlaw_letter cdlaw_letter ctlaw_letter : Value}
    {alaw_rooms : Addr} {odlaw_rooms anlaw_rooms : Option Addr} {sllaw_rooms : Array (Option Value)} {oclaw_rooms kVlaw_rooms dclaw_rooms pmlaw_rooms cdlaw_rooms ctlaw_rooms : Value}
    {alaw_is_number : Addr} {odlaw_is_number anlaw_is_number : Option Addr} {sllaw_is_number : Array (Option Value)} {oclaw_is_number kVlaw_is_number dclaw_is_number pmlaw_is_number cdlaw_is_number ctlaw_is_number : Value}
    {alaw_is_row : Addr} {odlaw_is_row anlaw_is_row : Option Addr} {sllaw_is_row : Array (Option Value)} {oclaw_is_row kVlaw_is_row dclaw_is_row pmlaw_is_row cdlaw_is_row ctlaw_is_row : Value}
    {alaw_closed : Addr} {odlaw_closed anlaw_closed : Option Addr} {sllaw_closed : Array (Option Value)} {oclaw_closed kVlaw_closed dclaw_closed pmlaw_closed cdlaw_closed ctlaw_closed : Value}
    {alaw_refuses : Addr} {odlaw_refuses anlaw_refuses : Option Addr} {sllaw_refuses : Array (Option Value)} {oclaw_refuses kVlaw_refuses dclaw_refuses pmlaw_refuses cdlaw_refuses ctlaw_refuses : Value}
    {alaw : Addr} {odlaw anlaw : Option Addr} {sllaw : Array (Option Value)} {oclaw kVlaw dclaw pmlaw cdlaw ctlaw : Value}
    {t_LONG : Tok}
    (nPlan : PySem.W.nsIn K mainGlobals "Plan" = some (some (.ref aPlan)))
    (pgPlan : PySem.W.plainGet K aPlan Str.empty = true)
    (hdPlan : PySem.W.hasDictIn K aPlan = true)
    (poPlan : PySem.W.plainOver K aPlan = true)
    (saPlan : PySem.W.findIn K (.ref aPlan) "__setattr__" = some (some (.builtin "object.__setattr__")))
    (nCrossingWord : PySem.W.nsIn K mainGlobals "CrossingWord" = some (some (.ref aCrossingWord)))
    (pgCrossingWord : PySem.W.plainGet K aCrossingWord Str.empty = true)
    (hdCrossingWord : PySem.W.hasDictIn K aCrossingWord = true)
    (poCrossingWord : PySem.W.plainOver K aCrossingWord = true)
    (saCrossingWord : PySem.W.findIn K (.ref aCrossingWord) "__setattr__" = some (some (.builtin "object.__setattr__")))
    (mkPlan : PySem.W.makesIn K aPlan = true)
    (kcPlan : PySem.W.keepIn K (.ref aPlan) = true)
    (mkCrossingWord : PySem.W.makesIn K aCrossingWord = true)
    (kcCrossingWord : PySem.W.keepIn K (.ref aCrossingWord) = true)
    (nfPlan__right : PySem.W.findIn K (.ref aPlan) "_right" = some none)
    (nfPlan__above : PySem.W.findIn K (.ref aPlan) "_above" = some none)
    (nfCrossingWord__p : PySem.W.findIn K (.ref aCrossingWord) "_p" = some none)
    (nfCrossingWord__q : PySem.W.findIn K (.ref aCrossingWord) "_q" = some none)
    (rrPlan : PySem.W.readsIn K aPlan (.type "type") = true)
    (rgPlan : PySem.W.specialIn K (.ref aPlan) "__getattribute__" = some (some (.builtin "type.__getattribute__")))
    (ngInvalidDirection : PySem.W.nsIn K mainGlobals "InvalidDirection" = some (some (.ref aInvalidDirection)))
    (ngInvalidRoom : PySem.W.nsIn K mainGlobals "InvalidRoom" = some (some (.ref aInvalidRoom)))
    (nInvalidDirection___init__ : PySem.W.findIn K (.ref aInvalidDirection) "__init__" = some (some (.ref aInvalidDirection___init__)))
    (lInvalidDirection___init__ : K.lookup aInvalidDirection___init__ = some ⟨ocInvalidDirection___init__, odInvalidDirection___init__, .func (PySem.W.fnX "__init__" "InvalidDirection.__init__" (defArgs s_InvalidDirection___init__) (defBody s_InvalidDirection___init__) (defScope s_InvalidDirection___init__) [("__class__", ccInvalidDirection___init__)] .none kVInvalidDirection___init__ dcInvalidDirection___init__ pmInvalidDirection___init__ anInvalidDirection___init__ (.ref cdaInvalidDirection___init__) ctInvalidDirection___init__), slInvalidDirection___init__⟩)
    (cInvalidDirection___init__ : PySem.W.codeIn K (.ref cdaInvalidDirection___init__) "InvalidDirection.__init__" = true)
    (lcInvalidDirection___init__ : K.lookup ccInvalidDirection___init__ = some ⟨clInvalidDirection___init__, cldInvalidDirection___init__, .cell (some (.ref aInvalidDirection)), cslInvalidDirection___init__⟩)
    (ldInvalidDirection___init__ : K.lookup cdaInvalidDirection___init__ = some ⟨cclInvalidDirection___init__, cddInvalidDirection___init__, .fields vscInvalidDirection___init__, ccsInvalidDirection___init__⟩)
    (FAInvalidDirection___init__ : vscInvalidDirection___init__[2]? = some (.str fileInvalidDirection___init__ tfInvalidDirection___init__))
    (FBInvalidDirection___init__ : ((l.prog.main.file : Str) == fileInvalidDirection___init__) = true)
    (cDInvalidDirection___init__ : PySem.W.isClsIn K aInvalidDirection = true)
    (tyInvalidDirection___init__ : PySem.W.typeIn K (.ref aInvalidDirection___init__) = some (.type "function"))
    (FTop : (l.prog.main.scope.names.lookup ("super" : Str)).isSome = false)
    (fsup : PySem.W.nsIn K mainGlobals "super" = some none)
    (fopq : PySem.W.nsIn K cStatics "thirdparty.any" = some none)
    (nInvalidRoom___init__ : PySem.W.findIn K (.ref aInvalidRoom) "__init__" = some (some (.ref aInvalidRoom___init__)))
    (lInvalidRoom___init__ : K.lookup aInvalidRoom___init__ = some ⟨ocInvalidRoom___init__, odInvalidRoom___init__, .func (PySem.W.fnX "__init__" "InvalidRoom.__init__" (defArgs s_InvalidRoom___init__) (defBody s_InvalidRoom___init__) (defScope s_InvalidRoom___init__) [("__class__", ccInvalidRoom___init__)] .none kVInvalidRoom___init__ dcInvalidRoom___init__ pmInvalidRoom___init__ anInvalidRoom___init__ (.ref cdaInvalidRoom___init__) ctInvalidRoom___init__), slInvalidRoom___init__⟩)
    (cInvalidRoom___init__ : PySem.W.codeIn K (.ref cdaInvalidRoom___init__) "InvalidRoom.__init__" = true)
    (lcInvalidRoom___init__ : K.lookup ccInvalidRoom___init__ = some ⟨clInvalidRoom___init__, cldInvalidRoom___init__, .cell (some (.ref aInvalidRoom)), cslInvalidRoom___init__⟩)
    (ldInvalidRoom___init__ : K.lookup cdaInvalidRoom___init__ = some ⟨cclInvalidRoom___init__, cddInvalidRoom___init__, .fields vscInvalidRoom___init__, ccsInvalidRoom___init__⟩)
    (FAInvalidRoom___init__ : vscInvalidRoom___init__[2]? = some (.str fileInvalidRoom___init__ tfInvalidRoom___init__))
    (FBInvalidRoom___init__ : ((l.prog.main.file : Str) == fileInvalidRoom___init__) = true)
    (cDInvalidRoom___init__ : PySem.W.isClsIn K aInvalidRoom = true)
    (tyInvalidRoom___init__ : PySem.W.typeIn K (.ref aInvalidRoom___init__) = some (.type "function"))
    (xlInvalidDirection : K.lookup aInvalidDirection = some (excClassObj nmInvalidDirection qInvalidDirection aInvalidDirection NInvalidDirection bsInvalidDirection bmInvalidDirection true snInvalidDirection subInvalidDirection abInvalidDirection colInvalidDirection ddInvalidDirection k0InvalidDirection k1InvalidDirection k2InvalidDirection k3InvalidDirection k5InvalidDirection "ValueError.__new__"))
    (RVInvalidDirection : PySem.HandSPX.refsVE bmInvalidDirection = true)
    (xsInvalidDirection : PySem.W.findIn K (.ref aInvalidDirection) "__setattr__" = some (some (.builtin "object.__setattr__")))
    (xbInvalidDirection : PySem.W.subIn K (.ref aInvalidDirection) (.type "BaseException") = some true)
    (xtInvalidDirection : PySem.W.typeIn K (.ref aInvalidDirection) = some (.type "type"))
    (xkInvalidDirection : PySem.W.keepIn K (.ref aInvalidDirection) = true)
    (xiInvalidDirection : PySem.W.findIn K (.ref aInvalidDirection) "__init__" = some (some (.ref aInvalidDirection___init__)))
    (KSInvalidDirection : PySem.W.ks_superIn K aInvalidDirection aInvalidDirection "__init__" = some (some (.builtin "ValueError.__init__")))
    (xvInvalidDirection : PySem.W.subIn K (.ref aInvalidDirection) (.type "ValueError") = some true)
    (xmInvalidDirection : PySem.W.mroIn K aInvalidDirection (.ref aInvalidDirection) = some true)
    (xlInvalidRoom : K.lookup aInvalidRoom = some (excClassObj nmInvalidRoom qInvalidRoom aInvalidRoom NInvalidRoom bsInvalidRoom bmInvalidRoom true snInvalidRoom subInvalidRoom abInvalidRoom colInvalidRoom ddInvalidRoom k0InvalidRoom k1InvalidRoom k2InvalidRoom k3InvalidRoom k5InvalidRoom "ValueError.__new__"))
    (RVInvalidRoom : PySem.HandSPX.refsVE bmInvalidRoom = true)
    (xsInvalidRoom : PySem.W.findIn K (.ref aInvalidRoom) "__setattr__" = some (some (.builtin "object.__setattr__")))
    (xbInvalidRoom : PySem.W.subIn K (.ref aInvalidRoom) (.type "BaseException") = some true)
    (xtInvalidRoom : PySem.W.typeIn K (.ref aInvalidRoom) = some (.type "type"))
    (xkInvalidRoom : PySem.W.keepIn K (.ref aInvalidRoom) = true)
    (xiInvalidRoom : PySem.W.findIn K (.ref aInvalidRoom) "__init__" = some (some (.ref aInvalidRoom___init__)))
    (KSInvalidRoom : PySem.W.ks_superIn K aInvalidRoom aInvalidRoom "__init__" = some (some (.builtin "ValueError.__init__")))
    (xvInvalidRoom : PySem.W.subIn K (.ref aInvalidRoom) (.type "ValueError") = some true)
    (xmInvalidRoom : PySem.W.mroIn K aInvalidRoom (.ref aInvalidRoom) = some true)
    (zgInvalidRoom : PySem.W.findIn K (.ref aInvalidRoom) "__getattribute__" = some (some (.builtin "BaseException.__getattribute__")))
    (zhInvalidRoom : PySem.W.findIn K (.ref aInvalidRoom) "__getattr__" = some none)
    (zbInvalidRoom : PySem.W.subIn K (.ref aInvalidRoom) (.type "BaseException") = some true)
    (zdInvalidRoom : PySem.W.hasDictIn K aInvalidRoom = true)
    (zaInvalidRoom : PySem.W.findIn K (.ref aInvalidRoom) "__class__" = some (some (.builtin "object.__class__")))
    (znInvalidRoom : PySem.W.specialIn K (.builtin "object.__class__") "__get__" = some (some (.builtin "getset_descriptor.__get__")))
    (zqInvalidRoom : PySem.W.takesIn K (.builtin "object.__class__") = some true)
    (zmInvalidRoom : PySem.W.mroIn K aInvalidRoom (.type "object") = some true)
    (ybInvalidRoom : PySem.W.subIn K (.ref aInvalidRoom) (.type "BaseException") = some true)
    (ydInvalidRoom : PySem.W.hasDictIn K aInvalidRoom = true)
    (ytInvalidRoom : PySem.W.typeIn K (.ref aInvalidRoom) = some (.type "type"))
    (ysInvalidRoom_InvalidRoom : PySem.W.subIn K (.ref aInvalidRoom) (.ref aInvalidRoom) = some true)
    (nxInvalidDirection_p : PySem.W.findIn K (.ref aInvalidDirection) "p" = some none)
    (nxInvalidDirection_q : PySem.W.findIn K (.ref aInvalidDirection) "q" = some none)
    (nxInvalidRoom_room : PySem.W.findIn K (.ref aInvalidRoom) "room" = some none)
    (zzInvalidRoom : PySem.W.subIn K (.ref aInvalidRoom) (.type "StopIteration") = some false)
    (zzInvalidDirection : PySem.W.subIn K (.ref aInvalidDirection) (.type "StopIteration") = some false)
    (cvPlan_MOST_ROOMS : PySem.W.findCls K (.ref aPlan) (.type "type") "MOST_ROOMS" = some (.val (.int (100) tvPlan_MOST_ROOMS)))
    (nlaw_cell : PySem.W.nsIn K mainGlobals "_law_cell" = some (some (.ref alaw_cell)))
    (llaw_cell : K.lookup alaw_cell = some ⟨oclaw_cell, odlaw_cell, .func (PySem.W.fnOf "_law_cell" "_law_cell" (defArgs s_law_cell) (defBody s_law_cell) (defScope s_law_cell) .none kVlaw_cell dclaw_cell pmlaw_cell anlaw_cell cdlaw_cell ctlaw_cell), sllaw_cell⟩)
    (claw_cell : PySem.W.codeIn K cdlaw_cell "_law_cell" = true)
    (klaw_cell : PySem.W.keepIn K (.ref alaw_cell) = true)
    (nlaw_row : PySem.W.nsIn K mainGlobals "_law_row" = some (some (.ref alaw_row)))
    (llaw_row : K.lookup alaw_row = some ⟨oclaw_row, odlaw_row, .func (PySem.W.fnOf "_law_row" "_law_row" (defArgs s_law_row) (defBody s_law_row) (defScope s_law_row) .none kVlaw_row dclaw_row pmlaw_row anlaw_row cdlaw_row ctlaw_row), sllaw_row⟩)
    (claw_row : PySem.W.codeIn K cdlaw_row "_law_row" = true)
    (klaw_row : PySem.W.keepIn K (.ref alaw_row) = true)
    (nlaw_order : PySem.W.nsIn K mainGlobals "_law_order" = some (some (.ref alaw_order)))
    (llaw_order : K.lookup alaw_order = some ⟨oclaw_order, odlaw_order, .func (PySem.W.fnOf "_law_order" "_law_order" (defArgs s_law_order) (defBody s_law_order) (defScope s_law_order) .none kVlaw_order dclaw_order pmlaw_order anlaw_order cdlaw_order ctlaw_order), sllaw_order⟩)
    (claw_order : PySem.W.codeIn K cdlaw_order "_law_order" = true)
    (klaw_order : PySem.W.keepIn K (.ref alaw_order) = true)
    (nlaw_direction : PySem.W.nsIn K mainGlobals "_law_direction" = some (some (.ref alaw_direction)))
    (llaw_direction : K.lookup alaw_direction = some ⟨oclaw_direction, odlaw_direction, .func (PySem.W.fnOf "_law_direction" "_law_direction" (defArgs s_law_direction) (defBody s_law_direction) (defScope s_law_direction) .none kVlaw_direction dclaw_direction pmlaw_direction anlaw_direction cdlaw_direction ctlaw_direction), sllaw_direction⟩)
    (claw_direction : PySem.W.codeIn K cdlaw_direction "_law_direction" = true)
    (klaw_direction : PySem.W.keepIn K (.ref alaw_direction) = true)
    (nis_order : PySem.W.nsIn K mainGlobals "is_order" = some (some (.ref ais_order)))
    (lis_order : K.lookup ais_order = some ⟨ocis_order, odis_order, .func (PySem.W.fnOf "is_order" "is_order" (defArgs s_is_order) (defBody s_is_order) (defScope s_is_order) .none kVis_order dcis_order pmis_order anis_order cdis_order ctis_order), slis_order⟩)
    (cis_order : PySem.W.codeIn K cdis_order "is_order" = true)
    (kis_order : PySem.W.keepIn K (.ref ais_order) = true)
    (nPlan___init__ : PySem.W.findIn K (.ref aPlan) "__init__" = some (some (.ref aPlan___init__)))
    (iPlan___init__ : PySem.W.isFn K (.ref aPlan___init__) = true)
    (lPlan___init__ : K.lookup aPlan___init__ = some ⟨ocPlan___init__, odPlan___init__, .func (PySem.W.fnOf "__init__" "Plan.__init__" (defArgs s_Plan___init__) (defBody s_Plan___init__) (defScope s_Plan___init__) .none kVPlan___init__ dcPlan___init__ pmPlan___init__ anPlan___init__ cdPlan___init__ ctPlan___init__), slPlan___init__⟩)
    (cPlan___init__ : PySem.W.codeIn K cdPlan___init__ "Plan.__init__" = true)
    (kPlan___init__ : PySem.W.keepIn K (.ref aPlan___init__) = true)
    (nshown : PySem.W.nsIn K mainGlobals "_shown" = some (some (.ref ashown)))
    (lshown : K.lookup ashown = some ⟨ocshown, odshown, .func (PySem.W.fnOf "_shown" "_shown" (defArgs s_shown) (defBody s_shown) (defScope s_shown) .none kVshown dcshown pmshown anshown cdshown ctshown), slshown⟩)
    (cshown : PySem.W.codeIn K cdshown "_shown" = true)
    (kshown : PySem.W.keepIn K (.ref ashown) = true)
    (ncheck_direction : PySem.W.nsIn K mainGlobals "check_direction" = some (some (.ref acheck_direction)))
    (lcheck_direction : K.lookup acheck_direction = some ⟨occheck_direction, odcheck_direction, .func (PySem.W.fnOf "check_direction" "check_direction" (defArgs s_check_direction) (defBody s_check_direction) (defScope s_check_direction) .none kVcheck_direction dccheck_direction pmcheck_direction ancheck_direction cdcheck_direction ctcheck_direction), slcheck_direction⟩)
    (ccheck_direction : PySem.W.codeIn K cdcheck_direction "check_direction" = true)
    (kcheck_direction : PySem.W.keepIn K (.ref acheck_direction) = true)
    (nCrossingWord___init__ : PySem.W.findIn K (.ref aCrossingWord) "__init__" = some (some (.ref aCrossingWord___init__)))
    (iCrossingWord___init__ : PySem.W.isFn K (.ref aCrossingWord___init__) = true)
    (lCrossingWord___init__ : K.lookup aCrossingWord___init__ = some ⟨ocCrossingWord___init__, odCrossingWord___init__, .func (PySem.W.fnOf "__init__" "CrossingWord.__init__" (defArgs s_CrossingWord___init__) (defBody s_CrossingWord___init__) (defScope s_CrossingWord___init__) .none kVCrossingWord___init__ dcCrossingWord___init__ pmCrossingWord___init__ anCrossingWord___init__ cdCrossingWord___init__ ctCrossingWord___init__), slCrossingWord___init__⟩)
    (cCrossingWord___init__ : PySem.W.codeIn K cdCrossingWord___init__ "CrossingWord.__init__" = true)
    (kCrossingWord___init__ : PySem.W.keepIn K (.ref aCrossingWord___init__) = true)
    (nPlan_size : PySem.W.findIn K (.ref aPlan) "size" = some (some (.ref pPlan_size)))
    (gePlan_size : PySem.W.specialIn K (.ref pPlan_size) "__get__" = some (some (.builtin "property.__get__")))
    (tkPlan_size : PySem.W.takesIn K (.ref pPlan_size) = some true)
    (rcPlan_size : PySem.W.recIn K pPlan_size "property" = some (.ref aPlan_size :: restPlan_size))
    (lPlan_size : K.lookup aPlan_size = some ⟨ocPlan_size, odPlan_size, .func (PySem.W.fnOf "size" "Plan.size" (defArgs s_Plan_size) (defBody s_Plan_size) (defScope s_Plan_size) .none kVPlan_size dcPlan_size pmPlan_size anPlan_size cdPlan_size ctPlan_size), slPlan_size⟩)
    (cPlan_size : PySem.W.codeIn K cdPlan_size "Plan.size" = true)
    (kPlan_size : PySem.W.keepIn K (.ref aPlan_size) = true)
    (nPlan_behind : PySem.W.findIn K (.ref aPlan) "behind" = some (some (.ref aPlan_behind)))
    (iPlan_behind : PySem.W.isFn K (.ref aPlan_behind) = true)
    (lPlan_behind : K.lookup aPlan_behind = some ⟨ocPlan_behind, odPlan_behind, .func (PySem.W.fnOf "behind" "Plan.behind" (defArgs s_Plan_behind) (defBody s_Plan_behind) (defScope s_Plan_behind) .none kVPlan_behind dcPlan_behind pmPlan_behind anPlan_behind cdPlan_behind ctPlan_behind), slPlan_behind⟩)
    (cPlan_behind : PySem.W.codeIn K cdPlan_behind "Plan.behind" = true)
    (kPlan_behind : PySem.W.keepIn K (.ref aPlan_behind) = true)
    (nCrossingWord_round_length : PySem.W.findIn K (.ref aCrossingWord) "round_length" = some (some (.ref pCrossingWord_round_length)))
    (geCrossingWord_round_length : PySem.W.specialIn K (.ref pCrossingWord_round_length) "__get__" = some (some (.builtin "property.__get__")))
    (tkCrossingWord_round_length : PySem.W.takesIn K (.ref pCrossingWord_round_length) = some true)
    (rcCrossingWord_round_length : PySem.W.recIn K pCrossingWord_round_length "property" = some (.ref aCrossingWord_round_length :: restCrossingWord_round_length))
    (lCrossingWord_round_length : K.lookup aCrossingWord_round_length = some ⟨ocCrossingWord_round_length, odCrossingWord_round_length, .func (PySem.W.fnOf "round_length" "CrossingWord.round_length" (defArgs s_CrossingWord_round_length) (defBody s_CrossingWord_round_length) (defScope s_CrossingWord_round_length) .none kVCrossingWord_round_length dcCrossingWord_round_length pmCrossingWord_round_length anCrossingWord_round_length cdCrossingWord_round_length ctCrossingWord_round_length), slCrossingWord_round_length⟩)
    (cCrossingWord_round_length : PySem.W.codeIn K cdCrossingWord_round_length "CrossingWord.round_length" = true)
    (kCrossingWord_round_length : PySem.W.keepIn K (.ref aCrossingWord_round_length) = true)
    (nCrossingWord_letter : PySem.W.findIn K (.ref aCrossingWord) "letter" = some (some (.ref aCrossingWord_letter)))
    (iCrossingWord_letter : PySem.W.isFn K (.ref aCrossingWord_letter) = true)
    (lCrossingWord_letter : K.lookup aCrossingWord_letter = some ⟨ocCrossingWord_letter, odCrossingWord_letter, .func (PySem.W.fnOf "letter" "CrossingWord.letter" (defArgs s_CrossingWord_letter) (defBody s_CrossingWord_letter) (defScope s_CrossingWord_letter) .none kVCrossingWord_letter dcCrossingWord_letter pmCrossingWord_letter anCrossingWord_letter cdCrossingWord_letter ctCrossingWord_letter), slCrossingWord_letter⟩)
    (cCrossingWord_letter : PySem.W.codeIn K cdCrossingWord_letter "CrossingWord.letter" = true)
    (kCrossingWord_letter : PySem.W.keepIn K (.ref aCrossingWord_letter) = true)
    (nrooms_passed : PySem.W.nsIn K mainGlobals "rooms_passed" = some (some (.ref arooms_passed)))
    (lrooms_passed : K.lookup arooms_passed = some ⟨ocrooms_passed, odrooms_passed, .func (PySem.W.fnOf "rooms_passed" "rooms_passed" (defArgs s_rooms_passed) (defBody s_rooms_passed) (defScope s_rooms_passed) .none (.ref kdrooms_passed) dcrooms_passed pmrooms_passed anrooms_passed cdrooms_passed ctrooms_passed), slrooms_passed⟩)
    (crooms_passed : PySem.W.codeIn K cdrooms_passed "rooms_passed" = true)
    (krooms_passed : PySem.W.keepIn K (.ref arooms_passed) = true)
    (dk0rooms_passed : PySem.W.nsIn K kdrooms_passed "start" = some (some (.int 0 dtrooms_passed)))
    (dk1rooms_passed : PySem.W.nsIn K kdrooms_passed "crossings" = some (some .none))
    (nlaw_letter : PySem.W.nsIn K mainGlobals "_law_letter" = some (some (.ref alaw_letter)))
    (llaw_letter : K.lookup alaw_letter = some ⟨oclaw_letter, odlaw_letter, .func (PySem.W.fnOf "_law_letter" "_law_letter" (defArgs s_law_letter) (defBody s_law_letter) (defScope s_law_letter) .none kVlaw_letter dclaw_letter pmlaw_letter anlaw_letter cdlaw_letter ctlaw_letter), sllaw_letter⟩)
    (claw_letter : PySem.W.codeIn K cdlaw_letter "_law_letter" = true)
    (klaw_letter : PySem.W.keepIn K (.ref alaw_letter) = true)
    (nlaw_rooms : PySem.W.nsIn K mainGlobals "_law_rooms" = some (some (.ref alaw_rooms)))
    (llaw_rooms : K.lookup alaw_rooms = some ⟨oclaw_rooms, odlaw_rooms, .func (PySem.W.fnOf "_law_rooms" "_law_rooms" (defArgs s_law_rooms) (defBody s_law_rooms) (defScope s_law_rooms) .none kVlaw_rooms dclaw_rooms pmlaw_rooms anlaw_rooms cdlaw_rooms ctlaw_rooms), sllaw_rooms⟩)
    (claw_rooms : PySem.W.codeIn K cdlaw_rooms "_law_rooms" = true)
    (klaw_rooms : PySem.W.keepIn K (.ref alaw_rooms) = true)
    (nlaw_is_number : PySem.W.nsIn K mainGlobals "_law_is_number" = some (some (.ref alaw_is_number)))
    (llaw_is_number : K.lookup alaw_is_number = some ⟨oclaw_is_number, odlaw_is_number, .func (PySem.W.fnOf "_law_is_number" "_law_is_number" (defArgs s_law_is_number) (defBody s_law_is_number) (defScope s_law_is_number) .none kVlaw_is_number dclaw_is_number pmlaw_is_number anlaw_is_number cdlaw_is_number ctlaw_is_number), sllaw_is_number⟩)
    (claw_is_number : PySem.W.codeIn K cdlaw_is_number "_law_is_number" = true)
    (klaw_is_number : PySem.W.keepIn K (.ref alaw_is_number) = true)
    (nlaw_is_row : PySem.W.nsIn K mainGlobals "_law_is_row" = some (some (.ref alaw_is_row)))
    (llaw_is_row : K.lookup alaw_is_row = some ⟨oclaw_is_row, odlaw_is_row, .func (PySem.W.fnOf "_law_is_row" "_law_is_row" (defArgs s_law_is_row) (defBody s_law_is_row) (defScope s_law_is_row) .none kVlaw_is_row dclaw_is_row pmlaw_is_row anlaw_is_row cdlaw_is_row ctlaw_is_row), sllaw_is_row⟩)
    (claw_is_row : PySem.W.codeIn K cdlaw_is_row "_law_is_row" = true)
    (klaw_is_row : PySem.W.keepIn K (.ref alaw_is_row) = true)
    (nlaw_closed : PySem.W.nsIn K mainGlobals "_law_closed" = some (some (.ref alaw_closed)))
    (llaw_closed : K.lookup alaw_closed = some ⟨oclaw_closed, odlaw_closed, .func (PySem.W.fnOf "_law_closed" "_law_closed" (defArgs s_law_closed) (defBody s_law_closed) (defScope s_law_closed) .none kVlaw_closed dclaw_closed pmlaw_closed anlaw_closed cdlaw_closed ctlaw_closed), sllaw_closed⟩)
    (claw_closed : PySem.W.codeIn K cdlaw_closed "_law_closed" = true)
    (klaw_closed : PySem.W.keepIn K (.ref alaw_closed) = true)
    (nlaw_refuses : PySem.W.nsIn K mainGlobals "_law_refuses" = some (some (.ref alaw_refuses)))
    (llaw_refuses : K.lookup alaw_refuses = some ⟨oclaw_refuses, odlaw_refuses, .func (PySem.W.fnOf "_law_refuses" "_law_refuses" (defArgs s_law_refuses) (defBody s_law_refuses) (defScope s_law_refuses) .none kVlaw_refuses dclaw_refuses pmlaw_refuses anlaw_refuses cdlaw_refuses ctlaw_refuses), sllaw_refuses⟩)
    (claw_refuses : PySem.W.codeIn K cdlaw_refuses "_law_refuses" = true)
    (klaw_refuses : PySem.W.keepIn K (.ref alaw_refuses) = true)
    (nlaw : PySem.W.nsIn K mainGlobals "law" = some (some (.ref alaw)))
    (llaw : K.lookup alaw = some ⟨oclaw, odlaw, .func (PySem.W.fnOf "law" "law" (defArgs s_law) (defBody s_law) (defScope s_law) .none kVlaw dclaw pmlaw anlaw cdlaw ctlaw), sllaw⟩)
    (claw : PySem.W.codeIn K cdlaw "law" = true)
    (klaw : PySem.W.keepIn K (.ref alaw) = true)
    (zbool : PySem.W.nsIn K mainGlobals "bool" = some none)
    (zgcd : PySem.W.nsIn K mainGlobals "gcd" = some (some (.builtin "math.gcd")))
    (zint : PySem.W.nsIn K mainGlobals "int" = some none)
    (zisinstance : PySem.W.nsIn K mainGlobals "isinstance" = some none)
    (zlen : PySem.W.nsIn K mainGlobals "len" = some none)
    (zlist : PySem.W.nsIn K mainGlobals "list" = some none)
    (zrange : PySem.W.nsIn K mainGlobals "range" = some none)
    (zsorted : PySem.W.nsIn K mainGlobals "sorted" = some none)
    (zstr : PySem.W.nsIn K mainGlobals "str" = some none)
    (ztuple : PySem.W.nsIn K mainGlobals "tuple" = some none)
    (y_LONG : PySem.W.nsIn K mainGlobals "_LONG" = some (some (.int (1000000000000000000000000000000000000000000000000000000000000) t_LONG))) :
    ∃ fd : FuncData, (∀ (s : Shared) (v : Value), BindsTo s fd ⟨[v], []⟩ [("_law_script", v)]) ∧ ∀ base : Heap, K.In base → base.Ns mainGlobals mg → FnOk l.prog w K mg base CX0 12 fa fd ["_law_script"] (J.spLaw K) := by
  have e := hfa.symm.trans (PySem.W.mg_of X G nlaw)
  cases e
  exact ⟨PySem.W.fnOf "law" "law" (defArgs s_law) (defBody s_law) (defScope s_law) .none kVlaw dclaw pmlaw anlaw cdlaw ctlaw, fun s v => .of_eq rfl, fun base _ _ => (ok_law (Pg := l.prog) (w := w) (base := base) (⟨_, ⟨pgPlan, hdPlan, poPlan, saPlan⟩, PySem.W.mg_of X G nPlan, _, ⟨pgCrossingWord, hdCrossingWord, poCrossingWord, saCrossingWord⟩, PySem.W.mg_of X G nCrossingWord, nfPlan__right, nfPlan__above, nfCrossingWord__p, nfCrossingWord__q, ⟨rrPlan, rgPlan⟩, _, PySem.W.mg_of X G ngInvalidDirection, _, PySem.W.mg_of X G ngInvalidRoom, _, _, ⟨⟨_, _, _, _, _, _, _, _, _, _, _, _, _, _, _, _, _, _, _, rfl, lInvalidDirection___init__, cInvalidDirection___init__, lcInvalidDirection___init__, ldInvalidDirection___init__, FAInvalidDirection___init__, FBInvalidDirection___init__⟩, cDInvalidDirection___init__, FTop, PySem.W.mg_none_of X G fsup, fopq⟩, tyInvalidDirection___init__, (show L2.SupFun l.prog K mg "__init__" "InvalidDirection.__init__" s_InvalidDirection___init__ _ _ _ from ⟨⟨_, _, _, _, _, _, _, _, _, _, _, _, _, _, _, _, _, _, _, rfl, lInvalidDirection___init__, cInvalidDirection___init__, lcInvalidDirection___init__, ldInvalidDirection___init__, FAInvalidDirection___init__, FBInvalidDirection___init__⟩, cDInvalidDirection___init__, FTop, PySem.W.mg_none_of X G fsup, fopq⟩).binds (ps := ["self", "p", "q"]) fun _ _ _ _ _ _ _ us hl => match us, hl with | [_, _, _], _ => rfl, _, _, ⟨⟨_, _, _, _, _, _, _, _, _, _, _, _, _, _, _, _, _, _, _, rfl, lInvalidRoom___init__, cInvalidRoom___init__, lcInvalidRoom___init__, ldInvalidRoom___init__, FAInvalidRoom___init__, FBInvalidRoom___init__⟩, cDInvalidRoom___init__, FTop, PySem.W.mg_none_of X G fsup, fopq⟩, tyInvalidRoom___init__, (show L2.SupFun l.prog K mg "__init__" "InvalidRoom.__init__" s_InvalidRoom___init__ _ _ _ from ⟨⟨_, _, _, _, _, _, _, _, _, _, _, _, _, _, _, _, _, _, _, rfl, lInvalidRoom___init__, cInvalidRoom___init__, lcInvalidRoom___init__, ldInvalidRoom___init__, FAInvalidRoom___init__, FBInvalidRoom___init__⟩, cDInvalidRoom___init__, FTop, PySem.W.mg_none_of X G fsup, fopq⟩).binds (ps := ["self", "room"]) fun _ _ _ _ _ _ _ us hl => match us, hl with | [_, _], _ => rfl, L2.oex_mk xlInvalidDirection RVInvalidDirection xsInvalidDirection xbInvalidDirection xtInvalidDirection xkInvalidDirection, xiInvalidDirection, ⟨L2.oex_mk xlInvalidDirection RVInvalidDirection xsInvalidDirection xbInvalidDirection xtInvalidDirection xkInvalidDirection, KSInvalidDirection, xvInvalidDirection, xmInvalidDirection⟩, L2.oex_mk xlInvalidRoom RVInvalidRoom xsInvalidRoom xbInvalidRoom xtInvalidRoom xkInvalidRoom, xiInvalidRoom, ⟨L2.oex_mk xlInvalidRoom RVInvalidRoom xsInvalidRoom xbInvalidRoom xtInvalidRoom xkInvalidRoom, KSInvalidRoom, xvInvalidRoom, xmInvalidRoom⟩, ⟨zgInvalidRoom, zhInvalidRoom, zbInvalidRoom, zdInvalidRoom, zaInvalidRoom, znInvalidRoom, zqInvalidRoom, zmInvalidRoom⟩, ⟨zgInvalidRoom, zhInvalidRoom, zbInvalidRoom, zdInvalidRoom⟩, L2.exm_sub ybInvalidRoom ydInvalidRoom ytInvalidRoom ysInvalidRoom_InvalidRoom, nxInvalidDirection_p, nxInvalidDirection_q, nxInvalidRoom_room, zzInvalidRoom, zzInvalidDirection, _, ⟨cvPlan_MOST_ROOMS, ⟨_, rfl⟩⟩, _, _, fun_mk (st := s_law_cell) llaw_cell claw_cell klaw_cell, (fun_mk (st := s_law_cell) llaw_cell claw_cell klaw_cell).binds (ps := ["_law_script", "_law_k"]) fun _ _ _ _ _ _ us hl => match us, hl with | [_, _], _ => rfl, PySem.W.mg_of X G nlaw_cell, _, _, fun_mk (st := s_law_row) llaw_row claw_row klaw_row, (fun_mk (st := s_law_row) llaw_row claw_row klaw_row).binds (ps := ["_law_cell_here", "_law_count"]) fun _ _ _ _ _ _ us hl => match us, hl with | [_, _], _ => rfl, PySem.W.mg_of X G nlaw_row, _, _, fun_mk (st := s_law_order) llaw_order claw_order klaw_order, (fun_mk (st := s_law_order) llaw_order claw_order klaw_order).binds (ps := ["_law_cell_here", "_law_size"]) fun _ _ _ _ _ _ us hl => match us, hl with | [_, _], _ => rfl, PySem.W.mg_of X G nlaw_order, _, _, fun_mk (st := s_law_direction) llaw_direction claw_direction klaw_direction, (fun_mk (st := s_law_direction) llaw_direction claw_direction klaw_direction).binds (ps := ["_law_one", "_law_two", "_law_least"]) fun _ _ _ _ _ _ us hl => match us, hl with | [_, _, _], _ => rfl, PySem.W.mg_of X G nlaw_direction, _, _, fun_mk (st := s_is_order) lis_order cis_order kis_order, (fun_mk (st := s_is_order) lis_order cis_order kis_order).binds (ps := ["rooms", "size"]) fun _ _ _ _ _ _ us hl => match us, hl with | [_, _], _ => rfl, PySem.W.mg_of X G nis_order, _, _, fun_mk (st := s_Plan___init__) lPlan___init__ cPlan___init__ kPlan___init__, (fun_mk (st := s_Plan___init__) lPlan___init__ cPlan___init__ kPlan___init__).binds (ps := ["self", "right", "above"]) fun _ _ _ _ _ _ us hl => match us, hl with | [_, _, _], _ => rfl, ⟨mkPlan, nPlan___init__, iPlan___init__, kcPlan⟩, _, _, fun_mk (st := s_shown) lshown cshown kshown, (fun_mk (st := s_shown) lshown cshown kshown).binds (ps := ["number"]) fun _ _ _ _ _ _ us hl => match us, hl with | [_], _ => rfl, PySem.W.mg_of X G nshown, _, _, fun_mk (st := s_check_direction) lcheck_direction ccheck_direction kcheck_direction, (fun_mk (st := s_check_direction) lcheck_direction ccheck_direction kcheck_direction).binds (ps := ["p", "q"]) fun _ _ _ _ _ _ us hl => match us, hl with | [_, _], _ => rfl, PySem.W.mg_of X G ncheck_direction, _, _, fun_mk (st := s_CrossingWord___init__) lCrossingWord___init__ cCrossingWord___init__ kCrossingWord___init__, (fun_mk (st := s_CrossingWord___init__) lCrossingWord___init__ cCrossingWord___init__ kCrossingWord___init__).binds (ps := ["self", "p", "q"]) fun _ _ _ _ _ _ us hl => match us, hl with | [_, _, _], _ => rfl, ⟨mkCrossingWord, nCrossingWord___init__, iCrossingWord___init__, kcCrossingWord⟩, _, _, fun_mk (st := s_Plan_size) lPlan_size cPlan_size kPlan_size, (fun_mk (st := s_Plan_size) lPlan_size cPlan_size kPlan_size).binds (ps := ["self"]) fun _ _ _ _ _ _ us hl => match us, hl with | [_], _ => rfl, _, ⟨nPlan_size, gePlan_size, tkPlan_size, _, rcPlan_size⟩, _, _, fun_mk (st := s_Plan_behind) lPlan_behind cPlan_behind kPlan_behind, (fun_mk (st := s_Plan_behind) lPlan_behind cPlan_behind kPlan_behind).binds (ps := ["self", "room", "letter"]) fun _ _ _ _ _ _ us hl => match us, hl with | [_, _, _], _ => rfl, ⟨nPlan_behind, iPlan_behind, kPlan_behind⟩, _, _, fun_mk (st := s_CrossingWord_round_length) lCrossingWord_round_length cCrossingWord_round_length kCrossingWord_round_length, (fun_mk (st := s_CrossingWord_round_length) lCrossingWord_round_length cCrossingWord_round_length kCrossingWord_round_length).binds (ps := ["self"]) fun _ _ _ _ _ _ us hl => match us, hl with | [_], _ => rfl, _, ⟨nCrossingWord_round_length, geCrossingWord_round_length, tkCrossingWord_round_length, _, rcCrossingWord_round_length⟩, _, _, fun_mk (st := s_CrossingWord_letter) lCrossingWord_letter cCrossingWord_letter kCrossingWord_letter, (fun_mk (st := s_CrossingWord_letter) lCrossingWord_letter cCrossingWord_letter kCrossingWord_letter).binds (ps := ["self", "index"]) fun _ _ _ _ _ _ us hl => match us, hl with | [_, _], _ => rfl, ⟨nCrossingWord_letter, iCrossingWord_letter, kCrossingWord_letter⟩, _, _, L2.funD_two (st := s_rooms_passed) lrooms_passed crooms_passed krooms_passed dk0rooms_passed ⟨_, rfl⟩ dk1rooms_passed rfl, PySem.W.mg_of X G nrooms_passed, _, _, fun_mk (st := s_law_letter) llaw_letter claw_letter klaw_letter, (fun_mk (st := s_law_letter) llaw_letter claw_letter klaw_letter).binds (ps := ["_law_pair", "_law_index"]) fun _ _ _ _ _ _ us hl => match us, hl with | [_, _], _ => rfl, PySem.W.mg_of X G nlaw_letter, _, _, fun_mk (st := s_law_rooms) llaw_rooms claw_rooms klaw_rooms, (fun_mk (st := s_law_rooms) llaw_rooms claw_rooms klaw_rooms).binds (ps := ["_law_lists", "_law_pair", "_law_room", "_law_count"]) fun _ _ _ _ _ _ us hl => match us, hl with | [_, _, _, _], _ => rfl, PySem.W.mg_of X G nlaw_rooms, _, _, fun_mk (st := s_law_is_number) llaw_is_number claw_is_number klaw_is_number, (fun_mk (st := s_law_is_number) llaw_is_number claw_is_number klaw_is_number).binds (ps := ["_law_value"]) fun _ _ _ _ _ _ us hl => match us, hl with | [_], _ => rfl, PySem.W.mg_of X G nlaw_is_number, _, _, fun_mk (st := s_law_is_row) llaw_is_row claw_is_row klaw_is_row, (fun_mk (st := s_law_is_row) llaw_is_row claw_is_row klaw_is_row).binds (ps := ["_law_actual", "_law_expected"]) fun _ _ _ _ _ _ us hl => match us, hl with | [_, _], _ => rfl, PySem.W.mg_of X G nlaw_is_row, _, _, fun_mk (st := s_law_closed) llaw_closed claw_closed klaw_closed, (fun_mk (st := s_law_closed) llaw_closed claw_closed klaw_closed).binds (ps := ["_law_lists", "_law_pair", "_law_first"]) fun _ _ _ _ _ _ us hl => match us, hl with | [_, _, _], _ => rfl, PySem.W.mg_of X G nlaw_closed, _, _, fun_mk (st := s_law_refuses) llaw_refuses claw_refuses klaw_refuses, (fun_mk (st := s_law_refuses) llaw_refuses claw_refuses klaw_refuses).binds (ps := ["_law_plan", "_law_pair", "_law_room", "_law_count"]) fun _ _ _ _ _ _ us hl => match us, hl with | [_, _, _, _], _ => rfl, PySem.W.mg_of X G nlaw_refuses, _, _, fun_mk (st := s_law) llaw claw klaw, (fun_mk (st := s_law) llaw claw klaw).binds (ps := ["_law_script"]) fun _ _ _ _ _ _ us hl => match us, hl with | [_], _ => rfl, PySem.W.mg_of X G nlaw, PySem.W.mg_none_of X G zbool, PySem.W.mg_of X G zgcd, PySem.W.mg_none_of X G zint, PySem.W.mg_none_of X G zisinstance, PySem.W.mg_none_of X G zlen, PySem.W.mg_none_of X G zlist, PySem.W.mg_none_of X G zrange, PySem.W.mg_none_of X G zsorted, PySem.W.mg_none_of X G zstr, PySem.W.mg_none_of X G ztuple, _, PySem.W.mg_of X G y_LONG⟩ : Txt l.prog K mg)).imp (J.law_of law_math)⟩

end Slw

open PySem PySem.W PyProof.Rows in
set_option maxRecDepth 100000 in
set_option maxHeartbeats 0 in
theorem PySem.Challenge.cw_slantwalk_k25_rooms_passed_holds : PySem.Challenge.rw_slantwalk_k25_rooms_passed.Holds := by
  w_on; o_law; k_head; (case hw => w_witness2)
  k_fill
  refine L2.walk_of (l := PySem.Challenge.rw_slantwalk_k25_rooms_passed) (n := 63) (k := 12) (x := "_law_script") (CX := fun _ => L2.CX0) (sp := fun w => J.spLaw _) rfl (by decide) rfl ⟨rfl, by decide, by decide⟩ (fun w h Y => PySem.W.kIn_of Y) ?F (fun _ _ a ns hl _ hS => ⟨a, ns, rfl, hS, hl, fun _ => rfl⟩) (fun _ _ _ _ _ h => h)
  case F =>
    intro w mg fa h KX G hmg
    refine' Slw.all_mk KX G hmg ?nPlan ?pgPlan ?hdPlan ?poPlan ?saPlan ?nCrossingWord ?pgCrossingWord ?hdCrossingWord ?poCrossingWord ?saCrossingWord ?mkPlan ?kcPlan ?mkCrossingWord ?kcCrossingWord ?nfPlan__right ?nfPlan__above ?nfCrossingWord__p ?nfCrossingWord__q ?rrPlan ?rgPlan ?ngInvalidDirection ?ngInvalidRoom ?nInvalidDirection___init__ ?lInvalidDirection___init__ ?cInvalidDirection___init__ ?lcInvalidDirection___init__ ?ldInvalidDirection___init__ ?FAInvalidDirection___init__ ?FBInvalidDirection___init__ ?cDInvalidDirection___init__ ?tyInvalidDirection___init__ ?FTop ?fsup ?fopq ?nInvalidRoom___init__ ?lInvalidRoom___init__ ?cInvalidRoom___init__ ?lcInvalidRoom___init__ ?ldInvalidRoom___init__ ?FAInvalidRoom___init__ ?FBInvalidRoom___init__ ?cDInvalidRoom___init__ ?tyInvalidRoom___init__ ?xlInvalidDirection ?RVInvalidDirection ?xsInvalidDirection ?xbInvalidDirection ?xtInvalidDirection ?xkInvalidDirection ?xiInvalidDirection ?KSInvalidDirection ?xvInvalidDirection ?xmInvalidDirection ?xlInvalidRoom ?RVInvalidRoom ?xsInvalidRoom ?xbInvalidRoom ?xtInvalidRoom ?xkInvalidRoom ?xiInvalidRoom ?KSInvalidRoom ?xvInvalidRoom ?xmInvalidRoom ?zgInvalidRoom ?zhInvalidRoom ?zbInvalidRoom ?zdInvalidRoom ?zaInvalidRoom ?znInvalidRoom ?zqInvalidRoom ?zmInvalidRoom ?ybInvalidRoom ?ydInvalidRoom ?ytInvalidRoom ?ysInvalidRoom_InvalidRoom ?nxInvalidDirection_p ?nxInvalidDirection_q ?nxInvalidRoom_room ?zzInvalidRoom ?zzInvalidDirection ?cvPlan_MOST_ROOMS ?nlaw_cell ?llaw_cell ?claw_cell ?klaw_cell ?nlaw_row ?llaw_row ?claw_row ?klaw_row ?nlaw_order ?llaw_order ?claw_order ?klaw_order ?nlaw_direction ?llaw_direction ?claw_direction ?klaw_direction ?nis_order ?lis_order ?cis_order ?kis_order ?nPlan___init__ ?iPlan___init__ ?lPlan___init__ ?cPlan___init__ ?kPlan___init__ ?nshown ?lshown ?cshown ?kshown ?ncheck_direction ?lcheck_direction ?ccheck_direction ?kcheck_direction ?nCrossingWord___init__ ?iCrossingWord___init__ ?lCrossingWord___init__ ?cCrossingWord___init__ ?kCrossingWord___init__ ?nPlan_size ?gePlan_size ?tkPlan_size ?rcPlan_size ?lPlan_size ?cPlan_size ?kPlan_size ?nPlan_behind ?iPlan_behind ?lPlan_behind ?cPlan_behind ?kPlan_behind ?nCrossingWord_round_length ?geCrossingWord_round_length ?tkCrossingWord_round_length ?rcCrossingWord_round_length ?lCrossingWord_round_length ?cCrossingWord_round_length ?kCrossingWord_round_length ?nCrossingWord_letter ?iCrossingWord_letter ?lCrossingWord_letter ?cCrossingWord_letter ?kCrossingWord_letter ?nrooms_passed ?lrooms_passed ?crooms_passed ?krooms_passed ?dk0rooms_passed ?dk1rooms_passed ?nlaw_letter ?llaw_letter ?claw_letter ?klaw_letter ?nlaw_rooms ?llaw_rooms ?claw_rooms ?klaw_rooms ?nlaw_is_number ?llaw_is_number ?claw_is_number ?klaw_is_number ?nlaw_is_row ?llaw_is_row ?claw_is_row ?klaw_is_row ?nlaw_closed ?llaw_closed ?claw_closed ?klaw_closed ?nlaw_refuses ?llaw_refuses ?claw_refuses ?klaw_refuses ?nlaw ?llaw ?claw ?klaw ?zbool ?zgcd ?zint ?zisinstance ?zlen ?zlist ?zrange ?zsorted ?zstr ?ztuple ?y_LONG
    (case nPlan => k_is)
    (case pgPlan => k_is)
    (case hdPlan => k_is)
    (case poPlan => k_is)
    (case saPlan => k_is)
    (case nCrossingWord => k_is)
    (case pgCrossingWord => k_is)
    (case hdCrossingWord => k_is)
    (case poCrossingWord => k_is)
    (case saCrossingWord => k_is)
    (case mkPlan => k_is)
    (case kcPlan => k_is)
    (case mkCrossingWord => k_is)
    (case kcCrossingWord => k_is)
    (case nfPlan__right => k_is)
    (case nfPlan__above => k_is)
    (case nfCrossingWord__p => k_is)
    (case nfCrossingWord__q => k_is)
    (case rrPlan => k_is)
    (case rgPlan => k_is)
    (case ngInvalidDirection => k_is)
    (case ngInvalidRoom => k_is)
    (case nInvalidDirection___init__ => k_is)
    (case lInvalidDirection___init__ => k_is)
    (case cInvalidDirection___init__ => k_is)
    (case lcInvalidDirection___init__ => k_is)
    (case ldInvalidDirection___init__ => k_is)
    (case FAInvalidDirection___init__ => (first | rfl | kernel_rfl | decide +kernel))
    (case FBInvalidDirection___init__ => (first | rfl | kernel_rfl | decide +kernel))
    (case cDInvalidDirection___init__ => k_is)
    (case tyInvalidDirection___init__ => k_is)
    (case FTop => (first | rfl | kernel_rfl | decide +kernel))
    (case fsup => k_is)
    (case fopq => k_is)
    (case nInvalidRoom___init__ => k_is)
    (case lInvalidRoom___init__ => k_is)
    (case cInvalidRoom___init__ => k_is)
    (case lcInvalidRoom___init__ => k_is)
    (case ldInvalidRoom___init__ => k_is)
    (case FAInvalidRoom___init__ => (first | rfl | kernel_rfl | decide +kernel))
    (case FBInvalidRoom___init__ => (first | rfl | kernel_rfl | decide +kernel))
    (case cDInvalidRoom___init__ => k_is)
    (case tyInvalidRoom___init__ => k_is)
    (case xlInvalidDirection => k_is)
    (case RVInvalidDirection => rfl)
    (case xsInvalidDirection => k_is)
    (case xbInvalidDirection => k_is)
    (case xtInvalidDirection => k_is)
    (case xkInvalidDirection => k_is)
    (case xiInvalidDirection => k_is)
    (case KSInvalidDirection => ks_is)
    (case xvInvalidDirection => k_is)
    (case xmInvalidDirection => k_is)
    (case xlInvalidRoom => k_is)
    (case RVInvalidRoom => rfl)
    (case xsInvalidRoom => k_is)
    (case xbInvalidRoom => k_is)
    (case xtInvalidRoom => k_is)
    (case xkInvalidRoom => k_is)
    (case xiInvalidRoom => k_is)
    (case KSInvalidRoom => ks_is)
    (case xvInvalidRoom => k_is)
    (case xmInvalidRoom => k_is)
    (case zgInvalidRoom => k_is)
    (case zhInvalidRoom => k_is)
    (case zbInvalidRoom => k_is)
    (case zdInvalidRoom => k_is)
    (case zaInvalidRoom => k_is)
    (case znInvalidRoom => k_is)
    (case zqInvalidRoom => k_is)
    (case zmInvalidRoom => k_is)
    (case ybInvalidRoom => k_is)
    (case ydInvalidRoom => k_is)
    (case ytInvalidRoom => k_is)
    (case ysInvalidRoom_InvalidRoom => k_is)
    (case nxInvalidDirection_p => k_is)
    (case nxInvalidDirection_q => k_is)
    (case nxInvalidRoom_room => k_is)
    (case zzInvalidRoom => k_is)
    (case zzInvalidDirection => k_is)
    (case cvPlan_MOST_ROOMS => k_is)
    (case nlaw_cell => k_is)
    (case llaw_cell => k_is)
    (case claw_cell => k_is)
    (case klaw_cell => k_is)
    (case nlaw_row => k_is)
    (case llaw_row => k_is)
    (case claw_row => k_is)
    (case klaw_row => k_is)
    (case nlaw_order => k_is)
    (case llaw_order => k_is)
    (case claw_order => k_is)
    (case klaw_order => k_is)
    (case nlaw_direction => k_is)
    (case llaw_direction => k_is)
    (case claw_direction => k_is)
    (case klaw_direction => k_is)
    (case nis_order => k_is)
    (case lis_order => k_is)
    (case cis_order => k_is)
    (case kis_order => k_is)
    (case nPlan___init__ => k_is)
    (case iPlan___init__ => k_is)
    (case lPlan___init__ => k_is)
    (case cPlan___init__ => k_is)
    (case kPlan___init__ => k_is)
    (case nshown => k_is)
    (case lshown => k_is)
    (case cshown => k_is)
    (case kshown => k_is)
    (case ncheck_direction => k_is)
    (case lcheck_direction => k_is)
    (case ccheck_direction => k_is)
    (case kcheck_direction => k_is)
    (case nCrossingWord___init__ => k_is)
    (case iCrossingWord___init__ => k_is)
    (case lCrossingWord___init__ => k_is)
    (case cCrossingWord___init__ => k_is)
    (case kCrossingWord___init__ => k_is)
    (case nPlan_size => k_is)
    (case gePlan_size => k_is)
    (case tkPlan_size => k_is)
    (case rcPlan_size => k_is)
    (case lPlan_size => k_is)
    (case cPlan_size => k_is)
    (case kPlan_size => k_is)
    (case nPlan_behind => k_is)
    (case iPlan_behind => k_is)
    (case lPlan_behind => k_is)
    (case cPlan_behind => k_is)
    (case kPlan_behind => k_is)
    (case nCrossingWord_round_length => k_is)
    (case geCrossingWord_round_length => k_is)
    (case tkCrossingWord_round_length => k_is)
    (case rcCrossingWord_round_length => k_is)
    (case lCrossingWord_round_length => k_is)
    (case cCrossingWord_round_length => k_is)
    (case kCrossingWord_round_length => k_is)
    (case nCrossingWord_letter => k_is)
    (case iCrossingWord_letter => k_is)
    (case lCrossingWord_letter => k_is)
    (case cCrossingWord_letter => k_is)
    (case kCrossingWord_letter => k_is)
    (case nrooms_passed => k_is)
    (case lrooms_passed => k_is)
    (case crooms_passed => k_is)
    (case krooms_passed => k_is)
    (case dk0rooms_passed => k_is)
    (case dk1rooms_passed => k_is)
    (case nlaw_letter => k_is)
    (case llaw_letter => k_is)
    (case claw_letter => k_is)
    (case klaw_letter => k_is)
    (case nlaw_rooms => k_is)
    (case llaw_rooms => k_is)
    (case claw_rooms => k_is)
    (case klaw_rooms => k_is)
    (case nlaw_is_number => k_is)
    (case llaw_is_number => k_is)
    (case claw_is_number => k_is)
    (case klaw_is_number => k_is)
    (case nlaw_is_row => k_is)
    (case llaw_is_row => k_is)
    (case claw_is_row => k_is)
    (case klaw_is_row => k_is)
    (case nlaw_closed => k_is)
    (case llaw_closed => k_is)
    (case claw_closed => k_is)
    (case klaw_closed => k_is)
    (case nlaw_refuses => k_is)
    (case llaw_refuses => k_is)
    (case claw_refuses => k_is)
    (case klaw_refuses => k_is)
    (case nlaw => k_is)
    (case llaw => k_is)
    (case claw => k_is)
    (case klaw => k_is)
    (case zbool => k_is)
    (case zgcd => k_is)
    (case zint => k_is)
    (case zisinstance => k_is)
    (case zlen => k_is)
    (case zlist => k_is)
    (case zrange => k_is)
    (case zsorted => k_is)
    (case zstr => k_is)
    (case ztuple => k_is)
    (case y_LONG => k_is)
