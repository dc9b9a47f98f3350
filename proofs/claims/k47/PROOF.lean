import PyProof.Rows.All
import Wide.All
import OpenK.AllK
import Wide.FinOn
import HandS.ForMost
import HandS.Wide
import HandS.Gcd
import HandS.IsInst
import HandS.Style
import HandS.Conv
import HandS.SortInts
import HandS.Deep
import HandS.Property
import HandS.ClsMeth
import OpenK.KMeth
import HandS.WideBits
import HandS.Zip
import HandS.TupAny
import HandS.Star
import HandS.Codes
import HandS.Text
import HandS.Strs
import KE.KOpsOwn
import KE.GoesMore
import PyProof.EnumMake
import HandS.ExcOwn
import HandS.ExcIs
import HandS.WordsExc
import HandS.ExcInit
import PyProof.LongRange
import HandS.TryOnly
import KE.KExcSuper
import HandS.ExcField
import HandS.FStr
import HandS.HotCalls
import HandS.Defaults
import HandS.TryMany
import HandS.CallSlots
import HandS.GenList
import HandS.SetIn
import KE.KeyNested
import HandS.NamedTupSort
import KE.KDictKeyed
import PySem.Challenge.RW_slantwalk_k47_whole_comparison
set_option Elab.async false
set_option linter.all false
set_option maxRecDepth 100000
set_option maxHeartbeats 8000000
set_option synthInstance.maxHeartbeats 1000000
set_option synthInstance.maxSize 1000
namespace J
open PySem
def wFor {α σ : Type} (b : α → σ → (σ → Prop) → (σ → Prop) → Prop) (k : σ → Prop) : List α → σ → Prop
  | [], s => k s
  | x :: r, s => b x s (fun s' => wFor b k r s') k
def wWhile {σ : Type} (t : σ → Prop → Prop → Prop) (b : σ → (σ → Prop) → (σ → Prop) → Prop) (k : σ → Prop) (s : σ) : Prop :=
  ∃ (I : σ → Prop) (m : σ → Nat), I s ∧ ∀ s, I s → t s (b s (fun s' => I s' ∧ m s' < m s) k) (k s)
def rangeI (lo hi : Int) : List Int := (List.range (hi - lo).toNat).map fun i => lo + (i : Nat)
def wLet {α : Type} (a : α) (k : α → Prop) : Prop := k a
def wJoin {τ : Type} (B : τ → Prop) (A : (τ → Prop) → Prop) : Prop := A B
theorem wLet_ok {α : Type} {a : α} {k : α → Prop} (h : ∀ x, x = a → k x) : wLet a k := h a rfl
theorem wLet_to {α : Type} {a : α} {k : α → Prop} (h : k a) : wLet a k := h
theorem wJoin_ok {τ : Type} {B : τ → Prop} {A : (τ → Prop) → Prop} (I : τ → Prop) (hB : ∀ s, I s → B s) (hA : ∀ J : τ → Prop, (∀ s, I s → J s) → A J) : wJoin B A := hA B hB
theorem wFor_ok {α σ : Type} {b : α → σ → (σ → Prop) → (σ → Prop) → Prop} {k : σ → Prop} (I : List α → σ → Prop) (hs : ∀ x r s (N : σ → Prop), I (x :: r) s → (∀ s', I r s' → N s') → b x s N k) (hk : ∀ s, I [] s → k s) : ∀ xs s, I xs s → wFor b k xs s
  | [], s, h => hk s h
  | x :: r, s, h => hs x r s _ h fun s' h' => wFor_ok I hs hk r s' h'
def wComp {α β : Type} (b : α → (β → Prop) → Prop) : List α → List β → (List β → Prop) → Prop
  | [], acc, k => k acc
  | x :: r, acc, k => b x fun y => wComp b r (acc ++ [y]) k
theorem wComp_ok {α β : Type} {b : α → (β → Prop) → Prop} (f : α → β) : ∀ (xs : List α) (acc : List β) (k : List β → Prop), (∀ x ∈ xs, ∀ N : β → Prop, N (f x) → b x N) → k (acc ++ xs.map f) → wComp b xs acc k
  | [], acc, k, _, h => by
    rw [List.map_nil, List.append_nil] at h
    exact h
  | x :: r, acc, k, hb, h => hb x List.mem_cons_self _ (wComp_ok f r (acc ++ [f x]) k (fun y hy => hb y (List.mem_cons_of_mem _ hy)) (by
    rw [List.append_assoc]
    exact h))
/-- data that may be compared -/
class POk (α : Type) where
  pok : α → Prop
instance : POk Int := ⟨fun _ => True⟩
instance : POk Bool := ⟨fun _ => True⟩
instance : POk Unit := ⟨fun _ => True⟩
instance : POk Str := ⟨fun x => x.cps.all (· < 0x110000) = true⟩
instance {α β : Type} [a : POk α] [b : POk β] : POk (α × β) := ⟨fun t => a.pok t.1 ∧ b.pok t.2⟩
instance {α : Type} [a : POk α] : POk (List α) := ⟨fun xs => ∀ x ∈ xs, a.pok x⟩
instance {α : Type} [a : POk α] : POk (Option α) := ⟨fun o => ∀ x, o = some x → a.pok x⟩
def ixI {α : Type} (xs : List α) (i : Int) : Option α := if 0 ≤ i then xs[i.toNat]? else if 0 ≤ i + xs.length then xs[(i + xs.length).toNat]? else none
/-- a place to store at -/
def ixW (n : Nat) (i : Int) : Option Nat := if 0 ≤ i ∧ i < (n : Int) then some i.toNat else if i < 0 ∧ 0 ≤ i + (n : Int) then some (i + (n : Int)).toNat else none
/-- is it in the list -/
def memJ {α : Type} [DecidableEq α] (x : α) (xs : List α) : Bool := decide (x ∈ xs)
theorem memJ_true {α : Type} [DecidableEq α] {x : α} {xs : List α} (h : x ∈ xs) : memJ x xs = true := decide_eq_true h
theorem memJ_false {α : Type} [DecidableEq α] {x : α} {xs : List α} (h : ¬ x ∈ xs) : memJ x xs = false := decide_eq_false h
theorem of_memJ {α : Type} [DecidableEq α] {x : α} {xs : List α} (h : memJ x xs = true) : x ∈ xs := of_decide_eq_true h
def JMul (i j : Int) : Prop := (-(2 ^ 64) < i ∧ i < 2 ^ 64) ∨ (-(2 ^ 64) < j ∧ j < 2 ^ 64) ∨ i.natAbs.log2 + j.natAbs.log2 < 1000000
def JDiv (j : Int) : Prop := 0 < j ∧ j.natAbs.log2 < 9000
/-- one more in a set -/
def addJ (xs : List Int) (k : Int) : List Int := if memJ k xs = true then xs else xs ++ [k]
/-- bits of numbers that are not negative -/
def orJ (i j : Int) : Int := ((i.toNat ||| j.toNat : Nat) : Int)
def andJ (i j : Int) : Int := ((i.toNat &&& j.toNat : Nat) : Int)
/-- a comprehension with a test -/
def wCompF {α β : Type} (c : α → Prop → Prop → Prop) (b : α → (β → Prop) → Prop) : List α → List β → (List β → Prop) → Prop
  | [], acc, k => k acc
  | x :: r, acc, k => c x (b x fun y => wCompF c b r (acc ++ [y]) k) (wCompF c b r acc k)
theorem wCompF_ok {α β : Type} {c : α → Prop → Prop → Prop} {b : α → (β → Prop) → Prop} (p : α → Bool) (f : α → β) : ∀ (xs : List α) (acc : List β) (k : List β → Prop), (∀ x ∈ xs, ∀ A B : Prop, (p x = true → A) → (p x = false → B) → c x A B) → (∀ x ∈ xs, p x = true → ∀ N : β → Prop, N (f x) → b x N) → k (acc ++ (xs.filter p).map f) → wCompF c b xs acc k
  | [], acc, k, _, _, h => by
    rw [List.filter_nil, List.map_nil, List.append_nil] at h
    exact h
  | x :: r, acc, k, hc, hb, h => by
    refine hc x List.mem_cons_self _ _ (fun e => hb x List.mem_cons_self e _ ?_) fun e => ?_
    · refine wCompF_ok p f r (acc ++ [f x]) k (fun y hy => hc y (List.mem_cons_of_mem _ hy)) (fun y hy => hb y (List.mem_cons_of_mem _ hy)) ?_
      rw [List.filter_cons_of_pos e, List.map_cons] at h
      rw [List.append_assoc]
      exact h
    · refine wCompF_ok p f r acc k (fun y hy => hc y (List.mem_cons_of_mem _ hy)) (fun y hy => hb y (List.mem_cons_of_mem _ hy)) ?_
      rw [List.filter_cons_of_neg (by rw [e]; decide)] at h
      exact h
/-- a question's tree -/
inductive Tr : Type where
  | thr (a b : Int)
  | rng (k : Int)
  | rnd (k : Int)
  | no (t : Tr)
  | two (c : Bool) (l r : Tr)
deriving DecidableEq
namespace Tr
def tag : Tr → Str
  | .thr _ _ => ("through" : Str)
  | .rng _ => ("rings" : Str)
  | .rnd _ => ("rounds" : Str)
  | .no _ => ("not" : Str)
  | .two true _ _ => ("and" : Str)
  | .two false _ _ => ("or" : Str)
def ht : Tr → Nat
  | .no t => t.ht + 1
  | .two _ l r => max l.ht r.ht + 1
  | _ => 1
/-- the number at a place -/
def num : Tr → Int → Option Int
  | .thr a b, i => if i = 1 then some a else if i = 2 then some b else none
  | .rng k, i => if i = 1 then some k else none
  | .rnd k, i => if i = 1 then some k else none
  | _, _ => none
/-- the part at a place -/
def sub : Tr → Int → Option Tr
  | .no t, i => if i = 1 then some t else none
  | .two _ l r, i => if i = 1 then some l else if i = 2 then some r else none
  | _, _ => none
def len : Tr → Nat
  | .thr _ _ => 3
  | .two _ _ _ => 3
  | _ => 2
def parts : Tr → Option (List Tr)
  | .no t => some [t]
  | .two _ l r => some [l, r]
  | _ => none
end Tr
instance : POk Tr := ⟨fun t => t.ht ≤ 60⟩
/-- a truth value, or the word of what was raised with its numbers -/
inductive Told : Type where
  | yes (b : Bool)
  | txt (z : Str)
  | one (z : Str) (n : Int)
  | two (z : Str) (p q : Int)
deriving DecidableEq
instance : POk Told := ⟨fun t => match t with
  | .yes _ => True
  | .txt z => POk.pok z
  | .one z _ => POk.pok z
  | .two z _ _ => POk.pok z⟩
/-- a stretch of crossings: its table, its length, its parts -/
inductive Sh : Type where
  | leaf (t : List Int × List Int) (l : Int)
  | node (t : List Int × List Int) (l : Int) (a : Sh) (c : Int) (b : Sh) (d : Int)
namespace Sh
def len : Sh → Int
  | .leaf _ l => l
  | .node _ l _ _ _ _ => l
def parts : Sh → List (Sh × Int)
  | .leaf _ _ => []
  | .node _ _ a c b d => [(a, c), (b, d)]
end Sh
/-- a dict's pairs, in the order of insertion -/
def getJ {α : Type} [DecidableEq α] (kvs : List (α × Int)) (k : α) : Option Int := (kvs.find? fun x => decide (x.1 = k)).map (·.2)
end J
namespace J
open PySem PySem.Spec L2
theorem peW {X : Cx} {e : Expr} {t t' : TE} (h : PE X e t) (k : ∀ σ H Q, t' σ H Q → t σ H Q) : PE X e t' := ⟨fun p s σ H Q I q => h.run p s σ H Q I (k _ _ _ q)⟩
theorem ptW {X : Cx} {e : Expr} {t t' : TT} (h : PT X e t) (k : ∀ σ H Q, t' σ H Q → t σ H Q) : PT X e t' := ⟨fun p s σ H Q I q => h.run p s σ H Q I (k _ _ _ q)⟩
theorem pwW {X : Cx} {e : Expr} {t t' : TT} (h : PW X e t) (k : ∀ σ H Q, t' σ H Q → t σ H Q) : PW X e t' := ⟨fun wh p s σ H Q I q => h.run wh p s σ H Q I (k _ _ _ q)⟩
theorem paW {X : Cx} {e : List Expr} {t t' : TA} (h : PA X e t) (k : ∀ σ H Q, t' σ H Q → t σ H Q) : PA X e t' := ⟨fun pos p s σ H Q I q => h.run pos p s σ H Q I (k _ _ _ q)⟩
theorem psW {X : Cx} {e : Stmt} {t t' : TS} (h : PS X e t) (k : ∀ D σ H, t' D σ H → t D σ H) : PS X e t' := ⟨fun p s σ H D I q => h.run p s σ H D I (k _ _ _ q)⟩
theorem pssW {X : Cx} {e : List Stmt} {t t' : TS} (h : PSs X e t) (k : ∀ D σ H, t' D σ H → t D σ H) : PSs X e t' := ⟨fun p s σ H D I q => h.run p s σ H D I (k _ _ _ q)⟩
def tEx {τ : Type} (t : τ → TS) : TS := fun D σ H => ∃ a, t a D σ H
theorem pssE {X : Cx} {e : List Stmt} {τ : Type} {t : τ → TS} (h : ∀ a, PSs X e (t a)) : PSs X e (tEx t) := ⟨fun p s σ H D I ⟨a, q⟩ => (h a).run p s σ H D I q⟩
def isFix : HO → Bool
  | .tup _ => true
  | .own _ => true
  | .frz _ _ => true
  | .xd _ => true
  | _ => false
def Imm (H H' : Hp) : Prop := ∀ a o, isFix o = true → H a = some o → H' a = some o
theorem Imm.of {H H' : Hp} (s : Same H H') : Imm H H' := fun a o _ h => s a o h
theorem Imm.refl (H : Hp) : Imm H H := fun _ _ _ h => h
theorem Imm.lst {H : Hp} {p : Addr} {xs : List V} {o : HO} (h : H p = some (.lst xs)) : Imm H (upd H p o) := fun a u f e => by
  have ne : a ≠ p := fun q => by
    rw [q, h] at e
    cases e
    cases f
  rw [upd_ne ne]
  exact e
theorem same_upd {H : Hp} {p : Addr} {o : HO} (h : H p = none) : Same H (upd H p o) := fun b x e => by
  rw [upd_ne (ne_of_none e h)]
  exact e
/-- what H0 does not know may change -/
theorem Same.mut {H H' : Hp} {p : Addr} {o : HO} (e : Same H H') (h : H p = none) : Same H (upd H' p o) := fun a u ha => by
  rw [upd_ne (ne_of_none ha h)]
  exact e a u ha
theorem Imm.sqT {K : PySem.W.Frag} {H H' : Hp} {a : Addr} {xs : List V} (e : Imm H H') (h : SqT K H a xs) : SqT K H' a xs := by
  rcases h with (h | ⟨o, h⟩) | h
  · exact .inl (.inl (e _ _ rfl h))
  · exact .inl (.inr ⟨o, e _ _ rfl h⟩)
  · exact .inr h
theorem Same.sqT {K : PySem.W.Frag} {H H' : Hp} {a : Addr} {xs : List V} (e : Same H H') (h : SqT K H a xs) : SqT K H' a xs := (Imm.of e).sqT h
theorem _root_.L2.Same.sqT' {K : PySem.W.Frag} {H H' : Hp} {a : Addr} {xs : List V} (e : Same H H') (h : SqT K H a xs) : SqT K H' a xs := (Imm.of e).sqT h
structure Ty (α : Type) where
  rel : Hp → V → α → Prop
  same : ∀ {H H' : Hp} {v : V} {a : α}, Same H H' → rel H v a → rel H' v a
class Im {α : Type} (A : Ty α) : Prop where
  imm : ∀ {H H' : Hp} {v : V} {a : α}, Imm H H' → A.rel H v a → A.rel H' v a
def tI : Ty Int := ⟨fun _ v a => v = .int a, fun _ h => h⟩
def tB : Ty Bool := ⟨fun _ v a => v = .bl a, fun _ h => h⟩
def tS : Ty Str := ⟨fun _ v a => v = .str a, fun _ h => h⟩
def tN : Ty Unit := ⟨fun _ v _ => v = .non, fun _ h => h⟩
instance : Im tI := ⟨fun _ h => h⟩
instance : Im tB := ⟨fun _ h => h⟩
instance : Im tS := ⟨fun _ h => h⟩
instance : Im tN := ⟨fun _ h => h⟩
theorem Paired.imp {α β : Type} {F G : α → β → Prop} (h : ∀ a b, F a b → G a b) : ∀ {l : List α} {m : List β}, Paired F l m → Paired G l m
  | _, _, .nil => .nil
  | _, _, .cons x r => .cons (h _ _ x) (Paired.imp h r)
theorem Paired.at {α β : Type} {F : α → β → Prop} : ∀ {l : List α} {m : List β} {i : Nat} {b : β}, Paired F l m → m[i]? = some b → ∃ a, l[i]? = some a ∧ F a b
  | _, _, i, b, .nil, e => by simp at e
  | _, _, 0, b, .cons x _, e => by
    have e' := Option.some.inj e
    subst e'
    exact ⟨_, rfl, x⟩
  | _, _, i + 1, b, .cons _ r, e => by
    obtain ⟨a, h1, h2⟩ := Paired.at (i := i) (b := b) r e
    exact ⟨a, h1, h2⟩
theorem Paired.len {α β : Type} {F : α → β → Prop} : ∀ {l : List α} {m : List β}, Paired F l m → l.length = m.length
  | _, _, .nil => rfl
  | _, _, .cons _ r => by rw [List.length_cons, List.length_cons, Paired.len r]
theorem Paired.set {α β : Type} {F : α → β → Prop} {a : α} {b : β} (h : F a b) : ∀ {l : List α} {m : List β} (i : Nat), Paired F l m → Paired F (l.set i a) (m.set i b)
  | _, _, _, .nil => .nil
  | _, _, 0, .cons _ r => .cons h r
  | _, _, i + 1, .cons x r => .cons x (Paired.set h i r)
theorem Paired.app {α β : Type} {F : α → β → Prop} : ∀ {l l' : List α} {m m' : List β}, Paired F l m → Paired F l' m' → Paired F (l ++ l') (m ++ m')
  | _, _, _, _, .nil, h => h
  | _, _, _, _, .cons x r, h => .cons x (Paired.app r h)
theorem Paired.drop {α β : Type} {F : α → β → Prop} : ∀ {l : List α} {m : List β} (i : Nat), Paired F l m → Paired F (l.drop i) (m.drop i)
  | _, _, 0, h => h
  | _, _, _ + 1, .nil => .nil
  | _, _, i + 1, .cons _ r => Paired.drop i r
theorem Paired.take {α β : Type} {F : α → β → Prop} : ∀ {l : List α} {m : List β} (i : Nat), Paired F l m → Paired F (l.take i) (m.take i)
  | _, _, 0, _ => .nil
  | _, _, _ + 1, .nil => .nil
  | _, _, i + 1, .cons x r => .cons x (Paired.take i r)
theorem paired_int {vs : List V} {xs : List Int} (h : Paired (fun (v : V) (a : Int) => v = .int a) vs xs) : vs = xs.map V.int := by
  induction h with
  | nil => rfl
  | cons x _ ih => rw [x, ih]; rfl
theorem paired_ints (xs : List Int) : Paired (fun (v : V) (a : Int) => v = .int a) (xs.map V.int) xs := by
  induction xs with
  | nil => exact .nil
  | cons x r ih => exact .cons rfl ih
/-- argument lists, the items of a tuple -/
structure ATy (τ : Type) where
  rel : Hp → List V → τ → Prop
  same : ∀ {H H' : Hp} {vs : List V} {t : τ}, Same H H' → rel H vs t → rel H' vs t
class AIm {τ : Type} (T : ATy τ) : Prop where
  imm : ∀ {H H' : Hp} {vs : List V} {t : τ}, Imm H H' → T.rel H vs t → T.rel H' vs t
section
variable {α β γ δ : Type}
def aN : ATy Unit := ⟨fun _ vs _ => vs = [], fun _ h => h⟩
def aC {τ : Type} (A : Ty α) (T : ATy τ) : ATy (α × τ) := ⟨fun H vs t => ∃ v r, vs = v :: r ∧ A.rel H v t.1 ∧ T.rel H r t.2, fun s ⟨v, r, e, h1, h2⟩ => ⟨v, r, e, A.same s h1, T.same s h2⟩⟩
def a2 (A : Ty α) (B : Ty β) : ATy (α × β) := ⟨fun H vs t => ∃ x y, vs = [x, y] ∧ A.rel H x t.1 ∧ B.rel H y t.2, fun s ⟨x, y, e, h1, h2⟩ => ⟨x, y, e, A.same s h1, B.same s h2⟩⟩
def a3 (A : Ty α) (B : Ty β) (C : Ty γ) : ATy (α × β × γ) := ⟨fun H vs t => ∃ x y z, vs = [x, y, z] ∧ A.rel H x t.1 ∧ B.rel H y t.2.1 ∧ C.rel H z t.2.2, fun s ⟨x, y, z, e, h1, h2, h3⟩ => ⟨x, y, z, e, A.same s h1, B.same s h2, C.same s h3⟩⟩
def a4 (A : Ty α) (B : Ty β) (C : Ty γ) (E : Ty δ) : ATy (α × β × γ × δ) := ⟨fun H vs t => ∃ x y z u, vs = [x, y, z, u] ∧ A.rel H x t.1 ∧ B.rel H y t.2.1 ∧ C.rel H z t.2.2.1 ∧ E.rel H u t.2.2.2, fun s ⟨x, y, z, u, e, h1, h2, h3, h4⟩ => ⟨x, y, z, u, e, A.same s h1, B.same s h2, C.same s h3, E.same s h4⟩⟩
/-- many of one kind -/
def aV (A : Ty α) : ATy (List α) := ⟨fun H vs t => Paired (A.rel H) vs t, fun s h => Paired.imp (fun _ _ r => A.same s r) h⟩
instance : AIm aN := ⟨fun _ h => h⟩
instance {τ : Type} {A : Ty α} {T : ATy τ} [hA : Im A] [hT : AIm T] : AIm (aC A T) := ⟨fun s ⟨v, r, e, h1, h2⟩ => ⟨v, r, e, hA.imm s h1, hT.imm s h2⟩⟩
instance {A : Ty α} {B : Ty β} [hA : Im A] [hB : Im B] : AIm (a2 A B) := ⟨fun s ⟨x, y, e, h1, h2⟩ => ⟨x, y, e, hA.imm s h1, hB.imm s h2⟩⟩
instance {A : Ty α} {B : Ty β} {C : Ty γ} [hA : Im A] [hB : Im B] [hC : Im C] : AIm (a3 A B C) := ⟨fun s ⟨x, y, z, e, h1, h2, h3⟩ => ⟨x, y, z, e, hA.imm s h1, hB.imm s h2, hC.imm s h3⟩⟩
instance {A : Ty α} {B : Ty β} {C : Ty γ} {E : Ty δ} [hA : Im A] [hB : Im B] [hC : Im C] [hE : Im E] : AIm (a4 A B C E) := ⟨fun s ⟨x, y, z, u, e, h1, h2, h3, h4⟩ => ⟨x, y, z, u, e, hA.imm s h1, hB.imm s h2, hC.imm s h3, hE.imm s h4⟩⟩
instance {A : Ty α} [hA : Im A] : AIm (aV A) := ⟨fun s h => Paired.imp (fun _ _ r => hA.imm s r) h⟩
/-- a tuple; a list to be read -/
def tT {τ : Type} (K : PySem.W.Frag) (T : ATy τ) : Ty τ := ⟨fun H v t => ∃ a vs, v = .ref a ∧ SqT K H a vs ∧ T.rel H vs t, fun s ⟨a, vs, e, h, r⟩ => ⟨a, vs, e, Same.sqT s h, T.same s r⟩⟩
def tL (K : PySem.W.Frag) (A : Ty α) : Ty (List α) := ⟨fun H v xs => ∃ a vs, v = .ref a ∧ SqL K H a vs ∧ Paired (A.rel H) vs xs, fun s ⟨a, vs, e, h, r⟩ => ⟨a, vs, e, s.seq h, Paired.imp (fun _ _ r => A.same s r) r⟩⟩
instance {τ : Type} {K : PySem.W.Frag} {T : ATy τ} [hT : AIm T] : Im (tT K T) := ⟨fun s ⟨a, vs, e, h, r⟩ => ⟨a, vs, e, Imm.sqT s h, hT.imm s r⟩⟩
/-- a list of our own making -/
def tK (A : Ty α) : Ty (List α) := ⟨fun H v xs => ∃ a vs, v = .ref a ∧ H a = some (.lst vs) ∧ Paired (A.rel H) vs xs, fun s ⟨a, vs, e, h, r⟩ => ⟨a, vs, e, s _ _ h, Paired.imp (fun _ _ r => A.same s r) r⟩⟩
/-- None, or one of a kind (that is never None) -/
def tO (A : Ty α) : Ty (Option α) := ⟨fun H v o => match o with | none => v = .non | some a => A.rel H v a ∧ v ≠ .non, fun {H H' v a} s h => by cases a with | none => exact h | some x => exact ⟨A.same s h.1, h.2⟩⟩
instance {A : Ty α} [hA : Im A] : Im (tO A) := ⟨fun {H H' v a} s h => by cases a with | none => exact h | some x => exact ⟨hA.imm s h.1, h.2⟩⟩
end
def rm (H : Hp) (p : Addr) : Hp := fun b => if b = p then none else H b
theorem rm_le {H : Hp} {p : Addr} : Same (rm H p) H := fun a o h => by
  unfold rm at h
  by_cases e : a = p
  · rw [if_pos e] at h
    cases h
  · rw [if_neg e] at h
    exact h
theorem rm_mono {H H' : Hp} {p : Addr} (s : Same H H') : Same (rm H p) (rm H' p) := fun a o h => by
  unfold rm at h ⊢
  by_cases e : a = p
  · rw [if_pos e] at h
    cases h
  · rw [if_neg e] at h ⊢
    exact s a o h
theorem rm_new {H H' : Hp} {p : Addr} (s : Same H H') (h : H p = none) : Same H (rm H' p) := fun a o e => by
  unfold rm
  rw [if_neg (ne_of_none e h)]
  exact s a o e
structure Fr where
  B : Hp
  H : Hp
  le : Same B H
  fx : Imm H B
def bsA (F : Fr) (as : List Addr) (H : Hp) : Hp := fun a => if a ∈ as then none else if (F.H a).isSome = true then F.B a else H a
theorem bsA_nil {F : Fr} {as : List Addr} {H : Hp} {a : Addr} {o : HO} (h : bsA F as H a = some o) : a ∉ as ∧ ((∃ x, F.H a = some x) → F.B a = some o) ∧ (F.H a = none → H a = some o) := by
  unfold bsA at h
  by_cases e : a ∈ as
  · rw [if_pos e] at h
    cases h
  · rw [if_neg e] at h
    refine ⟨e, fun ⟨x, hx⟩ => ?_, fun hx => ?_⟩
    · rw [hx] at h
      exact h
    · rw [hx] at h
      exact h
theorem bsA_of {F : Fr} {as : List Addr} {H : Hp} {a : Addr} {o : HO} (h1 : a ∉ as) (h2 : F.H a = none) (h3 : H a = some o) : bsA F as H a = some o := by
  unfold bsA
  rw [if_neg h1, h2]
  exact h3
theorem bsA_ofB {F : Fr} {as : List Addr} {H : Hp} {a : Addr} {o : HO} (h1 : a ∉ as) (h2 : F.B a = some o) : bsA F as H a = some o := by
  unfold bsA
  rw [if_neg h1, F.le _ _ h2]
  exact h2
theorem bsA_le {F : Fr} {as : List Addr} {H : Hp} (s : Same F.H H) : Same (bsA F as H) H := fun a o h => by
  obtain ⟨h1, h2, h3⟩ := bsA_nil h
  cases e : F.H a with
  | none => exact h3 e
  | some x => exact s _ _ (F.le _ _ (h2 ⟨x, e⟩))
theorem bsA_mono {F : Fr} {as : List Addr} {H H' : Hp} (s : Same H H') : Same (bsA F as H) (bsA F as H') := fun a o h => by
  obtain ⟨h1, h2, h3⟩ := bsA_nil h
  cases e : F.H a with
  | none => exact bsA_of h1 e (s _ _ (h3 e))
  | some x => exact bsA_ofB h1 (h2 ⟨x, e⟩)
theorem bsA_sub {F : Fr} {as bs : List Addr} {H : Hp} (s : ∀ a, a ∈ bs → a ∈ as) : Same (bsA F as H) (bsA F bs H) := fun a o h => by
  obtain ⟨h1, h2, h3⟩ := bsA_nil h
  have h1' : a ∉ bs := fun z => h1 (s a z)
  cases e : F.H a with
  | none => exact bsA_of h1' e (h3 e)
  | some x => exact bsA_ofB h1' (h2 ⟨x, e⟩)
theorem bsA_cons {F : Fr} {as : List Addr} {H : Hp} {p : Addr} : bsA F (p :: as) H = rm (bsA F as H) p := funext fun a => by
  unfold bsA rm
  by_cases e : a = p
  · rw [if_pos e, if_pos (by rw [e]; exact List.mem_cons_self)]
  · rw [if_neg e]
    show _ = if a ∈ as then none else if (F.H a).isSome = true then F.B a else H a
    by_cases m : a ∈ as
    · rw [if_pos m, if_pos (List.mem_cons_of_mem _ m)]
    · rw [if_neg m, if_neg (fun z => by
        rcases List.mem_cons.mp z with z | z
        · exact e z
        · exact m z)]
theorem bsA_upd {F : Fr} {as : List Addr} {H : Hp} {p : Addr} {o : HO} (h : p ∈ as) : bsA F as (upd H p o) = bsA F as H := funext fun a => by
  unfold bsA
  by_cases e : a = p
  · rw [if_pos (by rw [e]; exact h), if_pos (by rw [e]; exact h)]
  · rw [upd_ne e]
theorem bsA_new {F : Fr} {as : List Addr} {H : Hp} {p : Addr} {o : HO} (s : Same F.H H) (h : H p = none) (m : p ∉ as) : bsA F as (upd H p o) p = some o := bsA_of m (s.free h) upd_same
/-- what a call or an expression hands back: the heap ahead, the part of the heap behind that is left alone, the heap behind -/
structure Res (ρ : Type) where
  rel : Hp → Hp → Hp → V → ρ → Prop
  same : ∀ {H B1 B2 H1 H2 : Hp} {v : V} {a : ρ}, Same B1 B2 → Same H1 H2 → rel H B1 H1 v a → rel H B2 H2 v a
  pre : ∀ {H H1 B H2 : Hp} {v : V} {a : ρ}, Same H H1 → rel H1 B H2 v a → rel H B H2 v a
def rO {α : Type} (A : Ty α) : Res α := ⟨fun _ B _ v a => A.rel B v a, fun s _ h => A.same s h, fun _ h => h⟩
/-- to be read at once -/
def rB {α : Type} (A : Ty α) : Res α := ⟨fun _ _ H v a => A.rel H v a, fun _ s h => A.same s h, fun _ h => h⟩
/-- a new list -/
def rN {α : Type} (A : Ty α) : Res (List α) := ⟨fun H B _ v xs => ∃ p vs, v = .ref p ∧ H p = none ∧ B p = some (.lst vs) ∧ Paired (A.rel (rm B p)) vs xs,
  fun s _ ⟨p, vs, e, h0, h1, r⟩ => ⟨p, vs, e, h0, s _ _ h1, Paired.imp (fun _ _ r => A.same (rm_mono s) r) r⟩, fun s ⟨p, vs, e, h0, h1, r⟩ => ⟨p, vs, e, s.free h0, h1, r⟩⟩
/-- a list to be read at once, whose items may be kept -/
def rE {α : Type} (K : PySem.W.Frag) (A : Ty α) : Res (List α) := ⟨fun _ B H v xs => ∃ a vs, v = .ref a ∧ SqL K H a vs ∧ Paired (A.rel B) vs xs, fun s t ⟨a, vs, e, h, r⟩ => ⟨a, vs, e, t.seq h, Paired.imp (fun _ _ r => A.same s r) r⟩, fun _ h => h⟩
def rEK {α : Type} (A : Ty α) : Res (List α) := ⟨fun _ B H v xs => ∃ a vs, v = .ref a ∧ H a = some (.lst vs) ∧ Paired (A.rel B) vs xs, fun s t ⟨a, vs, e, h, r⟩ => ⟨a, vs, e, t _ _ h, Paired.imp (fun _ _ r => A.same s r) r⟩, fun _ h => h⟩
/-- seen at the whole heap, it stands in the part that is left alone too -/
class RIm {ρ : Type} (R : Res ρ) : Prop where
  im : ∀ {H B B' H' : Hp} {v : V} {a : ρ}, R.rel H B H' v a → Same B H' → Imm H' B' → (∀ p o, H p = none → B p = some o → B' p = some o) → R.rel H B' H' v a
instance {α : Type} {A : Ty α} [hA : Im A] : RIm (rO A) := ⟨fun r s i _ => hA.imm i (A.same s r)⟩
theorem Imm.rm_lst {H' B : Hp} {p : Addr} {vs : List V} (i : Imm H' B) (h : H' p = some (.lst vs)) : Imm H' (rm B p) := fun a o f e => by
  unfold rm
  have ne : a ≠ p := fun z => by
    rw [z, h] at e
    cases e
    cases f
  rw [if_neg ne]
  exact i a o f e
instance {α : Type} {A : Ty α} [hA : Im A] : RIm (rN A) := ⟨fun ⟨p, vs, e, h0, h1, r⟩ s i n => ⟨p, vs, e, h0, n _ _ h0 h1, Paired.imp (fun _ _ r => hA.imm (Imm.rm_lst i (s _ _ h1)) (A.same (rm_le.trans s) r)) r⟩⟩
inductive Slot : Type 1 where
  | any
  | val {α : Type} (A : Ty α) (a : α)
  | at (p : Addr)
abbrev sv {α : Type} (A : Ty α) (a : α) : Slot := .val A a
def Slot.ok (B : Hp) : Slot → Option V → Prop
  | .any, _ => True
  | .val A a, o => ∃ v, o = some v ∧ A.rel B v a
  | .at p, o => o = some (.ref p)
inductive Cell : Type 1 where
  | lst (p : Addr) {α : Type} (A : Ty α) (xs : List α)
  | fix {α : Type} (A : Ty α) (v : V) (a : α)
  | ins (x dx C : Addr) (ns : List Str) {κ : Type} (U : ATy κ) (t : κ)
  | raw (p : Addr) (o : HO)
  | gen (p : Addr) (φ : Hp → HO → Prop)
def Cell.addr : Cell → Option Addr
  | .lst p _ _ => some p
  | .fix _ _ _ => none
  | .ins x _ _ _ _ _ => some x
  | .raw p _ => some p
  | .gen p _ => some p
def Cell.ok (F : Fr) (B H : Hp) : Cell → Prop
  | .lst p A xs => F.H p = none ∧ ∃ vs, H p = some (.lst vs) ∧ Paired (A.rel B) vs xs
  | .fix A v a => A.rel B v a
  | .ins x dx C ns U t => F.H x = none ∧ ∃ vs, H x = some (.ins C dx (ns.zip vs)) ∧ vs.length = ns.length ∧ U.rel B vs t
  | .raw p o => F.H p = none ∧ isFix o = false ∧ H p = some o
  | .gen p φ => F.H p = none ∧ ∃ o, isFix o = false ∧ H p = some o ∧ ∀ B', Same B B' → φ B' o
/-- slot by slot -/
inductive Par (B : Hp) : L2.St → List Slot → Prop where
  | nil : Par B [] []
  | cons {o : Option V} {s : Slot} {σ : L2.St} {r : List Slot} : s.ok B o → Par B σ r → Par B (o :: σ) (s :: r)
theorem Par.imp {H H' : Hp} (h : ∀ (s : Slot) (o : Option V), s.ok H o → s.ok H' o) : ∀ {σ : L2.St} {m : List Slot}, Par H σ m → Par H' σ m
  | _, _, .nil => .nil
  | _, _, .cons x r => .cons (h _ _ x) (Par.imp h r)
theorem Par.at {H : Hp} : ∀ {σ : L2.St} {m : List Slot} {i : Nat} {b : Slot}, Par H σ m → m[i]? = some b → ∃ a, σ[i]? = some a ∧ b.ok H a
  | _, _, i, b, .nil, e => by simp at e
  | _, _, 0, b, .cons x _, e => by
    have e' := Option.some.inj e
    subst e'
    exact ⟨_, rfl, x⟩
  | _, _, i + 1, b, .cons _ r, e => by
    obtain ⟨a, h1, h2⟩ := Par.at (i := i) (b := b) r e
    exact ⟨a, h1, h2⟩
theorem Par.set {H : Hp} {o : Option V} {t : Slot} (h : t.ok H o) : ∀ {σ : L2.St} {m : List Slot} (i : Nat), Par H σ m → Par H (σ.set i o) (m.set i t)
  | _, _, _, .nil => .nil
  | _, _, 0, .cons _ r => .cons h r
  | _, _, i + 1, .cons x r => .cons x (Par.set h i r)
structure Gm : Type 1 where
  s : List Slot
  c : List Cell
abbrev Gm.ad (g : Gm) : List Addr := g.c.filterMap Cell.addr
def Gm.bs (F : Fr) (g : Gm) (H : Hp) : Hp := bsA F g.ad H
structure Gm.Ok (F : Fr) (g : Gm) (σ : St) (H : Hp) : Prop where
  same : Same F.H H
  slots : Par (g.bs F H) σ g.s
  nd : g.ad.Nodup
  cells : ∀ c ∈ g.c, c.ok F (g.bs F H) H
theorem Slot.ok_same {H H' : Hp} (s : Same H H') : ∀ {t : Slot} {o : Option V}, t.ok H o → t.ok H' o
  | .any, _, h => h
  | .val A a, _, ⟨v, e, h⟩ => ⟨v, e, A.same s h⟩
  | .at _, _, h => h
theorem Cell.ok_same {F : Fr} {B B' H H' : Hp} (t : Same B B') (s : Same H H') : ∀ {c : Cell}, c.ok F B H → c.ok F B' H'
  | .lst p A xs, ⟨n, vs, e, r⟩ => ⟨n, vs, s _ _ e, Paired.imp (fun _ _ r => A.same t r) r⟩
  | .fix A v a, h => A.same t h
  | .ins x dx C ns U u, ⟨n, vs, e, l, r⟩ => ⟨n, vs, s _ _ e, l, U.same t r⟩
  | .raw p o, ⟨n, f, e⟩ => ⟨n, f, s _ _ e⟩
  | .gen p φ, ⟨n, o, f, e, q⟩ => ⟨n, o, f, s _ _ e, fun B' s' => q B' (t.trans s')⟩
section
variable {F : Fr} {g : Gm} {σ : St} {H H' : Hp}
theorem Gm.Ok.le (k : g.Ok F σ H) : Same (g.bs F H) H := bsA_le k.same
theorem Gm.Ok.leT (k : g.Ok F σ H) (s : Same H H') : Same (g.bs F H') H' := bsA_le (k.same.trans s)
theorem Gm.mono (s : Same H H') : Same (g.bs F H) (g.bs F H') := bsA_mono s
theorem Gm.Ok.step (k : g.Ok F σ H) (s : Same H H') : g.Ok F σ H' :=
  ⟨k.same.trans s, Par.imp (fun _ _ h => Slot.ok_same (Gm.mono s) h) k.slots, k.nd, fun c hc => Cell.ok_same (Gm.mono s) s (k.cells c hc)⟩
theorem Gm.Ok.var (k : g.Ok F σ H) {i : Nat} {t : Slot} (h : g.s[i]? = some t) : ∃ o, σ[i]? = some o ∧ t.ok (g.bs F H) o := Par.at k.slots h
theorem Gm.Ok.ref (k : g.Ok F σ H) {i : Nat} {l : Addr} (hs : g.s[i]? = some (.at l)) : σ[i]? = some (some (.ref l)) := by
  obtain ⟨o, h1, e⟩ := k.var hs
  have e' : o = some (.ref l) := e
  rw [h1, e']
theorem Gm.Ok.cell (k : g.Ok F σ H) {j : Nat} {l : Addr} {α : Type} {A : Ty α} {xs : List α} (hc : g.c[j]? = some (.lst l A xs)) : ∃ vs, H l = some (.lst vs) ∧ Paired (A.rel (g.bs F H)) vs xs :=
  (k.cells _ (List.mem_of_getElem? hc)).2
theorem Gm.mem_ad {c : Cell} {p : Addr} (hc : c ∈ g.c) (h : c.addr = some p) : p ∈ g.ad := List.mem_filterMap.mpr ⟨c, hc, h⟩
/-- every address of a cell: new since the entry, and there, and no fixed thing -/
theorem Gm.Ok.ad_some (k : g.Ok F σ H) {p : Addr} (h : p ∈ g.ad) : F.H p = none ∧ ∃ o, H p = some o ∧ isFix o = false := by
  obtain ⟨c, hc, e⟩ := List.mem_filterMap.mp h
  have kc := k.cells c hc
  cases c with
  | lst q A xs =>
    have e' : q = p := Option.some.inj e
    subst e'
    obtain ⟨n, vs, e2, _⟩ := kc
    exact ⟨n, _, e2, rfl⟩
  | fix A v a => cases e
  | ins x dx C ns U t =>
    have e' : x = p := Option.some.inj e
    subst e'
    obtain ⟨n, vs, e2, _⟩ := kc
    exact ⟨n, _, e2, rfl⟩
  | raw q o =>
    have e' : q = p := Option.some.inj e
    subst e'
    obtain ⟨n, f, e2⟩ := kc
    exact ⟨n, _, e2, f⟩
  | gen q φ =>
    have e' : q = p := Option.some.inj e
    subst e'
    obtain ⟨n, o, f, e2, _⟩ := kc
    exact ⟨n, _, e2, f⟩
theorem Gm.Ok.fresh (k : g.Ok F σ H) {p : Addr} (h : H p = none) : p ∉ g.ad := fun m => by
  obtain ⟨_, o, e, _⟩ := k.ad_some m
  rw [h] at e
  cases e
theorem Gm.Ok.fx (k : g.Ok F σ H) : Imm H (g.bs F H) := fun a o f h => by
  have m : a ∉ g.ad := fun m => by
    obtain ⟨_, o', e, f'⟩ := k.ad_some m
    rw [h] at e
    have e' := Option.some.inj e
    subst e'
    rw [f] at f'
    cases f'
  cases e : F.H a with
  | none => exact bsA_of m e h
  | some x =>
    have e2 := k.same _ _ e
    rw [h] at e2
    have e3 := Option.some.inj e2
    subst e3
    exact bsA_ofB m (F.fx a o f e)
theorem Gm.Ok.bs_new (k : g.Ok F σ H) {p : Addr} {o : HO} (h : H p = none) : g.bs F (upd H p o) p = some o := bsA_new k.same h (k.fresh h)
theorem Gm.Ok.bs_of (k : g.Ok F σ H) (s : Same H H') {p : Addr} {o : HO} (h : H p = none) (e : H' p = some o) : g.bs F H' p = some o := bsA_of (k.fresh h) (k.same.free h) e
theorem Gm.Ok.bs_free (k : g.Ok F σ H) {p : Addr} (h : H p = none) : g.bs F H p = none := k.le.free h
/-- what is new at p, over what stood there before -/
theorem Gm.Ok.rm_new (k : g.Ok F σ H) {p : Addr} {o : HO} (h : H p = none) : Same (g.bs F H) (rm (g.bs F (upd H p o)) p) := J.rm_new (Gm.mono (same_upd h)) (k.bs_free h)
abbrev Gm.set (g : Gm) (i : Nat) (t : Slot) : Gm := ⟨g.s.set i t, g.c⟩
abbrev Gm.push (g : Gm) (c : Cell) : Gm := ⟨g.s, c :: g.c⟩
theorem Gm.Ok.set (k : g.Ok F σ H) {i : Nat} {t : Slot} {v : V} (h : t.ok (g.bs F H) (some v)) : (g.set i t).Ok F (σ.set i (some v)) H :=
  ⟨k.same, Par.set h i k.slots, k.nd, k.cells⟩
/-- a new cell -/
theorem Gm.Ok.push (k : g.Ok F σ H) (s : Same H H') {c : Cell} {p : Addr} (hp : c.addr = some p) (h : H p = none) (hc : c.ok F (rm (g.bs F H') p) H') : (g.push c).Ok F σ H' := by
  have ad : (g.push c).ad = p :: g.ad := by
    show (c :: g.c).filterMap Cell.addr = _
    rw [List.filterMap_cons, hp]
  have eb : (g.push c).bs F H' = rm (g.bs F H') p := by
    unfold Gm.bs
    rw [ad, bsA_cons]
  have mo : Same (g.bs F H) ((g.push c).bs F H') := by
    rw [eb]
    exact J.rm_new (Gm.mono s) (k.bs_free h)
  refine ⟨k.same.trans s, Par.imp (fun _ _ h => Slot.ok_same mo h) k.slots, ?_, fun d hd => ?_⟩
  · rw [ad]
    exact List.nodup_cons.mpr ⟨k.fresh h, k.nd⟩
  · rcases List.mem_cons.mp hd with rfl | hd
    · rw [eb]
      exact hc
    · exact Cell.ok_same mo s (k.cells d hd)
theorem Gm.Ok.new (k : g.Ok F σ H) (s : Same H H') {p : Addr} {α : Type} {A : Ty α} {xs : List α} {vs : List V} (h : H p = none) (e : g.bs F H' p = some (.lst vs)) (r : Paired (A.rel (rm (g.bs F H') p)) vs xs) :
    (g.push (.lst p A xs)).Ok F σ H' := k.push s rfl h ⟨k.same.free h, vs, k.leT s _ _ e, r⟩
theorem Gm.Ok.fixed (k : g.Ok F σ H) {α : Type} {A : Ty α} {v : V} {a : α} (h : A.rel (g.bs F H) v a) : (g.push (.fix A v a)).Ok F σ H :=
  ⟨k.same, k.slots, k.nd, fun c hc => by
    rcases List.mem_cons.mp hc with rfl | hc
    · exact h
    · exact k.cells c hc⟩
end
theorem ad_set {cs : List Cell} {c c' : Cell} : ∀ {j : Nat}, cs[j]? = some c → c'.addr = c.addr → (cs.set j c').filterMap Cell.addr = cs.filterMap Cell.addr := by
  induction cs with
  | nil => intro j h; simp at h
  | cons d r ih =>
    intro j h e
    cases j with
    | zero =>
      have q : d = c := Option.some.inj h
      subst q
      rw [List.set_cons_zero, List.filterMap_cons, List.filterMap_cons, e]
    | succ j =>
      have q := ih (j := j) h e
      rw [List.set_cons_succ, List.filterMap_cons, List.filterMap_cons, q]
theorem addr_of_get {cs : List Cell} {j : Nat} {p : Addr} {d : Cell} (h : cs[j]? = some d) (hd : d.addr = some p) (nd : (cs.filterMap Cell.addr).Nodup) :
    ∀ i c, cs[i]? = some c → c.addr = some p → i = j := by
  induction cs generalizing j with
  | nil => simp at h
  | cons e r ih =>
    intro i c hi hc
    have mem : ∀ {k : Nat} {c : Cell}, r[k]? = some c → c.addr = some p → p ∈ r.filterMap Cell.addr := fun hk hc => List.mem_filterMap.mpr ⟨_, List.mem_of_getElem? hk, hc⟩
    have hdn : e.addr = some p → p ∉ r.filterMap Cell.addr := fun z => by
      rw [List.filterMap_cons, z] at nd
      exact (List.nodup_cons.mp nd).1
    have ndr : (r.filterMap Cell.addr).Nodup := by
      cases ea : e.addr with
      | none =>
        rw [List.filterMap_cons, ea] at nd
        exact nd
      | some q =>
        rw [List.filterMap_cons, ea] at nd
        exact (List.nodup_cons.mp nd).2
    cases i with
    | zero =>
      have e1 : e = c := Option.some.inj hi
      subst e1
      cases j with
      | zero => rfl
      | succ j => exact absurd (mem (k := j) h hd) (hdn hc)
    | succ i =>
      cases j with
      | zero =>
        have e1 : e = d := Option.some.inj h
        subst e1
        exact absurd (mem (k := i) hi hc) (hdn hd)
      | succ j => rw [ih h ndr i c hi hc]
/-- the thing at cell j is changed -/
theorem Gm.Ok.mutC {F : Fr} {g : Gm} {σ : St} {H : Hp} (k : g.Ok F σ H) {j : Nat} {p : Addr} {c c' : Cell} {o : HO} (hj : g.c[j]? = some c) (ha : c.addr = some p) (ha' : c'.addr = some p) (hc : c'.ok F (g.bs F H) (upd H p o)) : (⟨g.s, g.c.set j c'⟩ : Gm).Ok F σ (upd H p o) := by
  have pm : p ∈ g.ad := Gm.mem_ad (List.mem_of_getElem? hj) ha
  have jl : j < g.c.length := (List.getElem?_eq_some_iff.mp hj).1
  have ea : (⟨g.s, g.c.set j c'⟩ : Gm).ad = g.ad := ad_set hj (by rw [ha, ha'])
  have eb : (⟨g.s, g.c.set j c'⟩ : Gm).bs F (upd H p o) = g.bs F H := by
    show bsA F (⟨g.s, g.c.set j c'⟩ : Gm).ad _ = bsA F g.ad H
    rw [ea]
    exact bsA_upd pm
  refine ⟨Same.mut k.same (k.ad_some pm).1, by rw [eb]; exact k.slots, by rw [ea]; exact k.nd, fun d hd => ?_⟩
  rw [eb]
  obtain ⟨n, hn⟩ := List.getElem?_of_mem hd
  by_cases hnj : j = n
  · subst hnj
    rw [List.getElem?_set_self jl] at hn
    have q := Option.some.inj hn
    subst q
    exact hc
  · rw [List.getElem?_set_ne hnj] at hn
    have old := k.cells d (List.mem_of_getElem? hn)
    have ne : ∀ {q : Addr}, d.addr = some q → q ≠ p := fun hq z => hnj (addr_of_get hj ha k.nd n _ hn (by rw [hq, z])).symm
    cases d with
    | lst q B zs =>
      obtain ⟨n0, us, eu, ru⟩ := old
      exact ⟨n0, us, by rw [upd_ne (ne rfl)]; exact eu, ru⟩
    | fix B v a => exact old
    | ins x dx C ns U t =>
      obtain ⟨n0, us, eu, ru⟩ := old
      exact ⟨n0, us, by rw [upd_ne (ne rfl)]; exact eu, ru⟩
    | raw q o' =>
      obtain ⟨n0, f, eu⟩ := old
      exact ⟨n0, f, by rw [upd_ne (ne rfl)]; exact eu⟩
    | gen q φ =>
      obtain ⟨n0, o', f, eu, qq⟩ := old
      exact ⟨n0, o', f, by rw [upd_ne (ne rfl)]; exact eu, qq⟩
theorem Gm.Ok.mut {F : Fr} {g : Gm} {σ : St} {H : Hp} (k : g.Ok F σ H) {j : Nat} {p : Addr} {α : Type} {A : Ty α} {xs ys : List α} {ws : List V} (hj : g.c[j]? = some (.lst p A xs))
    (r : Paired (A.rel (g.bs F H)) ws ys) : (⟨g.s, g.c.set j (.lst p A ys)⟩ : Gm).Ok F σ (upd H p (.lst ws)) := k.mutC hj rfl rfl ⟨(k.ad_some (Gm.mem_ad (List.mem_of_getElem? hj) rfl)).1, ws, upd_same, r⟩
inductive SubS : List Slot → List Slot → Prop where
  | nil : SubS [] []
  | same {s : Slot} {a b : List Slot} : SubS a b → SubS (s :: a) (s :: b)
  | any {s : Slot} {a b : List Slot} : SubS a b → SubS (s :: a) (.any :: b)
theorem SubS.ok {H : Hp} : ∀ {a b : List Slot} {σ : St}, SubS a b → Par H σ a → Par H σ b
  | _, _, _, .nil, h => h
  | _, _, _, .same r, .cons x h => .cons x (SubS.ok r h)
  | _, _, _, .any r, .cons x h => .cons trivial (SubS.ok r h)
theorem SubS.refl : ∀ a : List Slot, SubS a a
  | [] => .nil
  | _ :: r => .same (SubS.refl r)
structure Sub (g g' : Gm) : Prop where
  s : SubS g.s g'.s
  c : g'.c.Sublist g.c
theorem Sub.bs {g g' : Gm} (h : Sub g g') {F : Fr} {H : Hp} : Same (g.bs F H) (g'.bs F H) := bsA_sub fun _ m => (List.Sublist.filterMap _ h.c).subset m
theorem Sub.ok {g g' : Gm} (h : Sub g g') {F : Fr} {σ : St} {H : Hp} (k : g.Ok F σ H) : g'.Ok F σ H :=
  ⟨k.same, Par.imp (fun _ _ z => Slot.ok_same h.bs z) (h.s.ok k.slots), List.Nodup.sublist (List.Sublist.filterMap _ h.c) k.nd, fun c hc => Cell.ok_same h.bs (fun _ _ z => z) (k.cells c (h.c.subset hc))⟩
def RJ {ρ : Type} (F : Fr) (g : Gm) (R : Res ρ) (w : (ρ → Prop) → Prop) : TE := fun σ H Q => g.Ok F σ H ∧ ∃ P, w P ∧ ∀ a v H', P a → Same H H' → R.rel H (g.bs F H') H' v a → Q v H'
/-- arguments: to be kept, or to be read at once -/
def RA {τ : Type} (F : Fr) (g : Gm) (T : ATy τ) (w : (τ → Prop) → Prop) : TA := fun σ H Q => g.Ok F σ H ∧ ∃ P, w P ∧ ∀ t vs H', P t → Same H H' → T.rel (g.bs F H') vs t → Q vs H'
def RAb {τ : Type} (F : Fr) (g : Gm) (T : ATy τ) (w : (τ → Prop) → Prop) : TA := fun σ H Q => g.Ok F σ H ∧ ∃ P, w P ∧ ∀ t vs H', P t → Same H H' → T.rel H' vs t → Q vs H'
def RT (F : Fr) (g : Gm) (w : Prop → Prop → Prop) : TT := fun σ H Q => g.Ok F σ H ∧ ∃ A B, w A B ∧ (A → ∀ H', Same H H' → Q true H') ∧ (B → ∀ H', Same H H' → Q false H')
structure Le (D D' : Ends) : Prop where
  nx : ∀ σ H, D.nx σ H → D'.nx σ H
  rt : ∀ v H, D.rt v H → D'.rt v H
  bk : ∀ σ H, D.bk σ H → D'.bk σ H
  ct : ∀ σ H, D.ct σ H → D'.ct σ H
theorem Le.refl (D : Ends) : Le D D := ⟨fun _ _ h => h, fun _ _ h => h, fun _ _ h => h, fun _ _ h => h⟩
def RS (F : Fr) (g : Gm) (D : Ends) (w : Prop) : TS := fun D' σ H => Le D D' ∧ g.Ok F σ H ∧ w
/-- at a block's end: some state of the family S, of which N holds -/
def phi {τ : Type} (F : Fr) (S : τ → Gm) (N : τ → Prop) : St → Hp → Prop := fun σ H => ∃ s, (S s).Ok F σ H ∧ N s
abbrev JE {ρ : Type} (X : Cx) (F : Fr) (g : Gm) (e : Expr) (R : Res ρ) (w : (ρ → Prop) → Prop) : Prop := PE X e (RJ F g R w)
abbrev JA {τ : Type} (X : Cx) (F : Fr) (g : Gm) (es : List Expr) (T : ATy τ) (w : (τ → Prop) → Prop) : Prop := PA X es (RA F g T w)
abbrev JAb {τ : Type} (X : Cx) (F : Fr) (g : Gm) (es : List Expr) (T : ATy τ) (w : (τ → Prop) → Prop) : Prop := PA X es (RAb F g T w)
abbrev JT (X : Cx) (F : Fr) (g : Gm) (e : Expr) (w : Prop → Prop → Prop) : Prop := PT X e (RT F g w)
abbrev JW (X : Cx) (F : Fr) (g : Gm) (e : Expr) (w : Prop → Prop → Prop) : Prop := PW X e (RT F g w)
abbrev JSs (X : Cx) (F : Fr) (g : Gm) (sts : List Stmt) (D : Ends) (w : Prop) : Prop := PSs X sts (RS F g D w)
/-- what was made since the entry, and what was left alone before -/
def Fr.out (F : Fr) (H : Hp) : Hp := bsA F [] H
/-- a return's value reaches what is wanted -/
def RtOk {ρ : Type} (F : Fr) (R : Res ρ) (P : ρ → Prop) (rt : VK) : Prop := ∀ r v H, P r → Same F.H H → R.rel F.H (F.out H) H v r → rt v H
theorem Gm.out {g : Gm} {F : Fr} {H : Hp} : Same (g.bs F H) (F.out H) := bsA_sub fun _ m => by cases m
/-- what a def promises -/
def spJ {τ ρ : Type} (T : ATy τ) (R : Res ρ) (w : τ → (ρ → Prop) → Prop) : Sp := fun vs H Q _ => ∃ (t : τ) (P : ρ → Prop) (F : Fr), F.H = H ∧ T.rel F.B vs t ∧ w t P ∧ RtOk F R P Q
/-- the whole heap left alone -/
def Fr.all (H : Hp) : Fr := ⟨H, H, fun _ _ h => h, Imm.refl H⟩
/-- the caller's part -/
def Gm.Ok.fr {F : Fr} {g : Gm} {σ : St} {H : Hp} (k : g.Ok F σ H) : Fr := ⟨g.bs F H, H, k.le, k.fx⟩
theorem Gm.Ok.back {F : Fr} {g : Gm} {σ : St} {H H' : Hp} (k : g.Ok F σ H) (s : Same H H') : Same (k.fr.out H') (g.bs F H') := fun a o h => by
  obtain ⟨_, h2, h3⟩ := bsA_nil h
  cases e : H a with
  | none =>
    have h4 : H' a = some o := h3 e
    exact k.bs_of s e h4
  | some x =>
    have h4 : g.bs F H a = some o := h2 ⟨x, e⟩
    exact Gm.mono s _ _ h4
end J
namespace J
open PySem PySem.Spec L2
section
variable {X : Cx} {F : Fr} {g : Gm} {α β γ δ ρ τ : Type}
theorem je_var {i : Nat} {A : Ty α} {a : α} {x : Str} {pos : Pos} (hs : g.s[i]? = some (.val A a)) (hN : X.N[i]? = some x := by rfl) (hv : Vis X.env.scope x := by first | exact Or.inl rfl | exact Or.inr (Or.inl rfl) | exact Or.inr (Or.inr rfl))
    (hd : (x == ("__debug__" : Str)) = false := by decide) (hcd : (x == ("__classdict__" : Str)) = false := by decide) : JE X F g (.Name x pos) (rO A) (fun k => k a) :=
  peW (pe_var hN hv hd hcd) fun σ H Q ⟨k, P, w, q⟩ => by
    obtain ⟨o, h1, v, e, h2⟩ := k.var hs
    subst e
    exact ⟨v, h1, q a v H w (Same.refl H) h2⟩
theorem je_cell {i j : Nat} {p : Addr} {A : Ty α} {xs : List α} {x : Str} {pos : Pos} (hs : g.s[i]? = some (.at p)) (hc : g.c[j]? = some (.lst p A xs)) (hN : X.N[i]? = some x := by rfl) (hv : Vis X.env.scope x := by first | exact Or.inl rfl | exact Or.inr (Or.inl rfl) | exact Or.inr (Or.inr rfl))
    (hd : (x == ("__debug__" : Str)) = false := by decide) (hcd : (x == ("__classdict__" : Str)) = false := by decide) : JE X F g (.Name x pos) (rEK A) (fun k => k xs) :=
  peW (pe_var hN hv hd hcd) fun σ H Q ⟨k, P, w, q⟩ => by
    obtain ⟨vs, hp, r⟩ := k.cell hc
    exact ⟨.ref p, k.ref hs, q xs (.ref p) H w (Same.refl H) ⟨p, vs, rfl, hp, r⟩⟩
/-- one reading of a value serves for another -/
theorem je_res {R S : Res ρ} {e : Expr} {w : (ρ → Prop) → Prop} (h : JE X F g e R w) (hr : ∀ H σ H' v a, g.Ok F σ H' → R.rel H (g.bs F H') H' v a → S.rel H (g.bs F H') H' v a) : JE X F g e S w :=
  peW h fun σ H Q ⟨k, P, hw, q⟩ => ⟨k, P, hw, fun a v H' p s r => q a v H' p s (hr _ _ _ _ _ (k.step s) r)⟩
section
variable {A : Ty α} {e : Expr}
theorem je_b {w : (α → Prop) → Prop} (h : JE X F g e (rO A) w) : JE X F g e (rB A) w := je_res h fun _ _ _ _ _ k r => A.same k.le r
theorem je_eL {w : (List α → Prop) → Prop} (h : JE X F g e (rO (tL X.K A)) w) : JE X F g e (rE X.K A) w := je_res h fun _ _ _ _ _ k ⟨a, vs, e, hq, r⟩ => ⟨a, vs, e, k.le.seq hq, r⟩
theorem je_eK {w : (List α → Prop) → Prop} (h : JE X F g e (rO (tK A)) w) : JE X F g e (rEK A) w := je_res h fun _ _ _ _ _ k ⟨a, vs, e, hq, r⟩ => ⟨a, vs, e, k.le _ _ hq, r⟩
theorem je_eN {w : (List α → Prop) → Prop} (h : JE X F g e (rN A) w) : JE X F g e (rEK A) w := je_res h fun _ _ _ _ _ k ⟨a, vs, e, _, hq, r⟩ => ⟨a, vs, e, k.le _ _ hq, Paired.imp (fun _ _ r => A.same rm_le r) r⟩
theorem je_e {w : (List α → Prop) → Prop} (h : JE X F g e (rEK A) w) : JE X F g e (rE X.K A) w := je_res h fun _ _ _ _ _ k ⟨a, vs, e, hq, r⟩ => ⟨a, vs, e, .inl (.inl hq), r⟩
theorem je_ebL {w : (List α → Prop) → Prop} (h : JE X F g e (rE X.K A) w) : JE X F g e (rB (tL X.K A)) w := je_res h fun _ _ _ _ _ k ⟨a, vs, e, hq, r⟩ => ⟨a, vs, e, hq, Paired.imp (fun _ _ r => A.same k.le r) r⟩
/-- a new list, that is not changed any more -/
theorem je_new {w : (List α → Prop) → Prop} (h : JE X F g e (rN A) w) : JE X F g e (rO (tK A)) w := je_res h fun _ _ _ _ _ k ⟨a, vs, e, _, hq, r⟩ => ⟨a, vs, e, hq, Paired.imp (fun _ _ r => A.same rm_le r) r⟩
end
theorem je_c {e : Expr} {v : V} {A : Ty α} {a : α} (h : PE X e (tC v)) (r : ∀ H, A.rel H v a) : JE X F g e (rO A) (fun k => k a) :=
  peW h fun σ H Q ⟨k, P, w, q⟩ => q a v H w (Same.refl H) (r _)
theorem je_int {n : Int} {j : Nat} {pos : Pos} : JE X F g (.Constant (.int n) j pos) (rO tI) (fun k => k n) := je_c pe_int fun _ => rfl
theorem je_bl {n : Bool} {j : Nat} {pos : Pos} : JE X F g (.Constant (.bool n) j pos) (rO tB) (fun k => k n) := je_c pe_bl fun _ => rfl
theorem je_nonO {A : Ty α} {j : Nat} {pos : Pos} : JE X F g (.Constant .none j pos) (rO (tO A)) (fun k => k none) := je_c pe_non fun _ => rfl
theorem je_globS {n : Str} {x : Str} {u : Value} {pos : Pos} (hg : Gl X x) (hm : X.mg x = some u) (r : RelV (.str n) u) (hd : (x == ("__debug__" : Str)) = false := by decide) : JE X F g (.Name x pos) (rO tS) (fun k => k n) := je_c (pe_glob hg hm r hd) fun _ => rfl
theorem je_some {A : Ty α} {e : Expr} {w : (α → Prop) → Prop} (h : JE X F g e (rO A) w) (hn : ∀ H a, ¬ A.rel H .non a) : JE X F g e (rO (tO A)) (fun k => w fun a => k (some a)) :=
  peW h fun σ H Q ⟨k, P, hw, q⟩ => ⟨k, _, hw, fun a v H' p s r => q (some a) v H' p s ⟨r, fun e => hn _ a (by rw [← e]; exact r)⟩⟩
/-- another view of the same value -/
theorem je_as {A : Ty α} {B : Ty β} {f : α → β} {e : Expr} {w : (α → Prop) → Prop} (h : JE X F g e (rO A) w) (hf : ∀ H v a, A.rel H v a → B.rel H v (f a)) : JE X F g e (rO B) (fun k => w fun a => k (f a)) :=
  peW h fun σ H Q ⟨k, P, hw, q⟩ => ⟨k, _, hw, fun a v H' p s r => q (f a) v H' p s (hf _ _ _ r)⟩
/-- two operands, then a rule by values -/
theorem je_opR {a b : Expr} {op : Operator} {pos : Pos} {r : R2} {S : Res α} {T : Res β} {R : Res ρ} {wa : (α → Prop) → Prop} {wb : (β → Prop) → Prop} {C : α → β → (ρ → Prop) → Prop} (ho : OpR X (binaryOp op) r)
    (hr : ∀ σ x y Ha Hb H v u (P : ρ → Prop) Q, g.Ok F σ H → S.rel Ha (g.bs F H) H v x → T.rel Hb (g.bs F H) H u y → C x y P → (∀ z v' H', P z → Same H H' → R.rel H (g.bs F H') H' v' z → Q v' H') → r v u H Q)
    (ha : JE X F g a S wa) (hb : JE X F g b T wb) : JE X F g (.BinOp a op b pos) R (fun k => wa fun x => wb fun y => C x y k) :=
  peW (pe_op ho ha hb) fun σ H Q ⟨k, P, w, q⟩ => ⟨k, _, w, fun x v H1 w1 s1 r1 => ⟨k.step s1, _, w1, fun y u H2 w2 s2 r2 =>
    hr σ x y _ _ H2 v u P Q (k.step (s1.trans s2)) (S.same (Gm.mono s2) s2 r1) r2 w2 fun z v' H' p s' r' => q z v' H' p ((s1.trans s2).trans s') (R.pre (s1.trans s2) r')⟩⟩
/-- a written int -/
def tIc (n : Int) : Ty Unit := ⟨fun _ v _ => v = .int n, fun _ h => h⟩
theorem je_lit {n : Int} {j : Nat} {pos : Pos} : JE X F g (.Constant (.int n) j pos) (rO (tIc n)) (fun k => k ()) := je_c pe_int fun _ => rfl
section
variable {a b c : Expr} {pos : Pos} {wa wb wc : (Int → Prop) → Prop}
theorem je_add (ha : JE X F g a (rO tI) wa) (hb : JE X F g b (rO tI) wb) : JE X F g (.BinOp a .Add b pos) (rO tI) (fun k => wa fun x => wb fun y => k (x + y)) :=
  je_opR op_add (fun _ x y _ _ H v u P Q k h1 h2 w q => ⟨x, y, h1, h2, q _ _ H w (Same.refl H) rfl⟩) ha hb
theorem je_sub (ha : JE X F g a (rO tI) wa) (hb : JE X F g b (rO tI) wb) : JE X F g (.BinOp a .Sub b pos) (rO tI) (fun k => wa fun x => wb fun y => k (x - y)) :=
  je_opR op_sub (fun _ x y _ _ H v u P Q k h1 h2 w q => ⟨x, y, h1, h2, q _ _ H w (Same.refl H) rfl⟩) ha hb
theorem je_mul (ha : JE X F g a (rO tI) wa) (hb : JE X F g b (rO tI) wb) : JE X F g (.BinOp a .Mult b pos) (rO tI) (fun k => wa fun x => wb fun y => JMul x y ∧ k (x * y)) :=
  je_opR (C := fun x y k => JMul x y ∧ k (x * y)) (OpR.or op_mul op_mulW) (fun _ x y _ _ H v u P Q k h1 h2 w q => by
    rcases w.1 with m | m | m
    · exact .inl ⟨x, y, h1, h2, .inl m, q _ _ H w.2 (Same.refl H) rfl⟩
    · exact .inl ⟨x, y, h1, h2, .inr m, q _ _ H w.2 (Same.refl H) rfl⟩
    · exact .inr ⟨x, y, h1, h2, m, q _ _ H w.2 (Same.refl H) rfl⟩) ha hb
theorem je_mod (ha : JE X F g a (rO tI) wa) (hb : JE X F g b (rO tI) wb) : JE X F g (.BinOp a .Mod b pos) (rO tI) (fun k => wa fun x => wb fun y => 0 < y ∧ k (x % y)) :=
  je_opR (C := fun x y k => 0 < y ∧ k (x % y)) op_mod (fun _ x y _ _ H v u P Q k h1 h2 w q => ⟨x, y, h1, h2, w.1, q _ _ H w.2 (Same.refl H) rfl⟩) ha hb
theorem je_fdiv (ha : JE X F g a (rO tI) wa) (hb : JE X F g b (rO tI) wb) : JE X F g (.BinOp a .FloorDiv b pos) (rO tI) (fun k => wa fun x => wb fun y => JDiv y ∧ k (x / y)) :=
  je_opR (C := fun x y k => JDiv y ∧ k (x / y)) op_fdivW (fun _ x y _ _ H v u P Q k h1 h2 w q => ⟨x, y, h1, h2, w.1, q _ _ H w.2 (Same.refl H) rfl⟩) ha hb
/-- by a written positive number; a written power -/
theorem je_modL {n : Int} {j : Nat} {p2 : Pos} (ha : JE X F g a (rO tI) wa) (hn : 0 < n := by decide) : JE X F g (.BinOp a .Mod (.Constant (.int n) j p2) pos) (rO tI) (fun k => wa fun x => k (x % n)) :=
  je_opR (T := rO (tIc n)) (C := fun x _ k => k (x % n)) op_mod (fun _ x y _ _ H v u P Q k h1 h2 w q => ⟨x, n, h1, h2, hn, q _ _ H w (Same.refl H) rfl⟩) ha je_lit
theorem je_fdivL {n : Int} {j : Nat} {p2 : Pos} (ha : JE X F g a (rO tI) wa) (hn : 0 < n ∧ n < 1073741824 := by decide) : JE X F g (.BinOp a .FloorDiv (.Constant (.int n) j p2) pos) (rO tI) (fun k => wa fun x => k (x / n)) :=
  je_opR (T := rO (tIc n)) (C := fun x _ k => k (x / n)) op_fdiv (fun _ x y _ _ H v u P Q k h1 h2 w q => ⟨x, n, h1, h2, hn, q _ _ H w (Same.refl H) rfl⟩) ha je_lit
theorem je_mulL {n : Int} {j : Nat} {p2 : Pos} (ha : JE X F g a (rO tI) wa) (hn : -(2 ^ 64) < n ∧ n < 2 ^ 64 := by decide) : JE X F g (.BinOp a .Mult (.Constant (.int n) j p2) pos) (rO tI) (fun k => wa fun x => k (x * n)) :=
  je_opR (T := rO (tIc n)) (C := fun x _ k => k (x * n)) op_mul (fun _ x y _ _ H v u P Q k h1 h2 w q => ⟨x, n, h1, h2, .inr hn, q _ _ H w (Same.refl H) rfl⟩) ha je_lit
theorem je_mulR {n : Int} {j : Nat} {p2 : Pos} (hb : JE X F g b (rO tI) wb) (hn : -(2 ^ 64) < n ∧ n < 2 ^ 64 := by decide) : JE X F g (.BinOp (.Constant (.int n) j p2) .Mult b pos) (rO tI) (fun k => wb fun y => k (n * y)) :=
  je_opR (S := rO (tIc n)) (C := fun _ y k => k (n * y)) op_mul (fun _ x y _ _ H v u P Q k h1 h2 w q => ⟨n, y, h1, h2, .inl hn, q _ _ H w (Same.refl H) rfl⟩) je_lit hb
theorem je_powL {n m : Int} {j i : Nat} {p1 p2 : Pos} (hn : 0 ≤ m ∧ m ≤ 1000000 ∧ n.natAbs < 2 ^ 64 := by decide) : JE X F g (.BinOp (.Constant (.int n) j p1) .Pow (.Constant (.int m) i p2) pos) (rO tI) (fun k => k (n ^ m.toNat)) :=
  je_opR (S := rO (tIc n)) (T := rO (tIc m)) (C := fun _ _ k => k (n ^ m.toNat)) op_pow (fun _ x y _ _ H v u P Q k h1 h2 w q => ⟨n, m, h1, h2, hn, q _ _ H w (Same.refl H) rfl⟩) je_lit je_lit
end
end
end J
namespace J
open PySem PySem.Spec L2
section
variable {X : Cx} {F : Fr} {g : Gm} {α β γ δ ρ τ : Type}
section
variable {a b c : Expr} {pos : Pos} {wa wb wc : (Int → Prop) → Prop}
theorem cmp_core {op : CmpOp} {p : Int → Int → Bool} (h : ∀ {ta tb : TE}, PE X a ta → PE X b tb → PC X op a b (tCmp p ta tb)) (ha : JE X F g a (rO tI) wa) (hb : JE X F g b (rO tI) wb)
    (h1 : behindInMarks op b = false := by first | exact nobehind _ (by decide) (by decide) | rfl) :
    JE X F g (.Compare a [op] [b] pos) (rO tB) (fun k => wa fun x => wb fun y => k (p x y)) :=
  peW (pe_cmp (h ha hb) h1) fun σ H Q ⟨k, P, w, q⟩ => ⟨k, _, w, fun x v H1 w1 s1 r1 => ⟨k.step s1, _, w1, fun y u H2 w2 s2 r2 => ⟨x, y, r1, r2, q _ _ H2 w2 (s1.trans s2) rfl⟩⟩⟩
theorem cmpT_core {op : CmpOp} {p : Int → Int → Bool} (h : ∀ {ta tb : TE}, PE X a ta → PE X b tb → PC X op a b (tCmp p ta tb)) (ha : JE X F g a (rO tI) wa) (hb : JE X F g b (rO tI) wb)
    (h1 : behindInMarks op b = false := by first | exact nobehind _ (by decide) (by decide) | rfl) :
    JT X F g (.Compare a [op] [b] pos) (fun A B => wa fun x => wb fun y => (p x y = true → A) ∧ (p x y = false → B)) :=
  ptW (pt_cmp (h ha hb) h1) fun σ H Q ⟨k, A, B, w, qa, qb⟩ => ⟨k, _, w, fun x v H1 w1 s1 r1 => ⟨k.step s1, _, w1, fun y u H2 w2 s2 r2 => ⟨x, y, r1, r2, p x y, rfl, by
    cases e : p x y with
    | true => exact qa (w2.1 e) H2 (s1.trans s2)
    | false => exact qb (w2.2 e) H2 (s1.trans s2)⟩⟩⟩
variable (ha : JE X F g a (rO tI) wa) (hb : JE X F g b (rO tI) wb)
include ha hb
theorem je_lt : JE X F g (.Compare a [.Lt] [b] pos) (rO tB) (fun k => wa fun x => wb fun y => k (decide (x < y))) := cmp_core pc_lt ha hb
theorem je_eqI : JE X F g (.Compare a [.Eq] [b] pos) (rO tB) (fun k => wa fun x => wb fun y => k (decide (x = y))) := cmp_core pc_eqI ha hb
theorem jt_lt : JT X F g (.Compare a [.Lt] [b] pos) (fun A B => wa fun x => wb fun y => (decide (x < y) = true → A) ∧ (decide (x < y) = false → B)) := cmpT_core pc_lt ha hb
theorem jt_gt : JT X F g (.Compare a [.Gt] [b] pos) (fun A B => wa fun x => wb fun y => (decide (y < x) = true → A) ∧ (decide (y < x) = false → B)) := cmpT_core pc_gt ha hb
theorem jt_ge : JT X F g (.Compare a [.GtE] [b] pos) (fun A B => wa fun x => wb fun y => (decide (y ≤ x) = true → A) ∧ (decide (y ≤ x) = false → B)) := cmpT_core pc_ge ha hb
theorem jt_eqI : JT X F g (.Compare a [.Eq] [b] pos) (fun A B => wa fun x => wb fun y => (decide (x = y) = true → A) ∧ (decide (x = y) = false → B)) := cmpT_core pc_eqI ha hb
theorem jt_neI : JT X F g (.Compare a [.NotEq] [b] pos) (fun A B => wa fun x => wb fun y => ((!decide (x = y)) = true → A) ∧ ((!decide (x = y)) = false → B)) := cmpT_core pc_neI ha hb
end
section
variable {a b : Expr} {pos : Pos} {op : CmpOp} {r : R2} {S : Res α} {T : Res β} {wa : (α → Prop) → Prop} {wb : (β → Prop) → Prop} {C : α → β → (Bool → Prop) → Prop}
def CmpOk (F : Fr) (g : Gm) (S : Res α) (T : Res β) (r : R2) (C : α → β → (Bool → Prop) → Prop) : Prop := ∀ σ x y Ha Hb H v u (P : Bool → Prop) Q, g.Ok F σ H → S.rel Ha (g.bs F H) H v x → T.rel Hb (g.bs F H) H u y → C x y P → (∀ z H', P z → Same H H' → Q (.bl z) H') → r v u H Q
theorem je_cmpR (ho : OpR X (compareOp op) r) (hr : CmpOk F g S T r C)
    (ha : JE X F g a S wa) (hb : JE X F g b T wb) (hm : behindInMarks op b = false) : JE X F g (.Compare a [op] [b] pos) (rO tB) (fun k => wa fun x => wb fun y => C x y k) :=
  peW (pe_cmpR ho ha hb hm) fun σ H Q ⟨k, P, w, q⟩ => ⟨k, _, w, fun x v H1 w1 s1 r1 => ⟨k.step s1, _, w1, fun y u H2 w2 s2 r2 =>
    hr σ x y _ _ H2 v u P Q (k.step (s1.trans s2)) (S.same (Gm.mono s2) s2 r1) r2 w2 fun z H' p s' => q z _ H' p ((s1.trans s2).trans s') rfl⟩⟩
theorem jt_cmpR (ho : OpR X (compareOp op) r) (hr : CmpOk F g S T r C)
    (ha : JE X F g a S wa) (hb : JE X F g b T wb) (hm : behindInMarks op b = false) : JT X F g (.Compare a [op] [b] pos) (fun Ya No => wa fun x => wb fun y => C x y fun z => (z = true → Ya) ∧ (z = false → No)) :=
  ptW (pt_cmpR ho ha hb hm) fun σ H Q ⟨k, Ya, No, w, qa, qb⟩ => ⟨k, _, w, fun x v H1 w1 s1 r1 => ⟨k.step s1, _, w1, fun y u H2 w2 s2 r2 =>
    hr σ x y _ _ H2 v u _ _ (k.step (s1.trans s2)) (S.same (Gm.mono s2) s2 r1) r2 w2 fun z H' p s' => ⟨z, rfl, by
      cases z with
      | true => exact qa (p.1 rfl) H' ((s1.trans s2).trans s')
      | false => exact qb (p.2 rfl) H' ((s1.trans s2).trans s')⟩⟩⟩
end
theorem eqS_r : CmpOk F g (rO tS) (rO tS) rEq (fun x y k => k (decide (x = y))) := by
  intro _ x y _ _ H v u P Q _ h1 h2 p q
  cases h1
  cases h2
  refine ⟨rfl, ?_⟩
  have e : decide (V.str x = V.str y) = decide (x = y) := by
    by_cases h : x = y
    · rw [decide_eq_true h, decide_eq_true (by rw [h])]
    · rw [decide_eq_false h, decide_eq_false (fun z => h (V.str.inj z))]
  rw [e]
  exact q _ H p (Same.refl H)
theorem neB_r : CmpOk F g (rO tB) (rO tB) rNe (fun x y k => k (!decide (x = y))) := by
  intro _ x y _ _ H v u P Q _ h1 h2 p q
  cases h1
  cases h2
  refine ⟨rfl, ?_⟩
  have e : decide (V.bl x = V.bl y) = decide (x = y) := by cases x <;> cases y <;> rfl
  rw [e]
  exact q _ H p (Same.refl H)
section
variable {a b : Expr} {pos : Pos}
theorem jt_eqS {wa wb : (Str → Prop) → Prop} (ha : JE X F g a (rO tS) wa) (hb : JE X F g b (rO tS) wb) : JT X F g (.Compare a [.Eq] [b] pos) (fun A B => wa fun x => wb fun y => (decide (x = y) = true → A) ∧ (decide (x = y) = false → B)) := jt_cmpR op_eq eqS_r ha hb (nomark _)
theorem jt_neB {wa wb : (Bool → Prop) → Prop} (ha : JE X F g a (rO tB) wa) (hb : JE X F g b (rO tB) wb) : JT X F g (.Compare a [.NotEq] [b] pos) (fun A B => wa fun x => wb fun y => ((!decide (x = y)) = true → A) ∧ ((!decide (x = y)) = false → B)) := jt_cmpR op_ne neB_r ha hb (nomark _)
/-- a is None, a is not None -/
theorem je_isN {A : Ty α} {w : (Option α → Prop) → Prop} {j : Nat} {p2 : Pos} (ha : JE X F g a (rO (tO A)) w) : JE X F g (.Compare a [.Is] [.Constant .none j p2] pos) (rO tB) (fun k => w fun x => k x.isNone) :=
  peW (pe_cmp (pc_isN ha)) fun σ H Q ⟨k, P, w, q⟩ => ⟨k, _, w, fun x v H1 w1 s1 r1 => by
    cases x with
    | none =>
      have e : v = .non := r1
      subst e
      exact q _ _ H1 w1 s1 rfl
    | some x =>
      rw [decide_eq_false r1.2]
      exact q _ _ H1 w1 s1 rfl⟩
theorem jt_isN {A : Ty α} {w : (Option α → Prop) → Prop} {j : Nat} {p2 : Pos} (ha : JE X F g a (rO (tO A)) w) : JT X F g (.Compare a [.Is] [.Constant .none j p2] pos) (fun Ya No => w fun x => (x.isNone = true → Ya) ∧ (x.isNone = false → No)) :=
  ptW (pt_cmp (pc_isN ha)) fun σ H Q ⟨k, Ya, No, w, qa, qb⟩ => ⟨k, _, w, fun x v H1 w1 s1 r1 => by
    cases x with
    | none =>
      have e : v = .non := r1
      subst e
      exact ⟨true, rfl, qa (w1.1 rfl) H1 s1⟩
    | some x =>
      rw [decide_eq_false r1.2]
      exact ⟨false, rfl, qb (w1.2 rfl) H1 s1⟩⟩
theorem jt_notN {A : Ty α} {w : (Option α → Prop) → Prop} {j : Nat} {p2 : Pos} (ha : JE X F g a (rO (tO A)) w) : JT X F g (.Compare a [.IsNot] [.Constant .none j p2] pos) (fun Ya No => w fun x => (x.isSome = true → Ya) ∧ (x.isSome = false → No)) :=
  ptW (pt_cmp (pc_notN ha)) fun σ H Q ⟨k, Ya, No, w, qa, qb⟩ => ⟨k, _, w, fun x v H1 w1 s1 r1 => by
    cases x with
    | none =>
      have e : v = .non := r1
      subst e
      exact ⟨false, rfl, qb (w1.2 rfl) H1 s1⟩
    | some x =>
      rw [decide_eq_false r1.2]
      exact ⟨true, rfl, qa (w1.1 rfl) H1 s1⟩⟩
end
theorem jt_val {e : Expr} {w : (Bool → Prop) → Prop} (h : JE X F g e (rO tB) w) (he : ∀ whole, isTrue e X.env whole = (do let v ← whole; standAt e.pos; holding [v] (truthy v)) := by intro _; rfl) :
    JT X F g e (fun A B => w fun c => (c = true → A) ∧ (c = false → B)) :=
  ptW (pt_val h he) fun σ H Q ⟨k, A, B, w, qa, qb⟩ => ⟨k, _, w, fun x v H1 w1 s1 r1 => ⟨x, r1, by
    cases x with
    | true => exact qa (w1.1 rfl) H1 s1
    | false => exact qb (w1.2 rfl) H1 s1⟩⟩
theorem jt_not {a : Expr} {pos : Pos} {w : Prop → Prop → Prop} (h : JT X F g a w) : JT X F g (.UnaryOp .Not a pos) (fun A B => w B A) :=
  ptW (pt_not h) fun σ H Q ⟨k, A, B, w, qa, qb⟩ => ⟨k, B, A, w, fun b H' s => qb b H' s, fun a H' s => qa a H' s⟩
theorem jw_oneO {a : Expr} {pos : Pos} {w : Prop → Prop → Prop} (h : JT X F g a w) : JW X F g (.BoolOp .Or [a] pos) w := pw_or1 h
theorem jw_or {a b : Expr} {rest : List Expr} {pos : Pos} {w u : Prop → Prop → Prop} (h : JT X F g a w) (h2 : JW X F g (.BoolOp .Or (b :: rest) pos) u) : JW X F g (.BoolOp .Or (a :: b :: rest) pos) (fun A B => w A (u A B)) :=
  pwW (pw_or h h2) fun σ H Q ⟨k, A, B, w, qa, qb⟩ => ⟨k, _, _, w, fun x H1 s1 => by
      show Q true H1
      exact qa x H1 s1, fun x H1 s1 => by
      show RT F g u σ H1 Q
      exact ⟨k.step s1, A, B, x, fun y H2 s2 => qa y H2 (s1.trans s2), fun y H2 s2 => qb y H2 (s1.trans s2)⟩⟩
theorem jt_w {e : Expr} {w : Prop → Prop → Prop} (h : JW X F g e w) : JT X F g e w := PW.pt h
/-- values of truth -/
theorem je_not {a : Expr} {pos : Pos} {w : (Bool → Prop) → Prop} (h : JE X F g a (rO tB) w) : JE X F g (.UnaryOp .Not a pos) (rO tB) (fun k => w fun c => k (!c)) :=
  peW (pe_not h) fun σ H Q ⟨k, P, w, q⟩ => ⟨k, _, w, fun x v H1 w1 s1 r1 => ⟨x, r1, q _ _ H1 w1 s1 rfl⟩⟩
theorem je_one {op : BoolOp} {a : Expr} {pos : Pos} {w : (Bool → Prop) → Prop} (h : JE X F g a (rO tB) w) : JE X F g (.BoolOp op [a] pos) (rO tB) w := pe_one h
theorem je_and {a b : Expr} {rest : List Expr} {pos : Pos} {w u : (Bool → Prop) → Prop} (h : JE X F g a (rO tB) w) (h2 : JE X F g (.BoolOp .And (b :: rest) pos) (rO tB) u) :
    JE X F g (.BoolOp .And (a :: b :: rest) pos) (rO tB) (fun k => w fun c => (c = true → u k) ∧ (c = false → k false)) :=
  peW (pe_and h h2) fun σ H Q ⟨k, P, w, q⟩ => ⟨k, _, w, fun x v H1 w1 s1 r1 => ⟨x, r1, by
    cases x with
    | true =>
      show RJ F g (rO tB) u σ H1 Q
      exact ⟨k.step s1, P, w1.1 rfl, fun a v H2 p s2 r2 => q a v H2 p (s1.trans s2) r2⟩
    | false => exact q false _ H1 (w1.2 rfl) s1 rfl⟩⟩
theorem je_if {c a b : Expr} {pos : Pos} {R : Res ρ} {wc : Prop → Prop → Prop} {wa wb : (ρ → Prop) → Prop} (hc : JT X F g c wc) (ha : JE X F g a R wa) (hb : JE X F g b R wb) : JE X F g (.IfExp c a b pos) R (fun k => wc (wa k) (wb k)) :=
  peW (pe_ifExp hc ha hb) fun σ H Q ⟨k, P, w, q⟩ => ⟨k, _, _, w, fun x H1 s1 => by
      show RJ F g R wa σ H1 Q
      exact ⟨k.step s1, P, x, fun a v H2 p s2 r2 => q a v H2 p (s1.trans s2) (R.pre s1 r2)⟩, fun x H1 s1 => by
      show RJ F g R wb σ H1 Q
      exact ⟨k.step s1, P, x, fun a v H2 p s2 r2 => q a v H2 p (s1.trans s2) (R.pre s1 r2)⟩⟩
theorem ja_nil : JA X F g [] aN (fun k => k ()) := paW pa_nil fun σ H Q ⟨k, P, w, q⟩ => q () [] H w (Same.refl H) rfl
theorem ja_cons {e : Expr} {es : List Expr} {A : Ty α} {T : ATy τ} {w : (α → Prop) → Prop} {u : (τ → Prop) → Prop} (ha : JE X F g e (rO A) w) (hr : JA X F g es T u)
    (hs : starEach (e :: es) X.env = (false, eval e X.env) :: starEach es X.env := by rfl) : JA X F g (e :: es) (aC A T) (fun k => w fun a => u fun t => k (a, t)) :=
  paW (pa_cons ha hr hs) fun σ H Q ⟨k, P, w, q⟩ => ⟨k, _, w, fun x v H1 w1 s1 r1 => ⟨k.step s1, _, w1, fun t vs H2 w2 s2 r2 => q (x, t) (v :: vs) H2 w2 (s1.trans s2) ⟨v, vs, rfl, A.same (Gm.mono s2) r1, r2⟩⟩⟩
theorem jb_nil : JAb X F g [] aN (fun k => k ()) := paW pa_nil fun σ H Q ⟨k, P, w, q⟩ => q () [] H w (Same.refl H) rfl
theorem jb_cons {e : Expr} {es : List Expr} {A : Ty α} {T : ATy τ} {w : (α → Prop) → Prop} {u : (τ → Prop) → Prop} (ha : JE X F g e (rB A) w) (hr : JAb X F g es T u)
    (hs : starEach (e :: es) X.env = (false, eval e X.env) :: starEach es X.env := by rfl) : JAb X F g (e :: es) (aC A T) (fun k => w fun a => u fun t => k (a, t)) :=
  paW (pa_cons ha hr hs) fun σ H Q ⟨k, P, w, q⟩ => ⟨k, _, w, fun x v H1 w1 s1 r1 => ⟨k.step s1, _, w1, fun t vs H2 w2 s2 r2 => q (x, t) (v :: vs) H2 w2 (s1.trans s2) ⟨v, vs, rfl, A.same s2 r1, r2⟩⟩⟩
theorem ja_as {es : List Expr} {S : ATy α} {T : ATy τ} {f : α → τ} {w : (α → Prop) → Prop} (h : JA X F g es S w) (hf : ∀ H vs a, S.rel H vs a → T.rel H vs (f a)) : JA X F g es T (fun k => w fun a => k (f a)) :=
  paW h fun σ H Q ⟨k, P, w, q⟩ => ⟨k, _, w, fun a vs H1 p s r => q (f a) vs H1 p s (hf _ _ _ r)⟩
theorem a2_of {A : Ty α} {B : Ty β} : ∀ H vs (t : α × β × Unit), (aC A (aC B aN)).rel H vs t → (a2 A B).rel H vs (t.1, t.2.1)
  | _, _, _, ⟨x, _, e, h1, y, _, e2, h2, e3⟩ => ⟨x, y, by rw [e, e2, (e3 : _ = [])], h1, h2⟩
theorem a3_of {A : Ty α} {B : Ty β} {C : Ty γ} : ∀ H vs (t : α × β × γ × Unit), (aC A (aC B (aC C aN))).rel H vs t → (a3 A B C).rel H vs (t.1, t.2.1, t.2.2.1)
  | _, _, _, ⟨x, _, e, h1, y, _, e2, h2, z, _, e3, h3, e4⟩ => ⟨x, y, z, by rw [e, e2, e3, (e4 : _ = [])], h1, h2, h3⟩
theorem a4_of {A : Ty α} {B : Ty β} {C : Ty γ} {E : Ty δ} : ∀ H vs (t : α × β × γ × δ × Unit), (aC A (aC B (aC C (aC E aN)))).rel H vs t → (a4 A B C E).rel H vs (t.1, t.2.1, t.2.2.1, t.2.2.2.1)
  | _, _, _, ⟨x, _, e, h1, y, _, e2, h2, z, _, e3, h3, u, _, e4, h4, e5⟩ => ⟨x, y, z, u, by rw [e, e2, e3, e4, (e5 : _ = [])], h1, h2, h3, h4⟩
theorem ja_nilV {A : Ty α} : JA X F g [] (aV A) (fun k => k []) := paW pa_nil fun σ H Q ⟨k, P, w, q⟩ => q [] [] H w (Same.refl H) .nil
theorem ja_consV {e : Expr} {es : List Expr} {A : Ty α} {w : (α → Prop) → Prop} {u : (List α → Prop) → Prop} (ha : JE X F g e (rO A) w) (hr : JA X F g es (aV A) u)
    (hs : starEach (e :: es) X.env = (false, eval e X.env) :: starEach es X.env := by rfl) : JA X F g (e :: es) (aV A) (fun k => w fun a => u fun t => k (a :: t)) :=
  paW (pa_cons ha hr hs) fun σ H Q ⟨k, P, w, q⟩ => ⟨k, _, w, fun x v H1 w1 s1 r1 => ⟨k.step s1, _, w1, fun t vs H2 w2 s2 r2 => q (x :: t) (v :: vs) H2 w2 (s1.trans s2) (.cons (A.same (Gm.mono s2) r1) r2)⟩⟩
theorem je_tup {es : List Expr} {j : Nat} {pos : Pos} {T : ATy τ} {w : (τ → Prop) → Prop} (h : JA X F g es T w) (hl : ∀ H vs t, T.rel H vs t → vs.length ≤ 1000) : JE X F g (.Tuple es j pos) (rO (tT X.K T)) w :=
  peW (pe_tup h) fun σ H Q ⟨k, P, w, q⟩ => ⟨k, P, w, fun t vs H1 p s1 r1 => ⟨Nat.le_trans (hl _ _ _ r1) (by decide), fun l hl => q t (.ref l) _ p (s1.trans (same_upd hl)) ⟨l, vs, rfl, .inl (.inl ((k.step s1).bs_new hl)), T.same (Gm.mono (same_upd hl)) r1⟩⟩⟩
theorem je_tup2 {a b : Expr} {j : Nat} {pos : Pos} {A : Ty α} {B : Ty β} {wa : (α → Prop) → Prop} {wb : (β → Prop) → Prop} (ha : JE X F g a (rO A) wa) (hb : JE X F g b (rO B) wb)
    (h1 : starEach [a, b] X.env = (false, eval a X.env) :: starEach [b] X.env := by rfl) (h2 : starEach [b] X.env = (false, eval b X.env) :: starEach [] X.env := by rfl) :
    JE X F g (.Tuple [a, b] j pos) (rO (tT X.K (a2 A B))) (fun k => wa fun x => wb fun y => k (x, y)) :=
  je_tup (ja_as (ja_cons ha (ja_cons hb ja_nil h2) h1) a2_of) fun _ _ _ ⟨_, _, e, _⟩ => by rw [e]; show 2 ≤ 1000; omega
theorem je_tup3 {a b c : Expr} {j : Nat} {pos : Pos} {A : Ty α} {B : Ty β} {C : Ty γ} {wa : (α → Prop) → Prop} {wb : (β → Prop) → Prop} {wc : (γ → Prop) → Prop} (ha : JE X F g a (rO A) wa) (hb : JE X F g b (rO B) wb) (hc : JE X F g c (rO C) wc)
    (h1 : starEach [a, b, c] X.env = (false, eval a X.env) :: starEach [b, c] X.env := by rfl) (h2 : starEach [b, c] X.env = (false, eval b X.env) :: starEach [c] X.env := by rfl) (h3 : starEach [c] X.env = (false, eval c X.env) :: starEach [] X.env := by rfl) :
    JE X F g (.Tuple [a, b, c] j pos) (rO (tT X.K (a3 A B C))) (fun k => wa fun x => wb fun y => wc fun z => k (x, y, z)) :=
  je_tup (ja_as (ja_cons ha (ja_cons hb (ja_cons hc ja_nil h3) h2) h1) a3_of) fun _ _ _ ⟨_, _, _, e, _⟩ => by rw [e]; show 3 ≤ 1000; omega
theorem je_tup4 {a b c d : Expr} {j : Nat} {pos : Pos} {A : Ty α} {B : Ty β} {C : Ty γ} {E : Ty δ} {wa : (α → Prop) → Prop} {wb : (β → Prop) → Prop} {wc : (γ → Prop) → Prop} {wd : (δ → Prop) → Prop} (ha : JE X F g a (rO A) wa) (hb : JE X F g b (rO B) wb) (hc : JE X F g c (rO C) wc) (hd : JE X F g d (rO E) wd)
    (h1 : starEach [a, b, c, d] X.env = (false, eval a X.env) :: starEach [b, c, d] X.env := by rfl) (h2 : starEach [b, c, d] X.env = (false, eval b X.env) :: starEach [c, d] X.env := by rfl) (h3 : starEach [c, d] X.env = (false, eval c X.env) :: starEach [d] X.env := by rfl) (h4 : starEach [d] X.env = (false, eval d X.env) :: starEach [] X.env := by rfl) :
    JE X F g (.Tuple [a, b, c, d] j pos) (rO (tT X.K (a4 A B C E))) (fun k => wa fun x => wb fun y => wc fun z => wd fun u => k (x, y, z, u)) :=
  je_tup (ja_as (ja_cons ha (ja_cons hb (ja_cons hc (ja_cons hd ja_nil h4) h3) h2) h1) a4_of) fun _ _ _ ⟨_, _, _, _, e, _⟩ => by rw [e]; show 4 ≤ 1000; omega
theorem je_lst {es : List Expr} {pos : Pos} {A : Ty α} {w : (List α → Prop) → Prop} (h : JA X F g es (aV A) w) : JE X F g (.List es pos) (rN A) (fun k => w fun t => t.length ≤ 1000 ∧ k t) :=
  peW (pe_lst h) fun σ H Q ⟨k, P, w, q⟩ => ⟨k, _, w, fun t vs H1 p s1 r1 => ⟨Nat.le_trans (by rw [Paired.len r1]; exact p.1) (by decide : 1000 ≤ sizeLine), fun l hl => q t (.ref l) _ p.2 (s1.trans (same_upd hl)) ⟨l, vs, rfl, s1.free hl, (k.step s1).bs_new hl, Paired.imp (fun _ _ r => A.same ((k.step s1).rm_new hl) r) r1⟩⟩⟩
theorem je_lst0 {pos : Pos} {A : Ty α} : JE X F g (.List [] pos) (rN A) (fun k => k []) :=
  peW (pe_lst pa_nil) fun σ H Q ⟨k, P, w, q⟩ => ⟨Nat.zero_le _, fun l hl => q [] (.ref l) _ w (same_upd hl) ⟨l, [], rfl, hl, k.bs_new hl, .nil⟩⟩
/-- a call whose arguments may be kept -/
theorem je_call {f : Addr} {fd : FuncData} {ps : List Str} {T : ATy τ} {R : Res ρ} {w : τ → (ρ → Prop) → Prop} {n : Nat} {x : Str} {e : Expr} {es : List Expr} {p pos : Pos} {wa : (τ → Prop) → Prop}
    (Fn : FnOk X.prog X.w X.K X.mg X.base CX0 n f fd ps (spJ T R w)) (hr : Room n X.A) (hg : Gl X x) (hm : X.mg x = some (.ref f)) (hk : PySem.W.keepIn X.K (.ref f) = true) (hb : Binds X.K fd ps [])
    (ha : JA X F g (e :: es) T wa) (hdb : (x == ("__debug__" : Str)) = false := by decide) (he : starEach (e :: es) X.env = (false, eval e X.env) :: starEach es X.env := by rfl) (hpl : (backTo pos (starEach es X.env)).any (·.1) = false := by rfl) :
    JE X F g (.Call (.Name x p) (e :: es) [] pos) R (fun k => wa fun t => w t k) :=
  peW (pe_call Fn hr hg hm hk hb .nil pass0 ha hdb he hpl) fun σ H Q ⟨k, P, w, q⟩ => ⟨k, _, w, fun t vs H1 w1 s1 r1 => ⟨t, P, (k.step s1).fr, rfl, by rw [List.append_nil]; exact r1, w1, fun r v H2 p s2 r2 => q r v H2 p (s1.trans s2) (R.pre s1 (R.same ((k.step s1).back s2) (Same.refl _) r2))⟩⟩
def CallOk (F : Fr) (g : Gm) (T : ATy τ) (R : Res ρ) (r : List V → Hp → VK → Prop) (C : τ → (ρ → Prop) → Prop) : Prop := ∀ σ t H vs (P : ρ → Prop) Q, g.Ok F σ H → T.rel H vs t → C t P → (∀ z v' H', P z → Same H H' → R.rel H (g.bs F H') H' v' z → Q v' H') → r vs H Q
theorem je_callB {r : List V → Hp → VK → Prop} {id : String} {x : Str} {e : Expr} {es : List Expr} {p pos : Pos} {T : ATy τ} {wa : (τ → Prop) → Prop} {R : Res ρ} {C : τ → (ρ → Prop) → Prop} (hc : CallR X (.builtin id) r) (hr : CallOk F g T R r C)
    (hg : Gl X x) (hm : X.mg x = none) (hv : bootBuiltins x = some (.builtin id)) (ha : JAb X F g (e :: es) T wa) (hn : x ≠ "__name__" := by decide) (hdb : (x == ("__debug__" : Str)) = false := by decide)
    (he : starEach (e :: es) X.env = (false, eval e X.env) :: starEach es X.env := by rfl) (hpl : (backTo pos (starEach es X.env)).any (·.1) = false := by rfl) : JE X F g (.Call (.Name x p) (e :: es) [] pos) R (fun k => wa fun t => C t k) :=
  peW (pe_callB hc hg hm hv ha hn hdb he hpl) fun σ H Q ⟨k, P, w, q⟩ => ⟨k, _, w, fun t vs H1 w1 s1 r1 => hr σ t H1 vs P Q (k.step s1) r1 w1 fun z v H2 p s2 r2 => q z v H2 p (s1.trans s2) (R.pre s1 r2)⟩
theorem je_callTy {r : List V → Hp → VK → Prop} {id : String} {x : Str} {e : Expr} {es : List Expr} {p pos : Pos} {T : ATy τ} {wa : (τ → Prop) → Prop} {R : Res ρ} {C : τ → (ρ → Prop) → Prop} (hc : CallR X (.type id) r) (hr : CallOk F g T R r C)
    (hg : Gl X x) (hm : X.mg x = none) (hv : bootBuiltins x = some (.type id)) (ha : JAb X F g (e :: es) T wa) (hn : x ≠ "__name__" := by decide) (hdb : (x == ("__debug__" : Str)) = false := by decide)
    (he : starEach (e :: es) X.env = (false, eval e X.env) :: starEach es X.env := by rfl) (hpl : (backTo pos (starEach es X.env)).any (·.1) = false := by rfl) : JE X F g (.Call (.Name x p) (e :: es) [] pos) R (fun k => wa fun t => C t k) :=
  peW (pe_callTy hc hg hm hv ha hn hdb he hpl) fun σ H Q ⟨k, P, w, q⟩ => ⟨k, _, w, fun t vs H1 w1 s1 r1 => hr σ t H1 vs P Q (k.step s1) r1 w1 fun z v H2 p s2 r2 => q z v H2 p (s1.trans s2) (R.pre s1 r2)⟩
theorem je_callM {r : List V → Hp → VK → Prop} {id : String} {x : Str} {e : Expr} {es : List Expr} {p pos : Pos} {T : ATy τ} {wa : (τ → Prop) → Prop} {R : Res ρ} {C : τ → (ρ → Prop) → Prop} (hc : CallR X (.builtin id) r) (hr : CallOk F g T R r C)
    (hg : Gl X x) (hm : X.mg x = some (.builtin id)) (ha : JAb X F g (e :: es) T wa) (hdb : (x == ("__debug__" : Str)) = false := by decide)
    (he : starEach (e :: es) X.env = (false, eval e X.env) :: starEach es X.env := by rfl) (hpl : (backTo pos (starEach es X.env)).any (·.1) = false := by rfl) : JE X F g (.Call (.Name x p) (e :: es) [] pos) R (fun k => wa fun t => C t k) :=
  peW (pe_callBfun hc hg hm ha hdb he hpl) fun σ H Q ⟨k, P, w, q⟩ => ⟨k, _, w, fun t vs H1 w1 s1 r1 => hr σ t H1 vs P Q (k.step s1) r1 w1 fun z v H2 p s2 r2 => q z v H2 p (s1.trans s2) (R.pre s1 r2)⟩
section
variable {e e2 : Expr} {p pos : Pos} {he : starEach [e] X.env = (false, eval e X.env) :: starEach [] X.env} {hpl : (backTo pos (starEach [] X.env)).any (·.1) = false}
theorem je_int1 {w : (Int → Prop) → Prop} (hg : Gl X "int") (hm : X.mg "int" = none) (ha : JE X F g e (rO tI) w) (he : starEach [e] X.env = (false, eval e X.env) :: starEach [] X.env := by rfl) (hpl : (backTo pos (starEach [] X.env)).any (·.1) = false := by rfl) :
    JE X F g (.Call (.Name "int" p) [e] [] pos) (rO tI) w :=
  je_callTy (T := aC tI aN) (C := fun t k => k t.1) call_int1 (fun _ t H vs P Q k ⟨v, r, e1, r1, e2⟩ c q => .inl ⟨t.1, by rw [e1, (e2 : r = []), (r1 : v = _)], q _ _ H c (Same.refl H) rfl⟩) hg hm (by decide +kernel) (jb_cons (je_b ha) jb_nil he) (by decide) (by decide) he hpl
theorem je_intB {w : (Bool → Prop) → Prop} (hg : Gl X "int") (hm : X.mg "int" = none) (ha : JE X F g e (rO tB) w) (he : starEach [e] X.env = (false, eval e X.env) :: starEach [] X.env := by rfl) (hpl : (backTo pos (starEach [] X.env)).any (·.1) = false := by rfl) :
    JE X F g (.Call (.Name "int" p) [e] [] pos) (rO tI) (fun k => w fun b => k (if b then 1 else 0)) :=
  je_callTy (T := aC tB aN) (C := fun t k => k (if t.1 then (1 : Int) else 0)) call_int1 (fun _ t H vs P Q k ⟨v, r, e1, r1, e2⟩ c q => .inr ⟨t.1, by rw [e1, (e2 : r = []), (r1 : v = _)], q _ _ H c (Same.refl H) rfl⟩) hg hm (by decide +kernel) (jb_cons (je_b ha) jb_nil he) (by decide) (by decide) he hpl
theorem je_lenL {A : Ty α} {w : (List α → Prop) → Prop} (hg : Gl X "len") (hm : X.mg "len" = none) (ha : JE X F g e (rB (tL X.K A)) w) (he : starEach [e] X.env = (false, eval e X.env) :: starEach [] X.env := by rfl) (hpl : (backTo pos (starEach [] X.env)).any (·.1) = false := by rfl) :
    JE X F g (.Call (.Name "len" p) [e] [] pos) (rO tI) (fun k => w fun xs => k (xs.length : Int)) :=
  je_callB (T := aC (tL X.K A) aN) (C := fun t k => k (t.1.length : Int)) call_len_seq (fun _ t H vs P Q k ⟨v, r, e1, ⟨a, us, ev, hs, hp⟩, e2⟩ c q => ⟨a, us, by rw [e1, (e2 : r = []), ev], .inl hs, by rw [Paired.len hp]; exact q _ _ H c (Same.refl H) rfl⟩) hg hm PySem.boot_len (jb_cons ha jb_nil he) (by decide) (by decide) he hpl
theorem je_lenT {T : ATy τ} {w : (τ → Prop) → Prop} {f : τ → Nat} (hg : Gl X "len") (hm : X.mg "len" = none) (ha : JE X F g e (rO (tT X.K T)) w) (hf : ∀ H vs t, T.rel H vs t → vs.length = f t) (he : starEach [e] X.env = (false, eval e X.env) :: starEach [] X.env := by rfl) (hpl : (backTo pos (starEach [] X.env)).any (·.1) = false := by rfl) :
    JE X F g (.Call (.Name "len" p) [e] [] pos) (rO tI) (fun k => w fun t => k (f t : Int)) :=
  je_callB (T := aC (tT X.K T) aN) (C := fun t k => k (f t.1 : Int)) call_len_seq (fun _ t H vs P Q k ⟨v, r, e1, ⟨a, us, ev, hs, hp⟩, e2⟩ c q => ⟨a, us, by rw [e1, (e2 : r = []), ev], .inr hs, by rw [hf _ _ _ hp]; exact q _ _ H c (Same.refl H) rfl⟩) hg hm PySem.boot_len (jb_cons (je_b ha) jb_nil he) (by decide) (by decide) he hpl
theorem je_gcd {w u : (Int → Prop) → Prop} (hg : Gl X "gcd") (hm : X.mg "gcd" = some (.builtin "math.gcd")) (ha : JE X F g e (rO tI) w) (hb : JE X F g e2 (rO tI) u)
    (he : starEach [e, e2] X.env = (false, eval e X.env) :: starEach [e2] X.env := by rfl) (he2 : starEach [e2] X.env = (false, eval e2 X.env) :: starEach [] X.env := by rfl) (hpl : (backTo pos (starEach [e2] X.env)).any (·.1) = false := by rfl) :
    JE X F g (.Call (.Name "gcd" p) [e, e2] [] pos) (rO tI) (fun k => w fun a => u fun b => k ((Nat.gcd a.natAbs b.natAbs : Nat) : Int)) :=
  je_callM (T := aC tI (aC tI aN)) (C := fun t k => k ((Nat.gcd t.1.natAbs t.2.1.natAbs : Nat) : Int)) cr_gcd (fun _ t H vs P Q k ⟨v, r, e1, r1, v2, r', e2, r2, e3⟩ c q => ⟨t.1, t.2.1, by rw [e1, e2, (e3 : r' = []), (r1 : v = _), (r2 : v2 = _)], q _ _ H c (Same.refl H) rfl⟩) hg hm (jb_cons (je_b ha) (jb_cons (je_b hb) jb_nil he2) he) (by decide) he hpl
/-- isinstance(x, T): T a built-in type, x of a kind that is known -/
def TyOfA (K : PySem.W.Frag) (A : Ty α) (t : String) : Prop := ∀ H v a, A.rel H v a → TyX K H v (.type t)
theorem je_isi {A : Ty α} {w : (α → Prop) → Prop} {T t : String} {b : Bool} {c : Expr} (hg : Gl X "isinstance") (hm : X.mg "isinstance" = none) (ht : TyOfA X.K A t) (hk : kitB t T = some b) (ha : JE X F g e (rB A) w) (hT : PE X c (tC (.ty T)))
    (he : starEach [e, c] X.env = (false, eval e X.env) :: starEach [c] X.env := by rfl) (he2 : starEach [c] X.env = (false, eval c X.env) :: starEach [] X.env := by rfl) (hpl : (backTo pos (starEach [c] X.env)).any (·.1) = false := by rfl) :
    JE X F g (.Call (.Name "isinstance" p) [e, c] [] pos) (rO tB) (fun k => w fun _ => k b) :=
  peW (pe_callB call_isi hg hm (by decide +kernel) (pa_cons ha (pa_cons hT pa_nil he2) he) (by decide) (by decide) he hpl) fun σ H Q ⟨k, P, w, q⟩ => ⟨k, _, w, fun a v H1 w1 s1 r1 =>
    ⟨v, .ty T, .type t, .type T, b, rfl, .ty T, ht _ _ _ r1, kit_ty hk, q b _ H1 w1 s1 rfl⟩⟩
end
end
end J
namespace J
open PySem PySem.Spec L2
theorem ixI_at {α : Type} {xs : List α} {i : Int} {x : α} (h : ixI xs i = some x) : atI xs i = some x := by
  unfold ixI at h
  unfold atI ixN
  by_cases h0 : 0 ≤ i
  · rw [if_pos h0] at h
    have hl := (List.getElem?_eq_some_iff.mp h).1
    rw [if_pos h0, if_pos (by omega)]
    exact h
  · rw [if_neg h0] at h
    by_cases h1 : 0 ≤ i + xs.length
    · rw [if_pos h1] at h
      rw [if_neg h0, if_pos (by omega)]
      exact h
    · rw [if_neg h1] at h
      cases h
theorem atI_pair {α β : Type} {F : α → β → Prop} {vs : List α} {xs : List β} (p : Paired F vs xs) {i : Int} {x : β} (h : ixI xs i = some x) : ∃ v, atI vs i = some v ∧ F v x := by
  have e := Paired.len p
  unfold ixI at h
  by_cases h0 : 0 ≤ i
  · rw [if_pos h0] at h
    obtain ⟨v, h1, h2⟩ := Paired.at p h
    exact ⟨v, ixI_at (by unfold ixI; rw [if_pos h0]; exact h1), h2⟩
  · rw [if_neg h0] at h
    by_cases h1 : 0 ≤ i + xs.length
    · rw [if_pos h1] at h
      obtain ⟨v, h3, h2⟩ := Paired.at p h
      refine ⟨v, ixI_at ?_, h2⟩
      unfold ixI
      rw [if_neg h0, e, if_pos h1]
      exact h3
    · rw [if_neg h1] at h
      cases h
section
variable {X : Cx} {F : Fr} {g : Gm} {α β γ δ ρ τ : Type}
theorem je_ixR {a b : Expr} {pos : Pos} {r : R2} {S : Res α} {T : Res β} {R : Res ρ} {wa : (α → Prop) → Prop} {wb : (β → Prop) → Prop} {C : α → β → (ρ → Prop) → Prop} (ho : IxR X r)
    (hr : ∀ σ x y Ha Hb H v u (P : ρ → Prop) Q, g.Ok F σ H → S.rel Ha (g.bs F H) H v x → T.rel Hb (g.bs F H) H u y → C x y P → (∀ z v' H', P z → Same H H' → R.rel H (g.bs F H') H' v' z → Q v' H') → r v u H Q)
    (ha : JE X F g a S wa) (hb : JE X F g b T wb) (hs : PlainIx b) : JE X F g (.Subscript a b pos) R (fun k => wa fun x => wb fun y => C x y k) :=
  peW (pe_ix ho ha hb hs) fun σ H Q ⟨k, P, w, q⟩ => ⟨k, _, w, fun x v H1 w1 s1 r1 => ⟨k.step s1, _, w1, fun y u H2 w2 s2 r2 =>
    hr σ x y _ _ H2 v u P Q (k.step (s1.trans s2)) (S.same (Gm.mono s2) s2 r1) r2 w2 fun z v' H' p s' r' => q z v' H' p ((s1.trans s2).trans s') (R.pre (s1.trans s2) r')⟩⟩
theorem je_ixL {a b : Expr} {pos : Pos} {A : Ty α} {wa : (List α → Prop) → Prop} {wb : (Int → Prop) → Prop} (ha : JE X F g a (rE X.K A) wa) (hb : JE X F g b (rO tI) wb) (hs : PlainIx b := by exact fun _ _ => rfl) :
    JE X F g (.Subscript a b pos) (rO A) (fun k => wa fun xs => wb fun i => ∃ x, ixI xs i = some x ∧ k x) :=
  je_ixR (C := fun xs i k => ∃ x, ixI xs i = some x ∧ k x) ix_list (fun _ xs i _ _ H v u P Q k h1 h2 ⟨x, hx, p⟩ q => by
    obtain ⟨l, vs, e, hl, hp⟩ := h1
    obtain ⟨y, hy, ry⟩ := atI_pair hp hx
    exact ⟨l, vs, i, y, e, h2, hl, hy, q x y H p (Same.refl H) ry⟩) ha hb hs
theorem je_ixV {a b : Expr} {pos : Pos} {A : Ty α} {wa : (List α → Prop) → Prop} {wb : (Int → Prop) → Prop} (ha : JE X F g a (rO (tT X.K (aV A))) wa) (hb : JE X F g b (rO tI) wb) (hs : PlainIx b := by exact fun _ _ => rfl) :
    JE X F g (.Subscript a b pos) (rO A) (fun k => wa fun xs => wb fun i => ∃ x, ixI xs i = some x ∧ k x) :=
  je_ixR (C := fun xs i k => ∃ x, ixI xs i = some x ∧ k x) ix_tup (fun _ xs i _ _ H v u P Q k h1 h2 ⟨x, hx, p⟩ q => by
    obtain ⟨l, vs, e, hl, hp⟩ := h1
    obtain ⟨y, hy, ry⟩ := atI_pair hp hx
    exact ⟨l, vs, i, y, e, h2, k.le.sqT' hl, hy, q x y H p (Same.refl H) ry⟩) ha hb hs
/-- a written place of a tuple -/
theorem je_ixK {T : ATy τ} {A : Ty α} {n : Int} {m : Nat} {f : τ → α} {a : Expr} {j : Nat} {p2 pos : Pos} {w : (τ → Prop) → Prop} (hn : n = (m : Int)) (hf : ∀ H vs t, T.rel H vs t → ∃ v, vs[m]? = some v ∧ A.rel H v (f t)) (ha : JE X F g a (rO (tT X.K T)) w)
    (hs : PlainIx (.Constant (.int n) j p2) := by exact fun _ _ => rfl) : JE X F g (.Subscript a (.Constant (.int n) j p2) pos) (rO A) (fun k => w fun t => k (f t)) :=
  je_ixR (T := rO (tIc n)) (C := fun t _ k => k (f t)) ix_tup (fun _ t _ _ _ H v u P Q k h1 h2 p q => by
    obtain ⟨l, vs, e, hl, hp⟩ := h1
    obtain ⟨y, hy, ry⟩ := hf _ _ _ hp
    exact ⟨l, vs, n, y, e, h2, k.le.sqT' hl, by rw [hn]; exact atI_nat hy, q _ y H p (Same.refl H) ry⟩) ha je_lit hs
section
variable {a : Expr} {j : Nat} {p2 pos : Pos} {A : Ty α} {B : Ty β} {C : Ty γ} {E : Ty δ}
theorem je_2a {w : (α × β → Prop) → Prop} (ha : JE X F g a (rO (tT X.K (a2 A B))) w) (hs : PlainIx (.Constant (.int 0) j p2) := by exact fun _ _ => rfl) : JE X F g (.Subscript a (.Constant (.int 0) j p2) pos) (rO A) (fun k => w fun t => k t.1) :=
  je_ixK (T := a2 A B) (m := 0) rfl (fun H vs t ⟨x, y, e, h1, h2⟩ => ⟨x, by rw [e]; rfl, h1⟩) ha hs
theorem je_2b {w : (α × β → Prop) → Prop} (ha : JE X F g a (rO (tT X.K (a2 A B))) w) (hs : PlainIx (.Constant (.int 1) j p2) := by exact fun _ _ => rfl) : JE X F g (.Subscript a (.Constant (.int 1) j p2) pos) (rO B) (fun k => w fun t => k t.2) :=
  je_ixK (T := a2 A B) (m := 1) rfl (fun H vs t ⟨x, y, e, h1, h2⟩ => ⟨y, by rw [e]; rfl, h2⟩) ha hs
theorem je_3a {w : (α × β × γ → Prop) → Prop} (ha : JE X F g a (rO (tT X.K (a3 A B C))) w) (hs : PlainIx (.Constant (.int 0) j p2) := by exact fun _ _ => rfl) : JE X F g (.Subscript a (.Constant (.int 0) j p2) pos) (rO A) (fun k => w fun t => k t.1) :=
  je_ixK (T := a3 A B C) (m := 0) rfl (fun H vs t ⟨x, y, z, e, h1, h2, h3⟩ => ⟨x, by rw [e]; rfl, h1⟩) ha hs
theorem je_3b {w : (α × β × γ → Prop) → Prop} (ha : JE X F g a (rO (tT X.K (a3 A B C))) w) (hs : PlainIx (.Constant (.int 1) j p2) := by exact fun _ _ => rfl) : JE X F g (.Subscript a (.Constant (.int 1) j p2) pos) (rO B) (fun k => w fun t => k t.2.1) :=
  je_ixK (T := a3 A B C) (m := 1) rfl (fun H vs t ⟨x, y, z, e, h1, h2, h3⟩ => ⟨y, by rw [e]; rfl, h2⟩) ha hs
end
/-- a pair seen as a row of one kind -/
theorem je_2V {e : Expr} {A : Ty α} {w : (α × α → Prop) → Prop} (h : JE X F g e (rO (tT X.K (a2 A A))) w) : JE X F g e (rO (tT X.K (aV A))) (fun k => w fun t => k [t.1, t.2]) :=
  je_as (A := tT X.K (a2 A A)) (B := tT X.K (aV A)) (f := fun t => [t.1, t.2]) h fun H v t ⟨a, vs, e, hs, x, y, e2, h1, h2⟩ => ⟨a, vs, e, hs, by rw [e2]; exact .cons h1 (.cons h2 .nil)⟩
theorem JSs.sub {sts : List Stmt} {w : Prop} {D : Ends} {g' : Gm} (h : JSs X F g' sts D w) (k : Sub g g') : JSs X F g sts D w := pssW h fun D' σ H ⟨e, o, q⟩ => ⟨e, k.ok o, q⟩
section
variable {rest : List Stmt} {nx bk ct : L2.St → Hp → Prop} {rt : VK} {pos : Pos}
theorem js_end {S : τ → Gm} {N : τ → Prop} (s : τ) (h : Sub g (S s)) : JSs X F g [] ⟨phi F S N, rt, bk, ct⟩ (N s) := pssW pss_nil fun D σ H ⟨e, o, q⟩ => e.nx _ _ ⟨s, h.ok o, q⟩
theorem js_endN {P : Unit → Prop} (h : ∀ σ H, Same F.H H → P () → nx σ H) : JSs X F g [] ⟨nx, rt, bk, ct⟩ (P ()) := pssW pss_nil fun D σ H ⟨e, o, q⟩ => e.nx _ _ (h σ H o.same q)
/-- a way that is never taken -/
theorem js_never {st : Stmt} {D : Ends} : JSs X F g (st :: rest) D False := pssW pss_never fun D' σ H ⟨e, o, q⟩ => q
theorem js_ret {R : Res ρ} {P : ρ → Prop} {e : Expr} {w : (ρ → Prop) → Prop} (hrt : RtOk F R P rt) (he : JE X F g e R w) : JSs X F g (.Return (some e) pos :: rest) ⟨nx, rt, bk, ct⟩ (w P) :=
  pssW (pss_cons (ps_ret he) pss_never) fun D σ H ⟨e, o, q⟩ => ⟨o, P, q, fun a v H' p s r => e.rt _ _ (hrt a v H' p (o.same.trans s) (R.pre o.same (R.same Gm.out (Same.refl _) r)))⟩
/-- the list of a cell is handed back -/
theorem js_retC {i j : Nat} {p : Addr} {A : Ty α} {xs : List α} {P : List α → Prop} {x : Str} {px : Pos} (hrt : RtOk F (rN A) P rt) (hs : g.s[i]? = some (.at p)) (hc : g.c[j]? = some (.lst p A xs)) (hN : X.N[i]? = some x := by rfl) (hv : Vis X.env.scope x := by first | exact Or.inl rfl | exact Or.inr (Or.inl rfl) | exact Or.inr (Or.inr rfl))
    (hd : (x == ("__debug__" : Str)) = false := by decide) (hcd : (x == ("__classdict__" : Str)) = false := by decide) : JSs X F g (.Return (some (.Name x px)) pos :: rest) ⟨nx, rt, bk, ct⟩ (P xs) :=
  pssW (pss_cons (ps_ret (pe_var hN hv hd hcd)) pss_never) fun D σ H ⟨e, k, q⟩ => by
    have m := List.mem_of_getElem? hc
    obtain ⟨h0, vs, hp, r⟩ := k.cells _ m
    have pm := Gm.mem_ad m (p := p) rfl
    have mo : Same (g.bs F H) (rm (F.out H) p) := fun a o z => by
      have ne : a ≠ p := fun y => (bsA_nil z).1 (by rw [y]; exact pm)
      unfold rm
      rw [if_neg ne]
      exact Gm.out _ _ z
    exact ⟨.ref p, k.ref hs, e.rt _ _ (hrt xs _ H q k.same ⟨p, vs, rfl, h0, bsA_of (fun z => by cases z) h0 hp, Paired.imp (fun _ _ r => A.same mo r) r⟩)⟩
theorem js_if {c : Expr} {a b : List Stmt} {D : Ends} {wc : Prop → Prop → Prop} {wa wb : Prop} (hc : JT X F g c wc) (ha : JSs X F g a D wa) (hb : JSs X F g b D wb) : JSs X F g [.If c a b pos] D (wc wa wb) :=
  pssW (pss_one (ps_if hc ha hb)) fun D' σ H ⟨e, o, q⟩ => ⟨o, _, _, q, fun x H' s => by
      show RS F g D wa D' σ H'
      exact ⟨e, o.step s, x⟩, fun x H' s => by
      show RS F g D wb D' σ H'
      exact ⟨e, o.step s, x⟩⟩
/-- the body never goes on: what follows stands alone -/
theorem js_ifX {c : Expr} {a : List Stmt} {wc : Prop → Prop → Prop} {wa wr : Prop} (hc : JT X F g c wc) (ha : JSs X F g a ⟨fun _ _ => False, rt, bk, ct⟩ wa) (hr : JSs X F g rest ⟨nx, rt, bk, ct⟩ wr) : JSs X F g (.If c a [] pos :: rest) ⟨nx, rt, bk, ct⟩ (wc wa wr) :=
  pssW (pss_cons (ps_if hc ha pss_nil) hr) fun D' σ H ⟨e, o, q⟩ => ⟨o, _, _, q, fun x H' s => by
      show RS F g _ wa _ σ H'
      exact ⟨⟨fun _ _ z => z.elim, e.rt, e.bk, e.ct⟩, o.step s, x⟩, fun x H' s => by
      show RS F g _ wr _ σ H'
      exact ⟨e, o.step s, x⟩⟩
/-- ways that meet behind an if -/
theorem js_ifJ {c : Expr} {a b : List Stmt} {S : τ → Gm} {wr : τ → Prop} {wc : Prop → Prop → Prop} {wa wb : (τ → Prop) → Prop} (hc : JT X F g c wc) (ha : ∀ J : τ → Prop, JSs X F g a ⟨phi F S J, rt, bk, ct⟩ (wa J)) (hb : ∀ J : τ → Prop, JSs X F g b ⟨phi F S J, rt, bk, ct⟩ (wb J))
    (hr : ∀ s, JSs X F (S s) rest ⟨nx, rt, bk, ct⟩ (wr s)) : JSs X F g (.If c a b pos :: rest) ⟨nx, rt, bk, ct⟩ (wJoin wr fun J => wc (wa J) (wb J)) :=
  pssW (pss_cons (ps_if hc (ha wr) (hb wr)) (pssE hr)) fun D' σ H ⟨e, o, q⟩ => ⟨o, _, _, q, fun x H' s => by
      show RS F g _ (wa wr) _ σ H'
      exact ⟨⟨fun _ _ ⟨s, o, q⟩ => ⟨s, e, o, q⟩, e.rt, e.bk, e.ct⟩, o.step s, x⟩, fun x H' s => by
      show RS F g _ (wb wr) _ σ H'
      exact ⟨⟨fun _ _ ⟨s, o, q⟩ => ⟨s, e, o, q⟩, e.rt, e.bk, e.ct⟩, o.step s, x⟩⟩
def TgOk (A : Ty α) (gT : TG) (tr : Gm → α → Gm) : Prop := ∀ (F : Fr) (g : Gm) (σ : L2.St) (H : Hp) (v : V) (a : α) (Q : L2.St → Hp → Prop), g.Ok F σ H → A.rel (g.bs F H) v a → (∀ σ', (tr g a).Ok F σ' H → Q σ' H) → gT v σ H Q
theorem tg_name {i : Nat} {A : Ty α} : TgOk A (gName i) (fun g a => g.set i (.val A a)) := fun F g σ H v a Q k r q => q _ (k.set ⟨v, rfl, r⟩)
theorem tg_pair {K : PySem.W.Frag} {A : Ty α} {B : Ty β} {gA gB : TG} {trA : Gm → α → Gm} {trB : Gm → β → Gm} (hA : TgOk A gA trA) (hB : TgOk B gB trB) (hk : ∀ g a, (trA g a).c = g.c := by intro _ _; rfl) : TgOk (tT K (a2 A B)) (gTup K 2 (gCons gA (gCons gB gNil))) (fun g t => trB (trA g t.1) t.2) :=
  fun F g σ H v t Q k r q => by
    obtain ⟨l, vs, e, hs, x, y, e2, h1, h2⟩ := r
    subst e2
    exact ⟨l, _, e, k.le.sqT' hs, rfl, x, [y], rfl, hA F g σ H x t.1 _ k h1 fun σ1 k1 => ⟨y, [], rfl, hB F _ σ1 H y t.2 _ k1 (by show B.rel (bsA F ((trA g t.1).c.filterMap Cell.addr) H) y t.2; rw [hk]; exact h2) fun σ2 k2 => ⟨rfl, q σ2 k2⟩⟩⟩
theorem js_asg {i : Nat} {A : Ty α} {x : Str} {px : Pos} {e : Expr} {we : (α → Prop) → Prop} {wr : α → Prop} {D : Ends} (he : JE X F g e (rO A) we) (hr : ∀ a, JSs X F (g.set i (.val A a)) rest D (wr a)) (hN : X.N.Nodup)
    (hi : X.N[i]? = some x := by rfl) (hx : Loc X.env.scope x := by first | exact Or.inl rfl | exact Or.inr rfl) (hs : swapsWith e (some (.Name x px)) pos.line X.env = pure false := by rfl) (hf : X.fn x = true ∨ X.env.scope.names.lookup x = some .local := by first | exact .inl rfl | exact .inr rfl) :
    JSs X F g (.Assign [.Name x px] e pos :: rest) D (we fun a => wLet a wr) :=
  pssW (pss_cons (ps_set hN hi hx he hs hf) (pssE hr)) fun D' σ H ⟨e, o, q⟩ => ⟨o, wr, q, fun a v H1 p s r => ⟨a, e, (o.step s).set ⟨v, rfl, r⟩, p⟩⟩
theorem js_asgT {tg e : Expr} {A : Ty α} {gT : TG} {tr : Gm → α → Gm} {we : (α → Prop) → Prop} {wr : α → Prop} {D : Ends} (he : JE X F g e (rO A) we) (hg : PG X tg gT) (ht : TgOk A gT tr) (hr : ∀ a, JSs X F (tr g a) rest D (wr a))
    (hs : swapsWithSole [tg] e pos.line X.env = pure false := by rfl) (hw : swappedStores [tg] e X.env = pure none := by rfl) (h1 : (assignEach [tg] X.env).map (·.2) = [assign tg X.env] := by rfl) :
    JSs X F g (.Assign [tg] e pos :: rest) D (we fun a => wLet a wr) :=
  pssW (pss_cons (ps_asg he hg hs hw h1) (pssE hr)) fun D' σ H ⟨e, o, q⟩ => ⟨o, wr, q, fun a v H1 p s r => ht F g σ H1 v a _ (o.step s) r fun σ' k => ⟨a, e, k, p⟩⟩
/-- a, b = x, y -/
theorem js_par {i j : Nat} {A : Ty α} {B : Ty β} {x y : Str} {a b : Expr} {px py pt : Pos} {kt k2 : Nat} {pt2 : Pos} {wa : (α → Prop) → Prop} {wb : (β → Prop) → Prop} {wr : α → β → Prop} {D : Ends} (ha : JE X F g a (rO A) wa) (hb : JE X F g b (rO B) wb)
    (hr : ∀ u v, JSs X F ((g.set i (.val A u)).set j (.val B v)) rest D (wr u v)) (hN : X.N.Nodup) (hc : X.calm = true := by rfl) (hi : X.N[i]? = some x := by rfl) (hj : X.N[j]? = some y := by rfl) (hij : i ≠ j := by decide)
    (hx : X.env.scope.names.lookup x = some .local := by rfl) (hy : X.env.scope.names.lookup y = some .local := by rfl) (hs1 : starEach [a, b] X.env = (false, eval a X.env) :: starEach [b] X.env := by rfl) (hs2 : starEach [b] X.env = (false, eval b X.env) :: starEach [] X.env := by rfl)
    (hw : swappedStores [.Tuple [.Name x px, .Name y py] kt pt] (.Tuple [a, b] k2 pt2) X.env = pure (some [x, y]) := by rfl)
    (hs : swapsWithSole [.Tuple [.Name x px, .Name y py] kt pt] (.Tuple [a, b] k2 pt2) pos.line X.env = pure false := by rfl) :
    JSs X F g (.Assign [.Tuple [.Name x px, .Name y py] kt pt] (.Tuple [a, b] k2 pt2) pos :: rest) D (wa fun u => wb fun v => wLet u fun u => wLet v fun v => wr u v) :=
  pssW (pss_cons (ps_par hc hN hi hj hij hx hy (ja_cons ha (ja_cons hb ja_nil hs2) hs1) hw hs) (pssE (t := fun (pr : α × β) => RS F ((g.set i (.val A pr.1)).set j (.val B pr.2)) D (wr pr.1 pr.2)) fun pr => hr pr.1 pr.2)) fun D' σ H ⟨e, o, q⟩ => by
    refine ⟨o, fun t => wr t.1 t.2.1, q, fun t vs H1 p s ⟨v, r, e1, r1, v2, r', e2, r2, e3⟩ => ⟨v, v2, by rw [e1, e2, (e3 : r' = [])], (t.1, t.2.1), e, ?_, p⟩⟩
    have k1 : (g.set i (.val A t.1)).Ok F (σ.set i (some v)) H1 := (o.step s).set (t := .val A t.1) ⟨v, rfl, r1⟩
    exact k1.set (t := .val B t.2.1) ⟨v2, rfl, r2⟩
theorem js_expr {e : Expr} {A : Ty α} {we : (α → Prop) → Prop} {wr : Prop} {D : Ends} (he : JE X F g e (rO A) we) (hr : JSs X F g rest D wr) (hs : swapsWith e none pos.line X.env = pure false := by rfl) : JSs X F g (.Expr e pos :: rest) D (we fun _ => wr) :=
  pssW (pss_cons (ps_expr he hs) hr) fun D' σ H ⟨e, o, q⟩ => ⟨o, _, q, fun a v H1 p s r => ⟨e, o.step s, p⟩⟩
/-- xs.append(e) -/
theorem js_app {i j : Nat} {l : Addr} {A : Ty α} {xs : List α} {call : Expr} {we : (α → Prop) → Prop} {wr : α → Prop} {D : Ends} (hm : PE X call (tBM X.K "list" rAppend (tVar i) (tCons (RJ F g (rO A) we) tNil)))
    (hr : ∀ a, JSs X F ⟨g.s, g.c.set j (.lst l A (xs ++ [a]))⟩ rest D (wr a)) (hs : g.s[i]? = some (.at l)) (hc : g.c[j]? = some (.lst l A xs)) (hsw : swapsWith call none pos.line X.env = pure false := by rfl) :
    JSs X F g (.Expr call pos :: rest) D (we fun a => xs.length < 1000000 ∧ wLet a wr) := by
  refine pssW (pss_cons (ps_expr hm hsw) (pssE hr)) fun D' σ H ⟨e, k, q⟩ => ?_
  obtain ⟨vs, hp, r⟩ := k.cell hc
  refine ⟨_, k.ref hs, .inl ⟨rfl, vs, .inl (.inl hp)⟩, k, _, q, fun a v H1 p s ra => ⟨l, vs, v, rfl, rfl, s _ _ hp, ?_, a, e, ?_⟩⟩
  · rw [Paired.len r]
    exact Nat.lt_of_lt_of_le p.1 (by decide)
  · exact ⟨((k.step s).mut hc (Paired.app (Paired.imp (fun _ _ z => A.same (Gm.mono s) z) r) (.cons ra .nil))), p.2⟩
theorem for_core {K : PySem.W.Frag} {l : Addr} {S : τ → Gm} {xs : List α} {A : Ty α} {b : α → τ → (τ → Prop) → (τ → Prop) → Prop} {wr : τ → Prop} (hp : ∀ s σ H, (S s).Ok F σ H → ∃ vs, SqL K H l vs ∧ Paired (A.rel ((S s).bs F H)) vs xs)
    {gT : TG} {tb : TS} {D : Ends} {σ : L2.St} {H : Hp} {s0 : τ} (h0 : (S s0).Ok F σ H) (hw : wFor b wr xs s0) (hD : ∀ σ H s, (S s).Ok F σ H → wr s → D.nx σ H)
    (hb : ∀ (N : τ → Prop) x v s σ H, (S s).Ok F σ H → A.rel ((S s).bs F H) v x → b x s N wr → gT v σ H fun σ2 H2 => tb ⟨phi F S N, D.rt, D.nx, phi F S N⟩ σ2 H2) :
    ∃ W : Nat → Nat → L2.St → Hp → Prop, (∃ m, W 0 m σ H) ∧ ∀ i m σ H, W i m σ H →
      ((Itl K l).stop i H ∧ D.nx σ H) ∨ ((Itl K l).go i H ∧ ∃ N : L2.St → Hp → Prop, (∀ σ' H', N σ' H' → ∃ m', m' < m ∧ W (i + 1) m' σ' H') ∧ ∀ x H', (Itl K l).yld i H x H' → gT x σ H' fun σ2 H2 => tb { D with nx := N, ct := N, bk := D.nx } σ2 H2) := by
  refine ⟨fun i m σ H => m = xs.length - i ∧ i ≤ xs.length ∧ ∃ s, (S s).Ok F σ H ∧ wFor b wr (xs.drop i) s, ⟨xs.length, by simp, Nat.zero_le _, s0, h0, hw⟩, ?_⟩
  rintro i m σ H ⟨rfl, hi, s, o, w⟩
  obtain ⟨vs, hq, hpr⟩ := hp s σ H o
  by_cases hlt : i < xs.length
  · have hx : xs[i]? = some xs[i] := List.getElem?_eq_getElem hlt
    obtain ⟨v, hv, rv⟩ := Paired.at hpr hx
    rw [List.drop_eq_getElem_cons hlt] at w
    refine .inr ⟨⟨vs, v, hq, hv⟩, phi F S fun s' => wFor b wr (xs.drop (i + 1)) s', fun σ' H' ⟨s', o', w'⟩ => ⟨xs.length - (i + 1), by omega, rfl, hlt, s', o', w'⟩, fun x H' y => ?_⟩
    obtain ⟨e, y⟩ := y
    subst e
    have ev : x = v := Option.some.inj ((y vs hq).symm.trans hv)
    subst ev
    exact hb _ _ _ s _ _ o rv w
  · have e : i = xs.length := by omega
    refine .inl ⟨⟨vs, hq, by rw [Paired.len hpr]; omega⟩, hD σ H s o ?_⟩
    rw [List.drop_of_length_le (by omega)] at w
    exact w
theorem forT_core {K : PySem.W.Frag} {l : Addr} {S : τ → Gm} {xs : List α} {A : Ty α} {b : α → τ → (τ → Prop) → (τ → Prop) → Prop} {wr : τ → Prop} (hp : ∀ s σ H, (S s).Ok F σ H → ∃ vs, SqT K H l vs ∧ Paired (A.rel ((S s).bs F H)) vs xs)
    {gT : TG} {tb : TS} {D : Ends} {σ : L2.St} {H : Hp} {s0 : τ} (h0 : (S s0).Ok F σ H) (hw : wFor b wr xs s0) (hD : ∀ σ H s, (S s).Ok F σ H → wr s → D.nx σ H)
    (hb : ∀ (N : τ → Prop) x v s σ H, (S s).Ok F σ H → A.rel ((S s).bs F H) v x → b x s N wr → gT v σ H fun σ2 H2 => tb ⟨phi F S N, D.rt, D.nx, phi F S N⟩ σ2 H2) :
    ∃ W : Nat → Nat → L2.St → Hp → Prop, (∃ m, W 0 m σ H) ∧ ∀ i m σ H, W i m σ H →
      ((Itt K l).stop i H ∧ D.nx σ H) ∨ ((Itt K l).go i H ∧ ∃ N : L2.St → Hp → Prop, (∀ σ' H', N σ' H' → ∃ m', m' < m ∧ W (i + 1) m' σ' H') ∧ ∀ x H', (Itt K l).yld i H x H' → gT x σ H' fun σ2 H2 => tb { D with nx := N, ct := N, bk := D.nx } σ2 H2) := by
  refine ⟨fun i m σ H => m = xs.length - i ∧ i ≤ xs.length ∧ ∃ s, (S s).Ok F σ H ∧ wFor b wr (xs.drop i) s, ⟨xs.length, by simp, Nat.zero_le _, s0, h0, hw⟩, ?_⟩
  rintro i m σ H ⟨rfl, hi, s, o, w⟩
  obtain ⟨vs, hq, hpr⟩ := hp s σ H o
  by_cases hlt : i < xs.length
  · have hx : xs[i]? = some xs[i] := List.getElem?_eq_getElem hlt
    obtain ⟨v, hv, rv⟩ := Paired.at hpr hx
    rw [List.drop_eq_getElem_cons hlt] at w
    refine .inr ⟨⟨vs, v, hq, hv⟩, phi F S fun s' => wFor b wr (xs.drop (i + 1)) s', fun σ' H' ⟨s', o', w'⟩ => ⟨xs.length - (i + 1), by omega, rfl, hlt, s', o', w'⟩, fun x H' y => ?_⟩
    obtain ⟨e, y⟩ := y
    subst e
    have ev : x = v := Option.some.inj ((y vs hq).symm.trans hv)
    subst ev
    exact hb _ _ _ s _ _ o rv w
  · have e : i = xs.length := by omega
    refine .inl ⟨⟨vs, hq, by rw [Paired.len hpr]; omega⟩, hD σ H s o ?_⟩
    rw [List.drop_of_length_le (by omega)] at w
    exact w
theorem range_getI {lo : Int} {n i : Nat} (h : i < n) : ((List.range n).map fun (j : Nat) => lo + (j : Int))[i]? = some (lo + (i : Int)) := by
  rw [List.getElem?_map, List.getElem?_range h]
  rfl
theorem forR_core {S : τ → Gm} {lo : Int} {n : Nat} {b : Int → τ → (τ → Prop) → (τ → Prop) → Prop} {wr : τ → Prop}
    {gT : TG} {tb : TS} {D : Ends} {σ : L2.St} {H : Hp} {s0 : τ} (h0 : (S s0).Ok F σ H) (hw : wFor b wr ((List.range n).map fun (j : Nat) => lo + (j : Int)) s0) (hD : ∀ σ H s, (S s).Ok F σ H → wr s → D.nx σ H)
    (hb : ∀ (N : τ → Prop) x s σ H, (S s).Ok F σ H → b x s N wr → gT (.int x) σ H fun σ2 H2 => tb ⟨phi F S N, D.rt, D.nx, phi F S N⟩ σ2 H2) :
    ∃ W : Nat → Nat → L2.St → Hp → Prop, (∃ m, W 0 m σ H) ∧ ∀ i m σ H, W i m σ H →
      ((Itr lo n).stop i H ∧ D.nx σ H) ∨ ((Itr lo n).go i H ∧ ∃ N : L2.St → Hp → Prop, (∀ σ' H', N σ' H' → ∃ m', m' < m ∧ W (i + 1) m' σ' H') ∧ ∀ x H', (Itr lo n).yld i H x H' → gT x σ H' fun σ2 H2 => tb { D with nx := N, ct := N, bk := D.nx } σ2 H2) := by
  have hl : ((List.range n).map fun (j : Nat) => lo + (j : Int)).length = n := by rw [List.length_map, List.length_range]
  refine ⟨fun i m σ H => m = n - i ∧ i ≤ n ∧ ∃ s, (S s).Ok F σ H ∧ wFor b wr (((List.range n).map fun (j : Nat) => lo + (j : Int)).drop i) s, ⟨n, by simp, Nat.zero_le _, s0, h0, hw⟩, ?_⟩
  rintro i m σ H ⟨rfl, hi, s, o, w⟩
  by_cases hlt : i < n
  · have hlt' : i < ((List.range n).map fun (j : Nat) => lo + (j : Int)).length := by rw [hl]; exact hlt
    rw [List.drop_eq_getElem_cons hlt'] at w
    have ex : ((List.range n).map fun (j : Nat) => lo + (j : Int))[i] = lo + (i : Int) := Option.some.inj ((List.getElem?_eq_getElem hlt').symm.trans (range_getI hlt))
    rw [ex] at w
    refine .inr ⟨hlt, phi F S fun s' => wFor b wr (((List.range n).map fun (j : Nat) => lo + (j : Int)).drop (i + 1)) s', fun σ' H' ⟨s', o', w'⟩ => ⟨n - (i + 1), by omega, rfl, hlt, s', o', w'⟩, fun x H' y => ?_⟩
    obtain ⟨e, y⟩ := y
    subst e y
    exact hb _ _ s _ _ o w
  · refine .inl ⟨by show n ≤ i; omega, hD σ H s o ?_⟩
    rw [List.drop_of_length_le (by omega)] at w
    exact w
section
variable {tg iter : Expr} {body : List Stmt} {A : Ty α} {gT : TG} {tr : Gm → α → Gm} {b : α → τ → (τ → Prop) → (τ → Prop) → Prop} {wr : τ → Prop} {s0 : τ} {wl : (List α → Prop) → Prop}
/-- for x in a list that is not changed any more -/
theorem js_forL {S : V → List α → τ → Gm} {j : Nat} (hl : JE X F g iter (rO (tK A)) wl) (hS : ∀ v xs, Sub (g.push (.fix (tK A) v xs)) (S v xs s0)) (hc : ∀ v xs s, (S v xs s).c[j]? = some (.fix (tK A) v xs))
    (hg : PG X tg gT) (ht : TgOk A gT tr) (hb : ∀ v xs (N B : τ → Prop) a s, JSs X F (tr (S v xs s) a) body ⟨phi F (S v xs) N, rt, phi F (S v xs) B, phi F (S v xs) N⟩ (b a s N B)) (hr : ∀ v xs s, JSs X F (S v xs s) rest ⟨nx, rt, bk, ct⟩ (wr s))
    (hpo : PassesOwn (model X.prog X.w) X.A X.env X.xe) (hca : X.calm = true := by rfl) (hfs : ∀ x, foldedSetIterable iter X.env x = pure x := by intro _; rfl) :
    JSs X F g (.For tg iter body [] pos :: rest) ⟨nx, rt, bk, ct⟩ (wl fun xs => wLet xs fun xs => wFor b wr xs s0) := by
  refine pssW (pss_cons (ps_for hpo hca (pi_list hl) hg (pssE (t := fun (q : V × List α × (τ → Prop) × α × τ) => RS F (tr (S q.1 q.2.1 q.2.2.2.2) q.2.2.2.1) ⟨phi F (S q.1 q.2.1) q.2.2.1, rt, phi F (S q.1 q.2.1) wr, phi F (S q.1 q.2.1) q.2.2.1⟩ (b q.2.2.2.1 q.2.2.2.2 q.2.2.1 wr)) fun q => hb q.1 q.2.1 q.2.2.1 wr q.2.2.2.1 q.2.2.2.2) hfs)
    (pssE (t := fun (q : V × List α × τ) => RS F (S q.1 q.2.1 q.2.2) ⟨nx, rt, bk, ct⟩ (wr q.2.2)) fun q => hr q.1 q.2.1 q.2.2)) fun D σ H ⟨e, k, w⟩ => ?_
  refine ⟨k, _, w, fun xs v H1 w1 s1 r => ?_⟩
  obtain ⟨l, vs, ev, hq, hr1⟩ := id r
  refine ⟨l, ev, ⟨vs, .inl (.inl ((k.step s1).le _ _ hq))⟩, ?_⟩
  refine for_core (A := A) (D := ⟨_, D.rt, D.bk, D.ct⟩) (S := S v xs) (fun s σ H o => ?_) ((hS v xs).ok ((k.step s1).fixed r)) w1 ?_ fun N x u s σ H o ru q => ?_
  · obtain ⟨l2, us, e2, h2, r2⟩ := (show (tK A).rel ((S v xs s).bs F H) v xs from o.cells _ (List.mem_of_getElem? (hc v xs s)))
    rw [ev] at e2
    have e3 : l = l2 := V.ref.inj e2
    subst e3
    exact ⟨us, .inl (.inl (o.le _ _ h2)), r2⟩
  · exact fun σ H s o q => ⟨(v, xs, s), e, o, q⟩
  · exact ht F _ σ H u x _ o ru fun σ' o' => ⟨(v, xs, N, x, s), ⟨fun _ _ z => z, e.rt, fun _ _ ⟨s, o, q⟩ => ⟨(v, xs, s), e, o, q⟩, fun _ _ z => z⟩, o', q⟩
/-- for x in a tuple -/
theorem js_forT {S : V → List α → τ → Gm} {j : Nat} (hl : JE X F g iter (rO (tT X.K (aV A))) wl) (hS : ∀ v xs, Sub (g.push (.fix (tT X.K (aV A)) v xs)) (S v xs s0)) (hc : ∀ v xs s, (S v xs s).c[j]? = some (.fix (tT X.K (aV A)) v xs))
    (hg : PG X tg gT) (ht : TgOk A gT tr) (hb : ∀ v xs (N B : τ → Prop) a s, JSs X F (tr (S v xs s) a) body ⟨phi F (S v xs) N, rt, phi F (S v xs) B, phi F (S v xs) N⟩ (b a s N B)) (hr : ∀ v xs s, JSs X F (S v xs s) rest ⟨nx, rt, bk, ct⟩ (wr s))
    (hpo : PassesOwn (model X.prog X.w) X.A X.env X.xe) (hca : X.calm = true := by rfl) (hfs : ∀ x, foldedSetIterable iter X.env x = pure x := by intro _; rfl) :
    JSs X F g (.For tg iter body [] pos :: rest) ⟨nx, rt, bk, ct⟩ (wl fun xs => wLet xs fun xs => wFor b wr xs s0) := by
  refine pssW (pss_cons (ps_for hpo hca (pi_tup hl) hg (pssE (t := fun (q : V × List α × (τ → Prop) × α × τ) => RS F (tr (S q.1 q.2.1 q.2.2.2.2) q.2.2.2.1) ⟨phi F (S q.1 q.2.1) q.2.2.1, rt, phi F (S q.1 q.2.1) wr, phi F (S q.1 q.2.1) q.2.2.1⟩ (b q.2.2.2.1 q.2.2.2.2 q.2.2.1 wr)) fun q => hb q.1 q.2.1 q.2.2.1 wr q.2.2.2.1 q.2.2.2.2) hfs)
    (pssE (t := fun (q : V × List α × τ) => RS F (S q.1 q.2.1 q.2.2) ⟨nx, rt, bk, ct⟩ (wr q.2.2)) fun q => hr q.1 q.2.1 q.2.2)) fun D σ H ⟨e, k, w⟩ => ?_
  refine ⟨k, _, w, fun xs v H1 w1 s1 r => ?_⟩
  obtain ⟨l, vs, ev, hq, hr1⟩ := id r
  refine ⟨l, ev, ⟨vs, (k.step s1).le.sqT' hq⟩, ?_⟩
  refine forT_core (A := A) (D := ⟨_, D.rt, D.bk, D.ct⟩) (S := S v xs) (fun s σ H o => ?_) ((hS v xs).ok ((k.step s1).fixed r)) w1 ?_ fun N x u s σ H o ru q => ?_
  · obtain ⟨l2, us, e2, h2, r2⟩ := (show (tT X.K (aV A)).rel ((S v xs s).bs F H) v xs from o.cells _ (List.mem_of_getElem? (hc v xs s)))
    rw [ev] at e2
    have e3 : l = l2 := V.ref.inj e2
    subst e3
    exact ⟨us, o.le.sqT' h2, r2⟩
  · exact fun σ H s o q => ⟨(v, xs, s), e, o, q⟩
  · exact ht F _ σ H u x _ o ru fun σ' o' => ⟨(v, xs, N, x, s), ⟨fun _ _ z => z, e.rt, fun _ _ ⟨s, o, q⟩ => ⟨(v, xs, s), e, o, q⟩, fun _ _ z => z⟩, o', q⟩
end
section
variable {tg : Expr} {body : List Stmt} {gT : TG} {tr : Gm → Int → Gm} {b : Int → τ → (τ → Prop) → (τ → Prop) → Prop} {wr : τ → Prop} {s0 : τ}
/-- for i in range(n), range(a, b) -/
theorem js_forR {S : τ → Gm} {e : Expr} {p pr : Pos} {we : (Int → Prop) → Prop} (hg0 : Gl X "range") (hm : X.mg "range" = none) (he : JE X F g e (rO tI) we) (hS : Sub g (S s0)) (hg : PG X tg gT) (ht : TgOk tI gT tr)
    (hb : ∀ (N B : τ → Prop) a s, JSs X F (tr (S s) a) body ⟨phi F S N, rt, phi F S B, phi F S N⟩ (b a s N B)) (hr : ∀ s, JSs X F (S s) rest ⟨nx, rt, bk, ct⟩ (wr s))
    (hpo : PassesOwn (model X.prog X.w) X.A X.env X.xe) (hca : X.calm = true := by rfl) (hst : starEach [e] X.env = (false, eval e X.env) :: starEach [] X.env := by rfl) (hst2 : starEach [e] X.env = [(false, eval e X.env)] := by rfl) (hfs : ∀ y, foldedSetIterable (.Call (.Name "range" p) [e] [] pr) X.env y = pure y := by intro _; rfl) :
    JSs X F g (.For tg (.Call (.Name "range" p) [e] [] pr) body [] pos :: rest) ⟨nx, rt, bk, ct⟩ (we fun n => (-(2 ^ 62) ≤ n ∧ n < 2 ^ 62) ∧ wFor b wr (rangeI 0 n) s0) := by
  refine pssW (pss_cons (ps_for hpo hca (pi_range1 hg0 hm (pa_cons he pa_nil hst) hst2) hg (pssE (t := fun (q : (τ → Prop) × Int × τ) => RS F (tr (S q.2.2) q.2.1) ⟨phi F S q.1, rt, phi F S wr, phi F S q.1⟩ (b q.2.1 q.2.2 q.1 wr)) fun q => hb q.1 wr q.2.1 q.2.2) hfs) (pssE hr)) fun D σ H ⟨e, k, w⟩ => ?_
  refine ⟨k, _, w, fun n v H1 ⟨⟨w1, w2⟩, w3⟩ s1 r1 => ⟨n, by rw [(r1 : v = _)], w1, w2, ?_⟩⟩
  have en : (n - 0).toNat = n.toNat := by rw [Int.sub_zero]
  unfold rangeI at w3
  rw [en] at w3
  refine forR_core (D := ⟨_, D.rt, D.bk, D.ct⟩) (S := S) (hS.ok (k.step s1)) w3 ?_ fun N x s σ H o q => ?_
  · exact fun σ H s o q => ⟨s, e, o, q⟩
  exact ht F _ σ H (.int x) x _ o rfl fun σ' o' => ⟨(N, x, s), ⟨fun _ _ z => z, e.rt, fun _ _ ⟨s, o, q⟩ => ⟨s, e, o, q⟩, fun _ _ z => z⟩, o', q⟩
end
theorem ptE {e : Expr} {t : τ → TT} (h : ∀ a, PT X e (t a)) : PT X e (fun σ H Q => ∃ a, t a σ H Q) := ⟨fun p s σ H Q I ⟨a, q⟩ => (h a).run p s σ H Q I q⟩
theorem js_while {test : Expr} {body : List Stmt} {S : τ → Gm} {s0 : τ} {wt : τ → Prop → Prop → Prop} {b : τ → (τ → Prop) → (τ → Prop) → Prop} {wr : τ → Prop} (hS : Sub g (S s0)) (ht : ∀ s, JT X F (S s) test (wt s))
    (hb : ∀ (N B : τ → Prop) s, JSs X F (S s) body ⟨phi F S N, rt, phi F S B, phi F S N⟩ (b s N B)) (hr : ∀ s, JSs X F (S s) rest ⟨nx, rt, bk, ct⟩ (wr s)) (hpo : PassesOwn (model X.prog X.w) X.A X.env X.xe) :
    JSs X F g (.While test body [] pos :: rest) ⟨nx, rt, bk, ct⟩ (wWhile wt b wr s0) := by
  refine pssW (pss_cons (ps_while hpo (ptE ht) (pssE (t := fun (q : (τ → Prop) × τ) => RS F (S q.2) ⟨phi F S q.1, rt, phi F S wr, phi F S q.1⟩ (b q.2 q.1 wr)) fun q => hb q.1 wr q.2)) (pssE hr)) fun D σ H ⟨e, k, I, m, i0, turn⟩ => ?_
  refine ⟨fun n σ H => ∃ s, (S s).Ok F σ H ∧ I s ∧ n = m s, ⟨m s0, s0, hS.ok k, i0, rfl⟩, ?_⟩
  rintro n σ1 H1 ⟨s, o, hi, rfl⟩
  refine ⟨s, o, _, _, turn s hi, fun x H2 s2 => ?_, fun x H2 s2 => ?_⟩
  · show ∃ N : L2.St → Hp → Prop, _
    refine ⟨phi F S fun s' => I s' ∧ m s' < m s, fun σ' H' ⟨s', o', i', l'⟩ => ⟨m s', l', s', o', i', rfl⟩, ?_⟩
    exact ⟨(fun s' => I s' ∧ m s' < m s, s), ⟨fun _ _ z => z, e.rt, fun _ _ ⟨s, o, q⟩ => ⟨s, e, o, q⟩, fun _ _ z => z⟩, o.step s2, x⟩
  · show ∃ a, _
    exact ⟨s, e, o.step s2, x⟩
end
end
end J
namespace J
open PySem PySem.Spec L2
section
variable {X : Cx} {F : Fr} {g : Gm} {α β γ δ ρ τ : Type} {K : PySem.W.Frag}
theorem tyI : TyOfA K tI "int" := fun H v a h => by
  have e : v = .int a := h
  subst e
  exact .base (.int a)
theorem tyT {T : ATy τ} : TyOfA K (tT K T) "tuple" := fun H v t ⟨a, vs, e, h, r⟩ => by
  subst e
  rcases h with (h | ⟨o, h⟩) | ⟨o, its, n, h1, h2, _⟩
  · exact .base (.tup h)
  · exact .fTuple h
  · exact .kTuple h1 h2
/-- an option that is there -/
theorem je_get {A : Ty α} {e : Expr} {w : (Option α → Prop) → Prop} (h : JE X F g e (rO (tO A)) w) : JE X F g e (rO A) (fun k => w fun o => ∃ a, o = some a ∧ k a) :=
  peW h fun σ H Q ⟨k, P, hw, q⟩ => ⟨k, _, hw, fun o v H' ⟨a, e, p⟩ s r => by
    subst e
    exact q a v H' p s r.1⟩
theorem nn_T {T : ATy τ} : ∀ (H : Hp) (a : τ), ¬ (tT K T).rel H .non a := fun H a ⟨_, _, e, _⟩ => by cases e
theorem nn_K {A : Ty α} : ∀ (H : Hp) (a : List α), ¬ (tK A).rel H .non a := fun H a ⟨_, _, e, _⟩ => by cases e
/-- lengths of tuples -/
theorem len_a2 {A : Ty α} {B : Ty β} : ∀ H vs t, (a2 A B).rel H vs t → vs.length = (fun _ => 2) t := fun H vs t ⟨_, _, e, _⟩ => by rw [e]; rfl
theorem len_aV {A : Ty α} : ∀ H vs (t : List α), (aV A).rel H vs t → vs.length = (fun (t : List α) => t.length) t := fun H vs t h => Paired.len h
end
/-- the promise of a law's own def -/
def spLaw (K : PySem.W.Frag) : Sp := fun vs H Q _ => ∃ (a : Addr) (ns : List Int), vs = [.ref a] ∧ SqL K H a (ns.map V.int) ∧ ns.length ≤ 63 ∧ ∀ H', Q (.bl true) H'
theorem law_of {K : PySem.W.Frag} {w : List Int × Unit → (Bool → Prop) → Prop} (h : ∀ ns : List Int, ns.length ≤ 63 → w (ns, ()) (fun b => b = true)) : ∀ vs H Q E, spLaw K vs H Q E → spJ (aC (tL K tI) aN) (rO tB) w vs H Q E :=
  fun vs H Q E ⟨a, ns, e, hs, hl, q⟩ => ⟨(ns, ()), fun b => b = true, Fr.all H, rfl, ⟨.ref a, [], e, ⟨a, _, rfl, hs, paired_ints ns⟩, rfl⟩, h ns hl, fun r v H' p s rr => by
    have e1 : v = .bl r := rr
    subst e1
    rw [p]
    exact q H'⟩
end J
namespace J
open PySem PySem.Spec L2
section
variable {X : Cx} {F : Fr} {g : Gm} {α β γ δ ρ τ : Type}
def tExE (t : τ → TE) : TE := fun σ H Q => ∃ a, t a σ H Q
theorem peE {e : Expr} {t : τ → TE} (h : ∀ a, PE X e (t a)) : PE X e (tExE t) := ⟨fun p s σ H Q I ⟨a, q⟩ => (h a).run p s σ H Q I q⟩
theorem piW {tg e : Expr} {w w' : TI} (h : PI X tg e w) (k : ∀ σ H R, w' σ H R → w σ H R) : PI X tg e w' := ⟨fun p s σ H R I q => h.run p s σ H R I (k _ _ _ q)⟩
/-- what an iterator shows of a list of data; as: the addresses of what may change -/
def ItAt (F : Fr) (as : List Addr) (J : It) (A : Ty α) (xs : List α) (H : Hp) : Prop :=
  (∀ i x, xs[i]? = some x → J.go i H ∧ ∀ v H', J.yld i H v H' → Same H H' ∧ A.rel (bsA F as H') v x) ∧ ∀ i, xs.length ≤ i → J.stop i H
theorem itl_at {as : List Addr} {K : PySem.W.Frag} {l : Addr} {vs : List V} {xs : List α} {A : Ty α} {H : Hp} (h : SqL K H l vs) (r : Paired (A.rel (bsA F as H)) vs xs) : ItAt F as (Itl K l) A xs H :=
  ⟨fun i x e => by
    obtain ⟨v, hv, rv⟩ := Paired.at r e
    refine ⟨⟨vs, v, h, hv⟩, fun u H' ⟨e1, e2⟩ => ?_⟩
    subst e1
    refine ⟨Same.refl _, ?_⟩
    have := Option.some.inj ((e2 vs h).symm.trans hv)
    rw [this]
    exact rv, fun i hi => ⟨vs, h, by rw [Paired.len r]; exact hi⟩⟩
theorem itt_at {as : List Addr} {K : PySem.W.Frag} {l : Addr} {vs : List V} {xs : List α} {A : Ty α} {H : Hp} (h : SqT K H l vs) (r : Paired (A.rel (bsA F as H)) vs xs) : ItAt F as (Itt K l) A xs H :=
  ⟨fun i x e => by
    obtain ⟨v, hv, rv⟩ := Paired.at r e
    refine ⟨⟨vs, v, h, hv⟩, fun u H' ⟨e1, e2⟩ => ?_⟩
    subst e1
    refine ⟨Same.refl _, ?_⟩
    have := Option.some.inj ((e2 vs h).symm.trans hv)
    rw [this]
    exact rv, fun i hi => ⟨vs, h, by rw [Paired.len r]; exact hi⟩⟩
theorem itr_at {as : List Addr} {lo hi : Int} {H : Hp} : ItAt F as (Itr lo (hi - lo).toNat) tI (rangeI lo hi) H := by
  have hl : (rangeI lo hi).length = (hi - lo).toNat := by unfold rangeI; rw [List.length_map, List.length_range]
  refine ⟨fun i x e => ?_, fun i h => by rw [hl] at h; exact h⟩
  have h1 := (List.getElem?_eq_some_iff.mp e).1
  rw [hl] at h1
  have e2 : (rangeI lo hi)[i]? = some (lo + (i : Int)) := range_getI h1
  rw [e] at e2
  have e3 := Option.some.inj e2
  refine ⟨h1, fun v H' ⟨a, b⟩ => ?_⟩
  subst a
  exact ⟨Same.refl _, by rw [e3]; exact b⟩
def wipeS (s : List Slot) : List Nat → List Slot
  | [] => s
  | v :: vs => (wipeS s vs).set v .any
abbrev wipeG (g : Gm) (vs : List Nat) : Gm := ⟨wipeS g.s vs, g.c⟩
theorem par_wipe {H : Hp} {σ : L2.St} {s : List Slot} (h : Par H σ s) : ∀ vs, Par H (wipe σ vs) (wipeS s vs)
  | [] => h
  | v :: vs => Par.set (t := .any) trivial v (par_wipe h vs)
theorem Gm.Ok.wipe {σ : L2.St} {H : Hp} (k : g.Ok F σ H) (vs : List Nat) : (wipeG g vs).Ok F (wipe σ vs) H := ⟨k.same, par_wipe k.slots vs, k.nd, k.cells⟩
/-- what a comprehension walks -/
def RI (F : Fr) (g : Gm) (A : Ty α) (wl : (List α → Prop) → Prop) (vs : List Nat) : TI := fun σ H R => g.Ok F σ H ∧ ∃ P, wl P ∧ ∀ xs J cs H', P xs → Same H H' → (∀ c ∈ cs, Cell.addr c = none) → (⟨g.s, cs ++ g.c⟩ : Gm).Ok F σ H' →
  (∀ σ H (l : List Cell), (wipeG ⟨g.s, l ++ (cs ++ g.c)⟩ vs).Ok F σ H → ItAt F (⟨g.s, l ++ (cs ++ g.c)⟩ : Gm).ad J A xs H) → R J H'
section
variable {tg iter : Expr} {A : Ty α} {wl : (List α → Prop) → Prop} {vs : List Nat}
theorem mem_mid {c : Cell} {l cs r : List Cell} : c ∈ l ++ ((c :: cs) ++ r) := List.mem_append_right _ (List.mem_append_left _ List.mem_cons_self)
theorem ji_L (hl : JE X F g iter (rO (tK A)) wl) : PI X tg iter (RI F g A wl vs) :=
  piW (pi_list hl) fun σ H R ⟨k, P, w, q⟩ => ⟨k, P, w, fun xs v H1 p s r => by
    obtain ⟨l, us, ev, h1, _⟩ := id r
    refine ⟨l, ev, ⟨us, .inl (.inl ((k.step s).le _ _ h1))⟩, q xs _ [.fix (tK A) v xs] H1 p s (fun c hc => by cases List.mem_singleton.mp hc; rfl) ((k.step s).fixed r) fun σ' H' l' o => ?_⟩
    obtain ⟨l2, ws, e2, h2, r2⟩ := (show (tK A).rel _ v xs from o.cells (.fix (tK A) v xs) mem_mid)
    rw [ev] at e2
    have e3 : l = l2 := V.ref.inj e2
    subst e3
    exact itl_at (.inl (.inl (o.le _ _ h2))) r2⟩
theorem ji_T (hl : JE X F g iter (rO (tT X.K (aV A))) wl) : PI X tg iter (RI F g A wl vs) :=
  piW (pi_tup hl) fun σ H R ⟨k, P, w, q⟩ => ⟨k, P, w, fun xs v H1 p s r => by
    obtain ⟨l, us, ev, hq, hr⟩ := id r
    refine ⟨l, ev, ⟨us, (k.step s).le.sqT' hq⟩, q xs _ [.fix (tT X.K (aV A)) v xs] H1 p s (fun c hc => by cases List.mem_singleton.mp hc; rfl) ((k.step s).fixed r) fun σ' H' l' o => ?_⟩
    obtain ⟨l2, ws, e2, h2, r2⟩ := (show (tT X.K (aV A)).rel _ v xs from o.cells (.fix (tT X.K (aV A)) v xs) mem_mid)
    rw [ev] at e2
    have e3 : l = l2 := V.ref.inj e2
    subst e3
    exact itt_at (o.le.sqT' h2) r2⟩
theorem ji_R {e : Expr} {p pr : Pos} {we : (Int → Prop) → Prop} (hg0 : Gl X "range") (hm : X.mg "range" = none) (he : JE X F g e (rO tI) we) (hst : starEach [e] X.env = (false, eval e X.env) :: starEach [] X.env := by rfl) (hst2 : starEach [e] X.env = [(false, eval e X.env)] := by rfl) :
    PI X tg (.Call (.Name "range" p) [e] [] pr) (RI F g tI (fun k => we fun n => (-(2 ^ 62) ≤ n ∧ n < 2 ^ 62) ∧ k (rangeI 0 n)) vs) :=
  piW (pi_range1 hg0 hm (pa_cons he pa_nil hst) hst2) fun σ H R ⟨k, P, w, q⟩ => ⟨k, _, w, fun n v H1 ⟨⟨w1, w2⟩, w3⟩ s r1 => ⟨n, by rw [(r1 : v = _)], w1, w2, by
    have := q (rangeI 0 n) (Itr 0 (n - 0).toNat) [] H1 w3 s (fun c hc => by cases hc) (k.step s) fun σ' H' l' o => itr_at
    rw [Int.sub_zero] at this
    exact this⟩⟩
end
def TgW (A : Ty α) (gT : TG) (tr : Gm → α → Gm) (vs : List Nat) : Prop := ∀ (F : Fr) (g : Gm) (σ : L2.St) (H : Hp) (v : V) (a : α) (Q : L2.St → Hp → Prop), g.Ok F (wipe σ vs) H → A.rel (g.bs F H) v a → (∀ σ', (tr g a).Ok F σ' H → wipe σ' vs = wipe σ vs → Q σ' H) → gT v (wipe σ vs) H Q
theorem tgw_name {i : Nat} {A : Ty α} : TgW A (gName i) (fun g a => g.set i (.val A a)) [i] := fun F g σ H v a Q k r q => q _ (k.set ⟨v, rfl, r⟩) (by
  show ((σ.set i none).set i (some v)).set i none = σ.set i none
  rw [List.set_set, List.set_set])
theorem wipe_set {σ : L2.St} : ∀ {vs : List Nat} {i : Nat} {o : Option V}, i ∈ vs → wipe (σ.set i o) vs = wipe σ vs
  | v :: vs, i, o, h => by
    show (wipe (σ.set i o) vs).set v none = (wipe σ vs).set v none
    by_cases e : i ∈ vs
    · rw [wipe_set e]
    · rcases List.mem_cons.mp h with z | z
      · subst z
        have comm : ∀ (ws : List Nat), i ∉ ws → wipe (σ.set i o) ws = (wipe σ ws).set i o := by
          intro ws
          induction ws with
          | nil => intro _; rfl
          | cons w ws ih =>
            intro hw
            show (wipe (σ.set i o) ws).set w none = ((wipe σ ws).set w none).set i o
            rw [ih (fun z => hw (List.mem_cons_of_mem _ z)), List.set_comm _ _ (fun z => hw (by rw [z]; exact List.mem_cons_self))]
        rw [comm vs e, List.set_set]
      · exact absurd z e
theorem wipe_wipe {σ : L2.St} : ∀ (vs ws : List Nat), (∀ v ∈ ws, v ∈ vs) → wipe (wipe σ ws) vs = wipe σ vs
  | vs, [], _ => rfl
  | vs, w :: ws, h => by
    show wipe ((wipe σ ws).set w none) vs = _
    rw [wipe_set (h w List.mem_cons_self), wipe_wipe vs ws fun v hv => h v (List.mem_cons_of_mem _ hv)]
theorem tgw_pair {K : PySem.W.Frag} {i j : Nat} {A : Ty α} {B : Ty β} : TgW (tT K (a2 A B)) (gTup K 2 (gCons (gName i) (gCons (gName j) gNil))) (fun g a => (g.set i (.val A a.1)).set j (.val B a.2)) [i, j] :=
  fun F g σ H v a Q k r q => by
    obtain ⟨l, vs, e, hs, x, y, e2, h1, h2⟩ := r
    subst e2
    have k1 : (g.set i (.val A a.1)).Ok F ((wipe σ [i, j]).set i (some x)) H := k.set (t := .val A a.1) ⟨x, rfl, h1⟩
    refine ⟨l, _, e, k.le.sqT' hs, rfl, x, [y], rfl, y, [], rfl, rfl, q _ (k1.set (t := .val B a.2) ⟨y, rfl, h2⟩) ?_⟩
    rw [wipe_set (by simp), wipe_set (by simp), wipe_wipe _ _ fun v hv => hv]
theorem tgw_tri {K : PySem.W.Frag} {i j m : Nat} {A : Ty α} {B : Ty β} {C : Ty γ} : TgW (tT K (a3 A B C)) (gTup K 3 (gCons (gName i) (gCons (gName j) (gCons (gName m) gNil)))) (fun g a => ((g.set i (.val A a.1)).set j (.val B a.2.1)).set m (.val C a.2.2)) [i, j, m] :=
  fun F g σ H v a Q k r q => by
    obtain ⟨l, vs, e, hs, x, y, z, e2, h1, h2, h3⟩ := r
    subst e2
    have k1 : (g.set i (.val A a.1)).Ok F ((wipe σ [i, j, m]).set i (some x)) H := k.set (t := .val A a.1) ⟨x, rfl, h1⟩
    have k2 := k1.set (t := .val B a.2.1) (v := y) (i := j) ⟨y, rfl, h2⟩
    refine ⟨l, _, e, k.le.sqT' hs, rfl, x, [y, z], rfl, y, [z], rfl, z, [], rfl, rfl, q _ (k2.set (t := .val C a.2.2) ⟨z, rfl, h3⟩) ?_⟩
    rw [wipe_set (by simp), wipe_set (by simp), wipe_set (by simp), wipe_wipe _ _ fun v hv => hv]
theorem ad_mid {D : Addr} {A : Ty α} {xs : List α} {cs r : List Cell} (h : cs.filterMap Cell.addr = []) : (Cell.lst D A xs :: (cs ++ r)).filterMap Cell.addr = D :: r.filterMap Cell.addr := by
  show D :: (cs ++ r).filterMap Cell.addr = _
  rw [List.filterMap_append, h]
  rfl
theorem lc_read {J : It} {gT : TG} {tr : Gm → α → Gm} {A : Ty α} {B : Ty β} {vs : List Nat} {wt : α → Prop → Prop → Prop} {we : α → (β → Prop) → Prop} {tt : TT} {te : TE} {xs : List α} {cs : List Cell} {P : List β → Prop} {σ : L2.St} {H1 : Hp} {D : Addr} {Qd : Hp → Prop}
    (hcs : ∀ c ∈ cs, Cell.addr c = none) (hJ : ∀ σ H (l : List Cell), (wipeG ⟨g.s, l ++ (cs ++ g.c)⟩ vs).Ok F σ H → ItAt F (⟨g.s, l ++ (cs ++ g.c)⟩ : Gm).ad J A xs H) (ht : TgW A gT tr vs)
    (htt : ∀ acc a σ H Q, RT F (tr (wipeG (g.push (.lst D B acc)) vs) a) (wt a) σ H Q → tt σ H Q) (hte : ∀ acc a σ H Q, RJ F (tr (wipeG (g.push (.lst D B acc)) vs) a) (rO B) (we a) σ H Q → te σ H Q) (htr : ∀ g a, (tr g a).c = g.c)
    (hl : xs.length < 1000000) (k : (⟨g.s, cs ++ g.c⟩ : Gm).Ok F σ H1) (hD : H1 D = none) (w : wCompF wt we xs [] P)
    (hd : ∀ ys H, P ys → Same H1 H → (⟨g.s, .lst D B ys :: (cs ++ g.c)⟩ : Gm).Ok F σ H → Qd H) :
    ∃ W : Nat → Nat → Hp → Prop, (∃ m, W 0 m (upd H1 D (.lst []))) ∧ ∀ i m H, W i m H →
      (J.stop i H ∧ Qd H) ∨ (J.go i H ∧ ∃ Nx : Hp → Prop, (∀ H', Nx H' → ∃ m', m' < m ∧ W (i + 1) m' H') ∧ ∀ x H', J.yld i H x H' → gT x (wipe σ vs) H' fun σ2 H2 => wipe σ2 vs = wipe σ vs ∧ tt σ2 H2 fun b H3 =>
        if b = true then te σ2 H3 fun y H4 => ∃ acc, H4 D = some (.lst acc) ∧ acc.length < sizeLine ∧ Nx (upd H4 D (.lst (acc ++ [y]))) else Nx H3) := by
  have adcs : cs.filterMap Cell.addr = [] := List.filterMap_eq_nil_iff.mpr hcs
  have k0 : (⟨g.s, .lst D B [] :: (cs ++ g.c)⟩ : Gm).Ok F σ (upd H1 D (.lst [])) := k.new (A := B) (xs := []) (same_upd hD) hD (k.bs_new hD) .nil
  refine ⟨fun i m H => m = xs.length - i ∧ i ≤ xs.length ∧ Same H1 H ∧ ∃ acc, (⟨g.s, .lst D B acc :: (cs ++ g.c)⟩ : Gm).Ok F σ H ∧ acc.length ≤ i ∧ wCompF wt we (xs.drop i) acc P, ⟨xs.length, by simp, Nat.zero_le _, same_upd hD, [], k0, Nat.le_refl _, w⟩, ?_⟩
  rintro i m H ⟨rfl, hi, sm, acc, k1, la, w⟩
  have it := hJ _ _ [.lst D B acc] (k1.wipe vs)
  by_cases hlt : i < xs.length
  · have hx : xs[i]? = some xs[i] := List.getElem?_eq_getElem hlt
    obtain ⟨hgo, hy⟩ := it.1 i _ hx
    rw [List.drop_eq_getElem_cons hlt] at w
    refine .inr ⟨hgo, fun H' => Same H1 H' ∧ ∃ acc, (⟨g.s, .lst D B acc :: (cs ++ g.c)⟩ : Gm).Ok F σ H' ∧ acc.length ≤ i + 1 ∧ wCompF wt we (xs.drop (i + 1)) acc P, fun H' ⟨s, h⟩ => ⟨xs.length - (i + 1), by omega, rfl, hlt, s, h⟩, fun v H' y => ?_⟩
    obtain ⟨sy, rv⟩ := hy v H' y
    have k2 := k1.step sy
    have sb : Sub (wipeG ⟨g.s, .lst D B acc :: (cs ++ g.c)⟩ vs) (wipeG (g.push (.lst D B acc)) vs) := ⟨SubS.refl _, List.Sublist.cons₂ _ (List.sublist_append_right _ _)⟩
    have k3 : (wipeG (g.push (.lst D B acc)) vs).Ok F (wipe σ vs) H' := sb.ok (k2.wipe vs)
    have rv' : A.rel ((wipeG (g.push (.lst D B acc)) vs).bs F H') v xs[i] := A.same (bsA_sub fun a ha => by
      show a ∈ (_ :: (cs ++ g.c)).filterMap Cell.addr
      rw [ad_mid adcs]
      exact ha) rv
    refine ht F _ σ H' v _ _ k3 rv' fun σ' k4 ew => ⟨ew, ?_⟩
    refine htt acc _ σ' H' _ ⟨k4, _, _, w, fun w1 H3 s3 => ?_, fun w2 H3 s3 => ?_⟩
    · show te σ' H3 _
      refine hte acc _ σ' H3 _ ⟨k4.step s3, _, w1, fun b u H4 p s4 r4 => ?_⟩
      have k5 := k2.step (s3.trans s4)
      obtain ⟨us, eD, pr⟩ := k5.cell (j := 0) rfl
      refine ⟨us, eD, ?_, Same.mut (((sm.trans sy).trans s3).trans s4) hD, acc ++ [b], ?_, ?_, p⟩
      · rw [Paired.len pr]
        exact Nat.lt_of_lt_of_le (Nat.lt_of_le_of_lt la (Nat.lt_trans hlt hl)) (by decide)
      · refine k5.mut (j := 0) rfl (Paired.app pr (.cons (B.same (bsA_sub fun a ha => ?_) r4) .nil))
        show a ∈ (tr (wipeG (g.push (.lst D B acc)) vs) xs[i]).c.filterMap Cell.addr
        rw [htr]
        have ha' : a ∈ (.lst D B acc :: (cs ++ g.c)).filterMap Cell.addr := ha
        rw [ad_mid adcs] at ha'
        exact ha'
      · rw [List.length_append, List.length_singleton]
        omega
    · show (Same H1 H3 ∧ _)
      exact ⟨(sm.trans sy).trans s3, acc, k2.step s3, Nat.le_succ_of_le la, w2⟩
  · rw [List.drop_of_length_le (by omega)] at w
    exact .inl ⟨it.2 i (by omega), hd acc H w sm k1⟩
section
variable {elt tg iter : Expr} {scope : Scope} {own : List (Str × Nat)} {pos : Pos} {A : Ty α} {B : Ty β} {gT : TG} {tr : Gm → α → Gm} {wl : (List α → Prop) → Prop} {wt : α → Prop → Prop → Prop} {we : α → (β → Prop) → Prop} {ifs : List Expr} {tt : TT}
theorem lc_all (ht : TgW A gT tr (own.map (·.2))) (htr : ∀ g a, (tr g a).c = g.c) (htt : ∀ D acc a σ H Q, RT F (tr (wipeG (g.push (.lst D B acc)) (own.map (·.2))) a) (wt a) σ H Q → tt σ H Q) : ∀ (σ : L2.St) (H : Hp) (Q : VK), RJ F g (rN B) (fun k => wl fun xs => xs.length < 1000000 ∧ wCompF wt we xs [] k) σ H Q →
    tLc (RI F g A wl (own.map (·.2))) gT tt (tExE fun (q : Addr × List β × α) => RJ F (tr (wipeG (g.push (.lst q.1 B q.2.1)) (own.map (·.2))) q.2.2) (rO B) (we q.2.2)) (own.map (·.2)) σ H Q := fun σ H Q ⟨k, P, w, q⟩ =>
  ⟨k, _, w, fun xs J cs H1 ⟨hl, w1⟩ s1 hcs k1 hJ D hD => lc_read (Qd := fun H' => Q (.ref D) H') hcs hJ ht (htt D) (fun acc a _ _ _ h => ⟨(D, acc, a), h⟩) htr hl k1 hD w1 fun ys H' p s2 k2 => by
    obtain ⟨us, eD, pr⟩ := k2.cell (j := 0) rfl
    have adcs : cs.filterMap Cell.addr = [] := List.filterMap_eq_nil_iff.mpr hcs
    have nD : D ∉ g.ad := fun m => by
      obtain ⟨_, o, e, _⟩ := k1.ad_some (p := D) (by show D ∈ (cs ++ g.c).filterMap Cell.addr; rw [List.filterMap_append, adcs]; exact m)
      rw [hD] at e
      cases e
    refine q ys (.ref D) H' p (s1.trans s2) ⟨D, us, rfl, s1.free hD, bsA_of nD ((k.same.trans s1).free hD) eD, Paired.imp (fun _ _ r => B.same ?_ r) pr⟩
    show Same (bsA F _ H') (rm (bsA F g.ad H') D)
    rw [← bsA_cons]
    exact bsA_sub fun a ha => by
      show a ∈ (_ :: (cs ++ g.c)).filterMap Cell.addr
      rw [ad_mid adcs]
      exact ha⟩
abbrev wYes : Prop → Prop → Prop := fun A _ => A
theorem wYes_eq : ∀ (xs : List α) (acc : List β) (k : List β → Prop), wComp we xs acc k → wCompF (fun _ => wYes) we xs acc k
  | [], _, _, h => h
  | x :: r, acc, k, h => by
    show we x fun y => wCompF (fun _ => wYes) we r (acc ++ [y]) k
    have e : (fun y => wCompF (fun _ => wYes) we r (acc ++ [y]) k) = fun y => wComp we r (acc ++ [y]) k := funext fun y => propext ⟨fun z => wYes_bk r _ k z, fun z => wYes_eq r _ k z⟩
    rw [e]
    exact h
where wYes_bk : ∀ (xs : List α) (acc : List β) (k : List β → Prop), wCompF (fun _ => wYes) we xs acc k → wComp we xs acc k
  | [], _, _, h => h
  | x :: r, acc, k, h => by
    show we x fun y => wComp we r (acc ++ [y]) k
    have e : (fun y => wComp we r (acc ++ [y]) k) = fun y => wCompF (fun _ => wYes) we r (acc ++ [y]) k := funext fun y => propext ⟨fun z => wYes_eq r _ k z, fun z => wYes_bk r _ k z⟩
    rw [e]
    exact h
theorem wYes_iff {xs : List α} {acc : List β} {k : List β → Prop} : wCompF (fun _ => wYes) we xs acc k = wComp we xs acc k := propext ⟨wYes_eq.wYes_bk xs acc k, wYes_eq xs acc k⟩
theorem tYes_of {t : Gm} {a : α} : ∀ (σ : L2.St) (H : Hp) (Q : Bool → Hp → Prop), RT F t wYes σ H Q → tYes σ H Q := fun σ H Q ⟨k, A, B, w, qa, _⟩ => qa w H (Same.refl H)
theorem je_comp (hi : PI X tg iter (RI F g A wl (own.map (·.2)))) (hN : X.N.Nodup) (ok : BlkOk X.N X.env.scope scope own) (ht : TgW A gT tr (own.map (·.2)))
    (hg : ∀ (s : Shared) (H : Hp) (C : Addr) (cl : List (Str × Addr)) (fp : List Addr), PG (X.blk s H scope (compEnvC scope cl C X.env) fp) tg gT)
    (he : ∀ (D : Addr) (acc : List β) (a : α) (s : Shared) (H : Hp) (C : Addr) (cl : List (Str × Addr)) (fp : List Addr), JE (X.blk s H scope (compEnvC scope cl C X.env) fp) F (tr (wipeG (g.push (.lst D B acc)) (own.map (·.2))) a) elt (rO B) (we a))
    (htr : ∀ g a, (tr g a).c = g.c := by intro _ _; rfl) (hc : X.calm = true := by rfl) (hs : ∀ x, foldedSetIterable iter X.env x = pure x := by intro _; rfl) : JE X F g (.ListComp elt [⟨tg, iter, [], 0⟩] scope pos) (rN B) (fun k => wl fun xs => xs.length < 1000000 ∧ wComp we xs [] k) :=
  peW (pe_lc hc hN hi ok hg (fun _ _ _ _ _ => pts_nil) (fun s H C cl fp => peE fun (q : Addr × List β × α) => he q.1 q.2.1 q.2.2 s H C cl fp) hs) fun σ H Q h => lc_all (wt := fun _ => wYes) ht htr (fun _ _ _ σ H Q h => tYes_of (a := ()) σ H Q h) σ H Q (by
    simp only [wYes_iff]
    exact h)
/-- with a test -/
theorem je_compF {c : Expr} (hi : PI X tg iter (RI F g A wl (own.map (·.2)))) (hN : X.N.Nodup) (ok : BlkOk X.N X.env.scope scope own) (ht : TgW A gT tr (own.map (·.2)))
    (hg : ∀ (s : Shared) (H : Hp) (C : Addr) (cl : List (Str × Addr)) (fp : List Addr), PG (X.blk s H scope (compEnvC scope cl C X.env) fp) tg gT)
    (htt : ∀ (D : Addr) (acc : List β) (a : α) (s : Shared) (H : Hp) (C : Addr) (cl : List (Str × Addr)) (fp : List Addr), JT (X.blk s H scope (compEnvC scope cl C X.env) fp) F (tr (wipeG (g.push (.lst D B acc)) (own.map (·.2))) a) c (wt a))
    (he : ∀ (D : Addr) (acc : List β) (a : α) (s : Shared) (H : Hp) (C : Addr) (cl : List (Str × Addr)) (fp : List Addr), JE (X.blk s H scope (compEnvC scope cl C X.env) fp) F (tr (wipeG (g.push (.lst D B acc)) (own.map (·.2))) a) elt (rO B) (we a))
    (htr : ∀ g a, (tr g a).c = g.c := by intro _ _; rfl) (hc : X.calm = true := by rfl) (hs : ∀ x, foldedSetIterable iter X.env x = pure x := by intro _; rfl) : JE X F g (.ListComp elt [⟨tg, iter, [c], 0⟩] scope pos) (rN B) (fun k => wl fun xs => xs.length < 1000000 ∧ wCompF wt we xs [] k) := by
  refine peW (pe_lc hc hN hi ok hg (fun s H C cl fp => pts_one (ptE (t := fun (q : Addr × List β × α) => RT F (tr (wipeG (g.push (.lst q.1 B q.2.1)) (own.map (·.2))) q.2.2) (wt q.2.2)) fun q => htt q.1 q.2.1 q.2.2 s H C cl fp)) (fun s H C cl fp => peE fun (q : Addr × List β × α) => he q.1 q.2.1 q.2.2 s H C cl fp) hs) fun σ H Q h => ?_
  exact lc_all ht htr (fun D acc a σ H Q h => ⟨(D, acc, a), h⟩) σ H Q h
/-- name = [..] -/
theorem ps_lc {i : Nat} {y : Str} {py spos : Pos} (hi : PI X tg iter (RI F g A wl (own.map (·.2)))) (hN : X.N.Nodup) (ok : BlkOk X.N X.env.scope scope own) (ht : TgW A gT tr (own.map (·.2)))
    (hg : ∀ (s : Shared) (H : Hp) (C : Addr) (cl : List (Str × Addr)) (fp : List Addr), PG (X.blk s H scope (compEnvC scope cl C X.env) fp) tg gT)
    (he : ∀ (D : Addr) (acc : List β) (a : α) (s : Shared) (H : Hp) (C : Addr) (cl : List (Str × Addr)) (fp : List Addr), JE (X.blk s H scope (compEnvC scope cl C X.env) fp) F (tr (wipeG (g.push (.lst D B acc)) (own.map (·.2))) a) elt (rO B) (we a))
    (hsw : swapsWith (.ListComp elt [⟨tg, iter, [], 0⟩] scope pos) (some (.Name y py)) spos.line X.env = pure true)
    (htr : ∀ g a, (tr g a).c = g.c := by intro _ _; rfl) (hy : X.N[i]? = some y := by rfl) (hyl : X.env.scope.names.lookup y = some .local := by rfl) (hc : X.calm = true := by rfl) (hs : ∀ x, foldedSetIterable iter X.env x = pure x := by intro _; rfl) :
    PS X (.Assign [.Name y py] (.ListComp elt [⟨tg, iter, [], 0⟩] scope pos) spos) (tAsg (RJ F g (rN B) (fun k => wl fun xs => xs.length < 1000000 ∧ wComp we xs [] k)) (gName i)) :=
  psW (ps_setLc (i := i) hc hN hy hyl hsw hi ok hg (fun _ _ _ _ _ => pts_nil) (fun s H C cl fp => peE fun (q : Addr × List β × α) => he q.1 q.2.1 q.2.2 s H C cl fp) hs) fun D σ H h => lc_all (wt := fun _ => wYes) ht htr (fun _ _ _ σ H Q h => tYes_of (a := ()) σ H Q h) σ H (fun x H1 => gName i x σ H1 D.nx) (by
    simp only [wYes_iff]
    exact h)
theorem ps_lcF {c : Expr} {i : Nat} {y : Str} {py spos : Pos} (hi : PI X tg iter (RI F g A wl (own.map (·.2)))) (hN : X.N.Nodup) (ok : BlkOk X.N X.env.scope scope own) (ht : TgW A gT tr (own.map (·.2)))
    (hg : ∀ (s : Shared) (H : Hp) (C : Addr) (cl : List (Str × Addr)) (fp : List Addr), PG (X.blk s H scope (compEnvC scope cl C X.env) fp) tg gT)
    (htt : ∀ (D : Addr) (acc : List β) (a : α) (s : Shared) (H : Hp) (C : Addr) (cl : List (Str × Addr)) (fp : List Addr), JT (X.blk s H scope (compEnvC scope cl C X.env) fp) F (tr (wipeG (g.push (.lst D B acc)) (own.map (·.2))) a) c (wt a))
    (he : ∀ (D : Addr) (acc : List β) (a : α) (s : Shared) (H : Hp) (C : Addr) (cl : List (Str × Addr)) (fp : List Addr), JE (X.blk s H scope (compEnvC scope cl C X.env) fp) F (tr (wipeG (g.push (.lst D B acc)) (own.map (·.2))) a) elt (rO B) (we a))
    (hsw : swapsWith (.ListComp elt [⟨tg, iter, [c], 0⟩] scope pos) (some (.Name y py)) spos.line X.env = pure true)
    (htr : ∀ g a, (tr g a).c = g.c := by intro _ _; rfl) (hy : X.N[i]? = some y := by rfl) (hyl : X.env.scope.names.lookup y = some .local := by rfl) (hc : X.calm = true := by rfl) (hs : ∀ x, foldedSetIterable iter X.env x = pure x := by intro _; rfl) :
    PS X (.Assign [.Name y py] (.ListComp elt [⟨tg, iter, [c], 0⟩] scope pos) spos) (tAsg (RJ F g (rN B) (fun k => wl fun xs => xs.length < 1000000 ∧ wCompF wt we xs [] k)) (gName i)) :=
  psW (ps_setLc (i := i) hc hN hy hyl hsw hi ok hg (fun s H C cl fp => pts_one (ptE (t := fun (q : Addr × List β × α) => RT F (tr (wipeG (g.push (.lst q.1 B q.2.1)) (own.map (·.2))) q.2.2) (wt q.2.2)) fun q => htt q.1 q.2.1 q.2.2 s H C cl fp)) (fun s H C cl fp => peE fun (q : Addr × List β × α) => he q.1 q.2.1 q.2.2 s H C cl fp) hs) fun D σ H h => lc_all ht htr (fun D acc a σ H Q h => ⟨(D, acc, a), h⟩) σ H (fun x H1 => gName i x σ H1 D.nx) h
end
section
variable {rest : List Stmt} {st : Stmt} {i : Nat} {A : Ty α}
/-- a new list at a name: one that will be changed, one that will not -/
theorem js_stN {we : (List α → Prop) → Prop} {wr : List α → Prop} {D : Ends} (p : PS X st (tAsg (RJ F g (rN A) we) (gName i))) (hr : ∀ p xs, JSs X F ((g.push (.lst p A xs)).set i (.at p)) rest D (wr xs)) : JSs X F g (st :: rest) D (we fun xs => wLet xs wr) :=
  pssW (pss_cons p (pssE (t := fun (pr : Addr × List α) => RS F ((g.push (.lst pr.1 A pr.2)).set i (.at pr.1)) D (wr pr.2)) fun pr => hr pr.1 pr.2)) fun D' σ H ⟨e, o, q⟩ =>
    ⟨o, wr, q, fun xs v H1 p s ⟨l, vs, ev, h0, h1, r⟩ => ⟨(l, xs), e, (o.new s h0 h1 r).set (t := .at l) (v := v) (by rw [ev]; rfl), p⟩⟩
theorem js_stF {we : (List α → Prop) → Prop} {wr : List α → Prop} {D : Ends} (p : PS X st (tAsg (RJ F g (rN A) we) (gName i))) (hr : ∀ xs, JSs X F (g.set i (.val (tK A) xs)) rest D (wr xs)) : JSs X F g (st :: rest) D (we fun xs => wLet xs wr) :=
  pssW (pss_cons p (pssE hr)) fun D' σ H ⟨e, o, q⟩ => ⟨o, wr, q, fun xs v H1 p s ⟨l, vs, ev, h0, h1, r⟩ => ⟨xs, e, (o.step s).set ⟨v, rfl, l, vs, ev, h1, Paired.imp (fun _ _ r => A.same rm_le r) r⟩, p⟩⟩
end
end
end J
namespace J
open PySem PySem.Spec L2
section
variable {X : Cx} {F : Fr} {g : Gm} {α β γ δ ρ τ : Type} {K : PySem.W.Frag}
class Dat (K : PySem.W.Frag) (A : Ty α) [POk α] [DecidableEq α] where
  enc : α → PyData
  dp : ∀ {H : Hp} {v : V} {a : α}, A.rel H v a → Dp K H v (enc a)
  lay : ∀ a, POk.pok a → (enc a).canLay0 = true
  n : Nat
  dep : ∀ a, POk.pok a → (enc a).depth ≤ n
  eqv : ∀ a b, PyData.eqv (enc a) (enc b) = decide (a = b)
instance : Dat K tI where
  enc := .int
  dp := fun h => by
    cases h
    exact .int _
  lay := fun _ _ => by simp [PyData.canLay0]
  n := 0
  dep := fun _ _ => by simp [PyData.depth]
  eqv := fun a b => by simp [PyData.eqv, Bool.beq_eq_decide_eq]
instance : Dat K tB where
  enc := .bool
  dp := fun h => by
    cases h
    exact .bl _
  lay := fun _ _ => by simp [PyData.canLay0]
  n := 0
  dep := fun _ _ => by simp [PyData.depth]
  eqv := fun a b => by simp [PyData.eqv, Bool.beq_eq_decide_eq]
instance : Dat K tS where
  enc := .str
  dp := fun h => by
    cases h
    exact .str _
  lay := fun a h => by
    have h' : PyData.strOk a = true := h
    simp [PyData.canLay0, h']
  n := 0
  dep := fun _ _ => by simp [PyData.depth]
  eqv := fun a b => by
    unfold PyData.eqv
    by_cases h : a = b
    · subst h
      simp
    · rw [decide_eq_false h]
      exact beq_false_of_ne h
instance {A : Ty α} {B : Ty β} [POk α] [DecidableEq α] [POk β] [DecidableEq β] [dA : Dat K A] [dB : Dat K B] : Dat K (tT K (a2 A B)) where
  enc := fun t => .tuple [dA.enc t.1, dB.enc t.2]
  dp := fun ⟨a, vs, e, hs, x, y, e2, h1, h2⟩ => by
    subst e e2
    exact .tup hs (.cons (dA.dp h1) (.cons (dB.dp h2) .nil))
  lay := fun t h => by
    simp [PyData.canLay0, PyData.canLayAll0, dA.lay _ h.1, dB.lay _ h.2]
  n := max dA.n dB.n + 1
  dep := fun t hp => by
    have h1 := dA.dep t.1 hp.1
    have h2 := dB.dep t.2 hp.2
    simp only [PyData.depth, PyData.depthAll]
    omega
  eqv := fun s t => by
    have h1 := dA.eqv s.1 t.1
    have h2 := dB.eqv s.2 t.2
    obtain ⟨a, b⟩ := s
    obtain ⟨c, d⟩ := t
    simp only [PyData.eqv, PyData.eqvAll, h1, h2]
    by_cases e1 : a = c <;> by_cases e2 : b = d <;> simp [e1, e2]
instance {A : Ty α} {B : Ty β} {C : Ty γ} [POk α] [DecidableEq α] [POk β] [DecidableEq β] [POk γ] [DecidableEq γ] [dA : Dat K A] [dB : Dat K B] [dC : Dat K C] : Dat K (tT K (a3 A B C)) where
  enc := fun t => .tuple [dA.enc t.1, dB.enc t.2.1, dC.enc t.2.2]
  dp := fun ⟨a, vs, e, hs, x, y, z, e2, h1, h2, h3⟩ => by
    subst e e2
    exact .tup hs (.cons (dA.dp h1) (.cons (dB.dp h2) (.cons (dC.dp h3) .nil)))
  lay := fun t h => by
    simp [PyData.canLay0, PyData.canLayAll0, dA.lay _ h.1, dB.lay _ h.2.1, dC.lay _ h.2.2]
  n := max dA.n (max dB.n dC.n) + 1
  dep := fun t hp => by
    have h1 := dA.dep t.1 hp.1
    have h2 := dB.dep t.2.1 hp.2.1
    have h3 := dC.dep t.2.2 hp.2.2
    simp only [PyData.depth, PyData.depthAll]
    omega
  eqv := fun s t => by
    have h1 := dA.eqv s.1 t.1
    have h2 := dB.eqv s.2.1 t.2.1
    have h3 := dC.eqv s.2.2 t.2.2
    obtain ⟨a, b, c⟩ := s
    obtain ⟨d, e, f⟩ := t
    simp only [PyData.eqv, PyData.eqvAll, h1, h2, h3]
    by_cases e1 : a = d <;> by_cases e2 : b = e <;> by_cases e3 : c = f <;> simp [e1, e2, e3]
theorem all_dp {A : Ty α} [POk α] [DecidableEq α] [dA : Dat K A] {H : Hp} : ∀ {vs : List V} {xs : List α}, Paired (A.rel H) vs xs → DpAll K H vs (xs.map dA.enc)
  | _, _, .nil => .nil
  | _, _, .cons h r => .cons (dA.dp h) (all_dp r)
theorem all_lay {A : Ty α} [POk α] [DecidableEq α] [dA : Dat K A] : ∀ {xs : List α}, (∀ x ∈ xs, POk.pok x) → PyData.canLayAll0 (xs.map dA.enc) = true
  | [], _ => by simp [PyData.canLayAll0]
  | x :: r, h => by
    have h1 := dA.lay x (h x List.mem_cons_self)
    have h2 := all_lay (dA := dA) (xs := r) fun y hy => h y (List.mem_cons_of_mem _ hy)
    simp [PyData.canLayAll0, h1, h2]
theorem all_dep {A : Ty α} [POk α] [DecidableEq α] [dA : Dat K A] : ∀ (xs : List α), (∀ x ∈ xs, POk.pok x) → PyData.depthAll (xs.map dA.enc) ≤ dA.n
  | [], _ => by simp [PyData.depthAll]
  | x :: r, hp => by
    have h1 := dA.dep x (hp x List.mem_cons_self)
    have h2 := all_dep (dA := dA) r fun y hy => hp y (List.mem_cons_of_mem _ hy)
    simp only [List.map_cons, PyData.depthAll]
    omega
theorem all_eqv {A : Ty α} [POk α] [DecidableEq α] [dA : Dat K A] : ∀ (xs ys : List α), PyData.eqvAll (xs.map dA.enc) (ys.map dA.enc) = decide (xs = ys)
  | [], [] => by simp [PyData.eqvAll]
  | [], _ :: _ => by simp [PyData.eqvAll]
  | _ :: _, [] => by simp [PyData.eqvAll]
  | x :: r, y :: t => by
    have h1 := dA.eqv x y
    have h2 := all_eqv (dA := dA) r t
    simp only [List.map_cons, PyData.eqvAll, h1, h2]
    by_cases e1 : x = y <;> by_cases e2 : r = t <;> simp [e1, e2]
instance {A : Ty α} [POk α] [DecidableEq α] [dA : Dat K A] : Dat K (tL K A) where
  enc := fun xs => .list (xs.map dA.enc)
  dp := fun ⟨a, vs, e, hs, r⟩ => by
    subst e
    exact .lst hs (all_dp r)
  lay := fun xs h => by
    simp only [PyData.canLay0]
    exact all_lay h
  n := dA.n + 1
  dep := fun xs hp => by
    have := all_dep (dA := dA) xs hp
    simp only [PyData.depth]
    omega
  eqv := fun xs ys => by
    simp only [PyData.eqv]
    exact all_eqv xs ys
instance {A : Ty α} [POk α] [DecidableEq α] [dA : Dat K A] : Dat K (tK A) where
  enc := fun xs => .list (xs.map dA.enc)
  dp := fun ⟨a, vs, e, hs, r⟩ => by
    subst e
    exact .lst (.inl (.inl hs)) (all_dp r)
  lay := fun xs h => by
    simp only [PyData.canLay0]
    exact all_lay h
  n := dA.n + 1
  dep := fun xs hp => by
    have := all_dep (dA := dA) xs hp
    simp only [PyData.depth]
    omega
  eqv := fun xs ys => by
    simp only [PyData.eqv]
    exact all_eqv xs ys
instance {A : Ty α} [POk α] [DecidableEq α] [dA : Dat K A] : Dat K (tT K (aV A)) where
  enc := fun xs => .tuple (xs.map dA.enc)
  dp := fun ⟨a, vs, e, hs, r⟩ => by
    subst e
    exact .tup hs (all_dp r)
  lay := fun xs h => by
    simp only [PyData.canLay0]
    exact all_lay h
  n := dA.n + 1
  dep := fun xs hp => by
    have := all_dep (dA := dA) xs hp
    simp only [PyData.depth]
    omega
  eqv := fun xs ys => by
    simp only [PyData.eqv]
    exact all_eqv xs ys
theorem shaped_of {A : Ty α} [POk α] [DecidableEq α] [dA : Dat K A] (hn : dA.n ≤ 64) {a : α} (h : POk.pok a) : SeqAt.shaped (dA.enc a) = true := by
  have h1 := dA.lay a h
  have h2 := dA.dep a h
  have h3 : decide ((dA.enc a).depth ≤ 64) = true := decide_eq_true (by omega)
  unfold SeqAt.shaped
  rw [h1, h3]
  rfl
section
variable {a b : Expr} {pos : Pos} {A : Ty α} {wa wb : (α → Prop) → Prop}
theorem eqD_r {A : Ty α} [POk α] [DecidableEq α] [dA : Dat K A] (hn : dA.n ≤ 64) : CmpOk F g (rB A) (rB A) (rEqD K) (fun x y k => POk.pok x ∧ POk.pok y ∧ k (decide (x = y))) :=
  fun _ x y _ _ H v u P Q _ h1 h2 ⟨p1, p2, p⟩ q => ⟨_, _, dA.dp h1, dA.dp h2, shaped_of hn p1, shaped_of hn p2, by rw [dA.eqv]; exact q _ H p (Same.refl H)⟩
theorem neD_r {A : Ty α} [POk α] [DecidableEq α] [dA : Dat K A] (hn : dA.n ≤ 64) : CmpOk F g (rB A) (rB A) (rNeD K) (fun x y k => POk.pok x ∧ POk.pok y ∧ k (!decide (x = y))) :=
  fun _ x y _ _ H v u P Q _ h1 h2 ⟨p1, p2, p⟩ q => ⟨_, _, dA.dp h1, dA.dp h2, shaped_of hn p1, shaped_of hn p2, by rw [dA.eqv]; exact q _ H p (Same.refl H)⟩
variable [POk α] [DecidableEq α] [dA : Dat K A]
theorem je_eqD (hu : X.A.units + 64 < cLine) (ha : JE X F g a (rB A) wa) (hb : JE X F g b (rB A) wb) (hK : X.K = K := by rfl) (hn : Nat.ble dA.n 64 = true := by rfl) : JE X F g (.Compare a [.Eq] [b] pos) (rO tB) (fun k => wa fun x => wb fun y => (POk.pok x ∧ POk.pok y ∧ k (decide (x = y)))) := by
  subst hK
  exact je_cmpR (C := fun x y k => POk.pok x ∧ POk.pok y ∧ k (decide (x = y))) (op_eqD hu) (eqD_r (Nat.le_of_ble_eq_true hn)) ha hb (nomark _)
theorem jt_eqD (hu : X.A.units + 64 < cLine) (ha : JE X F g a (rB A) wa) (hb : JE X F g b (rB A) wb) (hK : X.K = K := by rfl) (hn : Nat.ble dA.n 64 = true := by rfl) : JT X F g (.Compare a [.Eq] [b] pos) (fun Ya No => wa fun x => wb fun y => (POk.pok x ∧ POk.pok y ∧ (((decide (x = y)) = true → Ya) ∧ ((decide (x = y)) = false → No)))) := by
  subst hK
  exact jt_cmpR (C := fun x y k => POk.pok x ∧ POk.pok y ∧ k (decide (x = y))) (op_eqD hu) (eqD_r (Nat.le_of_ble_eq_true hn)) ha hb (nomark _)
theorem jt_neD (hu : X.A.units + 64 < cLine) (ha : JE X F g a (rB A) wa) (hb : JE X F g b (rB A) wb) (hK : X.K = K := by rfl) (hn : Nat.ble dA.n 64 = true := by rfl) : JT X F g (.Compare a [.NotEq] [b] pos) (fun Ya No => wa fun x => wb fun y => (POk.pok x ∧ POk.pok y ∧ (((!decide (x = y)) = true → Ya) ∧ ((!decide (x = y)) = false → No)))) := by
  subst hK
  exact jt_cmpR (C := fun x y k => POk.pok x ∧ POk.pok y ∧ k (!decide (x = y))) (op_neD hu) (neD_r (Nat.le_of_ble_eq_true hn)) ha hb (nomark _)
end
section
variable {a b e : Expr} {pos p : Pos} {A : Ty α} {wa wb : (List α → Prop) → Prop}
/-- arguments of any reading -/
def RA1 {ρ : Type} (F : Fr) (g : Gm) (S : Res ρ) (w : (ρ → Prop) → Prop) : TA := fun σ H Q => g.Ok F σ H ∧ ∃ P, w P ∧ ∀ t v H', P t → Same H H' → S.rel H (g.bs F H') H' v t → Q [v] H'
theorem ja_1 {S : Res ρ} {w : (ρ → Prop) → Prop} (ha : JE X F g e S w) (hs : starEach [e] X.env = (false, eval e X.env) :: starEach [] X.env) : PA X [e] (RA1 F g S w) :=
  paW (pa_cons ha pa_nil hs) fun σ H Q ⟨k, P, w, q⟩ => ⟨k, _, w, fun x v H1 w1 s1 r1 => q x v H1 w1 s1 r1⟩
theorem je_listL (hg : Gl X "list") (hm : X.mg "list" = none) (ha : JE X F g e (rE X.K A) wa) (he : starEach [e] X.env = (false, eval e X.env) :: starEach [] X.env := by rfl) (hpl : (backTo pos (starEach [] X.env)).any (·.1) = false := by rfl) :
    JE X F g (.Call (.Name "list" p) [e] [] pos) (rN A) wa :=
  peW (pe_callTy call_list_of hg hm (by decide +kernel) (ja_1 ha he) (by decide) (by decide) he hpl) fun σ H Q ⟨k, P, w, q⟩ => ⟨k, P, w, fun xs v H1 w1 s1 ⟨a, us, ev, hs, hp⟩ => ⟨a, us, by rw [ev], .inl hs, fun l hl => q xs _ _ w1 (s1.trans (same_upd hl)) ⟨l, us, rfl, s1.free hl, (k.step s1).bs_new hl, Paired.imp (fun _ _ r => A.same ((k.step s1).rm_new hl) r) hp⟩⟩⟩
theorem je_tupleL (hg : Gl X "tuple") (hm : X.mg "tuple" = none) (ha : JE X F g e (rE X.K A) wa) (he : starEach [e] X.env = (false, eval e X.env) :: starEach [] X.env := by rfl) (hpl : (backTo pos (starEach [] X.env)).any (·.1) = false := by rfl) :
    JE X F g (.Call (.Name "tuple" p) [e] [] pos) (rO (tT X.K (aV A))) wa :=
  peW (pe_callTy call_tuple_of hg hm (by decide +kernel) (ja_1 ha he) (by decide) (by decide) he hpl) fun σ H Q ⟨k, P, w, q⟩ => ⟨k, P, w, fun xs v H1 w1 s1 ⟨a, us, ev, hs, hp⟩ => ⟨a, us, by rw [ev], .inl ⟨hs, fun l hl => q xs _ _ w1 (s1.trans (same_upd hl)) ⟨l, us, rfl, .inl (.inl ((k.step s1).bs_new hl)), Paired.imp (fun _ _ r => A.same (Gm.mono (same_upd hl)) r) hp⟩⟩⟩⟩
theorem je_listR {n : Expr} {w : (Int → Prop) → Prop} {p2 pos2 : Pos} (hg : Gl X "list") (hm : X.mg "list" = none) (hgr : Gl X "range") (hmr : X.mg "range" = none) (hn : JE X F g n (rO tI) w) (na0 : starEach [n] X.env = (false, eval n X.env) :: starEach [] X.env := by rfl) (hc : X.calm = true := by rfl)
    (na : starEach [.Call (.Name "range" p2) [n] [] pos2] X.env = (false, eval (.Call (.Name "range" p2) [n] [] pos2) X.env) :: starEach [] X.env := by rfl) : JE X F g (.Call (.Name "list" p) [.Call (.Name "range" p2) [n] [] pos2] [] pos) (rN tI) (fun k => w fun i => (-1000000 ≤ i ∧ i ≤ 1000000) ∧ k (rangeI 0 i)) :=
  peW (pe_listRg hc hg hm (prg_1 hgr hmr hn na0) na) fun σ H Q ⟨k, P, w, q⟩ => ⟨k, _, w, fun i v H1 ⟨w1, w2⟩ s1 r1 => ⟨i, r1, ⟨by omega, by omega, by omega, by omega, by omega⟩, fun l hl => q (rangeI 0 i) _ _ w2 (s1.trans (same_upd hl)) ⟨l, _, rfl, s1.free hl, (k.step s1).bs_new hl, by
    have e : rgV 0 i = (rangeI 0 i).map V.int := by
      unfold rgV rangeI
      rw [List.map_map]
      rfl
    rw [e]
    exact paired_ints _⟩⟩⟩
theorem je_sorted {w : (List Int → Prop) → Prop} (hg : Gl X "sorted") (hm : X.mg "sorted" = none) (ha : JE X F g e (rB (tL X.K tI)) w) (he : starEach [e] X.env = (false, eval e X.env) :: starEach [] X.env := by rfl) (hpl : (backTo pos (starEach [] X.env)).any (·.1) = false := by rfl) :
    JE X F g (.Call (.Name "sorted" p) [e] [] pos) (rN tI) (fun k => w fun xs => ∀ ys : List Int, ys.Perm xs → ys.Pairwise (· ≤ ·) → k ys) :=
  je_callB (T := aC (tL X.K tI) aN) (R := rN tI) (C := fun t k => ∀ ys : List Int, ys.Perm t.1 → ys.Pairwise (· ≤ ·) → k ys) cr_sortedI (fun _ t H vs P Q k ⟨v, r, e1, ⟨a, us, ev, hs, hp⟩, e2⟩ c q => ⟨a, t.1, by rw [e1, (e2 : r = []), ev], by rw [← paired_int hp]; exact hs, fun ys l h1 h2 hl => q ys _ _ (c ys h1 h2) (same_upd hl) ⟨l, _, rfl, hl, k.bs_new hl, paired_ints ys⟩⟩) hg hm (by decide +kernel) (jb_cons ha jb_nil he) (by decide) (by decide) he hpl
end
class Flat (A : Ty α) [DecidableEq α] : Prop where
  flat : ∀ {H : Hp} {v : V} {a : α}, A.rel H v a → flatV v = true
  eqv : ∀ {H : Hp} {v u : V} {a b : α}, A.rel H v a → A.rel H u b → eqV v u = decide (a = b)
instance : Flat tI := ⟨fun h => by cases h; rfl, fun {H v u a b} h k => by
  cases h
  cases k
  show (a == b) = decide (a = b)
  exact Bool.beq_eq_decide_eq a b⟩
instance : Flat tS := ⟨fun h => by cases h; rfl, fun {H v u a b} h k => by
  cases h
  cases k
  show (a == b) = decide (a = b)
  by_cases e : a = b
  · subst e
    rw [decide_eq_true rfl]
    exact beq_self_eq_true a
  · rw [decide_eq_false e]
    exact beq_false_of_ne e⟩
theorem all_flat {A : Ty α} [DecidableEq α] [fA : Flat A] {H : Hp} : ∀ {vs : List V} {xs : List α}, Paired (A.rel H) vs xs → vs.all flatV = true
  | _, _, .nil => rfl
  | _, _, .cons h r => by rw [List.all_cons, fA.flat h, all_flat r]; rfl
theorem inV_eq {A : Ty α} [DecidableEq α] [fA : Flat A] {H : Hp} {v : V} {a : α} (h : A.rel H v a) : ∀ {vs : List V} {xs : List α}, Paired (A.rel H) vs xs → inV v vs = decide (a ∈ xs)
  | _, _, .nil => by
    show false = _
    rw [decide_eq_false (by simp)]
  | _, _, .cons (a := u) (b := b) hu r => by
    have ih := inV_eq h r
    unfold inV at ih ⊢
    rw [List.any_cons, ih, fA.eqv hu h]
    by_cases e : b = a
    · subst e
      simp
    · have e' : ¬ a = b := fun z => e z.symm
      simp [e, e']
section
variable {a b : Expr} {pos : Pos} {A : Ty α} [DecidableEq α] [fA : Flat A] {wa : (α → Prop) → Prop} {wb : (List α → Prop) → Prop}
theorem inL_r (neg : Bool) : CmpOk F g (rO A) (rB (tL K A)) (rIn K neg) (fun x y k => k (if neg then !memJ x y else memJ x y)) :=
  fun _ x y _ _ H v u P Q k h1 ⟨l, us, ev, hs, hp⟩ p q => ⟨l, us, ev, .inl hs, fA.flat h1, all_flat hp, by rw [inV_eq (A.same k.le h1) hp]; exact q _ H p (Same.refl H)⟩
theorem jt_niL (ha : JE X F g a (rO A) wa) (hb : JE X F g b (rB (tL X.K A)) wb) (hm : behindInMarks .NotIn b = false := by rfl) : JT X F g (.Compare a [.NotIn] [b] pos) (fun Ya No => wa fun x => wb fun y => (((!memJ x y) = true → Ya) ∧ ((!memJ x y) = false → No))) := jt_cmpR (C := fun x y k => k (!memJ x y)) op_notIn_seq (inL_r true) ha hb hm
end
end
end J
namespace J
open PySem PySem.Spec L2
section
variable {X : Cx} {F : Fr} {g : Gm} {α β γ δ ρ τ : Type} {K : PySem.W.Frag} {rest : List Stmt} {pos : Pos}
theorem ixW_N {n : Nat} {i : Int} {m : Nat} (h : ixW n i = some m) : ixN n i = some m := by
  unfold ixW at h
  unfold ixN
  by_cases h0 : 0 ≤ i
  · rw [if_pos h0]
    by_cases h1 : i < (n : Int)
    · rw [if_pos ⟨h0, h1⟩] at h
      rw [if_pos h1]
      exact h
    · rw [if_neg (by omega), if_neg (by omega)] at h
      cases h
  · rw [if_neg h0]
    rw [if_neg (by omega)] at h
    by_cases h1 : 0 ≤ i + (n : Int)
    · rw [if_pos ⟨by omega, h1⟩] at h
      rw [if_pos (by omega)]
      exact h
    · rw [if_neg (by omega)] at h
      cases h
theorem bs_mut {H : Hp} {j : Nat} {p : Addr} {A : Ty α} {xs ys : List α} {o : HO} (hj : g.c[j]? = some (.lst p A xs)) : (⟨g.s, g.c.set j (.lst p A ys)⟩ : Gm).bs F (upd H p o) = g.bs F H := by
  show bsA F ((g.c.set j (.lst p A ys)).filterMap Cell.addr) _ = bsA F g.ad H
  rw [ad_set (c' := .lst p A ys) hj rfl]
  exact bsA_upd (Gm.mem_ad (List.mem_of_getElem? hj) rfl)
/-- ys.append(xs.pop(e)) -/
theorem js_appPop {call : Expr} {i j i2 j2 : Nat} {l l2 : Addr} {A : Ty α} {xs ys : List α} {we : (Int → Prop) → Prop} {wr : α → List α → Prop} {D : Ends}
    (hm : PE X call (tBM X.K "list" rAppend (tVar i) (tCons (tBM X.K "list" rPopAt (tVar i2) (tCons (RJ F g (rO tI) we) tNil)) tNil)))
    (hr : ∀ x zs, JSs X F ⟨g.s, (g.c.set j2 (.lst l2 A zs)).set j (.lst l A (ys ++ [x]))⟩ rest D (wr x zs)) (hs : g.s[i]? = some (.at l)) (hc : g.c[j]? = some (.lst l A ys)) (hs2 : g.s[i2]? = some (.at l2)) (hc2 : g.c[j2]? = some (.lst l2 A xs)) (hj : j2 ≠ j)
    (hsw : swapsWith call none pos.line X.env = pure false := by rfl) :
    JSs X F g (.Expr call pos :: rest) D (we fun k => (0 ≤ k ∧ k < (xs.length : Int)) ∧ ys.length < 1000000 ∧ xs.length < 1000000 ∧ ∃ x, xs[k.toNat]? = some x ∧ wLet (xs.eraseIdx k.toNat) (wr x)) := by
  refine pssW (pss_cons (ps_expr hm hsw) (pssE (t := fun (p : α × List α) => RS F ⟨g.s, (g.c.set j2 (.lst l2 A p.2)).set j (.lst l A (ys ++ [p.1]))⟩ D (wr p.1 p.2)) fun p => hr p.1 p.2)) fun D' σ H ⟨e, k, w⟩ => ?_
  obtain ⟨us, hl, pr⟩ := k.cell hc
  obtain ⟨us2, hl2, pr2⟩ := k.cell hc2
  refine ⟨_, k.ref hs, .inl ⟨rfl, us, .inl (.inl hl)⟩, _, k.ref hs2, .inl ⟨rfl, us2, .inl (.inl hl2)⟩, k, _, w, fun n v H1 ⟨⟨n0, n1⟩, y1, x1, x, hx, w1⟩ s1 rn => ?_⟩
  have k1 := k.step s1
  obtain ⟨vs, gl, qr⟩ := k1.cell hc
  obtain ⟨vs2, gl2, qr2⟩ := k1.cell hc2
  obtain ⟨u, hu, ru⟩ := Paired.at qr2 hx
  have e2 := Paired.len qr2
  have sq : seqIndex? n vs2.length = some n.toNat := by
    unfold seqIndex?
    have h1 : ¬ n < 0 := by omega
    have h2 : n < (vs2.length : Int) := by omega
    simp only [if_neg h1]
    rw [if_pos (by simp [n0, h2])]
  have ne : l ≠ l2 := fun z => by
    subst z
    exact hj (addr_of_get hc rfl k.nd j2 _ hc2 rfl)
  have er : Paired (A.rel (g.bs F H1)) (vs2.eraseIdx n.toNat) (xs.eraseIdx n.toNat) := by
    rw [List.eraseIdx_eq_take_drop_succ, List.eraseIdx_eq_take_drop_succ]
    exact Paired.app (Paired.take _ qr2) (Paired.drop _ qr2)
  have k2 := k1.mut hc2 er
  have gl' : (upd H1 l2 (.lst (vs2.eraseIdx n.toNat))) l = some (.lst vs) := by rw [upd_ne ne]; exact gl
  have hc' : (g.c.set j2 (.lst l2 A (xs.eraseIdx n.toNat)))[j]? = some (.lst l A ys) := by rw [List.getElem?_set_ne hj]; exact hc
  obtain ⟨vs', gl3, qr3⟩ := k2.cell hc'
  rw [gl'] at gl3
  have ev : vs = vs' := by
    injection gl3 with z
    injection z
  subst ev
  refine ⟨l2, vs2, n, n.toNat, u, rfl, by rw [(rn : v = _)], gl2, by omega, by omega, sq, hu, l, vs, u, rfl, rfl, gl', ?_, (x, xs.eraseIdx n.toNat), e, ?_⟩
  · rw [Paired.len qr]
    exact Nat.lt_of_lt_of_le y1 (by decide)
  · exact ⟨k2.mut hc' (Paired.app qr3 (.cons (by rw [bs_mut hc2]; exact ru) .nil)), w1⟩
section
variable {a b : Expr} {wa wb : (Bool → Prop) → Prop}
theorem isB_r : CmpOk F g (rO tB) (rO tB) rIsB (fun x y k => k (decide (x = y))) := fun _ x y _ _ H v u P Q _ h1 h2 p q => ⟨x, y, h1, h2, q _ H p (Same.refl H)⟩
theorem notB_r : CmpOk F g (rO tB) (rO tB) rNotB (fun x y k => k (!decide (x = y))) := fun _ x y _ _ H v u P Q _ h1 h2 p q => ⟨x, y, h1, h2, q _ H p (Same.refl H)⟩
theorem je_isB (ha : JE X F g a (rO tB) wa) (hb : JE X F g b (rO tB) wb) : JE X F g (.Compare a [.Is] [b] pos) (rO tB) (fun k => wa fun x => wb fun y => k (decide (x = y))) := je_cmpR (C := fun x y k => k (decide (x = y))) op_isBl isB_r ha hb (nomark _)
theorem jt_isB (ha : JE X F g a (rO tB) wa) (hb : JE X F g b (rO tB) wb) : JT X F g (.Compare a [.Is] [b] pos) (fun A B => wa fun x => wb fun y => (decide (x = y) = true → A) ∧ (decide (x = y) = false → B)) := jt_cmpR (C := fun x y k => k (decide (x = y))) op_isBl isB_r ha hb (nomark _)
theorem jt_isnB (ha : JE X F g a (rO tB) wa) (hb : JE X F g b (rO tB) wb) : JT X F g (.Compare a [.IsNot] [b] pos) (fun A B => wa fun x => wb fun y => ((!decide (x = y)) = true → A) ∧ ((!decide (x = y)) = false → B)) := jt_cmpR (C := fun x y k => k (!decide (x = y))) op_notBl notB_r ha hb (nomark _)
end
end
end J
namespace J
open PySem PySem.Spec L2 PyProof.Rows ClX
section
variable {X : Cx} {F : Fr} {g : Gm} {α β γ ρ τ κ : Type}
/-- an instance of C with the fields ns -/
def tC (C : Addr) (ns : List Str) (U : ATy κ) : Ty κ := ⟨fun H v t => ∃ a dx vs, v = .ref a ∧ H a = some (.ins C dx (ns.zip vs)) ∧ vs.length = ns.length ∧ U.rel H vs t, fun s ⟨a, dx, vs, e, h, l, r⟩ => ⟨a, dx, vs, e, s _ _ h, l, U.same s r⟩⟩
def a1 (A : Ty α) : ATy α := ⟨fun H vs t => ∃ x, vs = [x] ∧ A.rel H x t, fun s ⟨x, e, h1⟩ => ⟨x, e, A.same s h1⟩⟩
section
variable {C f p : Addr} {ns : List Str} {U : ATy κ} {A : Ty α} {B : Ty β} {e : Expr} {es : List Expr} {fl m x : Str} {pos apos np : Pos} {n : Nat} {fd : FuncData} {ps : List Str} {T : ATy τ} {R : Res ρ}
/-- e.fl -/
theorem je_fld {h : κ → α} {w : (κ → Prop) → Prop} (he : JE X F g e (rO (tC C ns U)) w) (c : Cls X.K C) (na : NoAttr X.K C fl) (hl : ∀ H vs t, U.rel H vs t → ∃ v, (ns.zip vs).lookup fl = some v ∧ A.rel H v (h t)) (hb : attributeBase e fl X.env (eval e X.env) = eval e X.env := by rfl) :
    JE X F g (.Attribute e fl pos) (rO A) (fun k => w fun t => k (h t)) :=
  peW (pe_fld he hb) fun σ H Q ⟨k, P, w, q⟩ => ⟨k, _, w, fun t v H1 p s ⟨a, dx, vs, e1, h1, _, r⟩ => by
    obtain ⟨y, hy, ry⟩ := hl _ _ _ r
    exact ⟨a, C, dx, _, y, e1, (k.step s).le _ _ h1, c, na, hy, q (h t) y H1 p s ry⟩⟩
/-- a property -/
theorem je_prop {w : κ × Unit → (ρ → Prop) → Prop} {wa : (κ → Prop) → Prop} (he : JE X F g e (rO (tC C ns U)) wa) (c : Cls X.K C) (hp : PropOf X.K C fl p f) (Fn : FnOk X.prog X.w X.K X.mg X.base CX0 n f fd ps (spJ (aC (tC C ns U) aN) R w)) (hr : Room (n + 1) X.A) (hb : Binds X.K fd ps [])
    (hab : attributeBase e fl X.env (eval e X.env) = eval e X.env := by rfl) : JE X F g (.Attribute e fl pos) R (fun k => wa fun t => w (t, ()) k) :=
  peW (pe_prop he c hp Fn hr hb .nil pass0 hab) fun σ H Q ⟨k, P, w, q⟩ => ⟨k, _, w, fun t v H1 w1 s1 r1 => by
    obtain ⟨a, dx, vs, e1, h1, hl, ht⟩ := r1
    have k1 := k.step s1
    exact ⟨a, dx, _, e1, k1.le _ _ h1, (t, ()), P, k1.fr, rfl, ⟨.ref a, [], rfl, ⟨a, dx, vs, rfl, h1, hl, ht⟩, rfl⟩, w1, fun r v H2 p s2 r2 => q r v H2 p (s1.trans s2) (R.pre s1 (R.same (k1.back s2) (Same.refl _) r2))⟩⟩
/-- what __init__ promises: at a new instance; F.H is the heap ahead of it -/
def spI (C : Addr) (ns : List Str) (T : ATy τ) (U : ATy κ) (w : τ → (κ → Prop) → Prop) : Sp := fun vs H Q _ => ∃ (x dx : Addr) (ws : List V) (t : τ) (P : κ → Prop) (F : Fr), vs = .ref x :: ws ∧ F.H x = none ∧ F.H dx = none ∧ dx ≠ x ∧ H = upd (upd F.H dx (.own x)) x (.ins C dx []) ∧ T.rel F.B ws t ∧ w t P ∧
  ∀ u H2, P u → Same F.H H2 → (tC C ns U).rel (F.out H2) (.ref x) u → Q .non H2
theorem je_make {w : τ → (κ → Prop) → Prop} {wa : (τ → Prop) → Prop} (M : Mk X.K C f) (Fn : FnOk X.prog X.w X.K X.mg X.base CX0 n f fd ps (spI C ns T U w)) (hr : Room (n + 1) X.A) (hg : Gl X x) (hm : X.mg x = some (.ref C)) (hb : Binds X.K fd ps [])
    {a0 : Expr} (ha : JA X F g (a0 :: es) T wa) (hdb : (x == ("__debug__" : Str)) = false := by decide) (he : starEach (a0 :: es) X.env = (false, eval a0 X.env) :: starEach es X.env := by rfl) (hpl : (backTo pos (starEach es X.env)).any (·.1) = false := by rfl) :
    JE X F g (.Call (.Name x np) (a0 :: es) [] pos) (rO (tC C ns U)) (fun k => wa fun t => w t k) :=
  peW (pe_make M Fn hr hg hm hb .nil pass0 ha hdb he hpl) fun σ H Q ⟨k, P, w, q⟩ => ⟨k, _, w, fun t vs H1 w1 s1 r1 x dx hx hdx hne => ⟨x, dx, vs, t, P, (k.step s1).fr, by rw [List.append_nil], hx, hdx, hne, rfl, r1, w1, fun u H2 p s2 r2 => ⟨rfl, q u (.ref x) H2 p (s1.trans s2) ((tC C ns U).same ((k.step s1).back s2) r2)⟩⟩⟩
/-- within __init__: what stands at its start -/
theorem init_ok {F : Fr} {x dx : Addr} {σ : L2.St} {sl : List Slot} (hx : F.H x = none) (hdx : F.H dx = none) (hne : dx ≠ x) (hp : Par F.B σ sl) : (⟨sl, [.ins x dx C [] aN ()]⟩ : Gm).Ok F σ (upd (upd F.H dx (.own x)) x (.ins C dx [])) := by
  have s1 : Same F.H (upd (upd F.H dx (.own x)) x (.ins C dx [])) := (same_upd hdx).trans (same_upd (by rw [upd_ne (Ne.symm hne)]; exact hx))
  refine ⟨s1, Par.imp (fun _ _ h => Slot.ok_same (fun a o z => ?_) h) hp, (by show List.Nodup [x]; simp), fun c hc => ?_⟩
  · refine bsA_ofB (fun m => ?_) z
    have e : a = x := List.mem_singleton.mp m
    rw [e] at z
    have := F.le _ _ z
    rw [hx] at this
    cases this
  · cases List.mem_singleton.mp hc
    exact ⟨hx, [], upd_same, rfl, rfl⟩
def aSnoc (U : ATy κ) (A : Ty α) : ATy (κ × α) := ⟨fun H vs t => ∃ us v, vs = us ++ [v] ∧ U.rel H us t.1 ∧ A.rel H v t.2, fun s ⟨us, v, e, h1, h2⟩ => ⟨us, v, e, U.same s h1, A.same s h2⟩⟩
theorem putF_zip {f : Str} {v : V} : ∀ {ns : List Str} {vs : List V}, vs.length = ns.length → f ∉ ns → putF f v (ns.zip vs) = (ns ++ [f]).zip (vs ++ [v])
  | [], [], _, _ => rfl
  | n :: ns, u :: vs, h, hf => by
    show (if n = f then (n, v) :: ns.zip vs else (n, u) :: putF f v (ns.zip vs)) = (n, u) :: (ns ++ [f]).zip (vs ++ [v])
    rw [if_neg (fun z => hf (by rw [z]; exact List.mem_cons_self)), putF_zip (Nat.succ.inj h) (fun z => hf (List.mem_cons_of_mem _ z))]
  | [], _ :: _, h, _ => by cases h
  | _ :: _, [], h, _ => by cases h
/-- self.f = e -/
theorem js_fld {i j : Nat} {x dx : Addr} {t : κ} {we : (α → Prop) → Prop} {wr : α → Prop} {rest : List Stmt} {D : Ends} {sx : Str} {p2 p3 : Pos} (c : Cls X.K C) (na : NoAttr X.K C fl) (he : JE X F g e (rO A) we)
    (hr : ∀ a, JSs X F ⟨g.s, g.c.set j (.ins x dx C (ns ++ [fl]) (aSnoc U A) (t, a))⟩ rest D (wr a)) (hs : g.s[i]? = some (.at x)) (hc : g.c[j]? = some (.ins x dx C ns U t)) (hf : fl ∉ ns := by decide) (hn : ns.length < 1000 := by decide)
    (hN : X.N[i]? = some sx := by rfl) (hv : Vis X.env.scope sx := by first | exact Or.inl rfl | exact Or.inr (Or.inl rfl) | exact Or.inr (Or.inr rfl)) (hd : (sx == ("__debug__" : Str)) = false := by decide) (hcd : (sx == ("__classdict__" : Str)) = false := by decide)
    (hsw : swapsWith e (some (.Attribute (.Name sx p2) fl p3)) pos.line X.env = pure false := by rfl) :
    JSs X F g (.Assign [.Attribute (.Name sx p2) fl p3] e pos :: rest) D (we fun a => wLet a wr) :=
  pssW (pss_cons (ps_fld (f := fl) (pe_var hN hv hd hcd) he hsw) (pssE hr)) fun D' σ H ⟨e, k, w⟩ => ⟨k, _, w, fun a v H1 w1 s1 ra => by
    have k1 := k.step s1
    have m := List.mem_of_getElem? hc
    obtain ⟨n0, vs, hx, hl, hu⟩ := k1.cells _ m
    refine ⟨_, k1.ref hs, x, C, dx, _, rfl, hx, c, na, ?_, a, e, ?_, w1⟩
    · rw [List.length_zip]
      omega
    · rw [putF_zip hl hf]
      exact k1.mutC hc rfl rfl ⟨n0, vs ++ [v], upd_same, by rw [List.length_append, List.length_append, hl]; rfl, vs, v, rfl, hu, ra⟩⟩
/-- at the end of __init__ -/
theorem init_end {F : Fr} {σ : L2.St} {H : Hp} {x dx : Addr} {V : ATy τ} {t : τ} {u : κ} {j : Nat} (k : g.Ok F σ H) (hc : g.c[j]? = some (.ins x dx C ns V t)) (hv : ∀ H vs, V.rel H vs t → U.rel H vs u) : (tC C ns U).rel (F.out H) (.ref x) u := by
  have m := List.mem_of_getElem? hc
  obtain ⟨n0, vs, hx, hl, hu⟩ := k.cells _ m
  exact ⟨x, dx, vs, rfl, bsA_of (fun z => by cases z) n0 hx, hl, U.same Gm.out (hv _ _ hu)⟩
/-- C.fl, a constant -/
theorem je_cval {mc : Value} {v : V} {u : Value} {a : α} (hg : Gl X x) (hm : X.mg x = some (.ref C)) (r : CRead X.K C mc) (k : CVal X.K C mc fl v u) (ha : ∀ H, A.rel H v a) (hdb : (x == ("__debug__" : Str)) = false := by decide)
    (hb : attributeBase (.Name x np) fl X.env (eval (.Name x np) X.env) = eval (.Name x np) X.env := by rfl) : JE X F g (.Attribute (.Name x np) fl pos) (rO A) (fun k => k a) :=
  peW (pe_cval (pe_glob hg hm (v := .ref C) rfl hdb) hb) fun σ H Q ⟨k', P, w, q⟩ => ⟨C, mc, v, u, rfl, r, k, q a v H w (Same.refl H) (ha _)⟩
end
end
section
variable {X : Cx} {CX : CXT} {k : Nat} {C f : Addr} {fd : FuncData} {ps : List Str} {sp : Sp} {E : XK} {a b : Expr} {pos : Pos} {ta tb : TE}
/-- an operator of a class between two of its instances -/
def rBinO (C : Addr) (sp : Sp) (E : XK) : R2 := fun x y H Q => ∃ a dx fs b dy gs, x = .ref a ∧ H a = some (.ins C dx fs) ∧ y = .ref b ∧ H b = some (.ins C dy gs) ∧ sp [.ref a, .ref b] H (fun v H' => (∀ u, RelV v u → u ≠ .notImplemented) ∧ Q v H') E
theorem op_own {op : Operator} (hm : Meth X.K C (PySem.dunder op.info.2) f) (hs : PySem.W.selfFirst X.K C = true) (Fn : FnOk X.prog X.w X.K X.mg X.base CX k f fd ps sp) (hr : Room k X.A) (hb : Binds X.K fd ps []) (hx : Passes CX X E) : OpR X (binaryOp op) (rBinO C sp E) := by
  intro pins s σ H x y v u Q I rx ry q
  obtain ⟨o, dx, fs, o2, dy, gs, rfl, ea, rfl, eb, q⟩ := q
  obtain rfl : v = Value.ref o := rx
  obtain rfl : u = Value.ref o2 := ry
  obtain ⟨mA, O, _, _, _, _⟩ := ins_get I.hok ea
  obtain ⟨od, J, _⟩ := O.look
  obtain ⟨mB, O2, _, _, _, _⟩ := ins_get I.hok eb
  obtain ⟨od2, J2, _⟩ := O2.look
  obtain ⟨m, fr⟩ := I.fr
  refine PySem.W.binop_K fr I.mod.kin J J2.type hs hm.at_ hm.fn (wpAny_mono (wpAny_call (codeAny_mono (Fn.run X.A X.stack s H ⟨[.ref o, .ref o2], []⟩ [.ref o, .ref o2] [.ref o, .ref o2] _ E hr I.env0 (hb _ [.ref o, .ref o2] I.kIn ?_) (.cons rfl (.cons rfl .nil)) q) (R' := fun r s' => match r with | .ok (.ret u) => PySem.W.CmpBack (EP X pins σ Q) u s' | .ok _ => False | .error e => X.xe e s') fun r s' hq => ?_)) (fun u s' h => h) (fun e s' h => h))
  · exact (Fn.len _ _ _ _ q)
  · cases r with
    | error er => exact hx pins σ H s er s' I hq
    | ok fl =>
      cases fl with
      | ret u' =>
        obtain ⟨v, H', I', rv, hn, hQ⟩ := I.after hq
        have hne := hn _ rv
        show PySem.W.CmpBack _ u' s'
        unfold PySem.W.CmpBack
        split
        · exact absurd rfl hne
        · exact ⟨v, H', I', rv, hQ⟩
      | next => exact False.elim hq
      | brk => exact False.elim hq
      | cont => exact False.elim hq
end
end J
namespace J
open PySem PySem.Spec L2 PyProof.Rows ClX RZ
section
variable {X : Cx} {F : Fr} {g : Gm} {α β γ ρ τ κ : Type}
section
variable {CX : CXT} {k : Nat} {C f : Addr} {fd : FuncData} {ps : List Str} {sp : Sp} {E : XK} {a b : Expr} {pos : Pos}
variable {ns : List Str} {U : ATy κ} {R : Res ρ}
theorem bin_r {w : κ × κ × Unit → (ρ → Prop) → Prop} (hR : ∀ H B H' v a, R.rel H B H' v a → ∀ u, RelV v u → u ≠ .notImplemented) : ∀ (σ : L2.St) (x y : κ) (Ha Hb H : Hp) (v u : V) (P : ρ → Prop) (Q : VK), g.Ok F σ H → (rO (tC C ns U)).rel Ha (g.bs F H) H v x → (rO (tC C ns U)).rel Hb (g.bs F H) H u y → w (x, y, ()) P →
    (∀ z v' H', P z → Same H H' → R.rel H (g.bs F H') H' v' z → Q v' H') → rBinO C (spJ (aC (tC C ns U) (aC (tC C ns U) aN)) R w) (fun _ _ _ => False) v u H Q := fun σ x y Ha Hb H v u P Q k h1 h2 p q => by
  obtain ⟨a, dx, vs, e1, g1, l1, u1⟩ := id h1
  obtain ⟨b, dy, us, e2, g2, l2, u2⟩ := id h2
  exact ⟨a, dx, _, b, dy, _, e1, k.le _ _ g1, e2, k.le _ _ g2, (x, y, ()), P, k.fr, rfl, ⟨.ref a, [.ref b], rfl, by rw [← e1]; exact h1, .ref b, [], rfl, by rw [← e2]; exact h2, rfl⟩, p, fun r v' H' pr s rr =>
    ⟨hR _ _ _ _ _ rr, q r v' H' pr s (R.same (k.back s) (Same.refl _) rr)⟩⟩
theorem nni_ref {H B H' : Hp} {v : V} {a : κ} : (rO (tC C ns U)).rel H B H' v a → ∀ u, RelV v u → u ≠ .notImplemented := fun ⟨x, _, _, e, _⟩ u r z => by
  subst e
  obtain rfl : u = Value.ref x := r
  cases z
/-- one * two and the like, of the class's own -/
theorem je_binO {op : Operator} {ns' : List Str} {C' : Addr} {κ' : Type} {U' : ATy κ'} {w : κ × κ × Unit → (κ' → Prop) → Prop} {wa wb : (κ → Prop) → Prop} (ha : JE X F g a (rO (tC C ns U)) wa) (hb' : JE X F g b (rO (tC C ns U)) wb) (hm : Meth X.K C (PySem.dunder op.info.2) f) (hs : PySem.W.selfFirst X.K C = true)
    (Fn : FnOk X.prog X.w X.K X.mg X.base CX0 k f fd ps (spJ (aC (tC C ns U) (aC (tC C ns U) aN)) (rO (tC C' ns' U')) w)) (hr : Room k X.A) (hb : Binds X.K fd ps []) : JE X F g (.BinOp a op b pos) (rO (tC C' ns' U')) (fun k => wa fun x => wb fun y => w (x, y, ()) k) :=
  je_opR (C := fun x y k => w (x, y, ()) k) (op_own hm hs Fn hr hb pass0) (bin_r fun _ _ _ _ _ h => nni_ref h) ha hb'
end
section
variable {a b c e o : Expr} {pos apos p : Pos} {wa wb wc : (Int → Prop) → Prop}
theorem bitOr_J {i j : Int} (hi : 0 ≤ i) (hj : 0 ≤ j) : Builtin.bitOr i j = orJ i j := L2.bitOr_nn hi hj
theorem bitAnd_J {i j : Int} (hi : 0 ≤ i) (hj : 0 ≤ j) : Builtin.bitAnd i j = andJ i j := by
  obtain ⟨m, rfl⟩ := Int.eq_ofNat_of_zero_le hi
  obtain ⟨n, rfl⟩ := Int.eq_ofNat_of_zero_le hj
  rfl
theorem je_or2 (ha : JE X F g a (rO tI) wa) (hb : JE X F g b (rO tI) wb) : JE X F g (.BinOp a .BitOr b pos) (rO tI) (fun k => wa fun x => wb fun y => (0 ≤ x ∧ 0 ≤ y) ∧ k (orJ x y)) :=
  je_opR (C := fun x y k => (0 ≤ x ∧ 0 ≤ y) ∧ k (orJ x y)) op_or (fun _ x y _ _ H v u P Q k h1 h2 w q => ⟨x, y, h1, h2, by show Q (.int (Builtin.bitOr x y)) H; rw [bitOr_J w.1.1 w.1.2]; exact q _ _ H w.2 (Same.refl H) rfl⟩) ha hb
theorem je_and2 (ha : JE X F g a (rO tI) wa) (hb : JE X F g b (rO tI) wb) : JE X F g (.BinOp a .BitAnd b pos) (rO tI) (fun k => wa fun x => wb fun y => (0 ≤ x ∧ 0 ≤ y) ∧ k (andJ x y)) :=
  je_opR (C := fun x y k => (0 ≤ x ∧ 0 ≤ y) ∧ k (andJ x y)) op_and (fun _ x y _ _ H v u P Q k h1 h2 w q => ⟨x, y, h1, h2, by show Q (.int (Builtin.bitAnd x y)) H; rw [bitAnd_J w.1.1 w.1.2]; exact q _ _ H w.2 (Same.refl H) rfl⟩) ha hb
theorem je_shr (ha : JE X F g a (rO tI) wa) (hb : JE X F g b (rO tI) wb) : JE X F g (.BinOp a .RShift b pos) (rO tI) (fun k => wa fun x => wb fun y => 0 ≤ y ∧ k (x / 2 ^ y.toNat)) :=
  je_opR (C := fun x y k => 0 ≤ y ∧ k (x / 2 ^ y.toNat)) op_shr (fun _ x y _ _ H v u P Q k h1 h2 w q => ⟨x, y, h1, h2, w.1, q _ _ H w.2 (Same.refl H) rfl⟩) ha hb
theorem je_shl (ha : JE X F g a (rO tI) wa) (hb : JE X F g b (rO tI) wb) : JE X F g (.BinOp a .LShift b pos) (rO tI) (fun k => wa fun x => wb fun y => (0 ≤ y ∧ y ≤ 1000000 ∧ x.natAbs < 2 ^ 64) ∧ k (x * 2 ^ y.toNat)) :=
  je_opR (C := fun (x y : Int) k => (0 ≤ y ∧ y ≤ 1000000 ∧ x.natAbs < 2 ^ 64) ∧ k (x * 2 ^ y.toNat)) op_shl (fun _ x y _ _ H v u P Q k h1 h2 w q => ⟨x, y, h1, h2, w.1, q _ _ H w.2 (Same.refl H) rfl⟩) ha hb
theorem je_bits (ho : JE X F g o (rO tI) wa) (hbase : attributeBase o "bit_length" X.env (eval o X.env) = eval o X.env := by rfl) (hline : (apos.endLine == pos.line) = true := by rfl) : JE X F g (.Call (.Attribute o "bit_length" apos) [] [] pos) (rO tI) (fun k => wa fun x => k (Builtin.Int.intBits x : Nat)) :=
  peW (pe_bits ho hbase hline) fun σ H Q ⟨k, P, w, q⟩ => ⟨k, _, w, fun x v H1 w1 s1 r1 => ⟨x, r1, q _ _ H1 w1 s1 rfl⟩⟩
theorem je_max2 (hg : Gl X "max") (hm : X.mg "max" = none) (ha : JE X F g a (rO tI) wa) (hb : JE X F g b (rO tI) wb) (hc : X.calm = true := by rfl) (he : starEach [a, b] X.env = (false, eval a X.env) :: starEach [b] X.env := by rfl) (he2 : starEach [b] X.env = (false, eval b X.env) :: starEach [] X.env := by rfl) (hpl : (backTo pos (starEach [b] X.env)).any (·.1) = false := by rfl) :
    JE X F g (.Call (.Name "max" p) [a, b] [] pos) (rO tI) (fun k => wa fun x => wb fun y => k (if y > x then y else x)) :=
  je_callB (T := aC tI (aC tI aN)) (C := fun t k => k (if t.2.1 > t.1 then t.2.1 else t.1)) (call_max2 hc) (fun _ t H vs P Q k ⟨v, r, e1, r1, v2, r', e2, r2, e3⟩ c q => ⟨t.1, t.2.1, by rw [e1, e2, (e3 : r' = []), (r1 : v = _), (r2 : v2 = _)], q _ _ H c (Same.refl H) rfl⟩) hg hm (by decide +kernel) (jb_cons (je_b ha) (jb_cons (je_b hb) jb_nil he2) he) (by decide) (by decide) he hpl
theorem le_r : CmpOk F g (rO tI) (rO tI) (fun x y H Q => ∃ i j, x = .int i ∧ y = .int j ∧ Q (.bl (decide (i ≤ j))) H) (fun x y k => k (decide (x ≤ y))) := fun _ x y _ _ H v u P Q k h1 h2 p q => ⟨x, y, h1, h2, q _ H p (Same.refl H)⟩
theorem chain_core {op op' : CmpOp} {r r' : R2} {f f' : Int → Int → Bool} (hr : CmpOk F g (rO tI) (rO tI) r (fun x y k => k (f x y))) (hr' : CmpOk F g (rO tI) (rO tI) r' (fun x y k => k (f' x y))) {σ : L2.St} {H : Hp} {Q : VK} {P : Bool → Prop} {P0 : Prop}
    (k : g.Ok F σ H) (w : wa fun x => wb fun y => (f x y = true → wc fun z => P (f' y z)) ∧ (f x y = false → P0)) (q : ∀ z H', P z → Same H H' → Q (.bl z) H') (q0 : P0 → ∀ H', Same H H' → Q (.bl false) H') :
    tChain r r' (RJ F g (rO tI) wa) (RJ F g (rO tI) wb) (RJ F g (rO tI) wc) σ H Q :=
  ⟨k, _, w, fun x v H1 w1 s1 r1 => ⟨k.step s1, _, w1, fun y u H2 w2 s2 r2 => hr σ x y H H1 H2 v u (fun b => b = f x y) _ (k.step (s1.trans s2)) r1 r2 rfl fun z H3 ez s3 => ⟨z, rfl, by
    subst ez
    cases e : f x y with
    | true =>
      rw [if_pos rfl]
      exact ⟨k.step (s1.trans (s2.trans s3)), _, w2.1 e, fun t v' H4 w4 s4 r4 => hr' σ y t H1 H3 H4 u v' P Q (k.step (s1.trans (s2.trans (s3.trans s4)))) r2 r4 w4 fun z' H5 p5 s5 => q z' H5 p5 (s1.trans (s2.trans (s3.trans (s4.trans s5))))⟩
    | false =>
      rw [if_neg (by decide)]
      exact q0 (w2.2 e) H3 (s1.trans (s2.trans s3))⟩⟩⟩
variable (ha : JE X F g a (rO tI) wa) (hb : JE X F g b (rO tI) wb) (hc : JE X F g c (rO tI) wc)
include ha hb hc
theorem jt_chain {op op' : CmpOp} {r r' : R2} {f f' : Int → Int → Bool} (ho : OpR X (compareOp op) r) (ho' : OpR X (compareOp op') r') (hr : CmpOk F g (rO tI) (rO tI) r (fun x y k => k (f x y))) (hr' : CmpOk F g (rO tI) (rO tI) r' (fun x y k => k (f' x y))) (hm : lastMarks [op, op'] [b, c] = false) :
    JT X F g (.Compare a [op, op'] [b, c] pos) (fun Ya No => wa fun x => wb fun y => (f x y = true → wc fun z => (f' y z = true → Ya) ∧ (f' y z = false → No)) ∧ (f x y = false → No)) :=
  ptW (pt_chain ho ho' ha hb hc hm) fun σ H Q ⟨k, Ya, No, w, qa, qb⟩ => chain_core (op := op) (op' := op') (P := fun t => (t = true → Ya) ∧ (t = false → No)) (P0 := No) hr hr' k w (fun z H' p s => ⟨z, rfl, by
      cases z with
      | true => exact qa (p.1 rfl) H' s
      | false => exact qb (p.2 rfl) H' s⟩) fun p H' s => ⟨false, rfl, qb p H' s⟩
theorem jt_leLe (hm : lastMarks [.LtE, .LtE] [b, c] = false := by with_unfolding_all rfl) : JT X F g (.Compare a [.LtE, .LtE] [b, c] pos) (fun Ya No => wa fun x => wb fun y => (decide (x ≤ y) = true → wc fun z => (decide (y ≤ z) = true → Ya) ∧ (decide (y ≤ z) = false → No)) ∧ (decide (x ≤ y) = false → No)) := jt_chain ha hb hc op_le op_le le_r le_r hm
end
end
end J
namespace J
open PySem PySem.Spec L2 PyProof.Rows ClX RZ
section
variable {X : Cx} {F : Fr} {g : Gm} {α β γ ρ τ κ : Type}
theorem zip_get {xs : List α} {ys : List β} {i : Nat} {p : α × β} (h : (xs.zip ys)[i]? = some p) : xs[i]? = some p.1 ∧ ys[i]? = some p.2 := by
  rw [List.getElem?_zip_eq_some] at h
  exact h
theorem itz_at {as : List Addr} {K : PySem.W.Frag} {l m : Addr} {vs us : List V} {xs : List α} {ys : List β} {A : Ty α} {B : Ty β} {H : Hp} (hf : ∀ T, H T = none → T ∉ as ∧ F.H T = none) (h1 : SqL K H l vs) (h2 : SqL K H m us) (r1 : Paired (A.rel (bsA F as H)) vs xs) (r2 : Paired (B.rel (bsA F as H)) us ys) :
    ItAt F as (Itz K l m) (tT K (a2 A B)) (xs.zip ys) H :=
  ⟨fun i p e => by
    obtain ⟨e1, e2⟩ := zip_get e
    obtain ⟨v, hv, rv⟩ := Paired.at r1 e1
    obtain ⟨u, hu, ru⟩ := Paired.at r2 e2
    refine ⟨⟨vs, us, v, u, h1, h2, hv, hu⟩, fun t H' ⟨T, x, y, et, hT, eH, hx, hy⟩ => ?_⟩
    obtain rfl : x = v := Option.some.inj ((hx vs h1).symm.trans hv)
    obtain rfl : y = u := Option.some.inj ((hy us h2).symm.trans hu)
    subst eH
    obtain ⟨n1, n2⟩ := hf T hT
    exact ⟨same_upd hT, T, _, et, .inl (.inl (bsA_of n1 n2 upd_same)), x, y, rfl, A.same (bsA_mono (same_upd hT)) rv, B.same (bsA_mono (same_upd hT)) ru⟩, fun i hi => by
    rw [List.length_zip] at hi
    exact ⟨vs, us, h1, h2, by rw [Paired.len r1, Paired.len r2]; omega⟩⟩
theorem itzT_at {as : List Addr} {K : PySem.W.Frag} {l m : Addr} {vs us : List V} {xs : List α} {ys : List β} {A : Ty α} {B : Ty β} {H : Hp} (hf : ∀ T, H T = none → T ∉ as ∧ F.H T = none) (h1 : SqT K H l vs) (h2 : SqT K H m us) (r1 : Paired (A.rel (bsA F as H)) vs xs) (r2 : Paired (B.rel (bsA F as H)) us ys) :
    ItAt F as (ItzT K l m) (tT K (a2 A B)) (xs.zip ys) H :=
  ⟨fun i p e => by
    obtain ⟨e1, e2⟩ := zip_get e
    obtain ⟨v, hv, rv⟩ := Paired.at r1 e1
    obtain ⟨u, hu, ru⟩ := Paired.at r2 e2
    refine ⟨⟨vs, us, v, u, h1, h2, hv, hu⟩, fun t H' ⟨T, x, y, et, hT, eH, hx, hy⟩ => ?_⟩
    obtain rfl : x = v := Option.some.inj ((hx vs h1).symm.trans hv)
    obtain rfl : y = u := Option.some.inj ((hy us h2).symm.trans hu)
    subst eH
    obtain ⟨n1, n2⟩ := hf T hT
    exact ⟨same_upd hT, T, _, et, .inl (.inl (bsA_of n1 n2 upd_same)), x, y, rfl, A.same (bsA_mono (same_upd hT)) rv, B.same (bsA_mono (same_upd hT)) ru⟩, fun i hi => by
    rw [List.length_zip] at hi
    exact ⟨vs, us, h1, h2, by rw [Paired.len r1, Paired.len r2]; omega⟩⟩
section
variable {elts : List Expr} {kk : Nat} {tpos p pos : Pos} {e e2 : Expr} {A : Ty α} {B : Ty β} {wa : (List α → Prop) → Prop} {wb : (List β → Prop) → Prop} {vs : List Nat}
/-- over zip(a, b), two tuples -/
theorem ji_zipT (hg : Gl X "zip") (hm : X.mg "zip" = none) (ha : JE X F g e (rO (tT X.K (aV A))) wa) (hb : JE X F g e2 (rO (tT X.K (aV B))) wb)
    (hs : starEach [e, e2] X.env = (false, eval e X.env) :: starEach [e2] X.env := by rfl) (hs2 : starEach [e2] X.env = (false, eval e2 X.env) :: starEach [] X.env := by rfl) (hpl : (backTo pos (starEach [e2] X.env)).any (·.1) = false := by rfl) :
    PI X (.Tuple elts kk tpos) (.Call (.Name "zip" p) [e, e2] [] pos) (RI F g (tT X.K (a2 A B)) (fun k => wa fun xs => wb fun ys => k (xs.zip ys)) vs) :=
  piW (pi_zipA hg hm (pa_cons ha (pa_cons hb pa_nil hs2) hs) hs hpl) fun σ H R ⟨k, P, w, q⟩ => ⟨k, _, w, fun xs v H1 w1 s1 r1 => ⟨k.step s1, _, w1, fun ys u H2 w2 s2 r2 => by
    have k2 := k.step (s1.trans s2)
    have r1' := (tT X.K (aV A)).same (Gm.mono s2) r1
    obtain ⟨l, us, ev, hq, hr⟩ := r1'
    obtain ⟨m, ws, eu, hq2, hr2⟩ := r2
    refine ⟨l, m, us, ws, by rw [ev, eu], .inr ⟨k2.le.sqT' hq, k2.le.sqT' hq2, q (xs.zip ys) _ [.fix (tT X.K (aV A)) v xs, .fix (tT X.K (aV B)) u ys] H2 w2 (s1.trans s2) (fun c hc => ?_) ((k2.fixed ((⟨m, ws, eu, hq2, hr2⟩ : (tT X.K (aV B)).rel _ u ys))).fixed (⟨l, us, ev, hq, hr⟩ : (tT X.K (aV A)).rel _ v xs)) fun σ' H' l' o => ?_⟩⟩
    · rcases List.mem_cons.mp hc with rfl | hc
      · rfl
      · cases List.mem_singleton.mp hc
        rfl
    · obtain ⟨l2, w2, e2, h2, r2⟩ := (show (tT X.K (aV A)).rel _ v xs from o.cells (.fix (tT X.K (aV A)) v xs) (List.mem_append_right _ (List.mem_append_left _ List.mem_cons_self)))
      obtain ⟨m2, w3, e3, h3, r3⟩ := (show (tT X.K (aV B)).rel _ u ys from o.cells (.fix (tT X.K (aV B)) u ys) (List.mem_append_right _ (List.mem_append_left _ (List.mem_cons_of_mem _ List.mem_cons_self))))
      rw [ev] at e2
      rw [eu] at e3
      cases e2
      cases e3
      exact itzT_at (fun T hT => ⟨o.fresh hT, o.same.free hT⟩) (o.le.sqT' h2) (o.le.sqT' h3) r2 r3⟩⟩
end
section
variable {a b e : Expr} {pos p : Pos} {A : Ty α} {wa : (List α → Prop) → Prop} {wb : (Int → Prop) → Prop}
theorem flat_rep {γ δ : Type} {R : γ → δ → Prop} {vs : List γ} {xs : List δ} (h : Paired R vs xs) : ∀ n : Nat, Paired R (List.replicate n vs).flatten (List.replicate n xs).flatten
  | 0 => .nil
  | n + 1 => by
    rw [List.replicate_succ, List.replicate_succ, List.flatten_cons, List.flatten_cons]
    exact Paired.app h (flat_rep h n)
theorem je_rep (ha : JE X F g a (rEK A) wa) (hb : JE X F g b (rO tI) wb) : JE X F g (.BinOp a .Mult b pos) (rN A) (fun k => wa fun xs => wb fun n => (-1000000 ≤ n ∧ n ≤ 1000000 ∧ xs.length * n.toNat ≤ 1000000) ∧ k (List.replicate n.toNat xs).flatten) :=
  je_opR (S := rEK A) (T := rO tI) (R := rN A) (C := fun xs n k => (-1000000 ≤ n ∧ n ≤ 1000000 ∧ xs.length * n.toNat ≤ 1000000) ∧ k (List.replicate n.toNat xs).flatten) op_rep (fun _ x n _ _ H v u P Q k ⟨l, vs, e1, h1, r1⟩ h2 ⟨w1, w2⟩ q =>
    ⟨l, n, vs, e1, h2, h1, by omega, by omega, Nat.le_trans (by rw [Paired.len r1]; exact w1.2.2) (by decide : 1000000 ≤ sizeLine), fun z hz => q _ _ _ w2 (same_upd hz) ⟨z, _, rfl, hz, k.bs_new hz, flat_rep (Paired.imp (fun _ _ r => A.same (k.rm_new hz) r) r1) _⟩⟩) ha hb
end
end
end J
namespace J
open PySem PySem.Spec L2
section
variable {X : Cx} {F : Fr} {g : Gm} {α β γ δ ρ τ κ : Type}
/-- a parameter at the def's start -/
theorem fr_in {A : Ty α} {s : List Slot} {H : Hp} {v : V} {a : α} (r : A.rel F.B v a) : A.rel (Gm.bs F ⟨s, []⟩ H) v a := A.same (fun _ _ h => bsA_ofB (fun z => by cases z) h) r
theorem sn2 {A : Ty α} {B : Ty β} {a : α} {b : β} : ∀ H vs, (aSnoc (aSnoc aN A) B).rel H vs (((), a), b) → (a2 A B).rel H vs (a, b) := fun H vs ⟨us, v, e, ⟨ws, u, e2, h0, h1⟩, h2⟩ => ⟨u, v, by rw [e, e2, (h0 : ws = [])]; rfl, h1, h2⟩
theorem sn3 {A : Ty α} {B : Ty β} {C : Ty γ} {a : α} {b : β} {c : γ} : ∀ H vs, (aSnoc (aSnoc (aSnoc aN A) B) C).rel H vs ((((), a), b), c) → (a3 A B C).rel H vs (a, b, c) :=
  fun H vs ⟨us, v, e, ⟨ws, u, e2, ⟨xs, t, e3, h0, h1⟩, h2⟩, h3⟩ => ⟨t, u, v, by rw [e, e2, e3, (h0 : xs = [])]; rfl, h1, h2, h3⟩
theorem js_endI {P : κ → Prop} {u : κ} {nx bk ct : L2.St → Hp → Prop} {rt : VK} (h : ∀ σ H, g.Ok F σ H → P u → nx σ H) : JSs X F g [] ⟨nx, rt, bk, ct⟩ (P u) := pssW pss_nil fun D σ H ⟨e, o, q⟩ => e.nx _ _ (h σ H o q)
end
end J
namespace J
open PySem PySem.Spec L2 PyProof.Rows
section
variable {X : Cx} {F : Fr} {g : Gm} {α β γ ρ τ κ : Type} {rest : List Stmt} {pos : Pos}
def setJ (w : World) (p : Addr) (xs : List Int) : HO := SetO w p (fun j => memJ j xs) xs.length
theorem setJ_nil {w : World} {p : Addr} : setJ w p [] = SetO w p (fun _ => false) 0 := by
  unfold setJ
  congr 1
theorem setJ_add {w : World} {p : Addr} {xs : List Int} {k : Int} : setJ w p (addJ xs k) = SetO w p (fun j => memJ j xs || decide (j = k)) (if memJ k xs = true then xs.length else xs.length + 1) := by
  unfold setJ addJ
  by_cases h : memJ k xs = true
  · rw [if_pos h, if_pos h]
    congr 1
    funext j
    by_cases e : j = k
    · subst e
      rw [h]
      rfl
    · rw [decide_eq_false e, Bool.or_false]
  · rw [if_neg h, if_neg h]
    congr 1
    · funext j
      unfold memJ
      by_cases e : j = k <;> by_cases m : j ∈ xs <;> simp [e, m]
    · rw [List.length_append]
      rfl
/-- x = set() -/
theorem js_asgSet {i : Nat} {x : Str} {px np cp : Pos} {wr : Prop} {D : Ends} (hg : Gl X "set") (hm : X.mg "set" = none) (hr : ∀ p, JSs X F ((g.push (.raw p (setJ X.w p []))).set i (.at p)) rest D wr) (hN : X.N.Nodup) (hi : X.N[i]? = some x := by rfl) (hx : Loc X.env.scope x := by first | exact Or.inl rfl | exact Or.inr rfl)
    (hs : swapsWith (.Call (.Name "set" np) [] [] cp) (some (.Name x px)) pos.line X.env = pure false := by rfl) (hf : X.fn x = true ∨ X.env.scope.names.lookup x = some .local := by first | exact .inl rfl | exact .inr rfl) :
    JSs X F g (.Assign [.Name x px] (.Call (.Name "set" np) [] [] cp) pos :: rest) D wr :=
  pssW (pss_cons (ps_set hN hi hx (pe_callTy0 cr_set0 hg hm (by decide +kernel)) hs hf) (pssE hr)) fun D' σ H ⟨e, k, w⟩ => ⟨rfl, fun p hp => ⟨p, e, (k.push (c := .raw p (setJ X.w p [])) (same_upd hp) rfl hp ⟨k.same.free hp, rfl, by rw [setJ_nil]; exact upd_same⟩).set (t := .at p) rfl, w⟩⟩
def rS (w : World) : Res (List Int) := ⟨fun _ _ H v xs => ∃ p, v = .ref p ∧ H p = some (setJ w p xs), fun _ s ⟨p, e, h⟩ => ⟨p, e, s _ _ h⟩, fun _ h => h⟩
theorem Gm.Ok.raw {σ : L2.St} {H : Hp} (k : g.Ok F σ H) {j : Nat} {p : Addr} {o : HO} (hc : g.c[j]? = some (.raw p o)) : H p = some o := (k.cells _ (List.mem_of_getElem? hc)).2.2
theorem je_cellS {i j : Nat} {p : Addr} {xs : List Int} {x : Str} (hs : g.s[i]? = some (.at p)) (hc : g.c[j]? = some (.raw p (setJ X.w p xs))) (hN : X.N[i]? = some x := by rfl) (hv : Vis X.env.scope x := by first | exact Or.inl rfl | exact Or.inr (Or.inl rfl) | exact Or.inr (Or.inr rfl))
    (hd : (x == ("__debug__" : Str)) = false := by decide) (hcd : (x == ("__classdict__" : Str)) = false := by decide) : JE X F g (.Name x pos) (rS X.w) (fun k => k xs) :=
  peW (pe_var hN hv hd hcd) fun σ H Q ⟨k, P, w, q⟩ => ⟨.ref p, k.ref hs, q xs (.ref p) H w (Same.refl H) ⟨p, rfl, k.raw hc⟩⟩
section
variable {a b : Expr} {wa : (Int → Prop) → Prop} {wb : (List Int → Prop) → Prop}
theorem niS_r {w : World} : CmpOk F g (rO tI) (rS w) (rSNotIn w) (fun x y k => k (!memJ x y)) := fun _ x y _ _ H v u P Q k h1 ⟨p, e, h⟩ pz q => ⟨x, p, _, _, h1, e, h, q _ H pz (Same.refl H)⟩
theorem jt_niS (ha : JE X F g a (rO tI) wa) (hb : JE X F g b (rS X.w) wb) (hm : behindInMarks .NotIn b = false := by rfl) : JT X F g (.Compare a [.NotIn] [b] pos) (fun Ya No => wa fun x => wb fun y => (((!memJ x y) = true → Ya) ∧ ((!memJ x y) = false → No))) := jt_cmpR (C := fun x y k => k (!memJ x y)) or_snotin niS_r ha hb hm
end
/-- xs.add(e) -/
theorem js_setAdd {i j : Nat} {p : Addr} {xs : List Int} {call : Expr} {we : (Int → Prop) → Prop} {wr : List Int → Prop} {D : Ends} (hm : PE X call (tSAdd X.w (tVar i) (tCons (RJ F g (rO tI) we) tNil)))
    (hr : ∀ ys, JSs X F ⟨g.s, g.c.set j (.raw p (setJ X.w p ys))⟩ rest D (wr ys)) (hs : g.s[i]? = some (.at p)) (hc : g.c[j]? = some (.raw p (setJ X.w p xs))) (hsw : swapsWith call none pos.line X.env = pure false := by rfl) :
    JSs X F g (.Expr call pos :: rest) D (we fun a => xs.length < 4000 ∧ wLet (addJ xs a) wr) := by
  refine pssW (pss_cons (ps_expr hm hsw) (pssE hr)) fun D' σ H ⟨e, k, w⟩ => ?_
  refine ⟨_, k.ref hs, ⟨p, _, _, rfl, k.raw hc⟩, k, _, w, fun a v H1 ⟨hl, w1⟩ s1 ra => ?_⟩
  have k1 := k.step s1
  have ev : v = .int a := ra
  refine ⟨p, a, _, _, rfl, by rw [ev], k1.raw hc, by unfold scanBound; omega, addJ xs a, e, ?_, w1⟩
  refine k1.mutC hc rfl rfl ⟨(k1.ad_some (Gm.mem_ad (List.mem_of_getElem? hc) rfl)).1, rfl, ?_⟩
  rw [setJ_add]
  exact upd_same
end
end J
namespace J
open PySem PySem.Spec L2 PyProof.Rows ClX RZ
section
variable {X : Cx} {F : Fr} {g : Gm} {α β γ ρ τ κ : Type}
variable {CX : CXT} {k : Nat} {C f : Addr} {fd : FuncData} {ps : List Str} {sp : Sp} {E : XK} {a b : Expr} {pos : Pos}
/-- what an operator of a class needs with a number on the right -/
structure PowOk (K : PySem.W.Frag) (C : Addr) (nm : String) : Prop where
  sf : PySem.W.selfFirst K C = true
  r : PySem.W.findIn K (.ref C) (dunderR nm) = some none
  a : ∃ fo, PySem.W.findIn K (.type "int") (PySem.dunder nm) = some fo
  b : ∃ ro, PySem.W.findIn K (.type "int") (dunderR nm) = some ro
  s : PySem.W.subIn K (.type "int") (.ref C) = some false
def rPowO (C : Addr) (sp : Sp) (E : XK) : R2 := fun x y H Q => ∃ a dx fs i, x = .ref a ∧ H a = some (.ins C dx fs) ∧ y = .int i ∧ sp [.ref a, .int i] H (fun v H' => (∀ u, RelV v u → u ≠ .notImplemented) ∧ Q v H') E
theorem op_pow {op : Operator} (hm : Meth X.K C (PySem.dunder op.info.2) f) (hs : PowOk X.K C op.info.2) (Fn : FnOk X.prog X.w X.K X.mg X.base CX k f fd ps sp) (hr : Room k X.A) (hb : Binds X.K fd ps []) (hx : Passes CX X E) : OpR X (binaryOp op) (rPowO C sp E) := by
  intro pins s σ H x y v u Q I rx ry q
  obtain ⟨o, dx, fs, i, rfl, ea, rfl, q⟩ := q
  obtain rfl : v = Value.ref o := rx
  obtain ⟨mA, O, _, _, _, _⟩ := ins_get I.hok ea
  obtain ⟨od, J, _⟩ := O.look
  obtain ⟨m, fr⟩ := I.fr
  obtain ⟨fo, h1⟩ := hs.a
  obtain ⟨ro, h2⟩ := hs.b
  obtain ⟨t, rfl⟩ := id ry
  refine PySem.W.ksp_binT fr I.mod.kin J (T := "int") rfl hs.sf hm.at_ hm.fn hs.r (.inl rfl) h1 h2 hs.s (wpAny_mono (wpAny_call (codeAny_mono (Fn.run X.A X.stack s H ⟨[.ref o, .int i t], []⟩ [.ref o, .int i t] [.ref o, .int i] _ E hr I.env0 (hb _ [.ref o, .int i t] I.kIn ?_) (.cons rfl (.cons ry .nil)) q) (R' := fun r s' => match r with | .ok (.ret u) => PySem.W.CmpBack (EP X pins σ Q) u s' | .ok _ => False | .error e => X.xe e s') fun r s' hq => ?_)) (fun u s' h => h) (fun e s' h => h))
  · exact (Fn.len _ _ _ _ q)
  · cases r with
    | error er => exact hx pins σ H s er s' I hq
    | ok fl =>
      cases fl with
      | ret u' =>
        obtain ⟨v, H', I', rv, hn, hQ⟩ := I.after hq
        have hne := hn _ rv
        show PySem.W.CmpBack _ u' s'
        unfold PySem.W.CmpBack
        split
        · exact absurd rfl hne
        · exact ⟨v, H', I', rv, hQ⟩
      | next => exact False.elim hq
      | brk => exact False.elim hq
      | cont => exact False.elim hq
variable {ns : List Str} {U : ATy κ}
end
end J
namespace L2
open PySem PySem.Spec PyProof.Rows
open AutoSeq1 (wpAny_loadPart')
end L2
namespace J
open PySem PySem.Spec L2 PyProof.Rows ClX RZ
end J
namespace L2
open PySem PySem.Spec PyProof.Rows
end L2
namespace J
open PySem PySem.Spec L2 PyProof.Rows ClX RZ
end J
namespace L2
open PySem PySem.Spec PyProof.Rows
end L2
namespace J
open PySem PySem.Spec L2 PyProof.Rows ClX RZ
end J
namespace J
open PySem PySem.Spec L2 PyProof.Rows ClX RZ
end J
namespace L2
open PySem PySem.Spec PyProof.Rows ClX
end L2
namespace J
open PySem PySem.Spec L2 PyProof.Rows ClX RZ
end J
namespace J
open PySem PySem.Spec L2 PyProof.Rows ClX RZ
section
variable {X : Cx} {F : Fr} {g : Gm} {α : Type} {A : Ty α} {e : Expr} {es : List Expr} {p pos : Pos} {wa u : (List α → Prop) → Prop}
theorem ja_starT (he : JE X F g e (rO (tT X.K (aV A))) wa) (hr : JA X F g es (aV A) u) (hs : starEach (.Starred e p :: es) X.env = (true, eval e X.env) :: starEach es X.env := by rfl) : JA X F g (.Starred e p :: es) (aV A) (fun k => wa fun xs => u fun t => k (xs ++ t)) :=
  paW (StX.pa_star he hr hs) fun σ H Q ⟨k, P, w, q⟩ => ⟨k, _, w, fun xs v H1 w1 s1 r1 => by
    obtain ⟨l, us, ev, hq, hp⟩ := id r1
    exact ⟨l, us, ev, .inl ((k.step s1).le.sqT' hq), k.step s1, _, w1, fun t vs H2 w2 s2 r2 => q (xs ++ t) (us ++ vs) H2 w2 (s1.trans s2) (Paired.app (Paired.imp (fun _ _ r => A.same (Gm.mono s2) r) hp) r2)⟩⟩
theorem ja_starL (he : JE X F g e (rE X.K A) wa) (hr : JA X F g es (aV A) u) (hs : starEach (.Starred e p :: es) X.env = (true, eval e X.env) :: starEach es X.env := by rfl) : JA X F g (.Starred e p :: es) (aV A) (fun k => wa fun xs => u fun t => k (xs ++ t)) :=
  paW (StX.pa_star he hr hs) fun σ H Q ⟨k, P, w, q⟩ => ⟨k, _, w, fun xs v H1 w1 s1 r1 => by
    obtain ⟨l, us, ev, hq, hp⟩ := id r1
    exact ⟨l, us, ev, .inr hq, k.step s1, _, w1, fun t vs H2 w2 s2 r2 => q (xs ++ t) (us ++ vs) H2 w2 (s1.trans s2) (Paired.app (Paired.imp (fun _ _ r => A.same (Gm.mono s2) r) hp) r2)⟩⟩
theorem je_lstS (h : JA X F g es (aV A) u) : JE X F g (.List es pos) (rN A) (fun k => u fun t => t.length ≤ 1000000 ∧ k t) :=
  peW (pe_lst h) fun σ H Q ⟨k, P, w, q⟩ => ⟨k, _, w, fun t vs H1 p s1 r1 => ⟨Nat.le_trans (by rw [Paired.len r1]; exact p.1) (by decide : 1000000 ≤ sizeLine), fun l hl => q t (.ref l) _ p.2 (s1.trans (same_upd hl)) ⟨l, vs, rfl, s1.free hl, (k.step s1).bs_new hl, Paired.imp (fun _ _ r => A.same ((k.step s1).rm_new hl) r) r1⟩⟩⟩
end
end J
namespace J
open PySem PySem.Spec L2 PyProof.Rows ClX RZ
section
variable {X : Cx} {F : Fr} {g : Gm} {α β γ ρ τ κ : Type}
/-- a new instance -/
def rC (C : Addr) (ns : List Str) (U : ATy κ) : Res κ := ⟨fun H B _ v u => ∃ p, v = .ref p ∧ H p = none ∧ (tC C ns U).rel B v u, fun s _ ⟨p, e, h0, h1⟩ => ⟨p, e, h0, (tC C ns U).same s h1⟩, fun s ⟨p, e, h0, h1⟩ => ⟨p, e, s.free h0, h1⟩⟩
instance {C : Addr} {ns : List Str} {U : ATy κ} [hU : AIm U] : RIm (rC C ns U) := ⟨fun ⟨p, e, h0, a, dx, vs, e1, h1, hl, hu⟩ s i n => ⟨p, e, h0, a, dx, vs, e1, n _ _ (by
  rw [e] at e1
  cases e1
  exact h0) h1, hl, hU.imm i (U.same s hu)⟩⟩
variable {f C : Addr} {m x : Str} {n : Nat} {fd : FuncData} {ps ns : List Str} {e : Expr} {es : List Expr} {apos pos np : Pos} {pl : Sem Bool} {T : ATy τ} {U : ATy κ}
variable {EC : Addr} {W : WX} {N : Prop}
end
end J
namespace L2
open PySem PySem.Spec PyProof.Rows
end L2
namespace J
open PySem PySem.Spec L2 PyProof.Rows ClX RZ
end J
namespace J
open PySem PySem.Spec L2 PyProof.Rows ClX RZ
section
variable {X : Cx} {F : Fr} {g : Gm} {α β γ ρ τ κ : Type} {rest : List Stmt} {pos : Pos}
/-- a, b = a list of two -/
theorem js_asgL2 {i j : Nat} {e e1 e2 : Expr} {kt : Nat} {tpos : Pos} {A : Ty α} {we : (List α → Prop) → Prop} {wr : α → α → Prop} {D : Ends} (he : JE X F g e (rO (tK A)) we) (hp : PGs X [e1, e2] (gCons (gName i) (gCons (gName j) gNil))) (hr : ∀ a b, JSs X F ((g.set i (.val A a)).set j (.val A b)) rest D (wr a b))
    (hc : X.calm = true := by rfl) (hn : (assignEach [e1, e2] X.env).length = 2 := by rfl) (hst : (assignEach [e1, e2] X.env).findIdx? (·.1) = none := by rfl)
    (hs : swapsWithSole [.Tuple [e1, e2] kt tpos] e pos.line X.env = pure false := by rfl) (hw : swappedStores [.Tuple [e1, e2] kt tpos] e X.env = pure none := by rfl) (hm : (assignEach [.Tuple [e1, e2] kt tpos] X.env).map (·.2) = [assign (.Tuple [e1, e2] kt tpos) X.env] := by rfl) :
    JSs X F g (.Assign [.Tuple [e1, e2] kt tpos] e pos :: rest) D (we fun xs => ∃ a b, xs = [a, b] ∧ wr a b) :=
  pssW (pss_cons (ps_asg he (pg_lst hc hp hn hst) hs hw hm) (pssE (t := fun (q : α × α) => RS F ((g.set i (.val A q.1)).set j (.val A q.2)) D (wr q.1 q.2)) fun q => hr q.1 q.2)) fun D' σ H ⟨e, o, q⟩ => ⟨o, _, q, fun xs v H1 p s r => by
    obtain ⟨a, b, rfl, p⟩ := p
    obtain ⟨l, us, ev, hq, hp⟩ := r
    cases hp with
    | cons r1 hp =>
      cases hp with
      | cons r2 hp =>
        cases hp
        have k1 : (g.set i (.val A a)).Ok F (σ.set i (some _)) H1 := (o.step s).set (t := .val A a) ⟨_, rfl, r1⟩
        have k2 := k1.set (i := j) (t := .val A b) ⟨_, rfl, r2⟩
        exact ⟨l, _, ev, .inl (.inl ((o.step s).le _ _ hq)), rfl, _, [_], rfl, _, [], rfl, rfl, (a, b), e, k2, p⟩⟩
end
end J
namespace L2
open PySem PySem.Spec PyProof.Rows PySem.W
end L2
namespace L2
open PySem PySem.Spec PyProof.Rows PySem.W
end L2
namespace L2
open PySem PySem.Spec PyProof.Rows PySem.W
end L2
namespace J
open PySem PySem.Spec L2 PyProof.Rows ClX RZ
end J
namespace L2
open PySem PySem.Spec PyProof.Rows PySem.W
structure SupFun (P : Program) (K : Frag) (mg : Str → Option Value) (x qual : Str) (st : Stmt) (f D : Addr) (fd : FuncData) : Prop where
  ex : ∃ (oc : Value) (od : Option Addr) (kV doc pm : Value) (an : Option Addr) (cda : Addr) (ct : Value) (osl : Array (Option Value)) (cc : Addr) (cl : Value) (cld : Option Addr) (csl : Array (Option Value)) (ccl : Value) (cdd : Option Addr) (ccs : Array (Option Value)) (vsc : Array Value) (file : Str) (tf : Tok),
    fd = fnX x qual (defArgs st) (defBody st) (defScope st) [("__class__", cc)] .none kV doc pm an (.ref cda) ct ∧ K.lookup f = some ⟨oc, od, .func fd, osl⟩ ∧ codeIn K (.ref cda) qual = true ∧ K.lookup cc = some ⟨cl, cld, .cell (some (.ref D)), csl⟩ ∧ K.lookup cda = some ⟨ccl, cdd, .fields vsc, ccs⟩ ∧ vsc[2]? = some (.str file tf) ∧ ((P.main.file : Str) == file) = true
  cD : isClsIn K D = true
  top : (P.main.scope.names.lookup ("super" : Str)).isSome = false
  ms : mg "super" = none
  op : nsIn K cStatics "thirdparty.any" = some none
theorem SupFun.binds {P : Program} {K : Frag} {mg : Str → Option Value} {x qual : Str} {st : Stmt} {f D : Addr} {fd : FuncData} {ps : List Str} (F : SupFun P K mg x qual st f D fd)
    (h : ∀ (cc : Addr) (kV doc pm : Value) (an : Option Addr) (cdv ct : Value) (us : List Value), us.length = ps.length → bindArgs (fnX x qual (defArgs st) (defBody st) (defScope st) [("__class__", cc)] .none kV doc pm an cdv ct) ⟨us, []⟩ = pure (ps.zip us)) : Binds K fd ps [] := by
  obtain ⟨oc, od, kV, doc, pm, an, cda, ct, osl, cc, cl, cld, csl, ccl, cdd, ccs, vsc, file, tf, rfl, _⟩ := F.ex
  exact .all (h cc kV doc pm an (.ref cda) ct)
end L2
namespace J
open PySem PySem.Spec L2 PyProof.Rows ClX RZ
end J
namespace L2
open PySem PySem.Spec PyProof.Rows L2H
end L2
namespace J
open PySem PySem.Spec L2 PyProof.Rows ClX RZ
end J
namespace L2
open PySem PySem.Spec PyProof.Rows
/-- as FunD.ok, for a def that lets nothing out -/
theorem FunD.ok0 {P : Program} {w : World} {K : PySem.W.Frag} {mg : Str → Option Value} {base : Heap} {x qual : Str} {params : Arguments} {body : List Stmt} {scope : Scope} {dvs : List V} {kws : List (Str × V)} {f : Addr} {fd : FuncData} {N ps : List Str} {k : Nat} {sp : Sp}
    (F : FunD K x qual params body scope dvs kws f fd) (S : FnScope N ps scope) (len : ∀ vs H Q E, sp vs H Q E → vs.length = ps.length)
    (hbody : ∀ (cdv : Value) (A : Around) (outer : List Env) (s : Shared) (H : Hp) (vs : List V) (Q : VK) (E : XK), Room k (A.deeper (envOfC qual scope s.heap.objs.size f cdv)) → sp vs H Q E →
      ∃ t, PSs (cxOf CX0 P w K mg base N qual scope f cdv A outer s H E).nox body t ∧ t { nx := fun _ H' => Q .non H', rt := Q } (start N vs) H) : FnOk P w K mg base CX0 (k + 1) f fd ps sp := by
  obtain ⟨oc, od, dV, kV, doc, pm, an, cdv, ct, osl, rfl, lk, hcd, _, _⟩ := F.ex
  refine fn_of lk hcd S len fun A outer s H vs Q E hr hsp => ?_
  obtain ⟨t, h, q⟩ := hbody cdv A outer s H vs Q E hr hsp
  exact ⟨t, h.nox, q⟩
end L2
namespace J
open PySem PySem.Spec L2 PyProof.Rows ClX RZ
end J
namespace J
open PySem PySem.Spec L2
section
variable {X : Cx} {F : Fr} {g : Gm} {α β γ ρ τ : Type} {K : PySem.W.Frag}
def trR (K : PySem.W.Frag) (H : Hp) : Tr → V → Prop
  | .thr a b, v => ∃ p, v = .ref p ∧ SqT K H p [.str ("through" : Str), .int a, .int b]
  | .rng k, v => ∃ p, v = .ref p ∧ SqT K H p [.str ("rings" : Str), .int k]
  | .rnd k, v => ∃ p, v = .ref p ∧ SqT K H p [.str ("rounds" : Str), .int k]
  | .no t, v => ∃ p u, v = .ref p ∧ SqT K H p [.str ("not" : Str), u] ∧ trR K H t u
  | .two c l r, v => ∃ p u1 u2, v = .ref p ∧ SqT K H p [.str (Tr.tag (.two c l r)), u1, u2] ∧ trR K H l u1 ∧ trR K H r u2
theorem trR.imm {H H' : Hp} (s : Imm H H') : ∀ {t : Tr} {v : V}, trR K H t v → trR K H' t v
  | .thr a b, v, ⟨p, e, h⟩ => ⟨p, e, s.sqT h⟩
  | .rng k, v, ⟨p, e, h⟩ => ⟨p, e, s.sqT h⟩
  | .rnd k, v, ⟨p, e, h⟩ => ⟨p, e, s.sqT h⟩
  | .no t, v, ⟨p, u, e, h, r⟩ => ⟨p, u, e, s.sqT h, trR.imm s r⟩
  | .two c l r, v, ⟨p, u1, u2, e, h, r1, r2⟩ => ⟨p, u1, u2, e, s.sqT h, trR.imm s r1, trR.imm s r2⟩
def t_Tr (K : PySem.W.Frag) : Ty Tr := ⟨fun H v t => trR K H t v, fun s h => trR.imm (Imm.of s) h⟩
instance : Im (t_Tr K) := ⟨fun s h => trR.imm s h⟩
/-- as a tuple -/
theorem trR.seq {H : Hp} : ∀ {t : Tr} {v : V}, trR K H t v → ∃ p vs, v = .ref p ∧ SqT K H p vs ∧ vs.length = t.len ∧ vs[0]? = some (.str t.tag) ∧
    (∀ i a, t.num i = some a → ∃ m : Nat, i = (m : Int) ∧ vs[m]? = some (.int a)) ∧ (∀ i s, t.sub i = some s → ∃ m : Nat, ∃ u, i = (m : Int) ∧ vs[m]? = some u ∧ trR K H s u) ∧
    (∀ ts, t.parts = some ts → Paired (fun u s => trR K H s u) (vs.drop 1) ts)
  | .thr a b, v, ⟨p, e, h⟩ => by
    refine ⟨p, _, e, h, rfl, rfl, fun i x z => ?_, fun i x z => (nomatch z), fun ts z => (nomatch z)⟩
    simp only [Tr.num] at z
    by_cases h1 : i = 1
    · rw [if_pos h1] at z
      exact ⟨1, h1, by rw [← Option.some.inj z]; rfl⟩
    · rw [if_neg h1] at z
      by_cases h2 : i = 2
      · rw [if_pos h2] at z
        exact ⟨2, h2, by rw [← Option.some.inj z]; rfl⟩
      · rw [if_neg h2] at z
        cases z
  | .rng k, v, ⟨p, e, h⟩ => by
    refine ⟨p, _, e, h, rfl, rfl, fun i x z => ?_, fun i x z => (nomatch z), fun ts z => (nomatch z)⟩
    simp only [Tr.num] at z
    by_cases h1 : i = 1
    · rw [if_pos h1] at z
      exact ⟨1, h1, by rw [← Option.some.inj z]; rfl⟩
    · rw [if_neg h1] at z
      cases z
  | .rnd k, v, ⟨p, e, h⟩ => by
    refine ⟨p, _, e, h, rfl, rfl, fun i x z => ?_, fun i x z => (nomatch z), fun ts z => (nomatch z)⟩
    simp only [Tr.num] at z
    by_cases h1 : i = 1
    · rw [if_pos h1] at z
      exact ⟨1, h1, by rw [← Option.some.inj z]; rfl⟩
    · rw [if_neg h1] at z
      cases z
  | .no t, v, ⟨p, u, e, h, r⟩ => by
    refine ⟨p, _, e, h, rfl, rfl, fun i x z => (nomatch z), fun i x z => ?_, fun ts z => ?_⟩
    · simp only [Tr.sub] at z
      by_cases h1 : i = 1
      · rw [if_pos h1] at z
        exact ⟨1, u, h1, rfl, by rw [← Option.some.inj z]; exact r⟩
      · rw [if_neg h1] at z
        cases z
    · have z' := Option.some.inj z
      subst z'
      exact .cons r .nil
  | .two c l r, v, ⟨p, u1, u2, e, h, r1, r2⟩ => by
    refine ⟨p, _, e, h, by cases c <;> rfl, rfl, fun i x z => (nomatch z), fun i x z => ?_, fun ts z => ?_⟩
    · simp only [Tr.sub] at z
      by_cases h1 : i = 1
      · rw [if_pos h1] at z
        exact ⟨1, u1, h1, rfl, by rw [← Option.some.inj z]; exact r1⟩
      · rw [if_neg h1] at z
        by_cases h2 : i = 2
        · rw [if_pos h2] at z
          exact ⟨2, u2, h2, rfl, by rw [← Option.some.inj z]; exact r2⟩
        · rw [if_neg h2] at z
          cases z
    · have z' := Option.some.inj z
      subst z'
      exact .cons r1 (.cons r2 .nil)
def trEnc : Tr → PyData
  | .thr a b => .tuple [.str ("through" : Str), .int a, .int b]
  | .rng k => .tuple [.str ("rings" : Str), .int k]
  | .rnd k => .tuple [.str ("rounds" : Str), .int k]
  | .no t => .tuple [.str ("not" : Str), trEnc t]
  | .two c l r => .tuple [.str (Tr.tag (.two c l r)), trEnc l, trEnc r]
theorem trDp {H : Hp} : ∀ {t : Tr} {v : V}, trR K H t v → Dp K H v (trEnc t)
  | .thr a b, v, ⟨p, e, h⟩ => by
    subst e
    exact .tup h (.cons (.str _) (.cons (.int _) (.cons (.int _) .nil)))
  | .rng k, v, ⟨p, e, h⟩ => by
    subst e
    exact .tup h (.cons (.str _) (.cons (.int _) .nil))
  | .rnd k, v, ⟨p, e, h⟩ => by
    subst e
    exact .tup h (.cons (.str _) (.cons (.int _) .nil))
  | .no t, v, ⟨p, u, e, h, r⟩ => by
    subst e
    exact .tup h (.cons (.str _) (.cons (trDp r) .nil))
  | .two c l r, v, ⟨p, u1, u2, e, h, r1, r2⟩ => by
    subst e
    exact .tup h (.cons (.str _) (.cons (trDp r1) (.cons (trDp r2) .nil)))
theorem trLay : ∀ t : Tr, (trEnc t).canLay0 = true
  | .thr a b => by
    have h : PyData.strOk ("through" : Str) = true := by decide +kernel
    simp [trEnc, PyData.canLay0, PyData.canLayAll0, h]
  | .rng k => by
    have h : PyData.strOk ("rings" : Str) = true := by decide +kernel
    simp [trEnc, PyData.canLay0, PyData.canLayAll0, h]
  | .rnd k => by
    have h : PyData.strOk ("rounds" : Str) = true := by decide +kernel
    simp [trEnc, PyData.canLay0, PyData.canLayAll0, h]
  | .no t => by
    have h : PyData.strOk ("not" : Str) = true := by decide +kernel
    simp [trEnc, PyData.canLay0, PyData.canLayAll0, h, trLay t]
  | .two c l r => by
    have h1 : PyData.strOk ("and" : Str) = true := by decide +kernel
    have h2 : PyData.strOk ("or" : Str) = true := by decide +kernel
    cases c <;> simp [trEnc, Tr.tag, PyData.canLay0, PyData.canLayAll0, h1, h2, trLay l, trLay r]
theorem trDepth : ∀ t : Tr, (trEnc t).depth ≤ t.ht
  | .thr a b => by simp [trEnc, PyData.depth, PyData.depthAll, Tr.ht]
  | .rng k => by simp [trEnc, PyData.depth, PyData.depthAll, Tr.ht]
  | .rnd k => by simp [trEnc, PyData.depth, PyData.depthAll, Tr.ht]
  | .no t => by
    have := trDepth t
    simp only [trEnc, PyData.depth, PyData.depthAll, Tr.ht]
    omega
  | .two c l r => by
    have := trDepth l
    have := trDepth r
    simp only [trEnc, PyData.depth, PyData.depthAll, Tr.ht]
    omega
theorem str_eqv {x y : Str} (h : x ≠ y) : PyData.eqv (.str x) (.str y) = false := by
  unfold PyData.eqv
  exact beq_false_of_ne h
theorem str_eqvR {x : Str} : PyData.eqv (.str x) (.str x) = true := by
  unfold PyData.eqv
  simp
def trRest : Tr → List PyData
  | .thr a b => [.int a, .int b]
  | .rng k => [.int k]
  | .rnd k => [.int k]
  | .no t => [trEnc t]
  | .two c l r => [trEnc l, trEnc r]
theorem trEnc_head (t : Tr) : trEnc t = .tuple (.str t.tag :: trRest t) := by
  cases t <;> rfl
theorem eqvH (x y : Str) (r q : List PyData) : PyData.eqv (.tuple (.str x :: r)) (.tuple (.str y :: q)) = (PyData.eqv (.str x) (.str y) && PyData.eqvAll r q) := by
  simp only [PyData.eqv, PyData.eqvAll]
def Tr.code : Tr → Nat
  | .thr _ _ => 0
  | .rng _ => 1
  | .rnd _ => 2
  | .no _ => 3
  | .two true _ _ => 4
  | .two false _ _ => 5
def codeS (i : Nat) : Str := match i with
  | 0 => ("through" : Str)
  | 1 => ("rings" : Str)
  | 2 => ("rounds" : Str)
  | 3 => ("not" : Str)
  | 4 => ("and" : Str)
  | _ => ("or" : Str)
theorem codeS_inj : ∀ i, i < 6 → ∀ j, j < 6 → codeS i = codeS j → i = j := by decide +kernel
theorem Tr.tag_code (t : Tr) : t.tag = codeS t.code ∧ t.code < 6 := by
  cases t with
  | two c l r => cases c <;> exact ⟨rfl, by simp [Tr.code]⟩
  | _ => exact ⟨rfl, by simp [Tr.code]⟩
theorem Tr.code_of {s t : Tr} (h : s.tag = t.tag) : s.code = t.code := by
  have h1 := Tr.tag_code s
  have h2 := Tr.tag_code t
  rw [h1.1, h2.1] at h
  exact codeS_inj _ h1.2 _ h2.2 h
theorem trE_step {l x : Tr} (ih : l.tag = x.tag → PyData.eqvAll (trRest l) (trRest x) = decide (l = x)) : PyData.eqv (trEnc l) (trEnc x) = decide (l = x) := by
  rw [trEnc_head, trEnc_head, eqvH]
  by_cases e0 : l.tag = x.tag
  · rw [ih e0, e0, str_eqvR]
    rfl
  · rw [str_eqv e0, decide_eq_false (fun q => e0 (by rw [q]))]
    rfl
theorem trRest_eqv : ∀ s t : Tr, s.code = t.code → PyData.eqvAll (trRest s) (trRest t) = decide (s = t)
  | .thr a b, t, h => by
    cases t with
    | thr c d =>
      simp only [trRest, PyData.eqv, PyData.eqvAll, Bool.beq_eq_decide_eq]
      by_cases e1 : a = c <;> by_cases e2 : b = d <;> simp [e1, e2]
    | two c l r => cases c <;> cases h
    | _ => cases h
  | .rng k, t, h => by
    cases t with
    | rng m =>
      simp only [trRest, PyData.eqv, PyData.eqvAll, Bool.beq_eq_decide_eq]
      by_cases e1 : k = m <;> simp [e1]
    | two c l r => cases c <;> cases h
    | _ => cases h
  | .rnd k, t, h => by
    cases t with
    | rnd m =>
      simp only [trRest, PyData.eqv, PyData.eqvAll, Bool.beq_eq_decide_eq]
      by_cases e1 : k = m <;> simp [e1]
    | two c l r => cases c <;> cases h
    | _ => cases h
  | .no u, t, h => by
    cases t with
    | no z =>
      have h1 := trE_step (l := u) (x := z) fun e => trRest_eqv u z (Tr.code_of e)
      simp only [trRest, PyData.eqvAll, h1]
      by_cases e1 : u = z <;> simp [e1]
    | two c l r => cases c <;> cases h
    | _ => cases h
  | .two c l r, t, h => by
    cases t with
    | two d x y =>
      have ec : c = d := by
        cases c <;> cases d <;> first | rfl | cases h
      subst ec
      have h1 := trE_step (l := l) (x := x) fun e => trRest_eqv l x (Tr.code_of e)
      have h2 := trE_step (l := r) (x := y) fun e => trRest_eqv r y (Tr.code_of e)
      simp only [trRest, PyData.eqvAll, h1, h2]
      by_cases e1 : l = x <;> by_cases e2 : r = y <;> simp [e1, e2]
    | _ => cases c <;> cases h
theorem trEqv (s t : Tr) : PyData.eqv (trEnc s) (trEnc t) = decide (s = t) := trE_step fun e => trRest_eqv s t (Tr.code_of e)
instance : Dat K (t_Tr K) where
  enc := trEnc
  dp := fun h => trDp h
  lay := fun t _ => trLay t
  n := 60
  dep := fun t h => Nat.le_trans (trDepth t) h
  eqv := trEqv
end
end J
namespace J
open PySem PySem.Spec L2 PyProof.Rows ClX RZ
end J
namespace J
open PySem PySem.Spec L2
section
variable {X : Cx} {F : Fr} {g : Gm} {pos : Pos} {rest : List Stmt} {D : Ends}
theorem js_mk2 {st : Stmt} {i : Nat} {we1 we2 : (List Int → Prop) → Prop} {wr : List Int → List Int → Prop}
    (p : PS X st (tAsg (tLst (tCons (RJ F g (rN tI) we1) (tCons (RJ F g (rN tI) we2) tNil))) (gName i)))
    (hr : ∀ p p1 p2 xs ys, JSs X F ⟨g.s.set i (.at p), .raw p (.lst [.ref p1, .ref p2]) :: .lst p2 tI ys :: .lst p1 tI xs :: g.c⟩ rest D (wr xs ys)) :
    JSs X F g (st :: rest) D (we1 fun xs => we2 fun ys => wLet xs fun xs => wLet ys fun ys => wr xs ys) := by
  refine pssW (pss_cons p (pssE (t := fun (q : (Addr × Addr × Addr) × List Int × List Int) => RS F ⟨g.s.set i (.at q.1.1), .raw q.1.1 (.lst [.ref q.1.2.1, .ref q.1.2.2]) :: .lst q.1.2.2 tI q.2.2 :: .lst q.1.2.1 tI q.2.1 :: g.c⟩ D (wr q.2.1 q.2.2)) fun q => hr q.1.1 q.1.2.1 q.1.2.2 q.2.1 q.2.2)) fun D' σ H ⟨e, k, w⟩ => ?_
  refine ⟨k, _, w, fun xs v1 H1 w1 s1 ⟨p1, vs1, e1, h01, hb1, r1⟩ => ⟨k.step s1, _, w1, fun ys v2 H2 w2 s2 ⟨p2, vs2, e2, h02, hb2, r2⟩ => ⟨Nat.le_trans (show 2 ≤ 1000000 by decide) (by decide : 1000000 ≤ sizeLine), fun p hp => ⟨((p, p1, p2), xs, ys), e, ?_, w2⟩⟩⟩⟩
  have k1 : (g.push (.lst p1 tI xs)).Ok F σ H1 := k.new s1 h01 hb1 r1
  have hH2 : H2 p2 = some (.lst vs2) := (k.leT (s1.trans s2)) _ _ hb2
  have k2 : ((g.push (.lst p1 tI xs)).push (.lst p2 tI ys)).Ok F σ H2 := k1.new s2 h02 (k1.bs_of s2 h02 hH2) r2
  subst e1 e2
  have k3 : (((g.push (.lst p1 tI xs)).push (.lst p2 tI ys)).push (.raw p (.lst [.ref p1, .ref p2]))).Ok F σ (upd H2 p (.lst [.ref p1, .ref p2])) := k2.push (same_upd hp) rfl hp ⟨k2.same.free hp, rfl, upd_same⟩
  exact k3.set (t := .at p) rfl
/-- the list at a written place -/
def tOwn (F : Fr) (g : Gm) (p : Addr) : TE := fun σ H Q => g.Ok F σ H ∧ Q (.ref p) H
theorem pe_own {i j : Nat} {c : Int} {m : Nat} {p p1 : Addr} {ls : List V} {x : Str} {px pc : Pos} {jj : Nat} (hs : g.s[i]? = some (.at p)) (hr : g.c[j]? = some (.raw p (.lst ls))) (hl : ls[m]? = some (.ref p1)) (hn : c = (m : Int) := by rfl) (hN : X.N[i]? = some x := by rfl) (hv : Vis X.env.scope x := by first | exact Or.inl rfl | exact Or.inr (Or.inl rfl) | exact Or.inr (Or.inr rfl))
    (hd : (x == ("__debug__" : Str)) = false := by decide) (hcd : (x == ("__classdict__" : Str)) = false := by decide) (hp : PlainIx (.Constant (.int c) jj pc) := by exact fun _ _ => rfl) : PE X (.Subscript (.Name x px) (.Constant (.int c) jj pc) pos) (tOwn F g p1) :=
  peW (pe_ix ix_list (pe_var hN hv hd hcd) pe_int hp) fun σ H Q ⟨k, q⟩ => ⟨.ref p, k.ref hs, p, ls, c, .ref p1, rfl, rfl, .inl (.inl (k.raw hr)), by rw [hn]; exact atI_nat hl, q⟩
theorem js_setOwn {st : Stmt} {j1 : Nat} {p1 : Addr} {xs : List Int} {we : (Int → Prop) → Prop} {wi : (Int → Prop) → Prop} {wr : List Int → Prop} (hp : PS X st (tAsg (RJ F g (rO tI) we) (gSub (tOwn F g p1) (RJ F g (rO tI) wi) rSetL)))
    (hr : ∀ ys, JSs X F ⟨g.s, g.c.set j1 (.lst p1 tI ys)⟩ rest D (wr ys)) (hc : g.c[j1]? = some (.lst p1 tI xs)) :
    JSs X F g (st :: rest) D (we fun a => wi fun k => ∃ m, ixW xs.length k = some m ∧ wLet (xs.set m a) wr) := by
  refine pssW (pss_cons hp (pssE hr)) fun D' σ H ⟨e, k, w⟩ => ?_
  refine ⟨k, _, w, fun a v H1 w1 s1 ra => ?_⟩
  have k1 := k.step s1
  refine ⟨k1, k1, _, w1, fun n u H2 ⟨m, hm, w2⟩ s2 rn => ?_⟩
  have k2 := k1.step s2
  obtain ⟨vs, hl, pr⟩ := k2.cell hc
  have en : ixN vs.length n = some m := ixW_N (by rw [Paired.len pr]; exact hm)
  exact ⟨p1, vs, n, m, rfl, rn, hl, en, xs.set m a, e, k2.mut hc (Paired.set (tI.same (Gm.mono s2) ra) m pr), w2⟩
/-- the display is handed back -/
theorem js_ret2 {i j j1 j2 : Nat} {p p1 p2 : Addr} {xs ys : List Int} {P : List (List Int) → Prop} {x : Str} {px : Pos} {nx bk ct : L2.St → Hp → Prop} {rt : VK} (hrt : RtOk F (rN (tK tI)) P rt) (hs : g.s[i]? = some (.at p)) (hc : g.c[j]? = some (.raw p (.lst [.ref p1, .ref p2]))) (hc1 : g.c[j1]? = some (.lst p1 tI xs)) (hc2 : g.c[j2]? = some (.lst p2 tI ys)) (n1 : j1 ≠ j) (n2 : j2 ≠ j)
    (hN : X.N[i]? = some x := by rfl) (hv : Vis X.env.scope x := by first | exact Or.inl rfl | exact Or.inr (Or.inl rfl) | exact Or.inr (Or.inr rfl))
    (hd : (x == ("__debug__" : Str)) = false := by decide) (hcd : (x == ("__classdict__" : Str)) = false := by decide) : JSs X F g (.Return (some (.Name x px)) pos :: rest) ⟨nx, rt, bk, ct⟩ (P [xs, ys]) :=
  pssW (pss_cons (ps_ret (pe_var hN hv hd hcd)) pss_never) fun D σ H ⟨e, k, q⟩ => by
    have m0 := k.cells _ (List.mem_of_getElem? hc)
    obtain ⟨f1, vs1, hv1, r1⟩ := k.cells _ (List.mem_of_getElem? hc1)
    obtain ⟨f2, vs2, hv2, r2⟩ := k.cells _ (List.mem_of_getElem? hc2)
    have ne1 : p1 ≠ p := fun z => n1 (addr_of_get hc rfl k.nd j1 _ hc1 (by rw [z]; rfl))
    have ne2 : p2 ≠ p := fun z => n2 (addr_of_get hc rfl k.nd j2 _ hc2 (by rw [z]; rfl))
    have o0 : F.out H p = some (.lst [.ref p1, .ref p2]) := bsA_of (fun z => by cases z) m0.1 m0.2.2
    have o1 : rm (F.out H) p p1 = some (.lst vs1) := by
      unfold rm
      rw [if_neg ne1]
      exact bsA_of (fun z => by cases z) f1 hv1
    have o2 : rm (F.out H) p p2 = some (.lst vs2) := by
      unfold rm
      rw [if_neg ne2]
      exact bsA_of (fun z => by cases z) f2 hv2
    exact ⟨.ref p, k.ref hs, e.rt _ _ (hrt [xs, ys] _ H q k.same ⟨p, _, rfl, m0.1, o0, .cons ⟨p1, vs1, rfl, o1, r1⟩ (.cons ⟨p2, vs2, rfl, o2, r2⟩ .nil)⟩)⟩
end
end J
namespace J
open PySem PySem.Spec L2
section
variable {X : Cx} {F : Fr} {g : Gm} {K : PySem.W.Frag}
def siR : Str ⊕ Int → V → Prop
  | .inl z, v => v = .str z
  | .inr n, v => v = .int n
def tSI : Ty (Str ⊕ Int) := ⟨fun _ v a => siR a v, fun _ h => h⟩
instance : Im tSI := ⟨fun _ h => h⟩
end
end J
namespace J
open PySem PySem.Spec L2
end J
namespace J
open PySem PySem.Spec L2
end J
namespace L2
open PySem PySem.Spec PyProof.Rows
end L2
namespace J
open PySem PySem.Spec L2 PyProof.Rows ClX RZ
end J
namespace L2
open PySem PySem.Spec PyProof.Rows
end L2
namespace J
open PySem PySem.Spec L2 PyProof.Rows
variable {K : PySem.W.Frag}
def toldR (K : PySem.W.Frag) (H : Hp) (v : V) : Told → Prop
  | .yes b => v = .bl b
  | .txt z => v = .str z
  | .one z n => ∃ a, v = .ref a ∧ SqT K H a [.str z, .int n]
  | .two z p q => ∃ a, v = .ref a ∧ SqT K H a [.str z, .int p, .int q]
def t_Told (K : PySem.W.Frag) : Ty Told := ⟨fun H v t => toldR K H v t, fun {H H' v t} s h => by
  cases t with
  | yes b => exact h
  | txt z => exact h
  | one z n => obtain ⟨a, e, h⟩ := h; exact ⟨a, e, Same.sqT s h⟩
  | two z p q => obtain ⟨a, e, h⟩ := h; exact ⟨a, e, Same.sqT s h⟩⟩
instance : Im (t_Told K) := ⟨fun {H H' v t} s h => by
  cases t with
  | yes b => exact h
  | txt z => exact h
  | one z n => obtain ⟨a, e, h⟩ := h; exact ⟨a, e, Imm.sqT s h⟩
  | two z p q => obtain ⟨a, e, h⟩ := h; exact ⟨a, e, Imm.sqT s h⟩⟩
def toldEnc : Told → PyData
  | .yes b => .bool b
  | .txt z => .str z
  | .one z n => .tuple [.str z, .int n]
  | .two z p q => .tuple [.str z, .int p, .int q]
theorem toldEqv (s t : Told) : PyData.eqv (toldEnc s) (toldEnc t) = decide (s = t) := by
  have hs : ∀ x y : Str, PyData.eqv (.str x) (.str y) = decide (x = y) := fun x y => by
    by_cases h : x = y
    · subst h
      rw [str_eqvR, decide_eq_true rfl]
    · rw [str_eqv h, decide_eq_false h]
  cases s <;> cases t <;> simp [toldEnc, PyData.eqv, PyData.eqvAll, hs, Bool.beq_eq_decide_eq]
instance : Dat K (t_Told K) where
  enc := toldEnc
  dp := fun {H v t} h => by
    cases t with
    | yes b =>
      cases (show v = .bl b from h)
      exact .bl _
    | txt z =>
      cases (show v = .str z from h)
      exact .str _
    | one z n =>
      obtain ⟨a, e, h⟩ := h
      subst e
      exact .tup h (.cons (.str _) (.cons (.int _) .nil))
    | two z p q =>
      obtain ⟨a, e, h⟩ := h
      subst e
      exact .tup h (.cons (.str _) (.cons (.int _) (.cons (.int _) .nil)))
  lay := fun t h => by
    cases t with
    | yes b => simp [toldEnc, PyData.canLay0]
    | txt z =>
      have h' : PyData.strOk z = true := h
      simp [toldEnc, PyData.canLay0, h']
    | one z n =>
      have h' : PyData.strOk z = true := h
      simp [toldEnc, PyData.canLay0, PyData.canLayAll0, h']
    | two z p q =>
      have h' : PyData.strOk z = true := h
      simp [toldEnc, PyData.canLay0, PyData.canLayAll0, h']
  n := 3
  dep := fun t _ => by
    cases t <;> simp [toldEnc, PyData.depth, PyData.depthAll]
  eqv := toldEqv
end J
namespace GenS
open PySem L2 PyProof.Rows
open PySem.Sem (wp)
def isRet : Frame → Bool
  | .ret .. => true
  | .gen .. => false
def FsOk (fs : List Frame) : Prop := ∀ F ∈ fs, isRet F = true
theorem FsOk.nil : FsOk [] := fun _ h => by cases h
theorem FsOk.app {a b : List Frame} (h : FsOk a) (h2 : FsOk b) : FsOk (a ++ b) := fun F hF => (List.mem_append.mp hF).elim (h F) (h2 F)
theorem FsOk.tail {F : Frame} {b : List Frame} (h : FsOk (F :: b)) : FsOk b := fun G hG => h G (List.mem_cons_of_mem _ hG)
theorem FsOk.split {fs : List Frame} (h : FsOk fs) : splitAtGen fs = none := by
  induction fs with
  | nil => rfl
  | cons F r ih =>
    cases F with
    | ret k hh g l c p kp =>
      show (splitAtGen r).map _ = none
      rw [ih h.tail]
      rfl
    | gen g k l c p => exact absurd (h _ List.mem_cons_self) (by simp [isRet])
def GsOk : GenState → Prop
  | .suspended _ _ _ _ fs _ => FsOk fs
  | _ => True
def EndOk : End → Prop
  | .susp _ _ _ _ _ _ fs => FsOk fs
  | .ret _ => True
theorem EndOk.gs {e : End} (h : EndOk e) : GsOk e.genState := by
  cases e with
  | ret r => trivial
  | susp v g l k c p fs => exact h
/-- the same, but stuck when it is woken -/
def stuck : GenState → GenState
  | .suspended _ l c p fs cl => .suspended (fun _ => .unsupported "asleep") l c p fs cl
  | x => x
def isSusp : GenState → Bool
  | .suspended .. => true
  | _ => false
theorem stuck_seen (x : GenState) : (stuck x).seen = x.seen := by cases x <;> rfl
theorem stuck_bare (x : GenState) : (stuck x).bare = x.bare := by cases x <;> rfl
theorem runs_stuck {M : Model} {Γ : Ctx} {p : Pos} {wh : String} : ∀ {fs : List Frame} {s s' : Shared} {e : End}, ¬ Runs M Γ p (.unsupported wh) fs s e s' := by
  have key : ∀ {Γ : Ctx} {p : Pos} {t : Sem PySem.Fin} {fs : List Frame} {s s' : Shared} {e : End}, Runs M Γ p t fs s e s' → t = .unsupported wh → False := by
    intro Γ p t fs s s' e h
    induction h <;> intro q <;> first | (cases q; done) | (rename_i ih1 _; exact ih1 q) | (rename_i ih1; exact ih1 q) | (rename_i a1 a2 ih1 ih2; exact ih1 q) | (rename_i a0 a1 a2 a3 ih1 ih2; exact ih1 q) | skip
  intro fs s s' e h
  exact key h rfl
end GenS
namespace GenS
open PySem L2 PyProof.Rows
open PySem.Sem (wp)
/-- B: the generators that sleep, as they really are -/
structure OkG (B : Nat → Option GenState) (s : Shared) : Prop where
  zz : ∀ i y, B i = some y → isSusp y = true ∧ s.gens[i]? = some (stuck y)
  aw : ∀ i x, B i = none → s.gens[i]? = some x → GsOk x
def rl (B : Nat → Option GenState) (s : Shared) : Shared := { s with gens := s.gens.mapIdx fun i x => (B i).getD x }
section
variable {B : Nat → Option GenState} {s : Shared} {M : Model}
theorem rl_at (i : Nat) : (rl B s).gens[i]? = (s.gens[i]?).map fun x => (B i).getD x := by
  unfold rl
  simp [Array.getElem?_mapIdx]
theorem rl_size : (rl B s).gens.size = s.gens.size := by simp [rl]
theorem rl_none {g : Nat} (h : B g = none) : (rl B s).gens[g]? = s.gens[g]? := by
  rw [rl_at, h]
  cases s.gens[g]? <;> rfl
theorem OkG.real (k : OkG B s) {g : Nat} {y : GenState} (h : B g = some y) : (rl B s).gens[g]? = some y := by
  rw [rl_at, (k.zz g y h).2, h]
  rfl
theorem OkG.lt (k : OkG B s) {g : Nat} {y : GenState} (h : B g = some y) : g < s.gens.size := (Array.getElem?_eq_some_iff.mp (k.zz g y h).2).1
theorem OkG.fresh (k : OkG B s) : B s.gens.size = none := by
  cases e : B s.gens.size with
  | none => rfl
  | some y => exact absurd (k.lt e) (Nat.lt_irrefl _)
theorem rl_set {g : Nat} {x : GenState} (h : B g = none) : rl B (s.setGen g x) = (rl B s).setGen g x := by
  have e : (rl B (s.setGen g x)).gens = ((rl B s).setGen g x).gens := by
    refine Array.ext_getElem? fun i => ?_
    rw [rl_at]
    show ((s.gens.setIfInBounds g x)[i]?).map _ = ((rl B s).gens.setIfInBounds g x)[i]?
    by_cases q : g = i
    · subst q
      by_cases l : g < s.gens.size
      · have l2 : g < (rl B s).gens.size := by rw [rl_size]; exact l
        simp [l, l2, h]
      · have l2 : ¬ g < (rl B s).gens.size := by rw [rl_size]; exact l
        simp [l, l2]
    · rw [Array.getElem?_setIfInBounds_ne q, Array.getElem?_setIfInBounds_ne q, rl_at]
  exact congrArg (fun G => ({ s with gens := G } : Shared)) e
theorem OkG.set (k : OkG B s) {g : Nat} {x : GenState} (h : B g = none) (hx : GsOk x) : OkG B (s.setGen g x) := by
  refine ⟨fun i y e => ?_, fun i y e q => ?_⟩
  · have ne : g ≠ i := fun z => by rw [z, e] at h; cases h
    refine ⟨(k.zz i y e).1, ?_⟩
    show (s.gens.setIfInBounds g x)[i]? = _
    rw [Array.getElem?_setIfInBounds_ne ne]
    exact (k.zz i y e).2
  · have q' : (s.gens.setIfInBounds g x)[i]? = some y := q
    by_cases z : g = i
    · subst z
      by_cases l : g < s.gens.size
      · rw [Array.getElem?_setIfInBounds_self_of_lt l] at q'
        cases q'
        exact hx
      · rw [Array.getElem?_eq_none (by simpa using l)] at q'
        cases q'
    · rw [Array.getElem?_setIfInBounds_ne z] at q'
      exact k.aw i y e q'
theorem rl_push {c : Code} (k : OkG B s) : rl B { s with gens := s.gens.push (.fresh c) } = { rl B s with gens := (rl B s).gens.push (.fresh c) } := by
  have e : (rl B { s with gens := s.gens.push (.fresh c) }).gens = (rl B s).gens.push (.fresh c) := by
    refine Array.ext_getElem? fun i => ?_
    rw [rl_at]
    show ((s.gens.push (.fresh c))[i]?).map _ = _
    rw [Array.getElem?_push, Array.getElem?_push, rl_size]
    by_cases z : i = s.gens.size
    · rw [if_pos z, if_pos z]
      show some _ = _
      rw [z, k.fresh]
      rfl
    · rw [if_neg z, if_neg z, rl_at]
  exact congrArg (fun G => ({ s with gens := G } : Shared)) e
theorem OkG.push (k : OkG B s) {c : Code} : OkG B { s with gens := s.gens.push (.fresh c) } := by
  refine ⟨fun i y e => ⟨(k.zz i y e).1, ?_⟩, fun i y e q => ?_⟩
  · show (s.gens.push (.fresh c))[i]? = _
    rw [Array.getElem?_push, if_neg (Nat.ne_of_lt (k.lt e))]
    exact (k.zz i y e).2
  · have q' : (s.gens.push (.fresh c))[i]? = some y := q
    rw [Array.getElem?_push] at q'
    by_cases z : i = s.gens.size
    · rw [if_pos z] at q'
      cases q'
      trivial
    · rw [if_neg z] at q'
      exact k.aw i y e q'
theorem OkG.seen (k : OkG B s) {g : Nat} {x : GenState} (h : s.gens[g]? = some x) : ∃ y, (rl B s).gens[g]? = some y ∧ y.seen = x.seen := by
  cases e : B g with
  | none => exact ⟨x, by rw [rl_none e, h], rfl⟩
  | some y =>
    have := (k.zz g y e).2
    rw [h] at this
    cases this
    exact ⟨y, k.real e, (stuck_seen y).symm⟩
/-- an entry that is not asleep is the same in both -/
theorem OkG.same (k : OkG B s) {g : Nat} {x : GenState} (h : s.gens[g]? = some x) (hx : ∀ y, isSusp y = true → x ≠ stuck y) : B g = none ∧ (rl B s).gens[g]? = some x := by
  cases e : B g with
  | none => exact ⟨rfl, by rw [rl_none e, h]⟩
  | some y =>
    obtain ⟨h1, h2⟩ := k.zz g y e
    rw [h] at h2
    exact absurd (Option.some.inj h2) (hx y h1)
theorem ns {x y : GenState} (h : isSusp x = false) : isSusp y = true → x ≠ stuck y := fun hy e => by
  cases y <;> simp [isSusp, stuck] at hy e
  rw [e] at h
  cases h
/-- THE LOCKSTEP -/
theorem runs_sim {Γ : Ctx} {p : Pos} {t : Sem PySem.Fin} {fs : List Frame} {s s' : Shared} {e : End} (h : Runs M Γ p t fs s e s') : FsOk fs → OkG B s → Runs M Γ p t fs (rl B s) e (rl B s') ∧ OkG B s' ∧ EndOk e := by
  induction h with
  | done => exact fun _ k => ⟨.done, k, trivial⟩
  | raise => exact fun _ k => ⟨.raise, k, trivial⟩
  | again q _ ih => exact fun f k => ⟨.again q (ih f k).1, (ih f k).2⟩
  | rule _ ih => exact fun f k => ⟨.rule (ih f k).1, (ih f k).2⟩
  | «at» _ ih => exact fun f k => ⟨.at (ih f k).1, (ih f k).2⟩
  | load q _ ih => exact fun f k => ⟨.load q (ih f k).1, (ih f k).2⟩
  | update q _ ih => exact fun f k => ⟨.update q (ih f ⟨k.zz, k.aw⟩).1, (ih f ⟨k.zz, k.aw⟩).2⟩
  | loadIfAlive _ ih => exact fun f k => ⟨.loadIfAlive (ih f k).1, (ih f k).2⟩
  | point _ ih => exact fun f k => ⟨.point (ih f k).1, (ih f k).2⟩
  | alloc _ ih => exact fun f k => ⟨.alloc (ih f ⟨k.zz, k.aw⟩).1, (ih f ⟨k.zz, k.aw⟩).2⟩
  | fresh _ ih => exact fun f k => ⟨.fresh (ih f ⟨k.zz, k.aw⟩).1, (ih f ⟨k.zz, k.aw⟩).2⟩
  | ask _ ih => exact fun f k => ⟨.ask (ih f k).1, (ih f k).2⟩
  | choose q _ ih => exact fun f k => ⟨.choose q (ih f ⟨k.zz, k.aw⟩).1, (ih f ⟨k.zz, k.aw⟩).2⟩
  | os _ ih => exact fun f k => ⟨.os (ih f ⟨k.zz, k.aw⟩).1, (ih f ⟨k.zz, k.aw⟩).2⟩
  | handled _ ih => exact fun f k => ⟨.handled (ih f k).1, (ih f k).2⟩
  | genState q _ ih =>
    intro f k
    obtain ⟨y, hy, e⟩ := k.seen q
    refine ⟨.genState hy ?_, (ih f k).2⟩
    rw [e]
    exact (ih f k).1
  | stack _ ih => exact fun f k => ⟨.stack (ih f k).1, (ih f k).2⟩
  | thread _ ih => exact fun f k => ⟨.thread (ih f k).1, (ih f k).2⟩
  | newGen _ ih =>
    intro f k
    have q := ih f k.push
    refine ⟨.newGen ?_, q.2⟩
    rw [rl_size]
    have q1 := q.1
    rw [rl_push k] at q1
    exact q1
  | call _ _ ih1 ih2 =>
    intro f k
    obtain ⟨r1, k1, _⟩ := ih1 FsOk.nil k
    obtain ⟨r2, k2, e2⟩ := ih2 f k1
    exact ⟨.call r1 r2, k2, e2⟩
  | callSusp _ ih =>
    intro f k
    obtain ⟨r1, k1, e1⟩ := ih FsOk.nil k
    exact ⟨.callSusp r1, k1, FsOk.app e1 fun F hF => by rw [List.mem_singleton.mp hF]; rfl⟩
  | yield => exact fun f k => ⟨.yield, k, FsOk.nil⟩
  | @resumeFresh Γ p g l k0 s c e₁ s₁ e s' q _ hq _ ih1 ih2 =>
    intro f k
    obtain ⟨b, q2⟩ := k.same q fun y hy => ns rfl hy
    obtain ⟨r1, k1, e1⟩ := ih1 FsOk.nil (k.set b (x := .running) trivial)
    obtain ⟨r2, k2, e2⟩ := ih2 f (k1.set b e1.gs)
    rw [rl_set b] at r1 r2
    exact ⟨.resumeFresh q2 r1 hq r2, k2, e2⟩
  | @resumeSuspended Γ p g r l k0 s k₀ l₀ c₀ p₀ fs cl e₁ s₁ e s' q h1 hq _ ih1 ih2 =>
    intro f k
    cases b : B g with
    | none =>
      obtain ⟨r1, k1, e1⟩ := ih1 (k.aw g _ b q) (k.set b (x := .running) trivial)
      obtain ⟨r2, k2, e2⟩ := ih2 f (k1.set b e1.gs)
      rw [rl_set b] at r1 r2
      exact ⟨.resumeSuspended (by rw [rl_none b, q]) r1 hq r2, k2, e2⟩
    | some y =>
      obtain ⟨y1, y2⟩ := k.zz g y b
      rw [q] at y2
      cases y <;> simp [isSusp, stuck] at y1 y2
      obtain ⟨a1, _⟩ := y2
      rw [a1] at h1
      exact absurd h1 runs_stuck
  | resumeJustStarted q hv _ ih =>
    intro f k
    obtain ⟨b, q2⟩ := k.same q fun y hy => ns rfl hy
    exact ⟨.resumeJustStarted q2 hv (ih f k).1, (ih f k).2⟩
  | resumeThrowFresh q _ ih =>
    intro f k
    obtain ⟨b, q2⟩ := k.same q fun y hy => ns rfl hy
    obtain ⟨r1, k1, e1⟩ := ih f (k.set b (x := .finished) trivial)
    rw [rl_set b] at r1
    exact ⟨.resumeThrowFresh q2 r1, k1, e1⟩
  | resumeRunning q _ ih =>
    intro f k
    obtain ⟨b, q2⟩ := k.same q fun y hy => ns rfl hy
    exact ⟨.resumeRunning q2 (ih f k).1, (ih f k).2⟩
  | resumeFinished q _ ih =>
    intro f k
    obtain ⟨b, q2⟩ := k.same q fun y hy => ns rfl hy
    exact ⟨.resumeFinished q2 (ih f k).1, (ih f k).2⟩
  | segRet _ _ ih1 ih2 =>
    intro f k
    obtain ⟨r1, k1, _⟩ := ih1 FsOk.nil k
    obtain ⟨r2, k2, e2⟩ := ih2 f.tail k1
    exact ⟨.segRet r1 r2, k2, e2⟩
  | segGen _ _ ih1 ih2 =>
    intro f k
    exact absurd (f _ List.mem_cons_self) (by simp [isRet])
  | segSuspOut q _ ih =>
    intro f k
    obtain ⟨r1, k1, e1⟩ := ih FsOk.nil k
    exact ⟨.segSuspOut q r1, k1, FsOk.app e1 f⟩
  | segSuspGen q _ _ _ ih1 ih2 =>
    intro f k
    rw [f.split] at q
    cases q
end
end GenS
namespace GenS
open PySem L2 PyProof.Rows
open PySem.Sem (wp)
section
variable {B : Nat → Option GenState} {M : Model} {Γ : Ctx}
theorem wakes_sim {p : Pos} {g : Nat} {r : Resume} {s s' : Shared} {res : GenResult} (k : OkG B s) (h : Wakes M Γ p g r s res s') : Wakes M Γ p g r (rl B s) res (rl B s') ∧ OkG B s' := by
  unfold Wakes at h ⊢
  cases q : s.gens[g]? with
  | none => rw [q] at h; exact h.elim
  | some x =>
    rw [q] at h
    cases x with
    | fresh c =>
      obtain ⟨b, q2⟩ := k.same q fun y hy => ns rfl hy
      rw [q2]
      cases r with
      | send v =>
        cases v with
        | none =>
          obtain ⟨e₁, s₁, h1, h2, h3, rfl⟩ := h
          obtain ⟨r1, k1, e1⟩ := runs_sim h1 FsOk.nil (k.set b (x := .running) trivial)
          rw [rl_set b] at r1
          exact ⟨⟨e₁, _, r1, h2, h3, rl_set b⟩, k1.set b e1.gs⟩
        | _ =>
          obtain ⟨h1, rfl⟩ := h
          exact ⟨⟨h1, rfl⟩, k⟩
      | throw x =>
        obtain ⟨h1, rfl⟩ := h
        exact ⟨⟨h1, rl_set b⟩, k.set b trivial⟩
    | suspended k₀ l₀ c₀ p₀ fs cl =>
      obtain ⟨e₁, s₁, h1, h2, h3, rfl⟩ := h
      cases b : B g with
      | none =>
        obtain ⟨r1, k1, e1⟩ := runs_sim h1 (k.aw g _ b q) (k.set b (x := .running) trivial)
        rw [rl_set b] at r1
        rw [rl_none b, q]
        exact ⟨⟨e₁, _, r1, h2, h3, rl_set b⟩, k1.set b e1.gs⟩
      | some y =>
        obtain ⟨y1, y2⟩ := k.zz g y b
        rw [q] at y2
        cases y <;> simp [isSusp, stuck] at y1 y2
        obtain ⟨a1, _⟩ := y2
        rw [a1] at h1
        exact absurd h1 runs_stuck
    | running =>
      obtain ⟨b, q2⟩ := k.same q fun y hy => ns rfl hy
      obtain ⟨h1, rfl⟩ := h
      rw [q2]
      exact ⟨⟨h1, rfl⟩, k⟩
    | finished =>
      obtain ⟨b, q2⟩ := k.same q fun y hy => ns rfl hy
      obtain ⟨h1, rfl⟩ := h
      rw [q2]
      exact ⟨⟨h1, rfl⟩, k⟩
/-- behind a run beside which the sleepers were stuck -/
def Beside (B : Nat → Option GenState) (P : Shared → Prop) (r : Shared) : Prop := ∃ s, r = rl B s ∧ OkG B s ∧ P s
theorem wp_sim {α : Type} (t : Sem α) : ∀ (Q : α → Pos → Shared → Prop) (E : Value → Pos → Shared → Prop) (p : Pos) (s : Shared), OkG B s → wp M Γ t Q E p s →
    wp M Γ t (fun a p' => Beside B (Q a p')) (fun e p' => Beside B (E e p')) p (rl B s) := by
  induction t with
  | pure a => intro Q E p s k h; exact ⟨s, rfl, k, h⟩
  | raise e => intro Q E p s k h; exact ⟨s, rfl, k, h⟩
  | unsupported _ => intro Q E p s _ h; exact h
  | finish _ => intro Q E p s _ h; exact h
  | rule _ k ih => intro Q E p s q h; exact ih () Q E p s q h
  | «at» p' k ih => intro Q E p s q h; exact ih () Q E p' s q h
  | load a _ k ih => intro Q E p s q h; obtain ⟨o, ho, h⟩ := h; exact ⟨o, ho, ih o Q E p s q h⟩
  | update a _ f k ih => intro Q E p s q h; exact ⟨h.1, ih () Q E p { s with heap := s.heap.update a f } ⟨q.zz, q.aw⟩ h.2⟩
  | loadIfAlive a k ih => intro Q E p s q h; exact ih _ Q E p s q h
  | point _ k ih => intro Q E p s q h; exact ih () Q E p s q h
  | register _ _ => intro Q E p s _ h; exact h
  | alloc o k ih => intro Q E p s q h; exact ih _ Q E p { s with heap := s.heap.push o } ⟨q.zz, q.aw⟩ h
  | fresh k ih => intro Q E p s q h; exact ih _ Q E p { s with toks := s.toks + 1 } ⟨q.zz, q.aw⟩ h
  | ask k ih => intro Q E p s q h; exact ih _ Q E p s q h
  | choose src m k ih => intro Q E p s q h; exact ⟨h.1, ih _ Q E p { s with drawn := s.drawn.bump src } ⟨q.zz, q.aw⟩ h.2⟩
  | os qq _ k ih => intro Q E p s q h; exact ih _ Q E p { s with os := (Os.step s.os qq).1 } ⟨q.zz, q.aw⟩ h
  | call c hd _ _ k ih =>
    intro Q E p s q h
    obtain ⟨r, s', hr, h⟩ := h
    obtain ⟨r1, k1, _⟩ := runs_sim hr FsOk.nil q
    exact ⟨r, _, r1, ih r Q E p s' k1 h⟩
  | handled own k ih => intro Q E p s q h; exact ih _ Q E p s q h
  | genState g k ih =>
    intro Q E p s q h
    obtain ⟨st, hs, h⟩ := h
    obtain ⟨y, hy, e⟩ := q.seen hs
    exact ⟨y, hy, by rw [e]; exact ih _ Q E p s q h⟩
  | newGen c k ih =>
    intro Q E p s q h
    have h2 := ih _ Q E p _ (q.push (c := c)) h
    rw [rl_push q] at h2
    show wp M Γ (k (rl B s).gens.size) _ _ p _
    rw [rl_size]
    exact h2
  | resume g r _ k ih =>
    intro Q E p s q h
    obtain ⟨res, s', hw, h⟩ := h
    obtain ⟨w1, k1⟩ := wakes_sim q hw
    exact ⟨res, _, w1, ih res Q E p s' k1 h⟩
  | yield _ _ _ _ => intro Q E p s _ h; exact h
  | stack k ih => intro Q E p s q h; exact ih _ Q E p s q h
  | fork _ _ => intro Q E p s _ h; exact h
  | thread k ih => intro Q E p s q h; exact ih _ Q E p s q h
  | await _ _ _ _ _ => intro Q E p s _ h; exact h
theorem wpAny_sim {α : Type} {A : Around} {s : Shared} {t : Sem α} {Q : α → Shared → Prop} {E : Value → Shared → Prop} (k : OkG B s) (h : wpAny M A t Q E s) : wpAny M A t (fun a => Beside B (Q a)) (fun e => Beside B (E e)) (rl B s) :=
  fun Γ p hΓ => wp_sim t _ _ p s k (h Γ p hΓ)
end
/-- the sleepers of a table -/
def zzOf (G : Array GenState) (i : Nat) : Option GenState := match G[i]? with
  | some x => if isSusp x = true then some x else none
  | none => none
/-- all that sleep are stuck -/
def stuckS (s : Shared) : Shared := { s with gens := s.gens.map stuck }
theorem stuck_ok (s : Shared) : OkG (zzOf s.gens) (stuckS s) := by
  refine ⟨fun i y e => ?_, fun i x e q => ?_⟩
  · unfold zzOf at e
    cases q : s.gens[i]? with
    | none => rw [q] at e; cases e
    | some x =>
      rw [q] at e
      dsimp only at e
      by_cases z : isSusp x = true
      · rw [if_pos z] at e
        cases e
        refine ⟨z, ?_⟩
        show (s.gens.map stuck)[i]? = _
        rw [Array.getElem?_map, q]
        rfl
      · rw [if_neg z] at e
        cases e
  · have q' : (s.gens.map stuck)[i]? = some x := q
    rw [Array.getElem?_map] at q'
    cases z : s.gens[i]? with
    | none => rw [z] at q'; cases q'
    | some y =>
      rw [z] at q'
      have e2 : stuck y = x := Option.some.inj q'
      unfold zzOf at e
      rw [z] at e
      dsimp only at e
      by_cases w : isSusp y = true
      · rw [if_pos w] at e
        cases e
      · rw [← e2]
        cases y <;> first | trivial | (exact absurd rfl w)
theorem rl_stuck (s : Shared) : rl (zzOf s.gens) (stuckS s) = s := by
  have e : (rl (zzOf s.gens) (stuckS s)).gens = s.gens := by
    refine Array.ext_getElem? fun i => ?_
    rw [rl_at]
    show ((s.gens.map stuck)[i]?).map _ = _
    rw [Array.getElem?_map]
    cases q : s.gens[i]? with
    | none => rfl
    | some x =>
      show some ((zzOf s.gens i).getD (stuck x)) = some x
      unfold zzOf
      rw [q]
      dsimp only
      by_cases w : isSusp x = true
      · rw [if_pos w]
        rfl
      · rw [if_neg w]
        cases x <;> first | rfl | (exact absurd rfl w)
  exact congrArg (fun G => ({ s with gens := G } : Shared)) e
theorem stuck_bareAll {s : Shared} (h : AllBare s.gens) : AllBare (stuckS s).gens := fun y hy => by
  obtain ⟨i, hi, e⟩ := Array.mem_iff_getElem.mp hy
  have hi' : i < s.gens.size := by simpa [stuckS] using hi
  have e2 : y = stuck s.gens[i] := by rw [← e]; simp [stuckS]
  rw [e2, stuck_bare]
  exact h _ (Array.getElem_mem hi')
theorem rl_bareAll {B : Nat → Option GenState} {s : Shared} (hB : ∀ i y, B i = some y → y.bare = true) (h : AllBare s.gens) : AllBare (rl B s).gens := fun y hy => by
  obtain ⟨i, hi, e⟩ := Array.mem_iff_getElem.mp hy
  have hi' : i < s.gens.size := by rw [rl_size] at hi; exact hi
  have e2 : y = (B i).getD s.gens[i] := by rw [← e]; simp [rl]
  rw [e2]
  cases q : B i with
  | none => exact h _ (Array.getElem_mem hi')
  | some x => exact hB i x q
theorem zz_bare {s : Shared} (h : AllBare s.gens) : ∀ i y, zzOf s.gens i = some y → y.bare = true := fun i y e => by
  unfold zzOf at e
  cases q : s.gens[i]? with
  | none => rw [q] at e; cases e
  | some x =>
    rw [q] at e
    dsimp only at e
    by_cases z : isSusp x = true
    · rw [if_pos z] at e
      cases e
      exact h _ (Array.mem_of_getElem? q)
    · rw [if_neg z] at e
      cases e
theorem zz_at {s : Shared} {g : Nat} {y : GenState} (h : s.gens[g]? = some y) (hy : isSusp y = true) : zzOf s.gens g = some y := by
  unfold zzOf
  rw [h]
  dsimp only
  rw [if_pos hy]
/-- THE RULE: what runs where the sleepers are stuck runs where they are not, and leaves them asleep -/
theorem wpAny_asleep {α : Type} {M : Model} {A : Around} {s : Shared} {t : Sem α} {Q : α → Shared → Prop} {E : Value → Shared → Prop} (h : wpAny M A t Q E (stuckS s)) :
    wpAny M A t (fun a => Beside (zzOf s.gens) (Q a)) (fun e => Beside (zzOf s.gens) (E e)) s := by
  have := wpAny_sim (stuck_ok s) h
  rw [rl_stuck] at this
  exact this
end GenS
namespace GenF
open PySem PySem.Spec L2 PyProof.Rows GenW GenS
def trunc (L : Nat) (h : Heap) : Heap := { h with objs := h.objs.extract 0 L }
theorem trunc_get {L : Nat} {h : Heap} {b : Addr} (hb : b < L) : (trunc L h).get? b = h.get? b := by
  have e : (h.objs.extract 0 L)[b]? = h.objs[b]? := by
    rw [Array.getElem?_extract]
    split
    · rw [Nat.zero_add]
    · rename_i n
      exact (Array.getElem?_eq_none (Nat.le_of_not_lt fun l => n (Nat.lt_of_lt_of_eq (Nat.lt_min.mpr ⟨hb, l⟩) (Nat.sub_zero _).symm))).symm
  unfold Heap.get? trunc
  dsimp only
  rw [e]
theorem trunc_size {L : Nat} {h : Heap} (hs : L ≤ h.objs.size) : (trunc L h).objs.size = L := by
  unfold trunc
  simp
  omega
theorem trunc_some {L : Nat} {h : Heap} {b : Addr} {o : Obj} (e : (trunc L h).get? b = some o) (hs : L ≤ h.objs.size) : b < L ∧ h.get? b = some o := by
  have l : b < L := by
    have := Heap.lt_size e
    rw [trunc_size hs] at this
    exact this
  exact ⟨l, by rw [← trunc_get l]; exact e⟩
structure GP where
  P : Program
  w : World
  K : PySem.W.Frag
  mg : Str → Option Value
  base : Heap
  N : List Str
  qual : Str
  scope : Scope
  f : Addr
  cd : Value
  outer : List Env
  L : Addr
  a : Addr
  go : Obj
def GP.env (G : GP) : Env := envOfC G.qual G.scope G.L G.f G.cd
/-- the context: base state and heap are those of the last waking, below its own locals -/
def GP.cx (G : GP) (A : Around) (s : Shared) (H : Hp) : Cx where
  prog := G.P
  w := G.w
  K := G.K
  mg := G.mg
  base := G.base
  A := A.deeper G.env
  N := G.N
  s_0 := s
  H_0 := H
  env := G.env
  outer := G.outer
  stack := G.env :: G.outer
  ex := []
  calm := true
  fn := fun _ => true
  pn := [(G.a, G.go)]
  xe := fun _ _ => False
def GP.tr (G : GP) (s : Shared) : Shared := { s with heap := trunc G.L s.heap }
/-- what its consumer keeps while it sleeps -/
structure Woke (G : GP) (A : Around) (ip : List (Addr × Obj)) (s s' : Shared) (H' : Hp) : Prop where
  env : Env0 G.P G.w G.K G.mg G.base A G.outer s' H'
  os : s'.os = s.os
  size : G.L ≤ s'.heap.objs.size
  keep : ∀ b, b = G.L ∨ b ∈ (([(G.a, G.go)] ++ ip).map (·.1)) → s'.heap.get? b = s.heap.get? b ∧ H' b = none
theorem funFrames_tr {base h h2 : Heap} {L : Nat} (hs : h2.objs.size = L) : ∀ {l : List Env}, h.FunFrames base l → h2.FunFrames base l → (trunc L h).FunFrames base l
  | [], _, _ => trivial
  | e :: r, ⟨a1, ⟨x, o, a2, a3, a4, a5⟩, a6⟩, ⟨b1, ⟨y, o2, b2, b3, b4, b5⟩, b6⟩ => by
    have exy : x = y := by rw [a2] at b2; exact Option.some.inj b2
    refine ⟨a1, ⟨x, o, a2, a3, ?_, a5⟩, funFrames_tr hs a6 b6⟩
    rw [trunc_get (by rw [← hs, exy]; exact Heap.lt_size b4)]
    exact a4
theorem GP.wake {G : GP} {A : Around} {ip : List (Addr × Obj)} {σ : L2.St} {H Hb H' : Hp} {s sb s' : Shared} (hL : sb.heap.objs.size = G.L) (hc : G.env.cells = []) (J : Inv (G.cx A sb Hb) ip σ H s) (W : Woke G A ip s s' H') : Inv (G.cx A (G.tr s') H') ip σ H' s' := by
  have ok := J.ok
  have nc : ∀ {x : Str} {c : Addr}, (G.cx A (G.tr s') H').env.cells.lookup x = some c → False := fun {x c} e => by
    have e' : G.env.cells.lookup x = some c := e
    rw [hc] at e'
    cases e'
  have sz : (G.tr s').heap.objs.size = G.L := trunc_size W.size
  refine ⟨⟨ok.mod, ok.kind, ok.glob, ok.blt, Nat.le_of_eq sz, fun x y c e _ => (nc e).elim, fun x hx => ok.has x hx, fun x c _ e => (nc e).elim, ok.hd, ok.frames, ok.stk, fun b z => absurd (show b ∈ ([] : List Addr) from z) (by simp), fun b o e => ?_, ?_, fun b o _ => by show b ∉ ([] : List Addr); simp, fun b z => absurd (show b ∈ ([] : List Addr) from z) (by simp), ?_, W.env.frf⟩,
    rfl, W.env.bare, Un.kept fun b u e => (trunc_some e W.size).2, ?_, fun x c e => (nc e).elim, (W.keep G.L (.inl rfl)).2, fun x c e => (nc e).elim, fun p hp => ?_, W.env.hok, J.len⟩
  · have l : b < G.L := by rw [← hL]; exact Heap.lt_size (ok.bs b o e).1
    obtain ⟨h1, h2⟩ := W.env.bs b o e
    exact ⟨by show (trunc G.L s'.heap).get? b = some o; rw [trunc_get l]; exact h1, h2⟩
  · show G.base.objs.size ≤ (G.tr s').heap.objs.size
    rw [sz, ← hL]
    exact ok.bsz
  · exact funFrames_tr hL W.env.funs ok.funs
  · obtain ⟨m, ⟨o, es, ep, ho, r⟩, hl⟩ := J.loc
    refine ⟨m, ⟨o, es, ep, ?_, r⟩, fun i x v e1 e2 e3 => ?_⟩
    · have := (W.keep G.L (.inl rfl)).1
      show s'.heap.get? G.L = some o
      rw [this]
      exact ho
    · obtain ⟨u, r1, l⟩ := hl i x v e1 e2 e3
      refine ⟨u, r1, ?_⟩
      rcases l with l | ⟨_, c, e, _⟩
      · exact .inl l
      · exact (nc e).elim
  · obtain ⟨h1, h2, h3, h4, h5⟩ := J.pin p hp
    have q := W.keep p.1 (.inr (List.mem_map.mpr ⟨p, hp, rfl⟩))
    exact ⟨q.1.trans h1, q.2, h3, h4, h5⟩
end GenF
namespace GenF
open PySem PySem.Spec L2 PyProof.Rows GenW GenS
section
variable {γ : Type}
/-- what the consumer wishes: what it does with an item, what it wants at the end -/
abbrev YK (γ : Type) := γ → V → Hp → (γ → Hp → Prop) → Prop
def YMono (Y : YK γ) : Prop := ∀ c x H K K', (∀ c' H', K c' H' → K' c' H') → Y c x H K → Y c x H K'
/-- asleep with the item v -/
def GY (G : GP) (A : Around) (Yd : YK γ) (Cw : γ → Hp → Shared → Prop) : Protocol := fun n s₀ v s kap =>
  ∃ x c Hb ip σ H, Cw c Hb s₀ ∧ RelV x v ∧ (∀ p ∈ ip, G.L < p.1) ∧ Inv (G.cx A (G.tr s₀) Hb) ip σ H s ∧ Yd c x H fun c' H' => ∀ s', Woke G A ip s s' H' → Cw c' H' s' → kap (.send .none) s'
/-- at its end -/
def GR (G : GP) (A : Around) (Kd : γ → Hp → Prop) (Cw : γ → Hp → Shared → Prop) : GenEnd := fun n s₀ r s =>
  r = .ok (.ret .none) ∧ ∃ c Hb ip σ H, Cw c Hb s₀ ∧ Inv (G.cx A (G.tr s₀) Hb) ip σ H s ∧ Kd c H
structure GD (γ : Type) where
  nx : Nat → γ → L2.St → Hp → Prop
  rt : Nat → γ → V → Hp → Prop
  bk : Nat → γ → L2.St → Hp → Prop := fun _ _ _ _ => False
  ct : Nat → γ → L2.St → Hp → Prop := fun _ _ _ _ => False
abbrev TG2 (γ : Type) := GD γ → Nat → γ → L2.St → Hp → Prop
def GD.at (D : GD γ) (n : Nat) (c : γ) : Ends := { nx := D.nx n c, rt := D.rt n c, bk := D.bk n c, ct := D.ct n c }
structure GC (G : GP) (A : Around) (c : Code) (fs : List Frame) (gd : Bool → Bool) : Prop where
  over : A.over c fs = A.deeper G.env
  split : splitAtGen fs = none
  guard : fs.any Frame.guarded = false
  gd : gd false = false
structure GK (G : GP) (A : Around) (Yd : YK γ) (Cw : γ → Hp → Shared → Prop) (R : GenEnd) (ip : List (Addr × Obj)) (code : Code) (fs : List Frame) (K : Flow → Sem PySem.Fin) (D : GD γ) : Prop where
  ipk : ∀ p ∈ ip, G.L < p.1
  ok : ∀ (n : Nat) (c : γ) (s₀ : Shared) (Hb : Hp) (s : Shared) (f : Flow), Cw c Hb s₀ → G.L ≤ s₀.heap.objs.size → SP (G.cx A (G.tr s₀) Hb) ip (D.at n c) f s → Seg (model G.P G.w) A R (GY G A Yd Cw) n s₀ code (K f) fs s
structure GS2 (G : GP) (A : Around) (Yd : YK γ) (st : Stmt) (t : TG2 γ) : Prop where
  run : ∀ (Cw : γ → Hp → Shared → Prop) (R : GenEnd) (ip : List (Addr × Obj)) (n : Nat) (c : γ) (s₀ : Shared) (Hb : Hp) (code : Code) (fs : List Frame) (K : Flow → Sem PySem.Fin) (J : Value → Sem PySem.Fin) (gd : Bool → Bool) (lv : List Value → List Value) (s : Shared) (σ : L2.St) (H : Hp) (D : GD γ),
    GC G A code fs gd → GK G A Yd Cw R ip code fs K D → Cw c Hb s₀ → G.L ≤ s₀.heap.objs.size → Inv (G.cx A (G.tr s₀) Hb) ip σ H s → t D n c σ H → Seg (model G.P G.w) A R (GY G A Yd Cw) n s₀ code ((exec st G.env).wrap K J gd lv) fs s
structure GSs2 (G : GP) (A : Around) (Yd : YK γ) (st : List Stmt) (t : TG2 γ) : Prop where
  run : ∀ (Cw : γ → Hp → Shared → Prop) (R : GenEnd) (ip : List (Addr × Obj)) (n : Nat) (c : γ) (s₀ : Shared) (Hb : Hp) (code : Code) (fs : List Frame) (K : Flow → Sem PySem.Fin) (J : Value → Sem PySem.Fin) (gd : Bool → Bool) (lv : List Value → List Value) (s : Shared) (σ : L2.St) (H : Hp) (D : GD γ),
    GC G A code fs gd → GK G A Yd Cw R ip code fs K D → Cw c Hb s₀ → G.L ≤ s₀.heap.objs.size → Inv (G.cx A (G.tr s₀) Hb) ip σ H s → t D n c σ H → Seg (model G.P G.w) A R (GY G A Yd Cw) n s₀ code ((execs st G.env).wrap K J gd lv) fs s
section
variable {G : GP} {A : Around} {Yd : YK γ} {st : Stmt} {rest : List Stmt}
def tPl (t : TS) : TG2 γ := fun D n c σ H => t (D.at n c) σ H
theorem gss_pss2 {t : TS} (h : ∀ s H, PSs (G.cx A s H) rest t) : GSs2 G A Yd rest (tPl t) := by
  refine ⟨fun Cw R ip n c s₀ Hb code fs K J gd lv s σ H D g k hc hl I ht => ?_⟩
  refine seg_wrap ?_
  rw [g.over]
  exact wpAny_mono ((h _ _).run ip s σ H (D.at n c) I ht) (fun f s' hs => k.ok n c s₀ Hb s' f hc hl hs) fun x s' hx => (show False from hx).elim
def tG0' : TG2 γ := fun D n c σ H => D.nx n c σ H
theorem gss_nil2 : GSs2 G A Yd [] (tG0' (γ := γ)) := by
  refine ⟨fun Cw R ip n c s₀ Hb code fs K J gd lv s σ H D g k hc hl I ht => ?_⟩
  exact seg_execs_nil (k.ok n c s₀ Hb s .next hc hl ⟨σ, H, I, ht⟩)
def tGThen2 (t u : TG2 γ) : TG2 γ := fun D n c σ H => t { D with nx := fun n c σ H => u D n c σ H } n c σ H
theorem gss_cons2 {t u : TG2 γ} (a : GS2 G A Yd st t) (b : GSs2 G A Yd rest u) : GSs2 G A Yd (st :: rest) (tGThen2 t u) := by
  refine ⟨fun Cw R ip n c s₀ Hb code fs K J gd lv s σ H D g k hc hl I ht => ?_⟩
  refine seg_execs_cons ?_
  refine a.run Cw R ip n c s₀ Hb code fs _ J gd lv s σ H { D with nx := fun n c σ H => u D n c σ H } g ⟨k.ipk, fun n' c' s₀' Hb' s' f hc' hl' hs => ?_⟩ hc hl I ht
  cases f with
  | next =>
    obtain ⟨σ', H', I', q⟩ := hs
    exact b.run Cw R ip n' c' s₀' Hb' code fs K J gd lv s' σ' H' D g k hc' hl' I' q
  | brk => exact k.ok n' c' s₀' Hb' s' .brk hc' hl' hs
  | cont => exact k.ok n' c' s₀' Hb' s' .cont hc' hl' hs
  | ret u => exact k.ok n' c' s₀' Hb' s' (.ret u) hc' hl' hs
/-- statements one behind the other -/
theorem execs_app (a b : List Stmt) (env : Env) : execs (a ++ b) env = (execs a env >>= fun f => match f with | .next => execs b env | f => pure f) := by
  induction a with
  | nil => rfl
  | cons x r ih =>
    rw [List.cons_append, execs_cons, execs_cons, ih, bind_assoc]
    congr 1
    funext f
    cases f <;> rfl
theorem gss_app2 {l : List Stmt} {t u : TG2 γ} (a : GSs2 G A Yd l t) (b : GSs2 G A Yd rest u) : GSs2 G A Yd (l ++ rest) (tGThen2 t u) := by
  refine ⟨fun Cw R ip n c s₀ Hb code fs K J gd lv s σ H D g k hc hl I ht => ?_⟩
  have e : (execs (l ++ rest) G.env).wrap K J gd lv = (execs l G.env).wrap (fun f => match f with | .next => (execs rest G.env).wrap K J gd lv | f => K f) J gd lv := by
    rw [execs_app, Sem.bind_eq_wrap', Sem.wrap_wrap]
    exact Sem.wrap_congr _ _ _ (fun f => by cases f <;> rfl) (fun _ => rfl)
  rw [e]
  refine a.run Cw R ip n c s₀ Hb code fs _ J gd lv s σ H { D with nx := fun n c σ H => u D n c σ H } g ⟨k.ipk, fun n' c' s₀' Hb' s' f hc' hl' hs => ?_⟩ hc hl I ht
  cases f with
  | next =>
    obtain ⟨σ', H', I', q⟩ := hs
    exact b.run Cw R ip n' c' s₀' Hb' code fs K J gd lv s' σ' H' D g k hc' hl' I' q
  | brk => exact k.ok n' c' s₀' Hb' s' .brk hc' hl' hs
  | cont => exact k.ok n' c' s₀' Hb' s' .cont hc' hl' hs
  | ret u => exact k.ok n' c' s₀' Hb' s' (.ret u) hc' hl' hs
def tGIf (tc : TT) (t u : TG2 γ) : TG2 γ := fun D n c σ H => tc σ H fun b H1 => if b = true then t D n c σ H1 else u D n c σ H1
theorem gs_if2 {e : Expr} {a b : List Stmt} {pos : Pos} {tc : TT} {t u : TG2 γ} (hc : ∀ s H, PT (G.cx A s H) e tc) (ha : GSs2 G A Yd a t) (hb : GSs2 G A Yd b u) : GS2 G A Yd (.If e a b pos) (tGIf tc t u) := by
  refine ⟨fun Cw R ip n c s₀ Hb code fs K J gd lv s σ H D g k hcw hl I ht => ?_⟩
  rw [exec_If]
  refine seg_at ?_
  show Seg _ _ _ _ _ _ _ (((isTrue e G.env (eval e G.env)) >>= fun b => if b = true then execs a G.env else execs _ G.env).wrap K J gd lv) _ _
  refine seg_bind_wrap ?_
  rw [g.over]
  refine wpAny_mono ((hc _ _).run ip s σ H _ I ht) (fun d s' hd => ?_) fun x s' hx => (show False from hx).elim
  obtain ⟨H1, I1, q⟩ := hd
  cases d with
  | true =>
    rw [if_pos rfl] at q
    exact ha.run Cw R ip n c s₀ Hb code fs K J gd lv s' σ H1 D g k hcw hl I1 q
  | false =>
    rw [if_neg Bool.false_ne_true] at q
    exact hb.run Cw R ip n c s₀ Hb code fs K J gd lv s' σ H1 D g k hcw hl I1 q
def tGYield2 (Yd : YK γ) (te : TE) : TG2 γ := fun D n c σ H => ∃ m, n = m + 1 ∧ te σ H fun x H1 => Yd c x H1 fun c' H' => D.nx m c' σ H'
theorem gs_yield2 {e : Expr} {yp pos : Pos} {te : TE} (hm : YMono Yd) (hnc : G.env.cells = []) (he : ∀ s H, PE (G.cx A s H) e te) (hco : G.env.scope.isCoroutine = false := by rfl) (hi : interactive G.env = false := by rfl) : GS2 G A Yd (.Expr (.Yield (some e) yp) pos) (tGYield2 Yd te) := by
  refine ⟨fun Cw R ip n c s₀ Hb code fs K J gd lv s σ H D g k hcw hl I ht => ?_⟩
  obtain ⟨m, rfl, ht⟩ := ht
  refine seg_Expr_Yield g.split g.gd g.guard ?_ hco hi
  rw [g.over]
  refine wpAny_mono ((he _ _).run ip s σ H _ I ht) (fun v s' hv => ?_) fun x s' hx => (show False from hx).elim
  obtain ⟨x, H1, I1, rv, q⟩ := hv
  intro kap hk
  refine ⟨x, c, Hb, ip, σ, H1, hcw, rv, k.ipk, I1, hm _ _ _ _ _ (fun c' H' q' s'' W hc' => hk .none s'' ?_) q⟩
  exact k.ok m c' s'' H' s'' .next hc' W.size ⟨σ, H', GP.wake (trunc_size hl) hnc I1 W, q'⟩
end
end
end GenF
namespace GenF
open PySem PySem.Spec L2 PyProof.Rows GenW GenS
section
variable {γ : Type} {G : GP} {A : Around} {Yd : YK γ} {st : Stmt} {rest : List Stmt}
def tGWhile2 (c : TT) (tb : TG2 γ) : TG2 γ := fun D n c₀ σ H => ∃ W : Nat → Nat → γ → L2.St → Hp → Prop, (∃ m, W m n c₀ σ H) ∧ ∀ m n c₁ σ H, W m n c₁ σ H →
  c σ H fun b H1 => if b = true then ∃ N : Nat → γ → L2.St → Hp → Prop, (∀ n' c' σ' H', N n' c' σ' H' → ∃ m', m' < m ∧ W m' n' c' σ' H') ∧ tb { D with nx := N, ct := N, bk := D.nx } n c₁ σ H1 else D.nx n c₁ σ H1
theorem gc_loop2 {c c' : Code} {fs : List Frame} {gd : Bool → Bool} {k : Result → Sem PySem.Fin} {l kp : List Value} {p : Pos} (g : GC G A c fs gd) (hw : c'.weight = 0) (hu : c'.cUnits = 0) :
    GC G A c' (.ret k none (gd false) l c p kp :: fs) id where
  over := (over_loop hw hu).trans g.over
  split := by
    show (splitAtGen fs).map _ = none
    rw [g.split]; rfl
  guard := by
    show (gd false || fs.any Frame.guarded) = false
    rw [g.gd, g.guard]; rfl
  gd := rfl
theorem gs_while2 {test : Expr} {body : List Stmt} {pos : Pos} {tc : TT} {tb : TG2 γ} (hc : ∀ s H, PT (G.cx A s H) test tc) (hb : GSs2 G A Yd body tb) : GS2 G A Yd (.While test body [] pos) (tGWhile2 tc tb) := by
  refine ⟨fun Cw R ip n c s₀ Hb code fs K J gd lv s σ H D g k hcw hl I ht => ?_⟩
  obtain ⟨W, ⟨m0, w0⟩, turn⟩ := ht
  refine seg_While fun p => ?_
  have gl := fun (kk : Result → Sem PySem.Fin) => gc_loop2 (k := kk) (c' := .whileLoop test body [] G.env) (l := lv []) (kp := []) (p := p) g rfl rfl
  have loop : ∀ (m n : Nat) (c : γ) (s₀ : Shared) (Hb : Hp) (s : Shared) (σ : L2.St) (H : Hp), Cw c Hb s₀ → G.L ≤ s₀.heap.objs.size → W m n c σ H → Inv (G.cx A (G.tr s₀) Hb) ip σ H s →
      Seg (model G.P G.w) A R (GY G A Yd Cw) n s₀ (.whileLoop test body [] G.env) ((model G.P G.w).den (.whileLoop test body [] G.env))
        (.ret (fun r => ((match r with | .ok f => (.pure f : Sem Flow) | .error e => .raise e).onRaise (cameBack G.env)).wrap K J gd lv) none (gd false) (lv []) code p [] :: fs) s := by
    intro m
    induction m using Nat.strongRecOn with
    | ind m ih =>
      intro n c s₀ Hb s σ H hcw hl w I
      refine seg_whileLoop ?_
      rw [(gl _).over]
      refine wpAny_mono ((hc _ _).run ip s σ H _ I (turn m n c σ H w)) (fun b s' hb' => ?_) fun x s' hx => (show False from hx).elim
      obtain ⟨H2, I2, q2⟩ := hb'
      cases b with
      | true =>
        rw [if_pos rfl] at q2
        obtain ⟨N, hN, q2⟩ := q2
        rw [if_pos rfl]
        refine hb.run Cw R ip n c s₀ Hb _ _ _ _ id id s' σ H2 { D with nx := N, ct := N, bk := D.nx } (gl _) ⟨k.ipk, fun n' c' s₀' Hb' s3 f hc' hl' hs => ?_⟩ hcw hl I2 q2
        cases f with
        | next =>
          obtain ⟨σ3, H3, I3, n3⟩ := hs
          obtain ⟨m', hm, w3⟩ := hN n' c' σ3 H3 n3
          exact seg_again rfl (ih m' hm n' c' s₀' Hb' s3 σ3 H3 hc' hl' w3 I3)
        | cont =>
          obtain ⟨σ3, H3, I3, n3⟩ := hs
          obtain ⟨m', hm, w3⟩ := hN n' c' σ3 H3 n3
          exact seg_again rfl (ih m' hm n' c' s₀' Hb' s3 σ3 H3 hc' hl' w3 I3)
        | brk => exact seg_leaf (.ok .next) (k.ok n' c' s₀' Hb' s3 .next hc' hl' hs)
        | ret v => exact seg_leaf (.ok (.ret v)) (k.ok n' c' s₀' Hb' s3 (.ret v) hc' hl' hs)
      | false =>
        rw [if_neg Bool.false_ne_true] at q2
        rw [if_neg Bool.false_ne_true]
        refine seg_execs_nil ?_
        exact seg_leaf (.ok .next) (k.ok n c s₀ Hb s' .next hcw hl ⟨σ, H2, I2, q2⟩)
  exact loop m0 n c s₀ Hb s σ H hcw hl w0 I
end
end GenF
namespace GenF
open PySem PySem.Spec L2 PyProof.Rows GenW GenS
abbrev SpG2 := ∀ γ : Type, γ → List V → Hp → YK γ → (γ → Hp → Prop) → Prop
/-- what a call of a generator def gives: a generator that has not begun -/
def GMade2 (P : Program) (w : World) (K : PySem.W.Frag) (mg : Str → Option Value) (base : Heap) (k : Nat) (outer : List Env) (H : Hp) (s : Shared) {γ : Type} (c : γ) (Yd : YK γ) (Kd : γ → Hp → Prop) (u : Value) (s' : Shared) : Prop :=
  ∃ (G : GP) (g : Nat) (code : Code), G.P = P ∧ G.w = w ∧ G.K = K ∧ G.mg = mg ∧ G.base = base ∧ G.outer = outer ∧ G.env.cells = [] ∧ u = .ref G.a ∧ G.L = s.heap.objs.size ∧ G.L < G.a ∧ G.a < s'.heap.objs.size ∧ s'.heap.get? G.a = some G.go ∧ s'.heap.IsGen G.a g ∧ (∀ v, G.go.data ≠ .cell v) ∧ (∃ oL, s'.heap.get? G.L = some oL ∧ ∀ v, oL.data ≠ .cell v) ∧
    s'.gens[g]? = some (.fresh code) ∧ s'.os = s.os ∧ AllBare s'.gens ∧ s'.heap.NoLimit ∧ (∀ b o, s.heap.get? b = some o → s'.heap.get? b = some o) ∧ H G.L = none ∧ H G.a = none ∧
    ∀ (A : Around) (s2 : Shared), Room k A → A.frames = some outer → s2.heap = s'.heap → s2.os = s'.os → AllBare s2.gens → ∀ Cw : γ → Hp → Shared → Prop, Cw c H s2 →
      ∃ n, Seg (model P w) A (GR G A Kd Cw) (GY G A Yd Cw) n s2 code ((model P w).den code) [] s2
structure GFn2 (P : Program) (w : World) (K : PySem.W.Frag) (mg : Str → Option Value) (base : Heap) (k : Nat) (f : Addr) (fd : FuncData) (ps : List Str) (sp : SpG2) : Prop where
  len : ∀ γ c vs H Yd Kd, sp γ c vs H Yd Kd → vs.length = ps.length
  run : ∀ (A : Around) (outer : List Env) (s : Shared) (H : Hp) (args : Args) (us : List Value) (vs : List V) (γ : Type) (c : γ) (Yd : YK γ) (Kd : γ → Hp → Prop), Room k A → Env0 P w K mg base A outer s H → BindsTo s fd args (ps.zip us) → Vals vs us → YMono Yd → sp γ c vs H Yd Kd →
    codeAny (model P w) A (.call (.ref f) args) (fun r s' => match r with | .ok (.ret u) => GMade2 P w K mg base k outer H s c Yd Kd u s' | _ => False) s
/-- THE RULE: a generator def, by its body -/
theorem gfn2_of {P : Program} {w : World} {K : PySem.W.Frag} {mg : Str → Option Value} {base : Heap} {k : Nat} {f : Addr} {name qual : Str} {params : Arguments} {body : List Stmt} {scope : Scope} {dV kV doc pm cdv ct oc : Value} {an od : Option Addr}
    {osl : Array (Option Value)} {N ps : List Str} {sp : SpG2} (lk : K.lookup f = some ⟨oc, od, .func (PySem.W.fnOf name qual params body scope dV kV doc pm an cdv ct), osl⟩) (hcd : PySem.W.codeIn K cdv qual = true) (S : GScope N ps scope) (hloc : ∀ y ∈ scope.names, y.2 ≠ .cell)
    (len : ∀ γ c vs H Yd Kd, sp γ c vs H Yd Kd → vs.length = ps.length)
    (hbody : ∀ (A : Around) (outer : List Env) (L a : Addr) (go : Obj) (vs : List V) (H : Hp) (γ : Type) (c : γ) (Yd : YK γ) (Kd : γ → Hp → Prop), (GP.env ⟨P, w, K, mg, base, N, qual, scope, f, cdv, outer, L, a, go⟩).cells = [] → YMono Yd → Room k (A.deeper (GP.env ⟨P, w, K, mg, base, N, qual, scope, f, cdv, outer, L, a, go⟩)) → sp γ c vs H Yd Kd →
      ∃ t n, GSs2 ⟨P, w, K, mg, base, N, qual, scope, f, cdv, outer, L, a, go⟩ A Yd body t ∧ t { nx := fun _ c _ H' => Kd c H', rt := fun _ c v H' => v = .non ∧ Kd c H' } n c (start N vs) H) :
    GFn2 P w K mg base (k + 1) f (PySem.W.fnOf name qual params body scope dV kV doc pm an cdv ct) ps sp := by
  refine ⟨len, fun A outer s H args us vs γ c Yd Kd hr e0 hb r hmo hsp => ?_⟩
  have hl := len _ _ _ _ _ _ hsp
  have KX : K.In s.heap := e0.mod.kin.keeps fun b o e => (e0.bs b o e).1
  have lim : s.heap.NoLimit := e0.mod.nolimit.keeps fun b o e => (e0.bs b o e).1
  have hkind : ∀ y ∈ ps.zip us, scope.names.lookup y.1 = some .local ∨ (scope.names.lookup y.1 = some .cell ∧ ((cellsFrom (s.heap.objs.size + 1) scope.names []).lookup y.1).isSome = true) := fun ⟨n, v⟩ hy => by
    rcases S.par n (List.of_mem_zip hy).1 with q | q
    · exact .inl q
    · exact .inr ⟨q, PySem.W.cellsFrom_some _ _ _ (.inl q)⟩
  have nocells : cellsFrom (s.heap.objs.size + 1) scope.names [] = [] := by
    have : ∀ (l : List (Str × NameKind)) (n : Nat), (∀ y ∈ l, y.2 ≠ .cell) → (∀ y ∈ l, y.2 ≠ .free) → cellsFrom n l [] = [] := by
      intro l
      induction l with
      | nil => intro n _ _; rfl
      | cons y r ih =>
        intro n h1 h2
        obtain ⟨a, b⟩ := y
        have i := ih n (fun z hz => h1 z (List.mem_cons_of_mem _ hz)) fun z hz => h2 z (List.mem_cons_of_mem _ hz)
        have n1 := h1 (a, b) List.mem_cons_self
        have n2 := h2 (a, b) List.mem_cons_self
        cases b <;> first | exact i | exact absurd rfl n1 | exact absurd rfl n2
    exact this _ _ hloc S.nofree
  refine codeAny_call_generator hr.depth (KX _ _ lk) rfl S.co S.gen rfl (PySem.W.codeRec_of KX hcd) (hb _ _ _ _ ?_)
  refine wpAny_newFunctionEnv_cells S.kind hkind fun env he s1 x => ?_
  subst he
  have lim1 : s1.heap.NoLimit := lim.keeps x.toInCall.keep
  refine ⟨lim1, ?_⟩
  obtain ⟨h1, tk, es1, hk1⟩ := x.done
  have os1 : s1.os = s.os := by rw [es1]
  have gen1 : s1.gens = s.gens := by rw [es1]
  have lt1 : s.heap.objs.size < s1.heap.objs.size := x.toInCall.ns.lt
  have sz1 : s.heap.objs.size ≤ s1.heap.objs.size := Nat.le_of_lt lt1
  have kp1 : ∀ b o, s.heap.get? b = some o → s1.heap.get? b = some o := x.toInCall.keep
  have main : ∀ (go : Obj) (nm qn : Value) (tk2 : Nat), go.cls = .type "generator" → go.data = .fields #[.int s1.gens.size 0, nm, qn] → go.slots = #[] → (∀ h : Heap, (h.push go).get? h.objs.size = some go) →
      GMade2 P w K mg base (k + 1) outer H s c Yd Kd (.ref s1.heap.objs.size) { s1 with gens := s1.gens.push (.fresh (.func body (envOfC qual scope s.heap.objs.size f cdv))), toks := tk2, heap := s1.heap.push go } := by
    intro go nm qn tk2 hgc hgd0 hgs hgp
    have hgen : ∀ h : Heap, h.get? s1.heap.objs.size = some go → h.IsGen s1.heap.objs.size s1.gens.size := fun h e => ⟨go, nm, qn, e, hgc, hgd0, hgs⟩
    have hpushed : (s1.heap.push go).get? s1.heap.objs.size = some go := hgp _
    have hgd : ∀ v, go.data ≠ .cell v := fun v q => by rw [hgd0] at q; cases q
    obtain ⟨oL, esL, epL, hoL, hdL, _⟩ := x.toInCall.ns
    refine ⟨⟨P, w, K, mg, base, N, qual, scope, f, cdv, outer, s.heap.objs.size, s1.heap.objs.size, go⟩, s1.gens.size, _, rfl, rfl, rfl, rfl, rfl, rfl, nocells, rfl, rfl, lt1, ?_, hpushed, hgen _ hpushed, hgd, ⟨oL, Heap.get?_push_of_some _ hoL, fun v q => by rw [hdL] at q; cases q⟩, Array.getElem?_push_size .., os1, ?_, lim1.keeps fun b o e => Heap.get?_push_of_some _ e, fun b o e => Heap.get?_push_of_some _ (kp1 b o e), e0.hok.fresh (Nat.le_refl _), e0.hok.fresh sz1, ?_⟩
    · show _ < (s1.heap.push _).objs.size
      rw [Heap.size_push]; exact Nat.lt_succ_self _
    · exact AllBare.push (by rw [gen1]; exact e0.bare) rfl
    intro Aw s2 hrw hfr hh hos hba Cw hcw
    have e0w : Env0 P w K mg base Aw outer s H := ⟨hfr, e0.mod, e0.bs, e0.bsz, e0.funs, e0.frf, e0.hok, e0.bare⟩
    obtain ⟨t, n, ht, hq⟩ := hbody Aw outer s.heap.objs.size s1.heap.objs.size go vs H γ c Yd Kd nocells hmo (hrw.deeper _) hsp
    have I1 : Inv (gcxOf P w K mg base N qual scope f cdv Aw outer s H (fun _ _ _ => False) []) [] (start N vs) H s1 := inv_startG S hrw.hd e0w hl r x
    have kp2 : ∀ b o, s1.heap.get? b = some o → s2.heap.get? b = some o := fun b o e => by
      rw [hh]
      exact Heap.get?_push_of_some _ e
    have I2 : Inv (gcxOf P w K mg base N qual scope f cdv Aw outer s H (fun _ _ _ => False) []) [] (start N vs) H s2 :=
      I1.call' (ch := []) (hos.trans rfl) (Un.kept kp2) (I1.hok.kept kp2) hba fun b z => by simp at z
    have hea : s2.heap.get? s1.heap.objs.size = some go := by rw [hh]; exact hpushed
    have young : H s1.heap.objs.size = none ∧ s1.heap.objs.size ≠ s.heap.objs.size ∧ s1.heap.objs.size ∉ frs outer :=
      ⟨I1.hok.fresh (Nat.le_refl _), Nat.ne_of_gt lt1, I1.nofs (Nat.le_refl _)⟩
    have I3 := Inv.pinnedG (pn := [(s1.heap.objs.size, go)]) (pins := []) I2 fun p hp => by
      rw [List.append_nil] at hp
      rw [List.mem_singleton.mp hp]
      exact ⟨hea, young.1, young.2.1, young.2.2, hgd⟩
    have sz2 : s.heap.objs.size ≤ s2.heap.objs.size := by
      rw [hh]
      show _ ≤ (s1.heap.push go).objs.size
      rw [Heap.size_push]
      omega
    -- the same, over the state of the first waking
    have J : Inv (GP.cx ⟨P, w, K, mg, base, N, qual, scope, f, cdv, outer, s.heap.objs.size, s1.heap.objs.size, go⟩ Aw (GP.tr ⟨P, w, K, mg, base, N, qual, scope, f, cdv, outer, s.heap.objs.size, s1.heap.objs.size, go⟩ s2) H) [] (start N vs) H s2 := by
      have J0 : Inv (GP.cx ⟨P, w, K, mg, base, N, qual, scope, f, cdv, outer, s.heap.objs.size, s1.heap.objs.size, go⟩ Aw s H) [] (start N vs) H s2 :=
        ⟨⟨I3.ok.mod, I3.ok.kind, I3.ok.glob, I3.ok.blt, I3.ok.above, I3.ok.inj, I3.ok.has, I3.ok.cab, I3.ok.hd, I3.ok.frames, I3.ok.stk, I3.ok.exf, I3.ok.bs, I3.ok.bsz, I3.ok.noex, I3.ok.exfs, I3.ok.funs, I3.ok.frf⟩, I3.os, I3.bare, I3.base, I3.loc, I3.cell, I3.free, I3.freeC, I3.pin, I3.hok, I3.len⟩
      refine GP.wake (H := H) (Hb := H) (s := s2) rfl nocells J0 ⟨⟨hfr, e0.mod, fun b o e => ?_, Nat.le_trans e0.bsz sz2, ?_, e0.frf, J0.hok, hba⟩, rfl, sz2, fun b hb => ⟨rfl, ?_⟩⟩
      · obtain ⟨a1, a2⟩ := e0.bs b o e
        exact ⟨kp2 b o (kp1 b o a1), a2⟩
      · exact e0.funs.of_keeps fun b o e _ => ⟨o, kp2 b o (kp1 b o e), rfl⟩
      · rcases hb with hb | hb
        · rw [hb]
          exact J0.free
        · have hb' : b ∈ [s1.heap.objs.size] := by simpa using hb
          rw [List.mem_singleton.mp hb']
          exact young.1
    refine ⟨n, ?_⟩
    refine seg_func ?_
    refine ht.run Cw (GR _ Aw Kd Cw) [] n c s2 H _ [] _ _ id id s2 (start N vs) H _ ⟨over_func, rfl, rfl, rfl⟩ ⟨fun p hp => absurd hp (by simp), fun n c s₀ Hb s' fl hc' hl' hs => ?_⟩ hcw sz2 J hq
    cases fl with
    | next =>
      obtain ⟨σ', H', I, hQ⟩ := hs
      exact seg_end (.ok (.ret .none)) ⟨rfl, c, Hb, [], σ', H', hc', I, hQ⟩
    | brk => obtain ⟨_, _, _, q⟩ := hs; exact False.elim q
    | cont => obtain ⟨_, _, _, q⟩ := hs; exact False.elim q
    | ret u =>
      obtain ⟨v, σ', H', I, rv, ev, hQ⟩ := hs
      subst ev
      have eu : u = Value.none := rv
      subst eu
      exact seg_end (.ok (.ret .none)) ⟨rfl, c, Hb, [], σ', H', hc', I, hQ⟩
  exact main _ _ _ _ rfl rfl rfl fun h => Heap.get?_push_size _ rfl
end GenF
namespace GenF
open PySem PySem.Spec L2 PyProof.Rows GenW GenS
/-- woken once more -/
def Again (M : Model) (A : Around) (R : GenEnd) (Y : Protocol) (gs : GenState) : Nat → Resume → Shared → Prop
  | 0 => fun _ _ => False
  | m + 1 => fun r s => gs.Goes M A R Y m r s
section
variable {M : Model}
theorem wpAny_resumeS {A : Around} {R : GenEnd} {Y : Protocol} {n : Nat} {E : Value → Shared → Prop} {s : Shared} {g : Nat} {gs : GenState}
    {r : Resume} {l : List Value} {α : Type} {k : GenResult → Sem α} {Q : α → Shared → Prop} (hg : s.gens[g]? = some gs)
    (hgo : gs.Goes M A R Y n r (s.setGen g .running))
    (hR : ∀ x s₁, R n (s.setGen g .running) x s₁ → wpAny M A (k (End.ret x).result) Q E (s₁.setGen g .finished))
    (hY : ∀ v s₁ gs', gs'.bare = true → isSusp gs' = true → Y (n - 1) (s.setGen g .running) v s₁ (Again M A R Y gs' n) →
      wpAny M A (k (.yielded v)) Q E (s₁.setGen g gs')) :
    wpAny M A (.resume g r l k) Q E s := by
  intro Γ p hΓ
  rw [Sem.wp_resume]
  have hB : ∀ c, (Γ.wake c p).Woken A := fun c => hΓ.wake c p
  have fin : ∀ e₁ s₁, SegEnd R Y n (Seg.next M A R Y n) (s.setGen g .running) e₁ s₁ →
      Sem.wp M Γ (k e₁.result) (fun a _ s' => Q a s') (fun e _ s' => E e s') p (s₁.setGen g e₁.genState) := by
    intro e₁ s₁ he
    cases e₁ with
    | ret x => exact hR x s₁ he Γ p hΓ
    | susp v g₀ l₀ k₀ c₀ p₀ fs₀ =>
      refine hY v s₁ _ (End.bare_of_quiet he.1) rfl ?_ Γ p hΓ
      cases n with
      | zero => exact he.2
      | succ m => exact he.2
  have hqt : ∀ e₁ s₁, SegEnd R Y n (Seg.next M A R Y n) (s.setGen g .running) e₁ s₁ → e₁.quiet = true := by
    intro e₁ s₁ he
    cases e₁ with
    | ret x => rfl
    | susp v g₀ l₀ k₀ c₀ p₀ fs₀ => exact he.1
  cases gs with
  | fresh c =>
    obtain ⟨rfl, hs⟩ := hgo
    obtain ⟨e₁, s₁, hr, he⟩ := seg_iff.mp hs (Γ.wake c p) p rfl (hB c)
    exact ⟨_, _, by unfold Wakes; rw [hg]; exact ⟨e₁, s₁, hr, hqt e₁ s₁ he, rfl, rfl⟩, fin e₁ s₁ he⟩
  | suspended k₀ l₀ c₀ p₀ fs₀ cl =>
    obtain ⟨e₁, s₁, hr, he⟩ := seg_iff.mp hgo (Γ.wake c₀ p) p₀ rfl (hB c₀)
    exact ⟨_, _, by unfold Wakes; rw [hg]; exact ⟨e₁, s₁, hr, hqt e₁ s₁ he, rfl, rfl⟩, fin e₁ s₁ he⟩
  | running => exact hgo.elim
  | finished => exact hgo.elim
end
section
variable {P : Program} {w : World} {A : Around} {E : Value → Shared → Prop} {s : Shared}
/-- the next item -/
theorem next_S {a : Addr} {g n : Nat} {gs : GenState} {F : Nat → Shared → Shared → Prop} {Y : Protocol} {Q : Option Value → Shared → Prop} (hh : A.handled = none)
    (hl : s.heap.NoLimit) (hroom : A.depth < recursionLimit) (hg : s.heap.IsGen a g) (hgs : s.gens[g]? = some gs)
    (hgo : gs.Goes (model P w) A.in1 (fun n s₀ r s₁ => r = .ok (.ret .none) ∧ F n s₀ s₁) Y n (.send .none) (s.setGen g .running))
    (hY : ∀ v s₁ gs', gs'.bare = true → isSusp gs' = true → Y (n - 1) (s.setGen g .running) v s₁ (Again (model P w) A.in1 (fun n s₀ r s₁ => r = .ok (.ret .none) ∧ F n s₀ s₁) Y gs' n) → Q (some v) (s₁.setGen g gs'))
    (hP : ∀ s₁, F n (s.setGen g .running) s₁ → ∀ h', (∀ b o, s₁.heap.get? b = some o → h'.get? b = some o) → Q none { s₁.setGen g .finished with heap := h' }) :
    wpAny (model P w) A (pyNext (.ref a)) Q E s := by
  unfold pyNext
  refine wpAny_bind (wpAny_attempt (wpAny_callSpecial?_slot (name := Str.ofString "__next__") hg.typeIs slot_gen_next
    (wpAny_call_entry slot_gen_next hg.typeIs entry_gen_next ?_ (args_gen_next _))))
  show wpAny _ A.in1 (Builtin.Generator.genWake (.ref a) (.send .none)) _ _ s
  unfold Builtin.Generator.genWake
  refine wpAny_bind (wpAny_holding (wpAny_genNumber hg (wpAny_bind (wpAny_genState hgs ?_))))
  cases gs with
  | running => exact hgo.elim
  | finished => exact hgo.elim
  | _ =>
    refine wpAny_bind (wpAny_roomToWake hl hroom ?_)
    show wpAny _ A.in1 (.resume g (.send .none) [] _) _ _ s
    refine wpAny_resumeS hgs hgo (fun x s₁ hx => ?_) (fun v s₁ gs' hb hsu hv => ?_)
    · obtain ⟨hr, hp⟩ := hx
      have hres : End.result (.ret x) = .returned .none := by
        rw [hr] <;> rfl
      first | rw [hres] | simp only [hres]
      show wpAny _ A.in1 (newExc (.type "StopIteration") [] >>= _) _ _ _
      refine wpAny_bind ?_
      simp only [newExc, newTuple]
      refine wpAny_bind (wpAny_newObj_type ?_ (by size_fits))
      refine wpAny_bind (m := firstArgMember _ _) (wpAny_of_eq (a := Value.none) (by first | rfl | (simp only [firstArgMember]; rfl)) ?_)
      refine wpAny_newObj_type ?_ (by size_fits)
      simp only [raiseNew]
      refine wpAny_bind (wpAny_bind (wpAny_handled ?_))
      first | rw [show A.in1.handled = none from hh] | rw [hh]
      refine wpAny_throw ?_
      refine wpAny_bind (wpAny_isInstance (T := "StopIteration") (b := true) ⟨_, Heap.get?_push_size _ rfl, rfl⟩ isSubtype_stop ?_)
      exact wpAny_pure (hP s₁ hp _ fun b o hb => Heap.get?_push_of_some _ (Heap.get?_push_of_some _ hb))
    · exact wpAny_pure ⟨v, rfl, wpAny_pure (hY v s₁ gs' hb hsu hv)⟩
end
end GenF
namespace GenF
open PySem PySem.Spec L2 PyProof.Rows GenW GenS
/-- what is true of the consumer and the generator from its making on -/
structure Mine (X : Cx) (pins : List (Addr × Obj)) (G : GP) : Prop where
  P : G.P = X.prog
  w : G.w = X.w
  K : G.K = X.K
  mg : G.mg = X.mg
  base : G.base = X.base
  outer : G.outer = X.stack
  nc : G.env.cells = []
  loc : X.env.locals < G.L
  cells : ∀ x c, X.env.cells.lookup x = some c → c < G.L
  pins : ∀ p ∈ X.pn ++ pins, p.1 < G.L
  sz : X.s_0.heap.objs.size ≤ G.L
  ne : G.L < G.a
/-- the generator's objects, as they stand while it sleeps -/
structure Stands (G : GP) (g : Nat) (H : Hp) (s : Shared) : Prop where
  go : s.heap.get? G.a = some G.go
  gen : s.heap.IsGen G.a g
  gd : ∀ v, G.go.data ≠ .cell v
  loc : ∃ oL, s.heap.get? G.L = some oL ∧ ∀ v, oL.data ≠ .cell v
  nL : H G.L = none
  nA : H G.a = none
def MadeG (X : Cx) (pins : List (Addr × Obj)) (k : Nat) (H : Hp) (s : Shared) {γ : Type} (c : γ) (Yd : YK γ) (Kd : γ → Hp → Prop) (u : Value) : Prop :=
  ∃ (G : GP) (g : Nat) (code : Code), Mine X pins G ∧ Stands G g H s ∧ u = .ref G.a ∧ s.gens[g]? = some (.fresh code) ∧
    ∀ (A : Around) (s2 : Shared), Room k A → A.frames = some X.stack → s2.heap = s.heap → s2.os = s.os → AllBare s2.gens → ∀ Cw : γ → Hp → Shared → Prop, Cw c H s2 →
      ∃ n, Seg (model X.prog X.w) A (GR G A Kd Cw) (GY G A Yd Cw) n s2 code ((model X.prog X.w).den code) [] s2
abbrev TIG := ∀ γ : Type, γ → L2.St → Hp → YK γ → (γ → Hp → Prop) → Prop
/-- an expression whose value is a generator that has not begun -/
structure PIG (X : Cx) (k : Nat) (iter : Expr) (wi : TIG) : Prop where
  run : ∀ (pins : List (Addr × Obj)) (s : Shared) (σ : L2.St) (H : Hp) (γ : Type) (c : γ) (Yd : YK γ) (Kd : γ → Hp → Prop), Inv X pins σ H s → YMono Yd → wi γ c σ H Yd Kd →
    wpAny (model X.prog X.w) X.A (eval iter X.env) (fun v s1 => ∃ H1, Inv X pins σ H1 s1 ∧ MadeG X pins k H1 s1 c Yd Kd v) X.xe s
section
variable {X : Cx} {pins : List (Addr × Obj)} {k : Nat} {f : Addr} {fd : FuncData} {ps : List Str} {sp : SpG2} {ds : List Value} {dvs : List V}
theorem run_gfn2 {σ : L2.St} {H : Hp} {s : Shared} {us : List Value} {vs : List V} {γ : Type} {c : γ} {Yd : YK γ} {Kd : γ → Hp → Prop} {E1 : Value → Shared → Prop} (F : GFn2 X.prog X.w X.K X.mg X.base k f fd ps sp) (hr : Room k X.A) (hb : Binds X.K fd ps ds) (hd : Vals dvs ds)
    (I : Inv X pins σ H s) (r : Vals vs us) (hmo : YMono Yd) (h : sp γ c (vs ++ dvs) H Yd Kd) :
    wpAny (model X.prog X.w) X.A (call (.ref f) us) (fun u s' => ∃ H1, Inv X pins σ H1 s' ∧ MadeG X pins k H1 s' c Yd Kd u) E1 s := by
  have r2 : Vals (vs ++ dvs) (us ++ ds) := r.append hd
  have hl2 : (us ++ ds).length = ps.length := by rw [← r2.length]; exact F.len _ _ _ _ _ _ h
  refine wpAny_call (codeAny_mono (F.run X.A X.stack s H ⟨us, []⟩ (us ++ ds) (vs ++ dvs) γ c Yd Kd hr I.env0 (hb s us I.kIn hl2) r2 hmo h) fun r s' hq => ?_)
  cases r with
  | error e => exact False.elim hq
  | ok fl =>
    cases fl with
    | ret u =>
      obtain ⟨G, g, code, e1, e2, e3, e4, e5, e6, nc, eu, eL, ne, lt, go, gen, gd, oL, hg, os, ba, nl, kp, nL, nA, seg⟩ := hq
      refine ⟨H, I.call' (ch := []) os (Un.kept kp) (I.hok.kept kp) ba fun b z => by simp at z, G, g, code, ⟨e1, e2, e3, e4, e5, e6, nc, ?_, fun x c e => ?_, fun p hp => ?_, ?_, ne⟩, ⟨go, gen, gd, oL, nL, nA⟩, eu, hg, seg⟩
      · rw [eL]; exact I.lt
      · rw [eL]
        obtain ⟨v, q⟩ := I.cell x c e
        exact q.lt
      · rw [eL]
        exact Heap.lt_size (I.pin p hp).1
      · rw [eL]; exact I.sz
    | next => exact False.elim hq
    | brk => exact False.elim hq
    | cont => exact False.elim hq
/-- o.m(e, ..) of a generator method -/
theorem pig_meth {C : Addr} {m : Str} {o e : Expr} {es : List Expr} {ta : TE} {t : TA} {apos pos' : Pos} {pl : Sem Bool} (he : PE X o ta) (c : Cls X.K C) (hm : Meth X.K C m f) (F : GFn2 X.prog X.w X.K X.mg X.base k f fd ps sp) (hr : Room k X.A) (hb : Binds X.K fd ps ds) (hd : Vals dvs ds) (ha : PA X (e :: es) t)
    (hst : starEach (e :: es) X.env = (false, eval e X.env) :: starEach es X.env := by rfl) (hpl : (backTo pos' (starEach es X.env)).any (·.1) = false := by rfl)
    (ht : eval (.Call (.Attribute o m apos) (e :: es) [] pos') X.env = (do
      let ov ← eval o X.env
      standAt apos.atName
      let (f, first) ← holding [ov] (getMethod ov m pl)
      callWith pos' f first (backTo pos' (starEach (e :: es) X.env)) (backToKw pos' (keywordEach [] X.env))) := by rfl) :
    PIG X k (.Call (.Attribute o m apos) (e :: es) [] pos') (fun γ cc σ H Yd Kd => ta σ H fun x H1 => ∃ a dx fs, x = .ref a ∧ H1 a = some (.ins C dx fs) ∧ fs.lookup m = none ∧ t σ H1 fun vs H2 => sp γ cc (.ref a :: vs ++ dvs) H2 Yd Kd) := by
  refine ⟨fun pins s σ H γ cc Yd Kd I hmo h => ?_⟩
  refine PySem.W.methodCall_KW (pl := pl) (thn (he.run pins s σ H _ I h) fun u s1 ⟨x, H1, I1, rx, a, dx, fs, ex, ea, l, q⟩ => ?_) ht
  subst ex
  obtain rfl : u = Value.ref a := rx
  refine getmeth_ok I1 ea c hm l ?_
  refine PySem.W.callWith_K (first := [.ref a]) (h₀ := X.base) I.ok.mod.kin hm.kp (thn (ha.run pos' pins s1 σ H1 _ I1 q) fun us s2 ⟨vs, H2, I2, r, q2⟩ => ⟨I2.kIn, ?_⟩) hst hpl
  exact run_gfn2 (us := .ref a :: us) (vs := .ref a :: vs) F hr hb hd I2 (.cons rfl r) hmo q2
end
end GenF
namespace GenF
open PySem PySem.Spec L2 PyProof.Rows GenW GenS
section
variable {X : Cx} {pins : List (Addr × Obj)} {G : GP} {A : Around}
theorem addr_ne {a b L : Addr} (h : a < L) (h2 : L ≤ b) : b ≠ a := fun z => absurd (Nat.lt_of_lt_of_le h h2) (by rw [z]; exact Nat.lt_irrefl _)
/-- the table of generators is nobody's -/
theorem inv_gens {σ : L2.St} {H : Hp} {s : Shared} (I : Inv X pins σ H s) {g' : Array GenState} (h : AllBare g') : Inv X pins σ H { s with gens := g' } :=
  ⟨I.ok, I.os, h, I.base, I.loc, I.cell, I.free, I.freeC, I.pin, I.hok, I.len⟩
/-- the consumer's own state behind a turn of the generator -/
theorem turned_back (M : Mine X pins G) {c σg : L2.St} {H Hb : Hp} {s s₀ : Shared} {ip : List (Addr × Obj)} (hl : G.L ≤ s₀.heap.objs.size) (I : Inv X pins c Hb s₀) (J : Inv (G.cx A (G.tr s₀) Hb) ip σg H s) : Inv X pins c H s := by
  have ch : ∀ b, b ∈ (List.range s₀.heap.objs.size).filter (fun b => decide (G.L ≤ b)) ↔ b < s₀.heap.objs.size ∧ G.L ≤ b := fun b => by
    rw [List.mem_filter, List.mem_range, decide_eq_true_eq]
  have below : ∀ {b : Addr} {o : Obj}, b ∉ (List.range s₀.heap.objs.size).filter (fun b => decide (G.L ≤ b)) → s₀.heap.get? b = some o → (G.tr s₀).heap.get? b = some o := fun {b o} nb e => by
    have l : b < G.L := by
      apply Classical.byContradiction
      intro z
      exact nb ((ch b).mpr ⟨Heap.lt_size e, Nat.le_of_not_lt z⟩)
    show (trunc G.L s₀.heap).get? b = some o
    rw [trunc_get l]
    exact e
  have B : Un (frs G.outer) [] Hb H (G.tr s₀).heap s.heap := J.base
  rw [M.outer] at B
  have nil : ∀ b : Addr, b ∉ ([] : List Addr) := fun b => by simp
  refine I.call' (ch := (List.range s₀.heap.objs.size).filter (fun b => decide (G.L ≤ b))) J.os ⟨fun b o e n hb hx => B.keep b o (below hx e) n hb (nil b), fun b o e n hb hx => B.slot b o (below hx e) n hb (nil b), fun b o e n hx => B.free b o (below hx e) n (nil b), fun b o e hx => B.there b o (below hx e) (nil b), B.tups, B.frzs, B.tbls⟩ ?_ J.bare fun b hb => ?_
  · have := J.hok
    show HOk X.prog X.w H s.heap
    rw [← M.P, ← M.w]
    exact this
  · obtain ⟨b1, b2⟩ := (ch b).mp hb
    exact ⟨.inr (Nat.le_trans M.sz b2), addr_ne M.loc b2, fun x c e => (addr_ne (M.cells x c e) b2).symm, fun p hp => (addr_ne (M.pins p hp) b2).symm⟩
theorem mine_fp (M : Mine X pins G) {c : L2.St} {H : Hp} {s : Shared} (I : Inv X pins c H s) {b : Addr} (hb : G.L ≤ b) (hn : H b = none) : FpOk X pins H b := by
  refine ⟨hn, addr_ne M.loc hb, fun z => ?_, .inr (Nat.le_trans M.sz hb), fun x c e => (addr_ne (M.cells x c e) hb).symm, fun p hp => (addr_ne (M.pins p hp) hb).symm⟩
  obtain ⟨_, o, ho, _⟩ := I.ok.funs.mem z
  exact absurd (Nat.lt_of_lt_of_le (Heap.lt_size ho) (Nat.le_trans M.sz hb)) (Nat.lt_irrefl _)
/-- an exception of the body is the same where the sleepers are stuck -/
def XeSim (X : Cx) : Prop := ∀ (B : Nat → Option GenState) (e : Value) (s : Shared), (∀ i y, B i = some y → y.bare = true) → OkG B s → X.xe e s → X.xe e (rl B s)
end
section
variable {X : Cx} {k : Nat} {iter tg : Expr} {body : List Stmt} {wi : TIG} {g : TG} {tb : TS} {pos : Pos}
/-- what is done with an item -/
def yFor (g : TG) (tb : TS) (D : Ends) : YK L2.St := fun c x H K => g x c H fun σ2 H2 => tb { D with nx := K, ct := K, bk := D.nx } σ2 H2
theorem ps_forG (hp : PassesOwn (model X.prog X.w) X.A X.env X.xe) (hx : XeSim X) (hc : X.A.handled = none) (hr : Room (k + 1) X.A) (hi : PIG X k iter wi) (hg : PG X tg g) (hb : PSs X body tb)
    (hmo : ∀ D, YMono (yFor g tb D))
    (hs : ∀ x, foldedSetIterable iter X.env x = pure x := by intro _; rfl) : PS X (.For tg iter body [] pos) (fun D σ H => wi L2.St σ σ H (yFor g tb D) D.nx) := by
  refine ⟨fun pins s σ H D I h => ?_⟩
  have hfr : X.A.frames = some X.stack := I.ok.frames
  refine wpAny_For (thn (hi.run pins s σ H L2.St σ (yFor g tb D) D.nx I (hmo D) h) fun v s1 h1 => ?_) hs
  obtain ⟨H1, I1, G, gn, code, M, S1, ev, hg1, seg⟩ := h1
  subst ev
  refine wpAny_pyIter_gen S1.gen ?_
  have hd1 : X.A.depth < recursionLimit := by have := hr.dp; omega
  -- the state of the consumer at a waking
  let Cw : L2.St → Hp → Shared → Prop := fun c H s => Inv X pins c H s ∧ G.L ≤ s.heap.objs.size ∧ Stands G gn H s
  let A1 : Around := X.A.in1
  have hr1 : Room k A1 := hr.in1
  have big : ∀ {s : Shared} {H : Hp}, Stands G gn H s → G.L ≤ s.heap.objs.size := fun {s H} S => by
    obtain ⟨oL, e, _⟩ := S.loc
    exact Nat.le_of_lt (Heap.lt_size e)
  refine codeAny_forLoop_any (fun m s' => ∃ (c : L2.St) (H' : Hp) (gs : GenState), Inv X pins c H' s' ∧ Stands G gn H' s' ∧ s'.gens[gn]? = some gs ∧
    gs.Goes (model X.prog X.w) A1 (GR G A1 D.nx Cw) (GY G A1 (yFor g tb D) Cw) m (.send .none) (s'.setGen gn .running)) ?_ ((seg A1 (s1.setGen gn .running) hr1 hfr rfl rfl (allBare_setGen I1.bare rfl) Cw ⟨inv_gens I1 (allBare_setGen I1.bare rfl), (big S1 : G.L ≤ s1.heap.objs.size), ⟨S1.go, S1.gen, S1.gd, S1.loc, S1.nL, S1.nA⟩⟩).choose) ?_
  · rintro m s3 ⟨c3, H3, gs, I3, S3, hgs, hgo⟩
    have stS : ∀ {H : Hp} {s' : Shared} (x : GenState), Stands G gn H s' → Stands G gn H (s'.setGen gn x) := fun {H s'} x S => ⟨S.go, S.gen, S.gd, S.loc, S.nL, S.nA⟩
    have later : ∀ {c Hb : _} {s₀ s : Shared} {ip : List (Addr × Obj)} {σg : L2.St} {H : Hp}, Cw c Hb s₀ → Inv (G.cx A1 (G.tr s₀) Hb) ip σg H s → Inv X pins c H s ∧ Stands G gn H s := fun {c Hb s₀ s ip σg H} hcw J => by
      obtain ⟨Ic, sz0, Sc⟩ := hcw
      refine ⟨turned_back M sz0 Ic J, ?_⟩
      have pa := J.pin (G.a, G.go) (List.mem_append_left _ (List.mem_singleton.mpr rfl))
      have hgo : s.heap.get? G.a = some G.go := pa.1
      obtain ⟨o, nm, qn, ho, hc1, hd1, hs1⟩ := Sc.gen
      rw [Sc.go] at ho
      have eo : G.go = o := Option.some.inj ho
      obtain ⟨mm, ⟨oL, es, ep, hoL, hdL, _⟩, _⟩ := J.loc
      exact ⟨hgo, ⟨G.go, nm, qn, hgo, by rw [eo]; exact hc1, by rw [eo]; exact hd1, by rw [eo]; exact hs1⟩, Sc.gd, ⟨oL, hoL, fun v q => by rw [hdL] at q; cases q⟩, J.free, pa.2.1⟩
    have lt3 : gn < s3.gens.size := (Array.getElem?_eq_some_iff.mp hgs).1
    refine wpAny_passesOwn hp (wpAny_gsz (n := gn + 1) lt3 (next_S hc I3.nolimit hd1 S3.gen hgs (F := fun n s₀ s => ∃ c Hb ip σg H, Cw c Hb s₀ ∧ Inv (G.cx A1 (G.tr s₀) Hb) ip σg H s ∧ D.nx c H) hgo (fun v s4 gs' hbare hsu hv => ?_) fun s4 hq h' hk => ?_))
    · -- an item
      obtain ⟨x, c, Hb, ip, σg, H4, hcw, rv, hip, J, hY⟩ := hv
      obtain ⟨I4, S4⟩ := later hcw J
      intro hsz
      have lt4 : gn < s4.gens.size := by
        rw [setGen_size] at hsz
        exact hsz
      have I5 : Inv X pins c H4 (s4.setGen gn gs') := inv_gens I4 (allBare_setGen I4.bare hbare)
      have S5 := stS gs' S4
      have g5 : (s4.setGen gn gs').gens[gn]? = some gs' := setGen_at lt4
      obtain ⟨og, nm, qn, ho, hgc, hgd, _⟩ := S5.gen
      refine wpAny_passesOwn hp (go_of ho hgc hgd (by decide +kernel) ?_)
      -- the generator's objects are pinned
      let fp : List Addr := G.L :: (([(G.a, G.go)] ++ ip).map (·.1))
      have young : ∀ b ∈ fp, G.L ≤ b ∧ H4 b = none ∧ ∃ o, s4.heap.get? b = some o ∧ ∀ v, o.data ≠ .cell v := fun b hb => by
        rcases List.mem_cons.mp hb with e | hb
        · rw [e]
          exact ⟨Nat.le_refl _, S4.nL, S4.loc⟩
        · obtain ⟨p, hp, e⟩ := List.mem_map.mp hb
          obtain ⟨q1, q2, _, _, q5⟩ := J.pin p hp
          rw [← e]
          refine ⟨?_, q2, p.2, q1, q5⟩
          rcases List.mem_append.mp hp with z | z
          · rw [List.mem_singleton.mp z]
            exact Nat.le_of_lt M.ne
          · exact Nat.le_of_lt (hip p z)
      have I6 : Inv X (pins ++ pinsAt fp s4.heap) c H4 (s4.setGen gn gs') := I5.pinned (fp := fp) (fun b hb => mine_fp M I5 (young b hb).1 (young b hb).2.1) fun b hb => (young b hb).2.2
      have bare5 := I5.bare
      have I6s : Inv X (pins ++ pinsAt fp s4.heap) c H4 (stuckS (s4.setGen gn gs')) := inv_gens I6 (stuck_bareAll bare5)
      have zb := zz_bare bare5
      have runA := wpAny_asleep (hg.run _ (stuckS (s4.setGen gn gs')) c H4 x v _ I6s rv hY)
      refine wpAny_passesOwn hp (wpAny_mono runA (fun _ s6r ⟨s6, e6, k6, σ6, H6, I7, q7⟩ => ?_) fun e s6r ⟨s6, e6, k6, hxe⟩ => by rw [e6]; exact hx _ e s6 zb k6 hxe)
      subst e6
      have runB := wpAny_sim k6 (hb.run _ s6 σ6 H6 _ I7 q7)
      refine wpAny_passesOwn hp (wpAny_mono runB (fun fl s7r ⟨s7, e7, k7, q8⟩ => ?_) fun e s7r ⟨s7, e7, k7, hxe⟩ => by rw [e7]; exact hx _ e s7 zb k7 hxe)
      subst e7
      have again : ∀ {σ7 : L2.St} {H7 : Hp}, Inv X (pins ++ pinsAt fp s4.heap) σ7 H7 s7 → (∀ s', Woke G A1 ip s4 s' H7 → Cw σ7 H7 s' → Again (model X.prog X.w) A1 (GR G A1 D.nx Cw) (GY G A1 (yFor g tb D) Cw) gs' m (.send .none) s') →
          ∃ m', m' < m ∧ ∃ (c : L2.St) (H' : Hp) (gs : GenState), Inv X pins c H' (rl (zzOf (s4.setGen gn gs').gens) s7) ∧ Stands G gn H' (rl (zzOf (s4.setGen gn gs').gens) s7) ∧ (rl (zzOf (s4.setGen gn gs').gens) s7).gens[gn]? = some gs ∧
            gs.Goes (model X.prog X.w) A1 (GR G A1 D.nx Cw) (GY G A1 (yFor g tb D) Cw) m' (.send .none) ((rl (zzOf (s4.setGen gn gs').gens) s7).setGen gn .running) := fun {σ7 H7} I8 nx => by
        have pin8 : ∀ b ∈ fp, s7.heap.get? b = s4.heap.get? b ∧ H7 b = none := fun b hb => by
          obtain ⟨_, _, o, e, _⟩ := young b hb
          have q := I8.pin (b, o) (List.mem_append_right _ (List.mem_append_right _ (mem_pinsAt hb e)))
          exact ⟨q.1.trans e.symm, q.2.1⟩
        have I9 : Inv X pins σ7 H7 (rl (zzOf (s4.setGen gn gs').gens) s7) := inv_gens I8.unpinned (rl_bareAll zb I8.bare)
        have bare9 := I9.bare
        have I10 : Inv X pins σ7 H7 ((rl (zzOf (s4.setGen gn gs').gens) s7).setGen gn .running) := inv_gens I9 (allBare_setGen bare9 rfl)
        have memA : G.a ∈ fp := List.mem_cons_of_mem _ (List.mem_map.mpr ⟨(G.a, G.go), List.mem_append_left _ (List.mem_singleton.mpr rfl), rfl⟩)
        have pA := pin8 G.a memA
        have pL := pin8 G.L List.mem_cons_self
        have S9 : Stands G gn H7 (rl (zzOf (s4.setGen gn gs').gens) s7) := by
          obtain ⟨og, nm, qn, ho, r⟩ := S4.gen
          obtain ⟨oL, hoL, r2⟩ := S4.loc
          exact ⟨pA.1.trans S4.go, ⟨og, nm, qn, pA.1.trans ho, r⟩, S4.gd, ⟨oL, pL.1.trans hoL, r2⟩, pL.2, pA.2⟩
        have W : Woke G A1 ip s4 ((rl (zzOf (s4.setGen gn gs').gens) s7).setGen gn .running) H7 := by
          have E0 := I10.env0
          refine ⟨⟨by rw [M.outer]; exact hfr, by rw [M.K, M.mg, M.base]; exact E0.mod, by rw [M.base]; exact E0.bs, by rw [M.base]; exact E0.bsz, by rw [M.base, M.outer]; exact E0.funs, by rw [M.outer]; exact E0.frf, by rw [M.P, M.w]; exact E0.hok, E0.bare⟩, ?_, (big S9 : G.L ≤ (rl (zzOf (s4.setGen gn gs').gens) s7).heap.objs.size), fun b hb => pin8 b ?_⟩
          · have a1 : s7.os = X.s_0.os := I8.os
            have a2 : s4.os = X.s_0.os := I4.os
            exact a1.trans a2.symm
          · rcases hb with hb | hb
            · rw [hb]
              exact List.mem_cons_self
            · exact List.mem_cons_of_mem _ hb
        have ag := nx _ W ⟨I10, (big S9 : G.L ≤ (rl (zzOf (s4.setGen gn gs').gens) s7).heap.objs.size), ⟨S9.go, S9.gen, S9.gd, S9.loc, S9.nL, S9.nA⟩⟩
        cases m with
        | zero => exact False.elim ag
        | succ m =>
          refine ⟨m, Nat.lt_succ_self m, σ7, H7, gs', I9, S9, k7.real (zz_at g5 hsu), ag⟩
      cases fl with
      | next => obtain ⟨σ7, H7, I8, n8⟩ := q8; exact again I8 n8
      | cont => obtain ⟨σ7, H7, I8, n8⟩ := q8; exact again I8 n8
      | brk => obtain ⟨σ7, H7, I8, q9⟩ := q8; exact ⟨σ7, H7, inv_gens I8.unpinned (rl_bareAll zb I8.bare), q9⟩
      | ret v => obtain ⟨x7, σ7, H7, I8, r7, q9⟩ := q8; exact ⟨x7, σ7, H7, inv_gens I8.unpinned (rl_bareAll zb I8.bare), r7, q9⟩
    · -- the end
      obtain ⟨c, Hb, ip, σg, H4, hcw, J, hQ⟩ := hq
      obtain ⟨I4, S4⟩ := later hcw J
      intro _
      refine wpAny_execs_nil ⟨c, H4, ?_, hQ⟩
      have I5 : Inv X pins c H4 (s4.setGen gn .finished) := inv_gens I4 (allBare_setGen I4.bare rfl)
      exact I5.kept (t' := s4.toks) hk
  · refine ⟨σ, H1, _, I1, S1, hg1, rfl, ?_⟩
    exact (seg A1 (s1.setGen gn .running) hr1 hfr rfl rfl (allBare_setGen I1.bare rfl) Cw ⟨inv_gens I1 (allBare_setGen I1.bare rfl), (big S1 : G.L ≤ s1.heap.objs.size), ⟨S1.go, S1.gen, S1.gd, S1.loc, S1.nL, S1.nA⟩⟩).choose_spec
end
end GenF
namespace J
open PySem PySem.Spec L2 PyProof.Rows ClX RZ GenF
section
variable {γ τ ζ α κ : Type}
/-- F: the part of the heap that the generator knows at a waking; Y: what the consumer does with an item -/
structure CoOk (Fp : γ → τ → Fr → Prop) (A : Ty α) (Y : α → τ → (τ → Prop) → Prop) (Yd : YK γ) : Prop where
  to : ∀ (g : Gm) (F : Fr) (σ : L2.St) (H : Hp) (x : V) (a : α) (c : γ) (s : τ) (P : τ → Prop) (K : γ → Hp → Prop), Fp c s F → g.Ok F σ H → A.rel (g.bs F H) x a → Y a s P → (∀ s' c' F' H', P s' → Fp c' s' F' → g.Ok F' σ H' → K c' H') → Yd c x H K
structure EnOk (Fp : γ → τ → Fr → Prop) (E : κ → List Cell) (Kp : κ → τ → Prop) (Kd : γ → Hp → Prop) : Prop where
  to : ∀ (g : Gm) (F : Fr) (σ : L2.St) (H : Hp) (c : γ) (s : τ) (z : κ), Fp c s F → g.Ok F σ H → (E z).Sublist g.c → Kp z s → Kd c H
structure GLe (D D' : GD γ) : Prop where
  nx : ∀ n c σ H, D.nx n c σ H → D'.nx n c σ H
  rt : ∀ n c v H, D.rt n c v H → D'.rt n c v H
  bk : ∀ n c σ H, D.bk n c σ H → D'.bk n c σ H
  ct : ∀ n c σ H, D.ct n c σ H → D'.ct n c σ H
theorem GLe.refl (D : GD γ) : GLe D D := ⟨fun _ _ _ _ h => h, fun _ _ _ _ h => h, fun _ _ _ _ h => h, fun _ _ _ _ h => h⟩
def RG (Fp : γ → τ → Fr → Prop) (g : Gm) (D : GD γ) (w : Nat → τ → Prop) : TG2 γ := fun D' n c σ H => GLe D D' ∧ ∃ F s, Fp c s F ∧ g.Ok F σ H ∧ w n s
def phiG (Fp : γ → τ → Fr → Prop) (S : ζ → Gm) (N : ζ → Nat → τ → Prop) : Nat → γ → L2.St → Hp → Prop := fun n c σ H => ∃ F s z, Fp c s F ∧ (S z).Ok F σ H ∧ N z n s
abbrev JG (G : GP) (A : Around) (Yd : YK γ) (Fp : γ → τ → Fr → Prop) (g : Gm) (sts : List Stmt) (D : GD γ) (w : Nat → τ → Prop) : Prop := GSs2 G A Yd sts (RG Fp g D w)
end
section
variable {γ : Type} {G : GP} {A : Around} {Yd : YK γ} {st : Stmt} {l rest : List Stmt}
theorem gssW2 {t t' : TG2 γ} (h : GSs2 G A Yd l t) (k : ∀ D n c σ H, t' D n c σ H → t D n c σ H) : GSs2 G A Yd l t' := ⟨fun Cw R ip n c s₀ Hb code fs K J gd lv s σ H D g kk hc hl I ht => h.run Cw R ip n c s₀ Hb code fs K J gd lv s σ H D g kk hc hl I (k _ _ _ _ _ ht)⟩
def tEx2 {τ : Type} (t : τ → TG2 γ) : TG2 γ := fun D n c σ H => ∃ a, t a D n c σ H
theorem gssE2 {τ : Type} {t : τ → TG2 γ} (h : ∀ a, GSs2 G A Yd l (t a)) : GSs2 G A Yd l (tEx2 t) := ⟨fun Cw R ip n c s₀ Hb code fs K J gd lv s σ H D g kk hc hl I ⟨a, ht⟩ => (h a).run Cw R ip n c s₀ Hb code fs K J gd lv s σ H D g kk hc hl I ht⟩
variable {τ ζ α κ : Type} {Fp : γ → τ → Fr → Prop} {g : Gm} {D : GD γ}
theorem jg_end {S : ζ → Gm} {N : ζ → Nat → τ → Prop} {rt : Nat → γ → V → Hp → Prop} {bk ct : Nat → γ → L2.St → Hp → Prop} (z : ζ) (h : Sub g (S z)) : JG G A Yd Fp g [] ⟨phiG Fp S N, rt, bk, ct⟩ (fun n s => N z n s) :=
  gssW2 gss_nil2 fun D n c σ H ⟨e, F, s, hf, k, w⟩ => e.nx n c σ H ⟨F, s, z, hf, h.ok k, w⟩
theorem jg_endK {E : κ → List Cell} {Kp : κ → τ → Prop} {Kd : γ → Hp → Prop} {rt : Nat → γ → V → Hp → Prop} {bk ct : Nat → γ → L2.St → Hp → Prop} (hE : EnOk Fp E Kp Kd) (z : κ) (h : (E z).Sublist g.c) : JG G A Yd Fp g [] ⟨fun _ c _ H => Kd c H, rt, bk, ct⟩ (fun n s => Kp z s) :=
  gssW2 gss_nil2 fun D n c σ H ⟨e, F, s, hf, k, w⟩ => e.nx n c σ H (hE.to g F σ H c s z hf k h w)
theorem jg_never : JG G A Yd Fp g (st :: rest) D (fun _ _ => False) := gssW2 (gss_pss2 fun s H => pss_never) fun D n c σ H ⟨e, F, s, hf, k, w⟩ => w
/-- statements that hand out nothing -/
theorem jg_plain {S : ζ → Gm} {w : (ζ → Prop) → Prop} {wr : ζ → Nat → τ → Prop} (h : ∀ sb Hb F (N : ζ → Prop), JSs (G.cx A sb Hb) F g l ⟨phi F S N, fun _ _ => False, fun _ _ => False, fun _ _ => False⟩ (w N)) (hr : ∀ z, JG G A Yd Fp (S z) rest D (wr z)) :
    JG G A Yd Fp g (l ++ rest) D (fun n s => w (fun z => wr z n s)) := by
  refine gssW2 (gss_app2 (gss_pss2 (t := fun D σ H => ∃ q : Fr × (ζ → Prop), RS q.1 g ⟨phi q.1 S q.2, fun _ _ => False, fun _ _ => False, fun _ _ => False⟩ (w q.2) D σ H) fun sb Hb => pssE fun q => h sb Hb q.1 q.2) (gssE2 hr)) fun D' n c σ H ⟨e, F, s, hf, k, hw⟩ => ?_
  exact ⟨(F, fun z => wr z n s), ⟨fun σ' H' ⟨z, k', w'⟩ => ⟨z, e, F, s, hf, k', w'⟩, fun _ _ z => z.elim, fun _ _ z => z.elim, fun _ _ z => z.elim⟩, k, hw⟩
/-- yield e -/
theorem jg_yield {Ai : Ty α} {Y : α → τ → (τ → Prop) → Prop} {e : Expr} {yp pos : Pos} {we : (α → Prop) → Prop} {wr : Nat → τ → Prop} (hY : CoOk Fp Ai Y Yd) (hm : YMono Yd) (hnc : G.env.cells = []) (he : ∀ sb Hb F, JE (G.cx A sb Hb) F g e (rO Ai) we) (hr : JG G A Yd Fp g rest D wr)
    (hco : G.env.scope.isCoroutine = false := by rfl) (hi : interactive G.env = false := by rfl) :
    JG G A Yd Fp g (.Expr (.Yield (some e) yp) pos :: rest) D (fun n s => ∃ m, n = m + 1 ∧ we fun a => Y a s fun s' => wr m s') := by
  refine gssW2 (gss_cons2 (gs_yield2 (te := fun σ H Q => ∃ F, RJ F g (rO Ai) we σ H Q) hm hnc (fun sb Hb => ⟨fun p s σ H Q I ⟨F, q⟩ => (he sb Hb F).run p s σ H Q I q⟩) hco hi) hr) fun D' n c σ H ⟨le, F, s, hf, k, m, en, hw⟩ => ?_
  refine ⟨m, en, F, k, _, hw, fun a x H1 p s1 r => hY.to g F σ H1 x a c s _ _ hf (k.step s1) r p fun s' c' F' H' p' hf' k' => ?_⟩
  exact ⟨le, F', s', hf', k', p'⟩
/-- if, the ways meet behind -/
theorem jg_ifJ {S : ζ → Gm} {e : Expr} {a b : List Stmt} {pos : Pos} {wc : Prop → Prop → Prop} {wa wb : (ζ → Nat → τ → Prop) → Nat → τ → Prop} {wr : ζ → Nat → τ → Prop} {nx bk ct : Nat → γ → L2.St → Hp → Prop} {rt : Nat → γ → V → Hp → Prop} (hc : ∀ sb Hb F, JT (G.cx A sb Hb) F g e wc)
    (ha : ∀ J, JG G A Yd Fp g a ⟨phiG Fp S J, rt, bk, ct⟩ (wa J)) (hb : ∀ J, JG G A Yd Fp g b ⟨phiG Fp S J, rt, bk, ct⟩ (wb J)) (hr : ∀ z, JG G A Yd Fp (S z) rest ⟨nx, rt, bk, ct⟩ (wr z)) :
    JG G A Yd Fp g (.If e a b pos :: rest) ⟨nx, rt, bk, ct⟩ (fun n s => wJoin (fun q : ζ × Nat × τ => wr q.1 q.2.1 q.2.2) fun J => wc (wa (fun z n s => J (z, n, s)) n s) (wb (fun z n s => J (z, n, s)) n s)) := by
  refine gssW2 (gss_cons2 (gs_if2 (tc := fun σ H Q => ∃ F, RT F g wc σ H Q) (fun sb Hb => ⟨fun p s σ H Q I ⟨F, q⟩ => (hc sb Hb F).run p s σ H Q I q⟩) (ha wr) (hb wr)) (gssE2 hr)) fun D' n c σ H ⟨le, F, s, hf, k, hw⟩ => ?_
  have go : ∀ {w : (ζ → Nat → τ → Prop) → Nat → τ → Prop} {H1 : Hp}, Same H H1 → w (fun z n s => wr z n s) n s → RG Fp g ⟨phiG Fp S wr, rt, bk, ct⟩ (w wr) { D' with nx := fun n c σ H => tEx2 (fun z => RG Fp (S z) ⟨nx, rt, bk, ct⟩ (wr z)) D' n c σ H } n c σ H1 := fun {w H1} s1 h1 =>
    ⟨⟨fun n c σ H ⟨F, s, z, hf, k, w⟩ => ⟨z, le, F, s, hf, k, w⟩, le.rt, le.bk, le.ct⟩, F, s, hf, k.step s1, h1⟩
  exact ⟨F, k, _, _, hw, fun h1 H1 s1 => by dsimp only; rw [if_pos rfl]; exact go (w := wa) s1 h1, fun h1 H1 s1 => by dsimp only; rw [if_neg Bool.false_ne_true]; exact go (w := wb) s1 h1⟩
/-- while -/
theorem jg_while {S : ζ → Gm} {e : Expr} {body : List Stmt} {pos : Pos} {tt : ζ → Prop → Prop → Prop} {bb : ζ → (ζ → Nat → τ → Prop) → (ζ → Nat → τ → Prop) → Nat → τ → Prop} {wr : ζ → Nat → τ → Prop} {nx bk ct : Nat → γ → L2.St → Hp → Prop} {rt : Nat → γ → V → Hp → Prop} {z0 : ζ} (h0 : Sub g (S z0))
    (hc : ∀ z sb Hb F, JT (G.cx A sb Hb) F (S z) e (tt z)) (hb : ∀ z N B, JG G A Yd Fp (S z) body ⟨phiG Fp S N, rt, phiG Fp S B, phiG Fp S N⟩ (bb z N B)) (hr : ∀ z, JG G A Yd Fp (S z) rest ⟨nx, rt, bk, ct⟩ (wr z)) :
    JG G A Yd Fp g (.While e body [] pos :: rest) ⟨nx, rt, bk, ct⟩ (fun n s => wWhile (fun (q : ζ × Nat × τ) A B => tt q.1 A B) (fun q N B => bb q.1 (fun z n s => N (z, n, s)) (fun z n s => B (z, n, s)) q.2.1 q.2.2) (fun q => wr q.1 q.2.1 q.2.2) (z0, n, s)) := by
  refine gssW2 (gss_cons2 (gs_while2 (tc := fun σ H Q => ∃ q : ζ × Fr, RT q.2 (S q.1) (tt q.1) σ H Q) (tb := tEx2 fun q : ζ × (ζ → Nat → τ → Prop) => RG Fp (S q.1) ⟨phiG Fp S q.2, rt, phiG Fp S wr, phiG Fp S q.2⟩ (bb q.1 q.2 wr)) (fun sb Hb => ⟨fun p s σ H Q I ⟨q, h⟩ => (hc q.1 sb Hb q.2).run p s σ H Q I h⟩) (gssE2 fun q => hb q.1 q.2 wr)) (gssE2 hr)) fun D' n c σ H ⟨le, F, s, hf, k, I, μ, i0, st⟩ => ?_
  refine ⟨fun m n c σ H => ∃ F s z, Fp c s F ∧ (S z).Ok F σ H ∧ I (z, n, s) ∧ m = μ (z, n, s), ⟨_, F, s, z0, hf, h0.ok k, i0, rfl⟩, ?_⟩
  rintro m n c σ H ⟨F, s, z, hf, k, iz, rfl⟩
  refine ⟨(z, F), k, _, _, st (z, n, s) iz, fun h1 H1 s1 => ?_, fun h1 H1 s1 => ?_⟩
  · dsimp only
    rw [if_pos rfl]
    refine ⟨phiG Fp S fun z' n' s' => I (z', n', s') ∧ μ (z', n', s') < μ (z, n, s), fun n' c' σ' H' ⟨F', s', z', hf', k', i', l'⟩ => ⟨_, l', F', s', z', hf', k', i', rfl⟩, ?_⟩
    refine ⟨(z, fun z' n' s' => I (z', n', s') ∧ μ (z', n', s') < μ (z, n, s)), ⟨fun _ _ _ _ h => h, le.rt, fun n c σ H ⟨F, s, z, hf, k, w⟩ => ⟨z, le, F, s, hf, k, w⟩, fun _ _ _ _ h => h⟩, F, s, hf, k.step s1, h1⟩
  · dsimp only
    rw [if_neg Bool.false_ne_true]
    exact ⟨z, le, F, s, hf, k.step s1, h1⟩
end
end J
namespace J
open PySem PySem.Spec L2 PyProof.Rows ClX RZ GenF
/-- a thing and what is hidden -/
abbrev SH (g : Gm) (hs : List Cell) : Gm := ⟨g.s, g.c ++ hs⟩
abbrev adH (hs : List Cell) : List Addr := hs.filterMap Cell.addr
theorem SH.ad (g : Gm) (hs : List Cell) : (SH g hs).ad = g.ad ++ adH hs := List.filterMap_append
def rmL (as : List Addr) (H : Hp) : Hp := fun b => if b ∈ as then none else H b
theorem rmL_le {as : List Addr} {H : Hp} : Same (rmL as H) H := fun a o h => by
  unfold rmL at h
  by_cases e : a ∈ as
  · rw [if_pos e] at h; cases h
  · rw [if_neg e] at h; exact h
theorem rmL_out {as : List Addr} {H : Hp} {a : Addr} (h : a ∉ as) : rmL as H a = H a := if_neg h
theorem rmL_in {as : List Addr} {H : Hp} {a : Addr} (h : a ∈ as) : rmL as H a = none := if_pos h
/-- the generator's view of the heap: the consumer's things are there, the hidden ones are its own -/
def FgOf {F : Fr} {g : Gm} {hs : List Cell} {σ : L2.St} {H : Hp} (k : (SH g hs).Ok F σ H) : Fr where
  B := (SH g hs).bs F H
  H := rmL (adH hs) H
  le := fun a o h => by
    have n : a ∉ (SH g hs).ad := (bsA_nil h).1
    rw [SH.ad] at n
    rw [rmL_out fun z => n (List.mem_append_right _ z)]
    exact k.le a o h
  fx := fun a o f h => k.fx a o f (rmL_le a o h)
/-- the generator's slots, hidden -/
def fixes : List Slot → L2.St → List Cell
  | .val A a :: r, some v :: σ => .fix A v a :: fixes r σ
  | _ :: r, _ :: σ => fixes r σ
  | _, _ => []
theorem fixes_addr : ∀ (ss : List Slot) (σ : L2.St), ∀ c ∈ fixes ss σ, c.addr = none
  | [], σ, c, h => by simp [fixes] at h
  | s :: r, [], c, h => by
    cases s <;> simp [fixes] at h
  | s :: r, o :: σ, c, h => by
    cases s with
    | any => exact fixes_addr r σ c (by cases o <;> exact h)
    | val A a =>
      cases o with
      | none => exact fixes_addr r σ c h
      | some v =>
        rcases List.mem_cons.mp (show c ∈ .fix A v a :: fixes r σ from h) with e | h
        · rw [e]; rfl
        · exact fixes_addr r σ c h
    | «at» p => exact fixes_addr r σ c (by cases o <;> exact h)
theorem fixes_ok {F : Fr} {B B' H' : Hp} : ∀ {ss : List Slot} {σ : L2.St}, Par B σ ss → (∀ c ∈ fixes ss σ, c.ok F B' H') → Par B' σ ss
  | _, _, .nil, _ => .nil
  | _, _, .cons (s := s) (o := o) (r := r) (σ := σ) x p, h => by
    cases s with
    | any => exact .cons trivial (fixes_ok p fun c hc => h c (by cases o <;> exact hc))
    | val A a =>
      obtain ⟨v, e, rv⟩ := x
      subst e
      exact .cons ⟨v, rfl, h (.fix A v a) List.mem_cons_self⟩ (fixes_ok p fun c hc => h c (List.mem_cons_of_mem _ hc))
    | «at» q => exact .cons x (fixes_ok p fun c hc => h c (by cases o <;> exact hc))
theorem of_fixes {F : Fr} {B B' H' : Hp} (sm : Same B B') : ∀ {ss : List Slot} {σ : L2.St}, Par B σ ss → ∀ c ∈ fixes ss σ, c.ok F B' H'
  | _, _, .nil, c, h => by simp [fixes] at h
  | _, _, .cons (s := s) (o := o) (r := r) (σ := σ) x p, c, h => by
    cases s with
    | any => exact of_fixes sm p c (by cases o <;> exact h)
    | val A a =>
      obtain ⟨v, e, rv⟩ := x
      subst e
      rcases List.mem_cons.mp (show c ∈ .fix A v a :: fixes r σ from h) with e | h
      · rw [e]
        exact A.same sm rv
      · exact of_fixes sm p c h
    | «at» q => exact of_fixes sm p c (by cases o <;> exact h)
/-- what a sleeping generator leaves with its consumer -/
def hide (g : Gm) (σ : L2.St) : List Cell := fixes g.s σ ++ g.c
theorem hide_ad (g : Gm) (σ : L2.St) : adH (hide g σ) = g.ad := by
  show (fixes g.s σ ++ g.c).filterMap Cell.addr = _
  rw [List.filterMap_append, List.filterMap_eq_nil_iff.mpr (fixes_addr g.s σ)]
  rfl
section
variable {F : Fr} {g0 g : Gm} {hs : List Cell} {c σ : L2.St} {H7 H : Hp}
/-- where a cell's thing stands -/
theorem Cell.there {F : Fr} {B H : Hp} {c : Cell} {p : Addr} (k : c.ok F B H) (h : c.addr = some p) : ∃ o, H p = some o := by
  cases c with
  | lst q A xs => cases h; obtain ⟨_, vs, e, _⟩ := k; exact ⟨_, e⟩
  | fix A v a => cases h
  | ins x dx C ns U t => cases h; obtain ⟨_, vs, e, _⟩ := k; exact ⟨_, e⟩
  | raw q o => cases h; obtain ⟨_, _, e⟩ := k; exact ⟨_, e⟩
  | gen q φ => cases h; obtain ⟨_, o, _, e, _⟩ := k; exact ⟨_, e⟩
/-- a cell is seen at another heap that agrees at its address -/
theorem Cell.ok_at {F F' : Fr} {B B' H H' : Hp} (t : Same B B') : ∀ {c : Cell}, (∀ p, c.addr = some p → F'.H p = none ∧ ∀ o, H p = some o → H' p = some o) → c.ok F B H → c.ok F' B' H'
  | .lst p A xs, h, ⟨n, vs, e, r⟩ => ⟨(h p rfl).1, vs, (h p rfl).2 _ e, Paired.imp (fun _ _ r => A.same t r) r⟩
  | .fix A v a, _, h => A.same t h
  | .ins x dx C ns U u, h, ⟨n, vs, e, l, r⟩ => ⟨(h x rfl).1, vs, (h x rfl).2 _ e, l, U.same t r⟩
  | .raw p o, h, ⟨n, f, e⟩ => ⟨(h p rfl).1, f, (h p rfl).2 _ e⟩
  | .gen p φ, h, ⟨n, o, f, e, q⟩ => ⟨(h p rfl).1, o, f, (h p rfl).2 _ e, fun B' s => q B' (t.trans s)⟩
theorem bs_same {as bs : List Addr} {H1 H2 : Hp} (h : ∀ a o, bsA F as H1 a = some o → a ∉ bs ∧ (F.H a = none → H2 a = some o)) : Same (bsA F as H1) (bsA F bs H2) := fun a o e => by
  obtain ⟨h1, h2⟩ := h a o e
  obtain ⟨_, e2, _⟩ := bsA_nil e
  cases z : F.H a with
  | none => exact bsA_of h1 z (h2 z)
  | some x => exact bsA_ofB h1 (e2 ⟨x, z⟩)
/-- a turn of the generator, seen by its consumer -/
theorem turn_ok (k : (SH g0 hs).Ok F c H7) (kg : g.Ok (FgOf k) σ H) : (SH g0 (hide g σ)).Ok F c H ∧ Same (g.bs (FgOf k) H) ((SH g0 (hide g σ)).bs F H) := by
  have ad2 : (SH g0 (hide g σ)).ad = g0.ad ++ g.ad := by rw [SH.ad, hide_ad]
  have nd1 : (g0.ad ++ adH hs).Nodup := by rw [← SH.ad]; exact k.nd
  have hsF : ∀ p ∈ adH hs, F.H p = none := fun p hp => (k.ad_some (by rw [SH.ad]; exact List.mem_append_right _ hp)).1
  have g0F : ∀ p ∈ g0.ad, F.H p = none ∧ p ∉ adH hs ∧ ∃ o, H7 p = some o := fun p hp => by
    obtain ⟨a1, o, a2, _⟩ := k.ad_some (p := p) (by rw [SH.ad]; exact List.mem_append_left _ hp)
    exact ⟨a1, fun z => (List.nodup_append.mp nd1).2.2 p hp p z rfl, o, a2⟩
  -- what the generator knows, and what it does not
  have known : ∀ {a : Addr} {o : HO}, H7 a = some o → a ∉ adH hs → (FgOf k).H a = some o := fun {a o} e n => by
    show rmL (adH hs) H7 a = some o
    rw [rmL_out n]
    exact e
  have gad : ∀ p ∈ g.ad, (FgOf k).H p = none := fun p hp => (kg.ad_some hp).1
  have FH : ∀ {a : Addr} {x : HO}, F.H a = some x → (FgOf k).H a = some x := fun {a x} e => known (k.same _ _ e) fun z => by
    rw [hsF a z] at e
    cases e
  have bs7 : ∀ a o, (SH g0 hs).bs F H7 a = some o → a ∉ g0.ad ∧ a ∉ adH hs ∧ a ∉ g.ad ∧ H7 a = some o ∧ (FgOf k).H a = some o := fun a o e => by
    have n := (bsA_nil e).1
    rw [SH.ad] at n
    have n1 : a ∉ adH hs := fun z => n (List.mem_append_right _ z)
    have e7 := k.le a o e
    have ek := known e7 n1
    have n3 : a ∉ g.ad := fun z => by
      rw [gad a z] at ek
      cases ek
    exact ⟨fun z => n (List.mem_append_left _ z), n1, n3, e7, ek⟩
  have S1 : Same ((SH g0 hs).bs F H7) ((SH g0 (hide g σ)).bs F H) := by
    refine bs_same fun a o e => ?_
    obtain ⟨a1, a2, a3, a4, a5⟩ := bs7 a o e
    refine ⟨?_, fun _ => kg.same _ _ a5⟩
    rw [ad2]
    exact fun z => (List.mem_append.mp z).elim a1 a3
  have S2 : Same (g.bs (FgOf k) H) ((SH g0 (hide g σ)).bs F H) := fun a o e => by
    obtain ⟨e1, e2, e3⟩ := bsA_nil e
    cases z : (FgOf k).H a with
    | some x => exact S1 a o (e2 ⟨x, z⟩)
    | none =>
      have eH := e3 z
      have n0 : a ∉ g0.ad := fun q => by
        obtain ⟨_, q2, o', q3⟩ := g0F a q
        rw [known q3 q2] at z
        cases z
      have nF : F.H a = none := by
        cases q : F.H a with
        | none => rfl
        | some x => rw [FH q] at z; cases z
      exact bsA_of (by rw [ad2]; exact fun q => (List.mem_append.mp q).elim n0 e1) nF eH
  refine ⟨⟨fun a o e => kg.same _ _ (FH e), Par.imp (fun _ _ h => Slot.ok_same S1 h) k.slots, ?_, fun d hd => ?_⟩, S2⟩
  · rw [ad2]
    refine List.nodup_append.mpr ⟨(List.nodup_append.mp nd1).1, kg.nd, fun a ha b hb e => ?_⟩
    subst e
    obtain ⟨_, q2, o', q3⟩ := g0F a ha
    have := gad a hb
    rw [known q3 q2] at this
    cases this
  · rcases List.mem_append.mp (show d ∈ g0.c ++ hide g σ from hd) with h | h
    · have old := k.cells d (List.mem_append_left _ h)
      refine Cell.ok_at S1 (fun p hp => ?_) old
      obtain ⟨q1, q2, _⟩ := g0F p (List.mem_filterMap.mpr ⟨d, h, hp⟩)
      exact ⟨q1, fun o e => kg.same _ _ (known e q2)⟩
    · rcases List.mem_append.mp (show d ∈ fixes g.s σ ++ g.c from h) with h | h
      · exact of_fixes S2 kg.slots d h
      · refine Cell.ok_at S2 (fun p hp => ⟨?_, fun o e => e⟩) (kg.cells d h)
        cases q : F.H p with
        | none => rfl
        | some x =>
          have := gad p (List.mem_filterMap.mpr ⟨d, h, hp⟩)
          rw [FH q] at this
          cases this
/-- it is woken: what it left is as it was -/
theorem wake_ok {Fo : Fr} {B0 : Hp} (p0 : Par B0 σ g.s) (nd : g.ad.Nodup) (k : (SH g0 (hide g σ)).Ok F c H) : g.Ok (FgOf k) σ H := by
  have S : Same ((SH g0 (hide g σ)).bs F H) (g.bs (FgOf k) H) := fun a o e => by
    have n := (bsA_nil e).1
    rw [SH.ad, hide_ad] at n
    have ng : a ∉ g.ad := fun z => n (List.mem_append_right _ z)
    exact bsA_ofB ng e
  have inn : ∀ {d : Cell}, d ∈ hide g σ → d ∈ (SH g0 (hide g σ)).c := fun h => List.mem_append_right _ h
  refine ⟨rmL_le, fixes_ok (F := F) (H' := H) p0 fun d hd => Cell.ok_same S (fun _ _ h => h) (k.cells d (inn (List.mem_append_left _ hd))), nd, fun d hd => ?_⟩
  refine Cell.ok_at S (fun p hp => ⟨?_, fun o e => e⟩) (k.cells d (inn (List.mem_append_right _ hd)))
  exact rmL_in (by rw [hide_ad]; exact List.mem_filterMap.mpr ⟨d, hd, hp⟩)
end
end J
namespace L2
open PySem PySem.Spec PyProof.Rows GenF
theorem Fun.gok {P : Program} {w : World} {K : PySem.W.Frag} {mg : Str → Option Value} {base : Heap} {x qual : Str} {st : Stmt} {f : Addr} {fd : FuncData} {N ps : List Str} {k : Nat} {sp : SpG2} (F : Fun K x qual st f fd) (S : GScope N ps (defScope st)) (hloc : ∀ y ∈ (defScope st).names, y.2 ≠ .cell) (len : ∀ γ c vs H Yd Kd, sp γ c vs H Yd Kd → vs.length = ps.length)
    (hbody : ∀ (cdv : Value) (A : Around) (outer : List Env) (L a : Addr) (go : Obj) (vs : List V) (H : Hp) (γ : Type) (c : γ) (Yd : YK γ) (Kd : γ → Hp → Prop), (GP.env ⟨P, w, K, mg, base, N, qual, defScope st, f, cdv, outer, L, a, go⟩).cells = [] → YMono Yd → Room k (A.deeper (GP.env ⟨P, w, K, mg, base, N, qual, defScope st, f, cdv, outer, L, a, go⟩)) → sp γ c vs H Yd Kd →
      ∃ t n, GSs2 ⟨P, w, K, mg, base, N, qual, defScope st, f, cdv, outer, L, a, go⟩ A Yd (defBody st) t ∧ t { nx := fun _ c _ H' => Kd c H', rt := fun _ c v H' => v = .non ∧ Kd c H' } n c (start N vs) H) : GFn2 P w K mg base (k + 1) f fd ps sp := by
  obtain ⟨oc, od, kV, doc, pm, an, cdv, ct, osl, rfl, lk, hcd⟩ := F.ex
  exact gfn2_of lk hcd S hloc len fun A outer L a go vs H γ c Yd Kd h1 h2 hr h => hbody cdv A outer L a go vs H γ c Yd Kd h1 h2 hr h
end L2
namespace J
open PySem PySem.Spec L2 PyProof.Rows ClX RZ GenF
section
variable {θ α ι κ : Type}
/-- what a generator def promises: me: itself ahead of the arguments; E: the things that are its own for as long as it lives -/
def spJG (me : ι → List V) (T : ATy θ) (E : ι → κ → List Cell) (Ai : Ty α) (w : ∀ τ : Type, θ → κ → Nat → τ → (α → τ → (τ → Prop) → Prop) → (κ → τ → Prop) → Prop) : SpG2 := fun γ c vs H Yd Kd =>
  ∃ (t : θ) (i : ι) (z : κ) (us : List V) (F : Fr) (τ : Type) (s : τ) (Fp : γ → τ → Fr → Prop) (Y : α → τ → (τ → Prop) → Prop) (Kp : κ → τ → Prop) (n : Nat), vs = me i ++ us ∧ (⟨[], E i z⟩ : Gm).Ok F [] H ∧ T.rel ((⟨[], E i z⟩ : Gm).bs F H) us t ∧ Fp c s F ∧ CoOk Fp Ai Y Yd ∧ EnOk Fp (E i) Kp Kd ∧ w τ t z n s Y Kp
end
universe u
def tExU {τ : Type u} (t : τ → TS) : TS := fun D σ H => ∃ a, t a D σ H
theorem pssEU {X : Cx} {e : List Stmt} {τ : Type u} {t : τ → TS} (h : ∀ a, PSs X e (t a)) : PSs X e (tExU t) := ⟨fun p s σ H D I ⟨a, q⟩ => (h a).run p s σ H D I q⟩
def TgMono (gT : TG) : Prop := ∀ (x : V) (c : L2.St) (H : Hp) (Q Q' : L2.St → Hp → Prop), (∀ σ H, Q σ H → Q' σ H) → gT x c H Q → gT x c H Q'
theorem tgm_name {i : Nat} : TgMono (gName i) := fun x c H Q Q' h q => h _ _ q
theorem tgm_nil : ∀ (xs : List V) (c : L2.St) (H : Hp) (Q Q' : L2.St → Hp → Prop), (∀ σ H, Q σ H → Q' σ H) → gNil xs c H Q → gNil xs c H Q' := fun xs c H Q Q' h q => ⟨q.1, h _ _ q.2⟩
theorem tgm_cons {gA : TG} {r : TGs} (hA : TgMono gA) (hr : ∀ (xs : List V) (c : L2.St) (H : Hp) (Q Q' : L2.St → Hp → Prop), (∀ σ H, Q σ H → Q' σ H) → r xs c H Q → r xs c H Q') : ∀ (xs : List V) (c : L2.St) (H : Hp) (Q Q' : L2.St → Hp → Prop), (∀ σ H, Q σ H → Q' σ H) → gCons gA r xs c H Q → gCons gA r xs c H Q' :=
  fun xs c H Q Q' h ⟨x, ys, e, q⟩ => ⟨x, ys, e, hA x c H _ _ (fun σ H q => hr ys σ H _ _ h q) q⟩
theorem tgm_tup {K : PySem.W.Frag} {n : Nat} {gs : TGs} (h : ∀ (xs : List V) (c : L2.St) (H : Hp) (Q Q' : L2.St → Hp → Prop), (∀ σ H, Q σ H → Q' σ H) → gs xs c H Q → gs xs c H Q') : TgMono (gTup K n gs) :=
  fun x c H Q Q' hh ⟨l, xs, e, hs, hn, q⟩ => ⟨l, xs, e, hs, hn, h xs c H Q Q' hh q⟩
theorem xesim_false {X : Cx} (h : X.xe = fun _ _ => False) : XeSim X := fun B e s _ _ z => by rw [h] at z; exact z.elim
section
variable {X : Cx} {F : Fr} {g : Gm} {θ α τ : Type} {Ai : Ty α} {rest body : List Stmt} {nx bk ct : L2.St → Hp → Prop} {rt : VK} {wr : τ → Prop}
/-- the loop over a generator, the hidden things last -/
theorem forG_core {S : τ → Gm} {gT : TG} {tr : Gm → α → Gm} {b : α → τ → (τ → Prop) → Prop} (ht : TgOk Ai gT tr) {D : Ends} :
    CoOk (fun (c : L2.St) (s : τ) (F' : Fr) => ∃ (hs : List Cell) (H7 : Hp) (k7 : (SH (S s) hs).Ok F c H7), F' = FgOf k7) Ai b
      (yFor gT (tExU fun (q : List Cell × (τ → Prop) × α × τ) => RS F (tr (SH (S q.2.2.2) q.1) q.2.2.1) ⟨phi F (fun s => SH (S s) q.1) q.2.1, D.rt, fun _ _ => False, phi F (fun s => SH (S s) q.1) q.2.1⟩ (b q.2.2.1 q.2.2.2 q.2.1)) D) := by
  refine ⟨fun g Fg σ H x a c s P K hf kg ra hY hK => ?_⟩
  obtain ⟨hs, H7, k7, rfl⟩ := hf
  obtain ⟨ok2, S2⟩ := turn_ok k7 kg
  refine ht F (SH (S s) (hide g σ)) c H x a _ ok2 (Ai.same S2 ra) fun σ' k' => ⟨(hide g σ, P, a, s), ⟨?_, fun _ _ z => z, fun _ _ z => z.elim, ?_⟩, k', hY⟩
  · rintro σ2 H2 ⟨s', k2, p2⟩
    exact hK s' σ2 (FgOf k2) H2 p2 ⟨_, _, k2, rfl⟩ (wake_ok (Fo := F) kg.slots kg.nd k2)
  · rintro σ2 H2 ⟨s', k2, p2⟩
    exact hK s' σ2 (FgOf k2) H2 p2 ⟨_, _, k2, rfl⟩ (wake_ok (Fo := F) kg.slots kg.nd k2)
theorem yFor_mono {S : τ → Gm} {gT : TG} {tr : Gm → α → Gm} {b : α → τ → (τ → Prop) → Prop} (hg : TgMono gT) (rt : VK) (D : Ends) :
    YMono (yFor gT (tExU fun (q : List Cell × (τ → Prop) × α × τ) => RS F (tr (SH (S q.2.2.2) q.1) q.2.2.1) ⟨phi F (fun s => SH (S s) q.1) q.2.1, rt, fun _ _ => False, phi F (fun s => SH (S s) q.1) q.2.1⟩ (b q.2.2.1 q.2.2.2 q.2.1)) D) :=
  fun c x H K K' h q => hg x c H _ _ (fun σ2 H2 ⟨q, le, k, w⟩ => ⟨q, ⟨fun a b z => h _ _ (le.nx a b z), le.rt, le.bk, fun a b z => h _ _ (le.ct a b z)⟩, k, w⟩) q
end
end J
namespace GenF
open PySem PySem.Spec L2 PyProof.Rows GenW GenS
end GenF
namespace J
open PySem PySem.Spec L2 PyProof.Rows ClX RZ GenF
section
variable {γ τ ζ : Type} {G : GP} {A : Around} {Yd : YK γ} {Fp : γ → τ → Fr → Prop} {g : Gm} {D : GD γ} {st : Stmt} {rest body : List Stmt} {nx bk ct : Nat → γ → L2.St → Hp → Prop} {rt : Nat → γ → V → Hp → Prop}
/-- one statement that hands out nothing -/
theorem jg_plain1 {S : ζ → Gm} {w : (ζ → Prop) → Prop} {wr : ζ → Nat → τ → Prop} (h : ∀ sb Hb F (N : ζ → Prop), JSs (G.cx A sb Hb) F g [st] ⟨phi F S N, fun _ _ => False, fun _ _ => False, fun _ _ => False⟩ (w N)) (hr : ∀ z, JG G A Yd Fp (S z) rest D (wr z)) :
    JG G A Yd Fp g (st :: rest) D (fun n s => wJoin (fun z => wr z n s) w) := jg_plain (l := [st]) h hr
/-- if, whose body leaves -/
theorem jg_ifX {e : Expr} {a : List Stmt} {pos : Pos} {wc : Prop → Prop → Prop} {wa wr : Nat → τ → Prop} (hc : ∀ sb Hb F, JT (G.cx A sb Hb) F g e wc) (ha : JG G A Yd Fp g a ⟨fun _ _ _ _ => False, rt, bk, ct⟩ wa) (hr : JG G A Yd Fp g rest ⟨nx, rt, bk, ct⟩ wr) :
    JG G A Yd Fp g (.If e a [] pos :: rest) ⟨nx, rt, bk, ct⟩ (fun n s => wc (wa n s) (wr n s)) := by
  refine gssW2 (gss_cons2 (gs_if2 (tc := fun σ H Q => ∃ F, RT F g wc σ H Q) (fun sb Hb => ⟨fun p s σ H Q I ⟨F, q⟩ => (hc sb Hb F).run p s σ H Q I q⟩) ha gss_nil2) hr) fun D' n c σ H ⟨le, F, s, hf, k, hw⟩ => ?_
  exact ⟨F, k, _, _, hw, fun h1 H1 s1 => by
    dsimp only
    rw [if_pos rfl]
    exact ⟨⟨fun _ _ _ _ z => z.elim, le.rt, le.bk, le.ct⟩, F, s, hf, k.step s1, h1⟩, fun h1 H1 s1 => by
    dsimp only
    rw [if_neg Bool.false_ne_true]
    exact ⟨le, F, s, hf, k.step s1, h1⟩⟩
end
section
variable {X : Cx} {F : Fr} {g : Gm} {rest : List Stmt} {pos : Pos}
/-- x += e over numbers -/
theorem js_augI {i : Nat} {x : Str} {e : Expr} {a : Int} {pos' : Pos} {we : (Int → Prop) → Prop} {wr : Int → Prop} {D : Ends} (hs : g.s[i]? = some (.val tI a)) (he : JE X F g e (rO tI) we) (hr : ∀ b, JSs X F (g.set i (.val tI b)) rest D (wr b)) (hN : X.N.Nodup)
    (hi : X.N[i]? = some x := by rfl) (hx : Loc X.env.scope x := by first | exact Or.inl rfl | exact Or.inr rfl) (hf : X.fn x = true ∨ X.env.scope.names.lookup x = some .local := by first | exact .inl rfl | exact .inr rfl) :
    JSs X F g (.AugAssign (.Name x pos') .Add e pos :: rest) D (we fun b => wLet (a + b) wr) := by
  refine pssW (pss_cons (ps_aug hN hi hx he ip_add hf) (pssE hr)) fun D' σ H ⟨e, o, q⟩ => ?_
  obtain ⟨ov, e1, v, e2, r⟩ := o.var hs
  subst e2
  obtain rfl : v = .int a := r
  refine ⟨_, e1, o, _, q, fun b u H1 p s1 r1 => ?_⟩
  obtain rfl : u = .int b := r1
  exact ⟨a, b, rfl, rfl, a + b, e, (o.step s1).set ⟨_, rfl, rfl⟩, p⟩
end
end J
namespace L2
open PySem PySem.Spec PyProof.Rows
end L2
namespace J
open PySem PySem.Spec L2 PyProof.Rows
end J
namespace L2
open PySem PySem.Spec PyProof.Rows GenF
section
variable {P : Program} {w : World} {K : PySem.W.Frag} {mg : Str → Option Value} {base : Heap} {x qual : Str} {f : Addr} {fd : FuncData} {st : Stmt} {kws : List (Str × V)}
/-- f(e, .., k = v, ..) where only keyword-only parameters have defaults -/
theorem FunD.kbinds0 {params : Arguments} {body : List Stmt} {scope : Scope} {ps : List Str} (F : FunD K x qual params body scope [] kws f fd) (n : Nat) (ks : List Str) (ms : List (Str × V)) (g : {α : Type} → List α → List α → List α → List α) (hk : kws ≠ []) (hms : ∀ q ∈ ms, q ∈ kws)
    (hrel : ∀ {vs mz zs : List V} {us mv ws : List Value}, Vals vs us → Vals mz mv → Vals zs ws → Vals (g vs mz zs) (g us mv ws))
    (h : ∀ (D : Addr) (doc pm : Value) (an : Option Addr) (cdv ct : Value) (us mv ws : List Value), us.length = n → mv.length = ms.length → ws.length = ks.length →
      KwChain D ((ms.map (·.1)).zip mv) (bindArgs (PySem.W.fnOf x qual params body scope .none (.ref D) doc pm an cdv ct) ⟨us, ks.zip ws⟩) (ps.zip (g us mv ws))) :
    ∃ mv : List Value, KBn K fd ps n ks (fun us ws => g us mv ws) (fun vs zs => g vs (ms.map (·.2)) zs) := by
  obtain ⟨oc, od, dV, kV, doc, pm, an, cdv, ct, osl, rfl, lk, hcd, hD, hK⟩ := F.ex
  rcases hD with ⟨_, rfl⟩ | ⟨e, _⟩
  · rcases hK with e | ⟨D, rfl, hq⟩
    · exact absurd e hk
    · obtain ⟨mv, hl, rk, hks⟩ := kwd_vals (ms := ms) fun q hm => hq q (hms q hm)
      exact ⟨mv, ⟨fun s us ws X l1 l2 => BindsTo.of_looks fun M => KwChain.looks X hks (h D doc pm an cdv ct us mv ws l1 hl l2), fun r1 r2 => hrel r1 rk r2⟩⟩
  · exact absurd rfl e
end
end L2
namespace GenF
open PySem PySem.Spec L2 PyProof.Rows GenW GenS
end GenF
namespace J
open PySem PySem.Spec L2 PyProof.Rows ClX RZ GenF
end J
namespace J
open PySem PySem.Spec L2 PyProof.Rows ClX RZ
/-- a thing at a known place -/
def tAt (p : Addr) : Ty Unit := ⟨fun _ v _ => v = .ref p, fun _ h => h⟩
section
variable {θ ι κ ρ : Type}
/-- what a def promises that is given owned things, and may change them -/
def spJM (me : ι → List V → List V) (T : ATy θ) (E : ι → κ → List Cell) (R : Ty ρ) (w : θ → κ → (ρ → κ → Prop) → Prop) : Sp := fun vs H Q _ =>
  ∃ (t : θ) (i : ι) (z : κ) (us : List V) (F : Fr) (P : ρ → κ → Prop), vs = me i us ∧ (⟨[], E i z⟩ : Gm).Ok F [] H ∧ T.rel ((⟨[], E i z⟩ : Gm).bs F H) us t ∧ w t z P ∧
    ∀ r z' v H', P r z' → (⟨[], E i z'⟩ : Gm).Ok F [] H' → R.rel ((⟨[], E i z'⟩ : Gm).bs F H') v r → Q v H'
end
section
variable {ρ ζ : Type}
def RJM (F : Fr) (g : Gm) (A : Ty ρ) (S : ζ → Gm) (w : (ρ → ζ → Prop) → Prop) : TE := fun σ H Q => g.Ok F σ H ∧ ∃ P, w P ∧ ∀ a z v H', P a z → (S z).Ok F σ H' → Same (g.bs F H) ((S z).bs F H') → A.rel ((S z).bs F H') v a → Q v H'
abbrev JEM (X : Cx) (F : Fr) (g : Gm) (e : Expr) (A : Ty ρ) (S : ζ → Gm) (w : (ρ → ζ → Prop) → Prop) : Prop := PE X e (RJM F g A S w)
end
section
variable {F : Fr} {g0 : Gm} {hs es es' : List Cell} {σ : L2.St} {H H' : Hp}
theorem drop_ok {g : Gm} (k : g.Ok F σ H) (h : es.Sublist g.c) : (⟨[], es⟩ : Gm).Ok F [] H ∧ Same (g.bs F H) ((⟨[], es⟩ : Gm).bs F H) := by
  have sb : Same (g.bs F H) ((⟨[], es⟩ : Gm).bs F H) := bsA_sub fun _ m => (List.Sublist.filterMap _ h).subset m
  exact ⟨⟨k.same, .nil, List.Nodup.sublist (List.Sublist.filterMap _ h) k.nd, fun c hc => Cell.ok_same sb (fun _ _ z => z) (k.cells c (h.subset hc))⟩, sb⟩
/-- what is owned is handed over -/
theorem lend_ok (k : (SH g0 es).Ok F σ H) : (⟨[], es⟩ : Gm).Ok (FgOf k) [] H ∧ Same ((SH g0 es).bs F H) ((⟨[], es⟩ : Gm).bs (FgOf k) H) := by
  have nd : (⟨[], es⟩ : Gm).ad.Nodup := List.Nodup.sublist (List.Sublist.filterMap _ (List.sublist_append_right _ _)) k.nd
  refine ⟨wake_ok (Fo := F) (g := ⟨[], es⟩) (σ := []) (B0 := H) .nil nd k, fun a o e => ?_⟩
  have n := (bsA_nil e).1
  rw [SH.ad] at n
  exact bsA_ofB (fun z => n (List.mem_append_right _ z)) e
/-- and comes back -/
theorem back_ok (k : (SH g0 es).Ok F σ H) (kg : (⟨[], es'⟩ : Gm).Ok (FgOf k) [] H') : (SH g0 es').Ok F σ H' ∧ Same ((SH g0 es).bs F H) ((SH g0 es').bs F H') ∧ Same ((⟨[], es'⟩ : Gm).bs (FgOf k) H') ((SH g0 es').bs F H') := by
  obtain ⟨a, b⟩ := turn_ok k kg
  refine ⟨a, fun p o e => b p o (bsA_ofB (fun z => ?_) e), b⟩
  have n1 := (kg.ad_some z).1
  have n2 := (FgOf k).le p o e
  rw [n1] at n2
  cases n2
end
section
variable {X : Cx} {F : Fr} {g g0 : Gm} {θ θ' ι κ ρ ζ α : Type} {rest : List Stmt} {pos : Pos} {nx bk ct : L2.St → Hp → Prop} {rt : VK}
/-- return e, what is owned goes back as it stands -/
theorem js_retM {E : ι → κ → List Cell} {i : ι} {R : Ty ρ} {P : ρ → κ → Prop} {e : Expr} {w : (ρ → Prop) → Prop} (hrt : ∀ r z' v H', P r z' → (⟨[], E i z'⟩ : Gm).Ok F [] H' → R.rel ((⟨[], E i z'⟩ : Gm).bs F H') v r → rt v H') (z : κ) (hS : (E i z).Sublist g.c) (he : JE X F g e (rO R) w) :
    JSs X F g (.Return (some e) pos :: rest) ⟨nx, rt, bk, ct⟩ (w fun r => P r z) :=
  pssW (pss_cons (ps_ret he) pss_never) fun D σ H ⟨e, o, q⟩ => ⟨o, _, q, fun a v H' p s r => by
    obtain ⟨k1, sb⟩ := drop_ok (o.step s) hS
    exact e.rt _ _ (hrt a z v H' p k1 (R.same sb r))⟩
/-- x = e, e changes what is owned -/
theorem js_asgM {S : ζ → Gm} {i : Nat} {A : Ty α} {x : Str} {px : Pos} {e : Expr} {we : (α → ζ → Prop) → Prop} {wr : α → ζ → Prop} {D : Ends} (he : JEM X F g e A S we) (hr : ∀ a z, JSs X F ((S z).set i (.val A a)) rest D (wr a z)) (hN : X.N.Nodup)
    (hi : X.N[i]? = some x := by rfl) (hx : Loc X.env.scope x := by first | exact Or.inl rfl | exact Or.inr rfl) (hs : swapsWith e (some (.Name x px)) pos.line X.env = pure false := by rfl) (hf : X.fn x = true ∨ X.env.scope.names.lookup x = some .local := by first | exact .inl rfl | exact .inr rfl) :
    JSs X F g (.Assign [.Name x px] e pos :: rest) D (we fun a z => wLet a fun a => wr a z) :=
  pssW (pss_cons (ps_set hN hi hx he hs hf) (pssE (t := fun q : α × ζ => RS F ((S q.2).set i (.val A q.1)) D (wr q.1 q.2)) fun q => hr q.1 q.2)) fun D' σ H ⟨e, o, q⟩ => ⟨o, _, q, fun a z v H1 p k s r => ⟨(a, z), e, k.set ⟨v, rfl, r⟩, p⟩⟩
/-- e alone -/
theorem js_exprM {S : ζ → Gm} {A : Ty α} {e : Expr} {we : (α → ζ → Prop) → Prop} {wr : ζ → Prop} {D : Ends} (he : JEM X F g e A S we) (hr : ∀ z, JSs X F (S z) rest D (wr z)) (hs : swapsWith e none pos.line X.env = pure false := by rfl) : JSs X F g (.Expr e pos :: rest) D (we fun _ z => wr z) :=
  pssW (pss_cons (ps_expr he hs) (pssE hr)) fun D' σ H ⟨e, o, q⟩ => ⟨o, _, q, fun a z v H1 p k s r => ⟨z, e, k, p⟩⟩
theorem pkW {kws : List Keyword} {t t' : TA} (h : PK X kws t) (k : ∀ σ H Q, t' σ H Q → t σ H Q) : PK X kws t' := ⟨fun pos p s σ H Q I q => h.run pos p s σ H Q I (k _ _ _ q)⟩
theorem jk_nil : PK X [] (RA F g aN (fun k => k ())) := pkW pk_nil fun σ H Q ⟨k, P, w, q⟩ => q () [] H w (Same.refl H) rfl
end
end J
namespace J
open PySem PyProof.Rows
/-- at v: a pair of a number and a tuple of numbers -/
def IsIT (h : Heap) (v : Value) (p : Int × List Int) : Prop := ∃ a o t b n its, v = .ref a ∧ h.get? a = some o ∧ o.cls = .type "tuple" ∧ o.data = .seq #[.int p.1 t, .ref b] n ∧ IsTup h b its ∧ IntsAre its.toList p.2
theorem IsIT.keeps {h h' : Heap} {v : Value} {p : Int × List Int} (x : IsIT h v p) (k : ∀ b o, h.get? b = some o → o.cls = .type "tuple" → h'.get? b = some o) : IsIT h' v p := by
  obtain ⟨a, o, t, b, n, its, e, ho, hc, hd, ⟨o2, h2, c2, d2⟩, hi⟩ := x
  exact ⟨a, o, t, b, n, its, e, k _ _ ho hc, hc, hd, ⟨o2, k _ _ h2 c2, c2, d2⟩, hi⟩
def nums (ns : List Int) : List NestedKey := ns.map .num
theorem nums_inj {ns ms : List Int} (h : nums ns = nums ms) : ns = ms := by
  induction ns generalizing ms with
  | nil => cases ms with
    | nil => rfl
    | cons m ms => cases h
  | cons n ns ih => cases ms with
    | nil => cases h
    | cons m ms =>
      injection h with h1 h2
      injection h1 with h1
      rw [h1, ih h2]
theorem nums_depth (ns : List Int) : NestedKey.depthAll (nums ns) = 0 := by
  induction ns with
  | nil => rfl
  | cons n ns ih =>
    show max (NestedKey.depth (.num n)) (NestedKey.depthAll (nums ns)) = 0
    rw [ih]
    rfl
end J
namespace L2
open PySem PySem.Spec PyProof.Rows J
end L2
namespace J
open PySem PySem.Spec L2 PyProof.Rows ClX RZ
end J
namespace J
open PySem PySem.Spec L2 PyProof.Rows ClX RZ
section
variable {X : Cx} {F : Fr} {g : Gm} {α β γ ρ τ : Type} {K : PySem.W.Frag} {rest : List Stmt} {pos : Pos} {nx bk ct : L2.St → Hp → Prop} {rt : VK}
/-- f(e, .., k = v, ..) -/
theorem je_callDN {θ θ1 θ2 : Type} {n m : Nat} {f : Addr} {fd : FuncData} {ps ks : List Str} {T : ATy θ} {T1 : ATy θ1} {T2 : ATy θ2} {ext : θ1 → θ2 → θ} {gV : List V → List V → List V} {R : Res ρ} {w : θ → (ρ → Prop) → Prop} {x : Str} {e : Expr} {es : List Expr} {kws : List Keyword} {p pos : Pos} {wa : (θ1 → Prop) → Prop} {wk : (θ2 → Prop) → Prop}
    (Fn : FnOk X.prog X.w X.K X.mg X.base CX0 m f fd ps (spJ T R w)) (hr : Room m X.A) (hg : Gl X x) (hm : X.mg x = some (.ref f)) (hk : PySem.W.keepIn X.K (.ref f) = true) (hb : ∃ g, KBn X.K fd ps n ks g gV) (hT : ∀ H vs zs t1 t2, T1.rel H vs t1 → T2.rel H zs t2 → vs.length = n ∧ zs.length = ks.length ∧ T.rel H (gV vs zs) (ext t1 t2))
    (ha : JA X F g (e :: es) T1 wa) (hkw : PK X kws (RA F g T2 wk)) (hall : (backToKw pos (keywordEach kws X.env)).all (·.1.isSome) = true := by rfl) (hks : (backToKw pos (keywordEach kws X.env)).filterMap (·.1) = ks := by rfl)
    (hdb : (x == ("__debug__" : Str)) = false := by decide) (he : starEach (e :: es) X.env = (false, eval e X.env) :: starEach es X.env := by rfl) (hpl : ((backTo pos (starEach (e :: es) X.env)).any (·.1) || (backToKw pos (keywordEach kws X.env)).any (·.1.isNone)) = false := by rfl) :
    JE X F g (.Call (.Name x p) (e :: es) kws pos) R (fun k => wa fun t1 => wk fun t2 => w (ext t1 t2) k) := by
  obtain ⟨gg, hb⟩ := hb
  exact peW (pe_callN Fn hr hg hm hk hb pass0 ha hkw hall hks hdb he hpl) fun σ H Q ⟨k, P, w, q⟩ => ⟨k, _, w, fun t1 vs H1 w1 s1 r1 => ⟨k.step s1, _, w1, fun t2 zs H2 w2 s2 r2 => by
    obtain ⟨l1, l2, rT⟩ := hT _ vs zs t1 t2 (T1.same (Gm.mono s2) r1) r2
    exact ⟨l1, l2, ext t1 t2, P, (k.step (s1.trans s2)).fr, rfl, rT, w2, fun r v H3 p s3 r3 => q r v H3 p ((s1.trans s2).trans s3) (R.pre (s1.trans s2) (R.same ((k.step (s1.trans s2)).back s3) (Same.refl _) r3))⟩⟩⟩
end
end J
namespace J
open PySem PySem.Spec L2 PyProof.Rows ClX RZ
end J
namespace L2
open PySem PySem.Spec PyProof.Rows
end L2
namespace J
open PySem PySem.Spec L2 PyProof.Rows ClX RZ
class KeyTy {α : Type} (K : PySem.W.Frag) (A : Ty α) where
  key : α → NestedKey
  inj : ∀ x y : α, key x = key y → x = y
  is : ∀ {X : Cx} {pins : List (Addr × Obj)} {σ : L2.St} {H B : Hp} {s : Shared} {v : V} {x : α}, X.K = K → Inv X pins σ H s → Same B H → A.rel B v x → ∃ a, v = .ref a ∧ NestedIs s.heap (key x) (.ref a) ∧ (key x).depth ≤ 8
section
variable {X : Cx} {pins : List (Addr × Obj)} {σ : L2.St} {H B : Hp} {s : Shared}
theorem nk_tup {a : Addr} {vs : List V} {ks : List NestedKey} (I : Inv X pins σ H s) (h : SqT X.K H a vs) (q : ∀ us, Vals vs us → NestedAll s.heap ks us) : NestedIs s.heap (.tup ks) (.ref a) := by
  obtain ⟨its, r, ⟨o, ho, hc, n, hd⟩, _⟩ := I.tuple h
  exact .tup ho hc hd (by simpa using q its r)
theorem nk_int {i : Int} {u : Value} (r : RelV (.int i) u) : NestedIs s.heap (.num i) u := by
  obtain ⟨t, rfl⟩ := r
  exact .int i t
theorem nk_ints : ∀ {vs : List V} {xs : List Int} {us : List Value}, Paired (fun (v : V) (a : Int) => v = .int a) vs xs → Vals vs us → NestedAll s.heap (nums xs) us
  | _, _, _, .nil, .nil => .nil
  | _, _, _, .cons e r, .cons q t => .cons (nk_int (by subst e; exact q)) (nk_ints r t)
instance {K : PySem.W.Frag} : KeyTy K (tT K (a2 tI tI)) where
  key := fun x => .tup [.num x.1, .num x.2]
  inj := fun x y h => by
    injection h with h
    injection h with h1 h2
    injection h2 with h2 _
    injection h1 with h1
    injection h2 with h2
    exact Prod.ext h1 h2
  is := fun {X pins σ H B s v x} hK I sb ⟨a, vs, ev, hs, y, z, e, ey, ez⟩ => by
    subst hK e
    refine ⟨a, ev, nk_tup I (sb.sqT' hs) fun us r => ?_, Nat.le_of_ble_eq_true rfl⟩
    cases r with
    | cons r1 r2 => cases r2 with
      | cons r2 r3 =>
        cases r3
        have ey' : y = .int x.1 := ey
        have ez' : z = .int x.2 := ez
        subst ey' ez'
        exact .cons (nk_int r1) (.cons (nk_int r2) .nil)
theorem depth_nums (xs : List Int) : (NestedKey.tup (nums xs)).depth = 1 := by
  show NestedKey.depthAll (nums xs) + 1 = 1
  rw [nums_depth]
theorem nk_row {v : V} {xs : List Int} {u : Value} (I : Inv X pins σ H s) (sb : Same B H) (h : (tT X.K (aV tI)).rel B v xs) (r : RelV v u) : NestedIs s.heap (.tup (nums xs)) u := by
  obtain ⟨a, vs, ev, hs, p⟩ := h
  subst ev
  obtain rfl : u = Value.ref a := r
  exact nk_tup I (sb.sqT' hs) fun us r => nk_ints p r
instance {K : PySem.W.Frag} : KeyTy K (tT K (a2 (tT K (aV tI)) (tT K (aV tI)))) where
  key := fun x => .tup [.tup (nums x.1), .tup (nums x.2)]
  inj := fun x y h => by
    injection h with h
    injection h with h1 h2
    injection h2 with h2 _
    injection h1 with h1
    injection h2 with h2
    exact Prod.ext (nums_inj h1) (nums_inj h2)
  is := fun {X pins σ H B s v x} hK I sb ⟨a, vs, ev, hs, y, z, e, ey, ez⟩ => by
    subst hK e
    refine ⟨a, ev, nk_tup I (sb.sqT' hs) fun us r => ?_, ?_⟩
    · cases r with
      | cons r1 r2 => cases r2 with
        | cons r2 r3 =>
          cases r3
          exact .cons (nk_row I sb ey r1) (.cons (nk_row I sb ez r2) .nil)
    · show max (NestedKey.depth (.tup (nums x.1))) (max (NestedKey.depth (.tup (nums x.2))) 0) + 1 ≤ 8
      rw [depth_nums, depth_nums]
      decide
end
abbrev DE := NestedKey × Addr × Int
def DctE (h : Heap) (P : Program) (w : World) (p : Addr) (es : List DE) : Prop := (p == sysModules) = false ∧ ∃ o ar ep xs, h.get? p = some o ∧ o.ExactDict ∧ o.data = .dict ar ep ∧ ar.toList = xs.map (entryOfKey (nestedKind P w)) ∧
  Paired (fun (e : DE) (x : NestedKey × Addr × Value) => e.1 = x.1 ∧ e.2.1 = x.2.1 ∧ ∃ t, x.2.2 = .int e.2.2 t) es xs ∧ (xs.map (·.1)).Nodup
def dctO (P : Program) (w : World) (p : Addr) (es : List DE) : HO := .ext fun h => DctE h P w p es
theorem dctO_new {P : Program} {w : World} {H : Hp} {h : Heap} {p : Addr} {es : List DE} (R : DctE h P w p es) : ObjOk P w H h p (dctO P w p es) := by
  have ⟨_, o, _, _, _, ho, _⟩ := R
  exact ⟨R, ⟨o, ho⟩, fun h1 h2 ⟨n, o, ar, ep, xs, q, r⟩ k => ⟨n, o, ar, ep, xs, k o q, r⟩⟩
/-- what stands at p: the pairs kvs -/
def dctR {α : Type} (P : Program) (w : World) (K : PySem.W.Frag) (A : Ty α) [KeyTy K A] (p : Addr) (kvs : List (α × Int)) : Hp → HO → Prop := fun B o =>
  (kvs = [] ∧ o = .dK []) ∨ ∃ es : List DE, o = dctO P w p es ∧ Paired (fun (e : DE) (kv : α × Int) => e.1 = KeyTy.key K A kv.1 ∧ e.2.2 = kv.2 ∧ A.rel B (.ref e.2.1) kv.1) es kvs
theorem Paired.inR {α β : Type} {F : α → β → Prop} : ∀ {l : List α} {m : List β} {b : β}, Paired F l m → b ∈ m → ∃ a ∈ l, F a b
  | _, _, _, .cons h r, hb => by
    rcases List.mem_cons.mp hb with e | hb
    · exact ⟨_, List.mem_cons_self, by rw [e]; exact h⟩
    · obtain ⟨a, h1, h2⟩ := Paired.inR r hb
      exact ⟨a, List.mem_cons_of_mem _ h1, h2⟩
theorem Paired.inL {α β : Type} {F : α → β → Prop} : ∀ {l : List α} {m : List β} {a : α}, Paired F l m → a ∈ l → ∃ b ∈ m, F a b
  | _, _, _, .cons h r, hb => by
    rcases List.mem_cons.mp hb with e | hb
    · exact ⟨_, List.mem_cons_self, by rw [e]; exact h⟩
    · obtain ⟨a, h1, h2⟩ := Paired.inL r hb
      exact ⟨a, List.mem_cons_of_mem _ h1, h2⟩
/-- look-ups in the three lists -/
theorem at_three {α : Type} [DecidableEq α] {K : PySem.W.Frag} {A : Ty α} [KeyTy K A] {B : Hp} {k : α} : ∀ {es : List DE} {xs : List (NestedKey × Addr × Value)} {kvs : List (α × Int)},
    Paired (fun (e : DE) (x : NestedKey × Addr × Value) => e.1 = x.1 ∧ e.2.1 = x.2.1 ∧ ∃ t, x.2.2 = .int e.2.2 t) es xs → Paired (fun (e : DE) (kv : α × Int) => e.1 = KeyTy.key K A kv.1 ∧ e.2.2 = kv.2 ∧ A.rel B (.ref e.2.1) kv.1) es kvs →
    (getJ kvs k = none ∧ atKey xs (KeyTy.key K A k) = none) ∨ ∃ v t a, getJ kvs k = some v ∧ atKey xs (KeyTy.key K A k) = some (a, .int v t)
  | _, _, _, .nil, .nil => .inl ⟨rfl, rfl⟩
  | _, _, _, .cons (a := e) (b := x) h r, .cons (b := kv) g q => by
    obtain ⟨e1, e2, t, e3⟩ := h
    obtain ⟨g1, g2, g3⟩ := g
    unfold getJ atKey
    rw [List.find?_cons, List.find?_cons]
    by_cases z : kv.1 = k
    · have z2 : x.1 = KeyTy.key K A k := by rw [← e1, g1, z]
      rw [decide_eq_true z, decide_eq_true z2]
      refine .inr ⟨kv.2, t, x.2.1, rfl, ?_⟩
      show some x.2 = _
      rw [← g2, ← e3]
    · have z2 : ¬ x.1 = KeyTy.key K A k := fun y => z (KeyTy.inj (K := K) (A := A) _ _ (by rw [← g1, e1, y]))
      rw [decide_eq_false z, decide_eq_false z2]
      exact at_three r q
section
variable {X : Cx} {F : Fr} {g : Gm} {α β ρ ζ κ : Type} {pos : Pos} {rest : List Stmt}
theorem Gm.Ok.gen {σ : L2.St} {H : Hp} (k : g.Ok F σ H) {j : Nat} {p : Addr} {φ : Hp → HO → Prop} (hc : g.c[j]? = some (.gen p φ)) : ∃ o, H p = some o ∧ isFix o = false ∧ ∀ B', Same (g.bs F H) B' → φ B' o := by
  obtain ⟨_, o, f, e, q⟩ := k.cells _ (List.mem_of_getElem? hc)
  exact ⟨o, e, f, q⟩
/-- the dict, as the library sees it -/
theorem dct_see {A : Ty α} [KeyTy X.K A] {pins : List (Addr × Obj)} {σ : L2.St} {H B : Hp} {s : Shared} {p : Addr} {kvs : List (α × Int)} {o : HO} (I : Inv X pins σ H s) (sb : Same B H) (ho : H p = some o) (h : dctR X.prog X.w X.K A p kvs B o) :
    (p == sysModules) = false ∧ Mut (H p) ∧ (∃ ob, s.heap.get? p = some ob ∧ ob.dict = none) ∧ ∃ (es : List DE) (xs : List (NestedKey × Addr × Value)), s.heap.DictOfH (nestedKind X.prog X.w) p xs ∧ Paired (fun (e : DE) (x : NestedKey × Addr × Value) => e.1 = x.1 ∧ e.2.1 = x.2.1 ∧ ∃ t, x.2.2 = .int e.2.2 t) es xs ∧
      Paired (fun (e : DE) (kv : α × Int) => e.1 = KeyTy.key X.K A kv.1 ∧ e.2.2 = kv.2 ∧ A.rel B (.ref e.2.1) kv.1) es kvs := by
  rcases h with ⟨rfl, rfl⟩ | ⟨es, rfl, q⟩
  · obtain ⟨_, n, vs, rel, ob, ar, ep, e1, e2, e3, _, e4, _⟩ := I.hok _ _ ho
    cases rel
    have e5 : ar.toList = [] := by
      generalize ar.toList = l at e4
      cases e4
      rfl
    refine ⟨n, by rw [ho]; trivial, ⟨ob, e1, e2.2.1⟩, [], [], ⟨ob, ar, ep, e1, e2, e3, by rw [e5]; rfl, fun x hx => (nomatch hx), List.nodup_nil⟩, .nil, .nil⟩
  · obtain ⟨⟨n, ob, ar, ep, xs, e1, e2, e3, e4, e5, e6⟩, _⟩ := I.hok _ _ ho
    refine ⟨n, by rw [ho]; trivial, ⟨ob, e1, e2.2.1⟩, es, xs, ⟨ob, ar, ep, e1, e2, e3, e4, fun x hx => ?_, e6⟩, e5, q⟩
    obtain ⟨e, he, h1, h2, t, h3⟩ := Paired.inR e5 hx
    obtain ⟨kv, hkv, k1, k2, k3⟩ := Paired.inL q he
    obtain ⟨a, ea, ni, nd⟩ := KeyTy.is (K := X.K) (A := A) rfl I sb k3
    injection ea with ea
    rw [← h1, k1, ← h2, ea]
    exact ⟨ni, nd⟩
/-- d.setdefault(e, f) -/
theorem je_setd [DecidableEq α] {K : PySem.W.Frag} {A : Ty α} [KeyTy K A] {p : Addr} {j : Nat} {kvs : List (α × Int)} {o e f : Expr} {apos cpos : Pos} {we : (α → Prop) → Prop} {wf : (Int → Prop) → Prop} (hK : X.K = K) (hu : X.A.units + 64 < cLine) (ho : PE X o (tOwn F g p)) (hc : g.c[j]? = some (.gen p (dctR X.prog X.w K A p kvs)))
    (he : JE X F g e (rO A) we) (hf : JE X F g f (rO tI) wf) (m : M2 X o "setdefault" apos e f cpos) :
    JEM X F g (.Call (.Attribute o "setdefault" apos) [e, f] [] cpos) tI (fun kvs' => ⟨g.s, g.c.set j (.gen p (dctR X.prog X.w K A p kvs'))⟩) (fun k => we fun a => wf fun d => kvs.length < 1000000 ∧ (∀ v, getJ kvs a = some v → k v kvs) ∧ (getJ kvs a = none → k d (kvs ++ [(a, d)]))) := by
  subst hK
  refine ⟨fun pins s σ H Q I ⟨k, P, hw, hq⟩ => ?_⟩
  refine wpAny_Call_method m.base m.few m.line PySem.F.plainAttrs_dict PySem.F.slot_dict_setdefault PySem.F.type_dict_setdefault (thn (ho.run pins s σ H _ I (show tOwn F g p σ H (fun x H1 => x = .ref p ∧ g.Ok F σ H1 ∧ H1 = H) from ⟨k, rfl, k, rfl⟩)) fun u s1 ⟨x, H1, I1, rx, ex, k1, eH⟩ => ?_)
  subst ex
  obtain rfl : u = Value.ref p := rx
  obtain ⟨ob, hob, fob, qob⟩ := k1.gen hc
  obtain ⟨n, mu, ⟨od, hod, nod⟩, es, xs, D, _⟩ := dct_see I1 k1.le hob (qob _ (Same.refl _))
  refine ⟨D.typeIs, fun b hb => ⟨od, by cases hb; exact hod, nod⟩, ?_⟩
  rw [m.trees]
  subst eH
  refine Calls.callWith_builtin rfl (Calls.evalArgs_plain (Calls.spliced_cons (thn (he.run pins s1 σ H1 _ I1 (show RJ F g (rO A) we σ H1 (fun y H2 => Same H1 H2 ∧ ∃ a : α, A.rel (g.bs F H2) y a ∧ wf fun d => kvs.length < 1000000 ∧ (∀ v, getJ kvs a = some v → P v kvs) ∧ (getJ kvs a = none → P d (kvs ++ [(a, d)]))) from ⟨k1, _, hw, fun a v H2 w2 s2 r2 => ⟨s2, a, r2, w2⟩⟩)) fun iv s2 ⟨y, H2, I2, ry, s12, a, ra, w2⟩ =>
    Calls.spliced_cons (thn (hf.run pins s2 σ H2 _ I2 (show RJ F g (rO tI) wf σ H2 (fun z H3 => Same H2 H3 ∧ ∃ d : Int, z = .int d ∧ kvs.length < 1000000 ∧ (∀ v, getJ kvs a = some v → P v kvs) ∧ (getJ kvs a = none → P d (kvs ++ [(a, d)]))) from ⟨k1.step s12, _, w2, fun d v H3 w3 s3 r3 => ⟨s3, d, r3, w3⟩⟩)) fun fv s3 ⟨z, H3, I3, rz, s23, d, ez, hl, q1, q2⟩ => Calls.spliced_nil ?_))))
  subst ez
  have k3 := k1.step (s12.trans s23)
  have ra3 := A.same (Gm.mono s23) ra
  obtain ⟨o3, ho3, fo3, qo3⟩ := k3.gen hc
  obtain ⟨n3, mu3, _, es3, xs3, D3, p3, p4⟩ := dct_see I3 k3.le ho3 (qo3 _ (Same.refl _))
  obtain ⟨ka, eka, nik, ndk⟩ := KeyTy.is (K := X.K) (A := A) rfl I3 k3.le ra3
  subst eka
  obtain rfl : iv = Value.ref ka := ry
  obtain ⟨td, rfl⟩ := rz
  have lx : xs3.length ≤ sizeLine := by
    rw [← Paired.len p3, Paired.len p4]
    exact Nat.le_trans (Nat.le_of_lt hl) (by decide)
  have gone : g.c.set j (.gen p (dctR X.prog X.w X.K A p kvs)) = g.c := by
    have jl : j < g.c.length := (List.getElem?_eq_some_iff.mp hc).1
    rw [List.getElem?_eq_getElem jl] at hc
    rw [← Option.some.inj hc]
    exact List.set_getElem_self jl
  refine call_setdefault_heap (knd := nestedKind X.prog X.w) (a := ka) (k := KeyTy.key X.K A a) (by show X.A.in1.units + 8 < cLine; show X.A.units + 1 + 8 < cLine; omega) ⟨nik, ndk⟩ n3 D3 (fun pv hpv => ?_) (fun hn h' D4 hs => ?_) lx
  · rcases at_three (k := a) p3 p4 with ⟨_, z2⟩ | ⟨v, t, ad, z1, z2⟩
    · rw [z2] at hpv
      cases hpv
    · rw [z2] at hpv
      cases hpv
      refine ⟨.int v, H3, I3.tok _, ⟨t, rfl⟩, hq v kvs (.int v) H3 (q1 v z1) ?_ ?_ rfl⟩
      · show (⟨g.s, g.c.set j _⟩ : Gm).Ok F σ H3
        rw [gone]
        exact k3
      · show Same (g.bs F H1) ((⟨g.s, g.c.set j _⟩ : Gm).bs F H3)
        rw [gone]
        exact Gm.mono (s12.trans s23)
  · rcases at_three (k := a) p3 p4 with ⟨z1, z2⟩ | ⟨v, t, ad, z1, z2⟩
    · rw [storedH_new z2] at D4
      obtain ⟨o4, ar4, ep4, e41, e42, e43, e44, e45, e46⟩ := D4
      have new : DctE h' X.prog X.w p (es3 ++ [(KeyTy.key X.K A a, ka, d)]) := ⟨n3, o4, ar4, ep4, _, e41, e42, e43, e44, Paired.app p3 (.cons ⟨rfl, rfl, td, rfl⟩ .nil), e46⟩
      have I4 := d_write (t' := s3.toks + (nestedKind X.prog X.w).draws (KeyTy.key X.K A a)) I3 mu3 hs ⟨o4, e41⟩ (dctO_new (H := upd H3 p (dctO X.prog X.w p (es3 ++ [(KeyTy.key X.K A a, ka, d)]))) new)
      have pm : p ∈ g.ad := Gm.mem_ad (List.mem_of_getElem? hc) rfl
      have ka' : (⟨g.s, g.c.set j (.gen p (dctR X.prog X.w X.K A p (kvs ++ [(a, d)])))⟩ : Gm).Ok F σ (upd H3 p (dctO X.prog X.w p (es3 ++ [(KeyTy.key X.K A a, ka, d)]))) := k3.mutC hc rfl rfl ⟨(k3.ad_some pm).1, _, rfl, upd_same, fun B' sB => .inr ⟨_, rfl, Paired.app (Paired.imp (fun e kv ⟨h1, h2, h3⟩ => ⟨h1, h2, A.same sB h3⟩) p4) (.cons ⟨rfl, rfl, A.same sB ra3⟩ .nil)⟩⟩
      refine ⟨.int d, _, I4, ⟨td, rfl⟩, hq d (kvs ++ [(a, d)]) (.int d) _ (q2 z1) ka' ?_ rfl⟩
      have ea : (⟨g.s, g.c.set j (.gen p (dctR X.prog X.w X.K A p (kvs ++ [(a, d)])))⟩ : Gm).ad = g.ad := ad_set hc rfl
      show Same (bsA F g.ad H1) (bsA F (⟨g.s, g.c.set j (.gen p (dctR X.prog X.w X.K A p (kvs ++ [(a, d)])))⟩ : Gm).ad _)
      rw [ea, bsA_upd pm]
      exact Gm.mono (s12.trans s23)
    · rw [z2] at hn
      cases hn
end
end J
namespace J
open PySem PySem.Spec L2 PyProof.Rows ClX RZ GenF
section
variable {F : Fr} {g g0 : Gm} {σ : L2.St} {H H1 H2 : Hp} {es : List Cell}
theorem bsA_congr {F : Fr} {as bs : List Addr} (h : ∀ a, a ∈ as ↔ a ∈ bs) (H : Hp) : bsA F as H = bsA F bs H := funext fun a => by
  unfold bsA
  by_cases z : a ∈ as
  · rw [if_pos z, if_pos ((h a).mp z)]
  · rw [if_neg z, if_neg fun y => z ((h a).mpr y)]
theorem Gm.Ok.perm {c' : List Cell} (k : g.Ok F σ H) (h : c'.Perm g.c) : (⟨g.s, c'⟩ : Gm).Ok F σ H := by
  have pa : (⟨g.s, c'⟩ : Gm).ad.Perm g.ad := h.filterMap _
  have eb : (⟨g.s, c'⟩ : Gm).bs F H = g.bs F H := bsA_congr (fun a => pa.mem_iff) H
  exact ⟨k.same, by rw [eb]; exact k.slots, pa.nodup_iff.mpr k.nd, fun c hc => by rw [eb]; exact k.cells c (h.mem_iff.mp hc)⟩
/-- what a def has made, seen by its caller -/
theorem merge_ok (k : g.Ok F σ H1) (kE : (⟨[], es⟩ : Gm).Ok k.fr [] H2) : (SH g es).Ok F σ H2 ∧ Same (g.bs F H1) ((SH g es).bs F H2) := by
  have adS : (SH g es).ad = g.ad ++ adH es := SH.ad g es
  have s12 : Same H1 H2 := kE.same
  have eF : ∀ p ∈ adH es, H1 p = none := fun p hp => (kE.ad_some (p := p) hp).1
  have gF : ∀ p ∈ g.ad, F.H p = none ∧ ∃ o, H1 p = some o := fun p hp => by
    obtain ⟨a1, o, a2, _⟩ := k.ad_some hp
    exact ⟨a1, o, a2⟩
  have S1 : Same (g.bs F H1) ((SH g es).bs F H2) := by
    show Same (bsA F g.ad H1) (bsA F (SH g es).ad H2)
    refine bs_same fun a o e => ?_
    have e7 := k.le a o e
    refine ⟨fun z => ?_, fun _ => s12 _ _ e7⟩
    rw [adS] at z
    rcases List.mem_append.mp z with z | z
    · exact (bsA_nil e).1 z
    · rw [eF a z] at e7
      cases e7
  have S2 : Same ((⟨[], es⟩ : Gm).bs k.fr H2) ((SH g es).bs F H2) := fun a o e => by
    obtain ⟨e1, e2, e3⟩ := bsA_nil e
    cases z : H1 a with
    | some x => exact S1 a o (e2 ⟨x, z⟩)
    | none =>
      have n0 : a ∉ g.ad := fun q => by
        obtain ⟨_, o', q3⟩ := gF a q
        rw [z] at q3
        cases q3
      have nF : F.H a = none := k.same.free z
      exact bsA_of (by rw [adS]; exact fun q => (List.mem_append.mp q).elim n0 e1) nF (e3 z)
  refine ⟨⟨k.same.trans s12, Par.imp (fun _ _ h => Slot.ok_same S1 h) k.slots, ?_, fun d hd => ?_⟩, S1⟩
  · rw [adS]
    refine List.nodup_append.mpr ⟨k.nd, kE.nd, fun a ha b hb e => ?_⟩
    subst e
    obtain ⟨_, o', q3⟩ := gF a ha
    rw [eF a hb] at q3
    cases q3
  · rcases List.mem_append.mp (show d ∈ g.c ++ es from hd) with h | h
    · refine Cell.ok_at S1 (fun p hp => ?_) (k.cells d h)
      obtain ⟨q1, _⟩ := gF p (List.mem_filterMap.mpr ⟨d, h, hp⟩)
      exact ⟨q1, fun o e => s12 _ _ e⟩
    · refine Cell.ok_at S2 (fun p hp => ⟨?_, fun o e => e⟩) (kE.cells d h)
      exact k.same.free (eF p (List.mem_filterMap.mpr ⟨d, h, hp⟩))
end
section
variable {X : Cx} {F : Fr} {g g0 : Gm} {α β γ ρ ζ κ ι τ θ : Type} {pos : Pos} {rest : List Stmt} {nx bk ct : L2.St → Hp → Prop} {rt : VK}
/-- self.f, self owned -/
theorem je_ownF {A : Ty α} {a : α} {i j : Nat} {x dx C : Addr} {ns : List Str} {U : ATy κ} {t : κ} {fl sx : Str} {px : Pos} (c : Cls X.K C) (na : NoAttr X.K C fl) (hs : g.s[i]? = some (.at x)) (hc : g.c[j]? = some (.ins x dx C ns U t)) (hl : ∀ H vs, U.rel H vs t → ∃ v, (ns.zip vs).lookup fl = some v ∧ A.rel H v a)
    (hN : X.N[i]? = some sx := by rfl) (hv : Vis X.env.scope sx := by first | exact Or.inl rfl | exact Or.inr (Or.inl rfl) | exact Or.inr (Or.inr rfl)) (hd : (sx == ("__debug__" : Str)) = false := by decide) (hcd : (sx == ("__classdict__" : Str)) = false := by decide)
    (hb : attributeBase (.Name sx px) fl X.env (eval (.Name sx px) X.env) = eval (.Name sx px) X.env := by rfl) :
    JE X F g (.Attribute (.Name sx px) fl pos) (rO A) (fun k => k a) :=
  peW (pe_fld (pe_var hN hv hd hcd) hb) fun σ H Q ⟨k, P, w, q⟩ => by
    obtain ⟨_, vs, hx, hn, hu⟩ := k.cells _ (List.mem_of_getElem? hc)
    obtain ⟨v, hv', rv⟩ := hl _ _ hu
    exact ⟨_, k.ref hs, x, C, dx, _, v, rfl, hx, c, na, hv', q a v H w (Same.refl H) rv⟩
/-- an owned thing in a field -/
theorem pe_ownF {p : Addr} {i j : Nat} {x dx C : Addr} {ns : List Str} {U : ATy κ} {t : κ} {fl sx : Str} {px : Pos} (c : Cls X.K C) (na : NoAttr X.K C fl) (hs : g.s[i]? = some (.at x)) (hc : g.c[j]? = some (.ins x dx C ns U t)) (hl : ∀ H vs, U.rel H vs t → ∃ v, (ns.zip vs).lookup fl = some v ∧ (tAt p).rel H v ())
    (hN : X.N[i]? = some sx := by rfl) (hv : Vis X.env.scope sx := by first | exact Or.inl rfl | exact Or.inr (Or.inl rfl) | exact Or.inr (Or.inr rfl)) (hd : (sx == ("__debug__" : Str)) = false := by decide) (hcd : (sx == ("__classdict__" : Str)) = false := by decide)
    (hb : attributeBase (.Name sx px) fl X.env (eval (.Name sx px) X.env) = eval (.Name sx px) X.env := by rfl) :
    PE X (.Attribute (.Name sx px) fl pos) (tOwn F g p) :=
  peW (pe_fld (pe_var hN hv hd hcd) hb) fun σ H Q ⟨k, q⟩ => by
    obtain ⟨_, vs, hx, hn, hu⟩ := k.cells _ (List.mem_of_getElem? hc)
    obtain ⟨v, hv', rv⟩ := hl _ _ hu
    have rv' : v = .ref p := rv
    subst rv'
    exact ⟨_, k.ref hs, x, C, dx, _, .ref p, rfl, hx, c, na, hv', q⟩
/-- its list, to be read -/
theorem je_ownA {A : Ty α} {e : Expr} {j1 : Nat} {p1 : Addr} {xs : List α} (h : PE X e (tOwn F g p1)) (hc : g.c[j1]? = some (.lst p1 A xs)) : JE X F g e (rEK A) (fun k => k xs) :=
  peW h fun σ H Q ⟨k, P, w, q⟩ => ⟨k, by
    obtain ⟨vs, hp, r⟩ := k.cell hc
    exact q xs (.ref p1) H w (Same.refl H) ⟨p1, vs, rfl, hp, r⟩⟩
/-- its list.append(e) -/
theorem js_appA {j : Nat} {l : Addr} {A : Ty α} {xs : List α} {call : Expr} {we : (α → Prop) → Prop} {wr : α → Prop} {D : Ends} (hm : PE X call (tBM X.K "list" rAppend (tOwn F g l) (tCons (RJ F g (rO A) we) tNil)))
    (hr : ∀ a, JSs X F ⟨g.s, g.c.set j (.lst l A (xs ++ [a]))⟩ rest D (wr a)) (hc : g.c[j]? = some (.lst l A xs)) (hsw : swapsWith call none pos.line X.env = pure false := by rfl) :
    JSs X F g (.Expr call pos :: rest) D (we fun a => xs.length < 1000000 ∧ wLet a wr) := by
  refine pssW (pss_cons (ps_expr hm hsw) (pssE hr)) fun D' σ H ⟨e, k, q⟩ => ?_
  obtain ⟨vs, hp, r⟩ := k.cell hc
  refine ⟨k, .inl ⟨rfl, vs, .inl (.inl hp)⟩, k, _, q, fun a v H1 p s ra => ⟨l, vs, v, rfl, rfl, s _ _ hp, ?_, a, e, ?_⟩⟩
  · rw [Paired.len r]
    exact Nat.lt_of_lt_of_le p.1 (by decide)
  · exact ⟨((k.step s).mut hc (Paired.app (Paired.imp (fun _ _ z => A.same (Gm.mono s) z) r) (.cons ra .nil))), p.2⟩
/-- self.f = [] (a new list): owned from here on -/
theorem js_fldL {A : Ty α} {i j : Nat} {x dx C : Addr} {ns : List Str} {U : ATy κ} {t : κ} {fl sx : Str} {e : Expr} {we : (List α → Prop) → Prop} {wr : List α → Prop} {D : Ends} {p2 p3 : Pos} (c : Cls X.K C) (na : NoAttr X.K C fl) (he : JE X F g e (rN A) we)
    (hr : ∀ p xs, JSs X F ⟨g.s, g.c.set j (.ins x dx C (ns ++ [fl]) (aSnoc U (tAt p)) (t, ())) ++ [.lst p A xs]⟩ rest D (wr xs)) (hs : g.s[i]? = some (.at x)) (hc : g.c[j]? = some (.ins x dx C ns U t)) (hf : fl ∉ ns := by decide) (hn : ns.length < 1000 := by decide)
    (hN : X.N[i]? = some sx := by rfl) (hv : Vis X.env.scope sx := by first | exact Or.inl rfl | exact Or.inr (Or.inl rfl) | exact Or.inr (Or.inr rfl)) (hd : (sx == ("__debug__" : Str)) = false := by decide) (hcd : (sx == ("__classdict__" : Str)) = false := by decide)
    (hsw : swapsWith e (some (.Attribute (.Name sx p2) fl p3)) pos.line X.env = pure false := by rfl) :
    JSs X F g (.Assign [.Attribute (.Name sx p2) fl p3] e pos :: rest) D (we fun xs => wLet xs wr) :=
  pssW (pss_cons (ps_fld (f := fl) (pe_var hN hv hd hcd) he hsw) (pssE (t := fun q : Addr × List α => RS F ⟨g.s, g.c.set j (.ins x dx C (ns ++ [fl]) (aSnoc U (tAt q.1)) (t, ())) ++ [.lst q.1 A q.2]⟩ D (wr q.2)) fun q => hr q.1 q.2)) fun D' σ H ⟨e, k, w⟩ => ⟨k, _, w, fun xs v H1 w1 s1 ⟨p, vs1, ev, h0, hb, r1⟩ => by
    subst ev
    have k1 : (g.push (.lst p A xs)).Ok F σ H1 := k.new s1 h0 hb r1
    have hc1 : (g.push (.lst p A xs)).c[j + 1]? = some (.ins x dx C ns U t) := hc
    obtain ⟨n0, vs, hx, hl, hu⟩ := k1.cells _ (List.mem_of_getElem? hc1)
    refine ⟨_, k1.ref (g := g.push (.lst p A xs)) hs, x, C, dx, _, rfl, hx, c, na, ?_, (p, xs), e, ?_, w1⟩
    · rw [List.length_zip]
      omega
    · rw [putF_zip hl hf]
      have k2 := k1.mutC (c' := .ins x dx C (ns ++ [fl]) (aSnoc U (tAt p)) (t, ())) hc1 rfl rfl ⟨n0, vs ++ [.ref p], upd_same, by rw [List.length_append, List.length_append, hl]; rfl, vs, .ref p, rfl, hu, rfl⟩
      exact k2.perm (by
        show (g.c.set j _ ++ [Cell.lst p A xs]).Perm (Cell.lst p A xs :: g.c.set j _)
        exact List.perm_append_singleton _ _)⟩
/-- self.f = {} -/
theorem js_fldD {K : PySem.W.Frag} {A : Ty α} [KeyTy K A] {i j : Nat} {x dx C : Addr} {ns : List Str} {U : ATy κ} {t : κ} {fl sx : Str} {wr : Prop} {D : Ends} {p2 p3 p4 : Pos} (hK : X.K = K) (c : Cls X.K C) (na : NoAttr X.K C fl)
    (hr : ∀ p, JSs X F ⟨g.s, g.c.set j (.ins x dx C (ns ++ [fl]) (aSnoc U (tAt p)) (t, ())) ++ [.gen p (dctR X.prog X.w K A p [])]⟩ rest D wr) (hs : g.s[i]? = some (.at x)) (hc : g.c[j]? = some (.ins x dx C ns U t)) (hf : fl ∉ ns := by decide) (hn : ns.length < 1000 := by decide)
    (hN : X.N[i]? = some sx := by rfl) (hv : Vis X.env.scope sx := by first | exact Or.inl rfl | exact Or.inr (Or.inl rfl) | exact Or.inr (Or.inr rfl)) (hd : (sx == ("__debug__" : Str)) = false := by decide) (hcd : (sx == ("__classdict__" : Str)) = false := by decide)
    (hsw : swapsWith (.Dict [] [] p4) (some (.Attribute (.Name sx p2) fl p3)) pos.line X.env = pure false := by rfl) :
    JSs X F g (.Assign [.Attribute (.Name sx p2) fl p3] (.Dict [] [] p4) pos :: rest) D wr :=
  pssW (pss_cons (ps_fld (f := fl) (pe_var hN hv hd hcd) pe_dnewK hsw) (pssE hr)) fun D' σ H ⟨e, k, w⟩ => fun p h0 => by
    have k1 : (g.push (.gen p (dctR X.prog X.w K A p []))).Ok F σ (upd H p (.dK [])) := k.push (same_upd h0) rfl h0 ⟨k.same.free h0, .dK [], rfl, upd_same, fun _ _ => .inl ⟨rfl, rfl⟩⟩
    have hc1 : (g.push (.gen p (dctR X.prog X.w K A p []))).c[j + 1]? = some (.ins x dx C ns U t) := hc
    obtain ⟨n0, vs, hx, hl, hu⟩ := k1.cells _ (List.mem_of_getElem? hc1)
    refine ⟨_, k1.ref (g := g.push (.gen p (dctR X.prog X.w K A p []))) hs, x, C, dx, _, rfl, hx, c, na, ?_, p, e, ?_, w⟩
    · rw [List.length_zip]
      omega
    · rw [putF_zip hl hf]
      have k2 := k1.mutC (c' := .ins x dx C (ns ++ [fl]) (aSnoc U (tAt p)) (t, ())) hc1 rfl rfl ⟨n0, vs ++ [.ref p], upd_same, by rw [List.length_append, List.length_append, hl]; rfl, vs, .ref p, rfl, hu, rfl⟩
      exact k2.perm (by
        show (g.c.set j _ ++ [Cell.gen p (dctR X.prog X.w K A p [])]).Perm (Cell.gen p (dctR X.prog X.w K A p []) :: g.c.set j _)
        exact List.perm_append_singleton _ _)
/-- what __init__ promises where the instance stays owned -/
def spIO (C : Addr) (self : ι → Addr) (T : ATy τ) (E : ι → κ → List Cell) (w : τ → (κ → Prop) → Prop) : Sp := fun vs H Q _ => ∃ (x dx : Addr) (ws : List V) (t : τ) (P : κ → Prop) (F : Fr), vs = .ref x :: ws ∧ F.H x = none ∧ F.H dx = none ∧ dx ≠ x ∧ H = upd (upd F.H dx (.own x)) x (.ins C dx []) ∧ T.rel F.B ws t ∧ w t P ∧
  ∀ i z H2, self i = x → P z → (⟨[], E i z⟩ : Gm).Ok F [] H2 → Q .non H2
/-- the end of such an __init__ -/
theorem js_endIO {E : ι → κ → List Cell} {self : ι → Addr} {x : Addr} {P : κ → Prop} {Q : VK} (hq : ∀ i z H2, self i = x → P z → (⟨[], E i z⟩ : Gm).Ok F [] H2 → Q .non H2) (i : ι) (z : κ) (hi : self i = x) (hS : (E i z).Sublist g.c) : JSs X F g [] ⟨fun _ H' => Q .non H', rt, bk, ct⟩ (P z) :=
  pssW pss_nil fun D σ H ⟨e, k, w⟩ => e.nx σ H (hq i z H hi w (drop_ok k hS).1)
/-- x = C(e, ..): owned from here on -/
theorem js_makeO {i0 : Nat} {C f : Addr} {fd : FuncData} {ps : List Str} {n : Nat} {self : ι → Addr} {T : ATy τ} {E : ι → κ → List Cell} {w : τ → (κ → Prop) → Prop} {wa : (τ → Prop) → Prop} {wr : κ → Prop} {D : Ends} {x cn : Str} {px np cp : Pos} {a0 : Expr} {as : List Expr}
    (M : Mk X.K C f) (Fn : FnOk X.prog X.w X.K X.mg X.base CX0 n f fd ps (spIO C self T E w)) (hr : Room (n + 1) X.A) (hg : Gl X cn) (hm : X.mg cn = some (.ref C)) (hb : Binds X.K fd ps []) (ha : JA X F g (a0 :: as) T wa)
    (hrest : ∀ i z, JSs X F ⟨g.s.set i0 (.at (self i)), g.c ++ E i z⟩ rest D (wr z)) (hN : X.N.Nodup) (hi : X.N[i0]? = some x := by rfl) (hx : Loc X.env.scope x := by first | exact Or.inl rfl | exact Or.inr rfl) (hdb : (cn == ("__debug__" : Str)) = false := by decide)
    (he : starEach (a0 :: as) X.env = (false, eval a0 X.env) :: starEach as X.env := by rfl) (hpl : (backTo cp (starEach as X.env)).any (·.1) = false := by rfl)
    (hs : swapsWith (.Call (.Name cn np) (a0 :: as) [] cp) (some (.Name x px)) pos.line X.env = pure false := by rfl) (hf : X.fn x = true ∨ X.env.scope.names.lookup x = some .local := by first | exact .inl rfl | exact .inr rfl) :
    JSs X F g (.Assign [.Name x px] (.Call (.Name cn np) (a0 :: as) [] cp) pos :: rest) D (wa fun t => w t wr) :=
  pssW (pss_cons (ps_set hN hi hx (pe_make M Fn hr hg hm hb .nil pass0 ha hdb he hpl) hs hf) (pssE (t := fun q : ι × κ => RS F ⟨g.s.set i0 (.at (self q.1)), g.c ++ E q.1 q.2⟩ D (wr q.2)) fun q => hrest q.1 q.2)) fun D' σ H ⟨e, k, hw⟩ => ⟨k, _, hw, fun t vs H1 w1 s1 r1 x dx hx hdx hne => ⟨x, dx, vs, t, wr, (k.step s1).fr, by rw [List.append_nil], hx, hdx, hne, rfl, r1, w1, fun i z H2 ei p2 kE => ⟨rfl, (i, z), e, by
    subst ei
    exact (merge_ok (k.step s1) kE).1.set (t := .at (self i)) rfl, p2⟩⟩⟩
end
end J
namespace J
open PySem PySem.Spec L2 PyProof.Rows ClX RZ GenF
theorem paE {X : Cx} {es : List Expr} {τ : Type} {t : τ → TA} (h : ∀ a, PA X es (t a)) : PA X es (fun σ H Q => ∃ a, t a σ H Q) := ⟨fun pos p s σ H Q I ⟨a, q⟩ => (h a).run pos p s σ H Q I q⟩
section
variable {ζ τ : Type}
/-- arguments that may change what is owned -/
def RAM (F : Fr) (g : Gm) (T : ATy τ) (S : ζ → Gm) (w : (τ → ζ → Prop) → Prop) : TA := fun σ H Q => g.Ok F σ H ∧ ∃ P, w P ∧ ∀ t z vs H', P t z → (S z).Ok F σ H' → Same (g.bs F H) ((S z).bs F H') → T.rel ((S z).bs F H') vs t → Q vs H'
abbrev JAM (X : Cx) (F : Fr) (g : Gm) (es : List Expr) (T : ATy τ) (S : ζ → Gm) (w : (τ → ζ → Prop) → Prop) : Prop := PA X es (RAM F g T S w)
end
section
variable {X : Cx} {F : Fr} {g g0 : Gm} {α β γ ρ ζ κ ι τ θ : Type} {pos : Pos} {rest : List Stmt} {nx bk ct : L2.St → Hp → Prop} {rt : VK}
theorem jam_of {S : ζ → Gm} {es : List Expr} {T : ATy τ} {w : (τ → Prop) → Prop} (z : ζ) (hS : S z = g) (h : JA X F g es T w) : JAM X F g es T S (fun k => w fun t => k t z) :=
  paW h fun σ H Q ⟨k, P, w, q⟩ => by
    subst hS
    exact ⟨k, _, w, fun t vs H' p s r => q t z vs H' p (k.step s) (Gm.mono s) r⟩
theorem jam_cons {S : ζ → Gm} {e : Expr} {es : List Expr} {A : Ty α} {T : ATy τ} {w : (α → ζ → Prop) → Prop} {u : ζ → (τ → Prop) → Prop} (he : JEM X F g e A S w) (hr : ∀ z, JA X F (S z) es T (u z))
    (hs : starEach (e :: es) X.env = (false, eval e X.env) :: starEach es X.env := by rfl) : JAM X F g (e :: es) (aC A T) S (fun k => w fun a z => u z fun t => k (a, t) z) :=
  paW (pa_cons he (paE hr) hs) fun σ H Q ⟨k, P, w, q⟩ => ⟨k, _, w, fun a z v H1 w1 k1 s1 r1 => ⟨z, k1, _, w1, fun t vs H2 w2 s2 r2 => q (a, t) z (v :: vs) H2 w2 (k1.step s2) (s1.trans (Gm.mono s2)) ⟨v, vs, rfl, A.same (Gm.mono s2) r1, r2⟩⟩⟩
theorem jam_cons2 {η : Type} {S : ζ → Gm} {S2 : η → Gm} {e e2 : Expr} {A : Ty α} {B : Ty β} {w : (α → ζ → Prop) → Prop} {u : ζ → (β → η → Prop) → Prop} (he : JEM X F g e A S w) (hr : ∀ z, JEM X F (S z) e2 B S2 (u z))
    (h1 : starEach [e, e2] X.env = (false, eval e X.env) :: starEach [e2] X.env := by rfl) (h2 : starEach [e2] X.env = (false, eval e2 X.env) :: starEach [] X.env := by rfl) : JAM X F g [e, e2] (a2 A B) S2 (fun k => w fun a z => u z fun b y => k (a, b) y) :=
  paW (pa_cons he (paE fun z => pa_cons (hr z) pa_nil h2) h1) fun σ H Q ⟨k, P, w, q⟩ => ⟨k, _, w, fun a z v H1 w1 k1 s1 r1 => ⟨z, k1, _, w1, fun b y x H2 w2 k2 s2 r2 => q (a, b) y [v, x] H2 w2 k2 (s1.trans s2) ⟨v, x, rfl, A.same s2 r1, r2⟩⟩⟩
/-- a tuple whose parts change what is owned -/
theorem je_tupM {S : ζ → Gm} {es : List Expr} {j : Nat} {T : ATy τ} {w : (τ → ζ → Prop) → Prop} (h : JAM X F g es T S w) (hl : ∀ H vs t, T.rel H vs t → vs.length ≤ 1000) : JEM X F g (.Tuple es j pos) (tT X.K T) S w :=
  peW (pe_tup h) fun σ H Q ⟨k, P, w, q⟩ => ⟨k, P, w, fun t z vs H1 p k1 s1 r1 => ⟨Nat.le_trans (hl _ _ _ r1) (by decide), fun l hl => q t z (.ref l) _ p (k1.step (same_upd hl)) (s1.trans (Gm.mono (same_upd hl))) ⟨l, vs, rfl, .inl (.inl (k1.bs_new hl)), T.same (Gm.mono (same_upd hl)) r1⟩⟩⟩
theorem je_tup2M {η : Type} {S : ζ → Gm} {S2 : η → Gm} {e e2 : Expr} {j : Nat} {A : Ty α} {B : Ty β} {w : (α → ζ → Prop) → Prop} {u : ζ → (β → η → Prop) → Prop} (he : JEM X F g e A S w) (hr : ∀ z, JEM X F (S z) e2 B S2 (u z))
    (h1 : starEach [e, e2] X.env = (false, eval e X.env) :: starEach [e2] X.env := by rfl) (h2 : starEach [e2] X.env = (false, eval e2 X.env) :: starEach [] X.env := by rfl) : JEM X F g (.Tuple [e, e2] j pos) (tT X.K (a2 A B)) S2 (fun k => w fun a z => u z fun b y => k (a, b) y) :=
  je_tupM (jam_cons2 he hr h1 h2) fun _ _ _ ⟨_, _, e, _⟩ => by rw [e]; show 2 ≤ 1000; omega
/-- o.m(e, ..), o owned, m changes it -/
theorem je_methM {E : ι → κ → List Cell} {self : ι → Addr} {i : ι} {z : κ} {C dx : Addr} {i0 : Nat} {ns : List Str} {υ : Type} {U : ATy υ} {u0 : υ} {m sx : Str} {f : Addr} {fd : FuncData} {ps : List Str} {T : ATy θ} {R : Ty ρ} {w : θ → κ → (ρ → κ → Prop) → Prop} {n : Nat} {e : Expr} {es : List Expr} {px apos : Pos} {wa : (θ → κ → Prop) → Prop} {pl : Sem Bool}
    (c : Cls X.K C) (hm : Meth X.K C m f) (Fn : FnOk X.prog X.w X.K X.mg X.base CX0 n f fd ps (spJM (fun i us => .ref (self i) :: us) T E R w)) (hr : Room n X.A) (hb : Binds X.K fd ps []) (hs : g0.s[i0]? = some (.at (self i))) (hc : (E i z)[0]? = some (.ins (self i) dx C ns U u0)) (hl : ∀ vs : List V, vs.length = ns.length → (ns.zip vs).lookup m = none)
    (ha : JAM X F (SH g0 (E i z)) (e :: es) T (fun z1 => SH g0 (E i z1)) wa)
    (hN : X.N[i0]? = some sx := by rfl) (hv : Vis X.env.scope sx := by first | exact Or.inl rfl | exact Or.inr (Or.inl rfl) | exact Or.inr (Or.inr rfl)) (hd : (sx == ("__debug__" : Str)) = false := by decide) (hcd : (sx == ("__classdict__" : Str)) = false := by decide)
    (hst : starEach (e :: es) X.env = (false, eval e X.env) :: starEach es X.env := by rfl) (hpl : (backTo pos (starEach es X.env)).any (·.1) = false := by rfl)
    (ht : eval (.Call (.Attribute (.Name sx px) m apos) (e :: es) [] pos) X.env = (do
      let ov ← eval (.Name sx px) X.env
      standAt apos.atName
      let (f, first) ← holding [ov] (getMethod ov m pl)
      callWith pos f first (backTo pos (starEach (e :: es) X.env)) (backToKw pos (keywordEach [] X.env))) := by rfl) :
    JEM X F (SH g0 (E i z)) (.Call (.Attribute (.Name sx px) m apos) (e :: es) [] pos) R (fun z' => SH g0 (E i z')) (fun k => wa fun t z1 => w t z1 k) :=
  peW (pe_meth (pe_var hN hv hd hcd) c hm Fn hr hb .nil pass0 ha hst hpl ht) fun σ H Q ⟨k, P, w, q⟩ => by
    have hc' : Cell.ins (self i) dx C ns U u0 ∈ (SH g0 (E i z)).c := List.mem_append_right _ (List.mem_of_getElem? hc)
    obtain ⟨_, vs0, hx, hn, _⟩ := k.cells _ hc'
    refine ⟨_, k.ref (g := SH g0 (E i z)) hs, self i, dx, _, rfl, hx, hl vs0 hn, k, _, w, fun t z1 vs H1 w1 k1 s1 r1 => ?_⟩
    obtain ⟨kE, sE⟩ := lend_ok k1
    refine ⟨t, i, z1, vs, FgOf k1, P, by rw [List.append_nil], kE, T.same sE r1, w1, fun r z' v H' p kg rr => ?_⟩
    obtain ⟨b1, b2, b3⟩ := back_ok k1 kg
    exact q r z' v H' p b1 (s1.trans b2) (R.same b3 rr)
theorem je_methM0 {E : ι → κ → List Cell} {self : ι → Addr} {i : ι} {z : κ} {C dx : Addr} {i0 : Nat} {ns : List Str} {υ : Type} {U : ATy υ} {u0 : υ} {m sx : Str} {f : Addr} {fd : FuncData} {ps : List Str} {R : Ty ρ} {w : Unit → κ → (ρ → κ → Prop) → Prop} {n : Nat} {px apos : Pos} {pl : Sem Bool}
    (c : Cls X.K C) (hm : Meth X.K C m f) (Fn : FnOk X.prog X.w X.K X.mg X.base CX0 n f fd ps (spJM (fun i us => .ref (self i) :: us) aN E R w)) (hr : Room n X.A) (hb : Binds X.K fd ps []) (hs : g0.s[i0]? = some (.at (self i))) (hc : (E i z)[0]? = some (.ins (self i) dx C ns U u0)) (hl : ∀ vs : List V, vs.length = ns.length → (ns.zip vs).lookup m = none)
    (hN : X.N[i0]? = some sx := by rfl) (hv : Vis X.env.scope sx := by first | exact Or.inl rfl | exact Or.inr (Or.inl rfl) | exact Or.inr (Or.inr rfl)) (hd : (sx == ("__debug__" : Str)) = false := by decide) (hcd : (sx == ("__classdict__" : Str)) = false := by decide)
    (ht : eval (.Call (.Attribute (.Name sx px) m apos) [] [] pos) X.env = (do
      let ov ← eval (.Name sx px) X.env
      standAt apos.atName
      let (f, first) ← holding [ov] (getMethod ov m pl)
      callWith pos f first (backTo pos (starEach [] X.env)) (backToKw pos (keywordEach [] X.env))) := by rfl) :
    JEM X F (SH g0 (E i z)) (.Call (.Attribute (.Name sx px) m apos) [] [] pos) R (fun z' => SH g0 (E i z')) (fun k => w () z k) :=
  peW (pe_meth0 (pe_var hN hv hd hcd) c hm Fn hr hb .nil pass0 ht) fun σ H Q ⟨k, P, w, q⟩ => by
    have hc' : Cell.ins (self i) dx C ns U u0 ∈ (SH g0 (E i z)).c := List.mem_append_right _ (List.mem_of_getElem? hc)
    obtain ⟨_, vs0, hx, hn, _⟩ := k.cells _ hc'
    refine ⟨_, k.ref (g := SH g0 (E i z)) hs, self i, dx, _, rfl, hx, hl vs0 hn, ?_⟩
    obtain ⟨kE, sE⟩ := lend_ok k
    refine ⟨(), i, z, [], FgOf k, P, rfl, kE, rfl, w, fun r z' v H' p kg rr => ?_⟩
    obtain ⟨b1, b2, b3⟩ := back_ok k kg
    exact q r z' v H' p b1 b2 (R.same b3 rr)
end
section
variable {γ : Type} {G : GP} {A : Around} {Yd : YK γ} {rest : List Stmt} {τ ζ α : Type} {Fp : γ → τ → Fr → Prop} {g : Gm} {D : GD γ}
/-- yield e, e changes what is the generator's own -/
theorem jg_yieldM {Ai : Ty α} {S : ζ → Gm} {Y : α → τ → (τ → Prop) → Prop} {e : Expr} {yp pos : Pos} {we : (α → ζ → Prop) → Prop} {wr : ζ → Nat → τ → Prop} (hY : CoOk Fp Ai Y Yd) (hm : YMono Yd) (hnc : G.env.cells = []) (he : ∀ sb Hb F, JEM (G.cx A sb Hb) F g e Ai S we) (hr : ∀ z, JG G A Yd Fp (S z) rest D (wr z))
    (hco : G.env.scope.isCoroutine = false := by rfl) (hi : interactive G.env = false := by rfl) :
    JG G A Yd Fp g (.Expr (.Yield (some e) yp) pos :: rest) D (fun n s => ∃ m, n = m + 1 ∧ we fun a z => Y a s fun s' => wr z m s') := by
  refine gssW2 (gss_cons2 (gs_yield2 (te := fun σ H Q => ∃ F, RJM F g Ai S we σ H Q) hm hnc (fun sb Hb => ⟨fun p s σ H Q I ⟨F, q⟩ => (he sb Hb F).run p s σ H Q I q⟩) hco hi) (gssE2 hr)) fun D' n c σ H ⟨le, F, s, hf, k, m, en, hw⟩ => ?_
  refine ⟨m, en, F, k, _, hw, fun a z x H1 p k1 s1 r => hY.to (S z) F σ H1 x a c s _ _ hf k1 r p fun s' c' F' H' p' hf' k' => ?_⟩
  exact ⟨z, le, F', s', hf', k', p'⟩
end
section
variable {X : Cx} {F : Fr} {g : Gm} {θ α τ ι κ : Type} {Ai : Ty α} {rest body : List Stmt} {nx bk ct : L2.St → Hp → Prop} {rt : VK} {wr : κ → τ → Prop}
/-- for x in o.m(e, ..): m a generator method of the owned o -/
theorem js_forGM {S : τ → Gm} {gT : TG} {tr : Gm → α → Gm} {b : α → τ → (τ → Prop) → Prop} {k : Nat} {E : ι → κ → List Cell} {self : ι → Addr} {i : ι} {z : κ} {C dx : Addr} {i0 : Nat} {ns : List Str} {υ : Type} {U : ATy υ} {u0 : υ} {m sx : Str} {f : Addr} {fd : FuncData} {ps : List Str} {T : ATy θ} {w : ∀ τ : Type, θ → κ → Nat → τ → (α → τ → (τ → Prop) → Prop) → (κ → τ → Prop) → Prop} {wa : (θ → Prop) → Prop} {e tg : Expr} {es : List Expr} {px apos pos pos' : Pos} {s0 : τ} {pl : Sem Bool}
    (c : Cls X.K C) (hm : Meth X.K C m f) (Fn : GFn2 X.prog X.w X.K X.mg X.base k f fd ps (spJG (fun i => [.ref (self i)]) T E Ai w)) (hr : Room (k + 1) X.A) (hb : Binds X.K fd ps []) (hs : g.s[i0]? = some (.at (self i))) (hc : (E i z)[0]? = some (.ins (self i) dx C ns U u0)) (hl : ∀ vs : List V, vs.length = ns.length → (ns.zip vs).lookup m = none)
    (ha : JA X F g (e :: es) T wa) (hS : Sub g (SH (S s0) (E i z))) (hgt : PG X tg gT) (ht : TgOk Ai gT tr) (hgm : TgMono gT)
    (hbd : ∀ hs (N : τ → Prop) a s, JSs X F (tr (SH (S s) hs) a) body ⟨phi F (fun s => SH (S s) hs) N, rt, fun _ _ => False, phi F (fun s => SH (S s) hs) N⟩ (b a s N)) (hr2 : ∀ z s, JSs X F (SH (S s) (E i z)) rest ⟨nx, rt, bk, ct⟩ (wr z s))
    (hpo : PassesOwn (model X.prog X.w) X.A X.env X.xe) (hxe : XeSim X)
    (hN : X.N[i0]? = some sx := by rfl) (hv : Vis X.env.scope sx := by first | exact Or.inl rfl | exact Or.inr (Or.inl rfl) | exact Or.inr (Or.inr rfl)) (hd : (sx == ("__debug__" : Str)) = false := by decide) (hcd : (sx == ("__classdict__" : Str)) = false := by decide)
    (hst : starEach (e :: es) X.env = (false, eval e X.env) :: starEach es X.env := by rfl) (hpl : (backTo pos' (starEach es X.env)).any (·.1) = false := by rfl)
    (hev : eval (.Call (.Attribute (.Name sx px) m apos) (e :: es) [] pos') X.env = (do
      let ov ← eval (.Name sx px) X.env
      standAt apos.atName
      let (f, first) ← holding [ov] (getMethod ov m pl)
      callWith pos' f first (backTo pos' (starEach (e :: es) X.env)) (backToKw pos' (keywordEach [] X.env))) := by rfl)
    (hfs : ∀ y, foldedSetIterable (.Call (.Attribute (.Name sx px) m apos) (e :: es) [] pos') X.env y = pure y := by intro _; rfl) :
    JSs X F g (.For tg (.Call (.Attribute (.Name sx px) m apos) (e :: es) [] pos') body [] pos :: rest) ⟨nx, rt, bk, ct⟩ (wa fun t => ∃ n, w τ t z n s0 b wr) := by
  refine pssW (pss_cons (ps_forG (tb := tExU fun (q : List Cell × (τ → Prop) × α × τ) => RS F (tr (SH (S q.2.2.2) q.1) q.2.2.1) ⟨phi F (fun s => SH (S s) q.1) q.2.1, rt, fun _ _ => False, phi F (fun s => SH (S s) q.1) q.2.1⟩ (b q.2.2.1 q.2.2.2 q.2.1))
    hpo hxe hr.hd hr (pig_meth (pe_var hN hv hd hcd) c hm Fn (hr.mono (Nat.le_succ _)) hb .nil ha hst hpl hev) hgt (pssEU fun q => hbd q.1 q.2.1 q.2.2.1 q.2.2.2) (fun D => yFor_mono hgm rt D) hfs) (pssE (t := fun q : κ × τ => RS F (SH (S q.2) (E i q.1)) ⟨nx, rt, bk, ct⟩ (wr q.1 q.2)) fun q => hr2 q.1 q.2)) fun D σ H ⟨le, k0, hw⟩ => ?_
  have kS := hS.ok k0
  have hc' : Cell.ins (self i) dx C ns U u0 ∈ (SH (S s0) (E i z)).c := List.mem_append_right _ (List.mem_of_getElem? hc)
  obtain ⟨_, vs0, hx, hn, _⟩ := kS.cells _ hc'
  refine ⟨_, k0.ref hs, self i, dx, _, rfl, hx, hl vs0 hn, k0, _, hw, fun t vs H1 ⟨n, p⟩ s1 r => ?_⟩
  have k1 : (SH (S s0) (E i z)).Ok F σ H1 := kS.step s1
  obtain ⟨kE, sE⟩ := lend_ok k1
  have sb : Same (g.bs F H1) ((⟨[], E i z⟩ : Gm).bs (FgOf k1) H1) := (hS.bs).trans sE
  have core := forG_core (F := F) (S := S) (b := b) ht (D := { D with nx := fun σ H => tEx (fun q : κ × τ => RS F (SH (S q.2) (E i q.1)) ⟨nx, rt, bk, ct⟩ (wr q.1 q.2)) D σ H })
  refine ⟨t, i, z, vs, FgOf k1, τ, s0, fun (c : L2.St) (s : τ) (F' : Fr) => ∃ (hs : List Cell) (H7 : Hp) (k7 : (SH (S s) hs).Ok F c H7), F' = FgOf k7, b, wr, n, (by rw [List.append_nil]; rfl), kE, T.same sb r, ⟨E i z, H1, k1, rfl⟩, ⟨fun g Fg σ H x a c s P K hf kg ra hY hK => ?_⟩, ⟨fun g Fg σ H c s z' hf kg hsub hk => ?_⟩, p⟩
  · have q := core.to g Fg σ H x a c s P K hf kg ra hY hK
    refine hgm x c H _ _ (fun σ2 H2 ⟨q, l2, k2, w2⟩ => ⟨q, ⟨l2.nx, fun v H z => le.rt v H z, l2.bk, l2.ct⟩, k2, w2⟩) q
  · obtain ⟨hs, H7, k7, rfl⟩ := hf
    obtain ⟨ok2, _⟩ := turn_ok k7 kg
    have sub2 : Sub (SH (S s) (hide g σ)) (SH (S s) (E i z')) := ⟨SubS.refl _, List.Sublist.append (List.Sublist.refl _) (hsub.trans (List.sublist_append_right _ _))⟩
    exact ⟨(z', s), le, sub2.ok ok2, hk⟩
end
end J
namespace J
open PySem PySem.Spec L2 PyProof.Rows ClX RZ GenF
section
variable {X : Cx} {F : Fr} {g : Gm} {α β : Type} {tg iter : Expr} {vs : List Nat}
theorem ji_own {A : Ty α} {l : Addr} {j : Nat} {xs : List α} (h : PE X iter (tOwn F g l)) (hc : g.c[j]? = some (.lst l A xs)) : PI X tg iter (RI F g A (fun k => k xs) vs) :=
  piW (pi_list h) fun σ H R ⟨k, P, w, q⟩ => by
    obtain ⟨us, h2, r2⟩ := k.cell hc
    refine ⟨k, l, rfl, ⟨us, .inl (.inl h2)⟩, q xs _ [] H w (Same.refl H) (fun c hc => by cases hc) k fun σ' H' l' o => ?_⟩
    obtain ⟨_, ws, h3, r3⟩ := o.cells _ (List.mem_append_right _ (List.mem_append_right _ (List.mem_of_getElem? hc)))
    exact itl_at (.inl (.inl h3)) r3
theorem ji_zipOwn {A : Ty α} {B : Ty β} {l m : Addr} {j j2 : Nat} {xs : List α} {ys : List β} {e e2 : Expr} {elts : List Expr} {kk : Nat} {p pos tpos : Pos} (hg : Gl X "zip") (hm : X.mg "zip" = none) (ha : PE X e (tOwn F g l)) (hb : PE X e2 (tOwn F g m)) (hc : g.c[j]? = some (.lst l A xs)) (hc2 : g.c[j2]? = some (.lst m B ys))
    (hs : starEach [e, e2] X.env = (false, eval e X.env) :: starEach [e2] X.env := by rfl) (hs2 : starEach [e2] X.env = (false, eval e2 X.env) :: starEach [] X.env := by rfl) (hpl : (backTo pos (starEach [e2] X.env)).any (·.1) = false := by rfl) :
    PI X (.Tuple elts kk tpos) (.Call (.Name "zip" p) [e, e2] [] pos) (RI F g (tT X.K (a2 A B)) (fun k => k (xs.zip ys)) vs) :=
  piW (pi_zipA hg hm (pa_cons ha (pa_cons hb pa_nil hs2) hs) hs hpl) fun σ H R ⟨k, P, w, q⟩ => by
    obtain ⟨us, h2, r2⟩ := k.cell hc
    obtain ⟨ws, h3, r3⟩ := k.cell hc2
    refine ⟨k, k, l, m, us, ws, rfl, .inl ⟨.inl (.inl h2), .inl (.inl h3), q (xs.zip ys) _ [] H w (Same.refl H) (fun c hc => by cases hc) k fun σ' H' l' o => ?_⟩⟩
    obtain ⟨_, w2, h4, r4⟩ := o.cells _ (List.mem_append_right _ (List.mem_append_right _ (List.mem_of_getElem? hc)))
    obtain ⟨_, w3, h5, r5⟩ := o.cells _ (List.mem_append_right _ (List.mem_append_right _ (List.mem_of_getElem? hc2)))
    exact itz_at (fun T hT => ⟨o.fresh hT, o.same.free hT⟩) (.inl (.inl h4)) (.inl (.inl h5)) r4 r5
end
theorem tgw_pp {α β γ δ : Type} {K : PySem.W.Frag} {i j m n : Nat} {A : Ty α} {B : Ty β} {C : Ty γ} {D : Ty δ} : TgW (tT K (a2 (tT K (a2 A B)) (tT K (a2 C D)))) (gTup K 2 (gCons (gTup K 2 (gCons (gName i) (gCons (gName j) gNil))) (gCons (gTup K 2 (gCons (gName m) (gCons (gName n) gNil))) gNil))) (fun g a => (((g.set i (.val A a.1.1)).set j (.val B a.1.2)).set m (.val C a.2.1)).set n (.val D a.2.2)) [i, j, m, n] :=
  fun F g σ H v a Q k r q => by
    obtain ⟨l, vs, e, hs, x, y, e2, ⟨l1, vs1, e1, hs1, x1, y1, e11, h1, h2⟩, ⟨l2, vs2, e3, hs2, x2, y2, e22, h3, h4⟩⟩ := r
    subst e2 e11 e22
    have k1 : (g.set i (.val A a.1.1)).Ok F ((wipe σ [i, j, m, n]).set i (some x1)) H := k.set (t := .val A a.1.1) ⟨x1, rfl, h1⟩
    have k2 := k1.set (t := .val B a.1.2) (v := y1) (i := j) ⟨y1, rfl, h2⟩
    have k3 := k2.set (t := .val C a.2.1) (v := x2) (i := m) ⟨x2, rfl, h3⟩
    have k4 := k3.set (t := .val D a.2.2) (v := y2) (i := n) ⟨y2, rfl, h4⟩
    refine ⟨l, _, e, k.le.sqT' hs, rfl, x, [y], rfl, l1, _, e1, k.le.sqT' hs1, rfl, x1, [y1], rfl, y1, [], rfl, rfl, y, [], rfl, l2, _, e3, k.le.sqT' hs2, rfl, x2, [y2], rfl, y2, [], rfl, rfl, rfl, q _ k4 ?_⟩
    rw [wipe_set (by simp), wipe_set (by simp), wipe_set (by simp), wipe_set (by simp), wipe_wipe _ _ fun v hv => hv]
section
variable {X : Cx} {F : Fr} {g : Gm} {α β ζ τ κ : Type} {pos : Pos} {rest : List Stmt} {nx bk ct : L2.St → Hp → Prop} {rt : VK}
theorem jem_map {S : ζ → Gm} {e : Expr} {A : Ty α} {B : Ty β} {w : (α → ζ → Prop) → Prop} (f : α → β) (h : JEM X F g e A S w) (hr : ∀ H v a, A.rel H v a → B.rel H v (f a)) : JEM X F g e B S (fun k => w fun a z => k (f a) z) :=
  peW h fun σ H Q ⟨k, P, w, q⟩ => ⟨k, _, w, fun a z v H' p k' s r => q (f a) z v H' p k' s (hr _ _ _ r)⟩
theorem jem_some {S : ζ → Gm} {e : Expr} {A : Ty α} {w : (α → ζ → Prop) → Prop} (h : JEM X F g e A S w) (nn : ∀ H a, ¬ A.rel H .non a) : JEM X F g e (tO A) S (fun k => w fun a z => k (some a) z) := jem_map some h fun H v a r => ⟨r, fun e => nn H a (by rw [← e]; exact r)⟩
/-- C(e, ..), the arguments change what is owned -/
theorem je_makeM {S : ζ → Gm} {C f : Addr} {fd : FuncData} {ps : List Str} {n : Nat} {ns : List Str} {T : ATy τ} {U : ATy κ} {w : τ → (κ → Prop) → Prop} {wa : (τ → ζ → Prop) → Prop} {x : Str} {np : Pos} {a0 : Expr} {es : List Expr} (M : Mk X.K C f) (Fn : FnOk X.prog X.w X.K X.mg X.base CX0 n f fd ps (spI C ns T U w)) (hr : Room (n + 1) X.A) (hg : Gl X x) (hm : X.mg x = some (.ref C)) (hb : Binds X.K fd ps [])
    (ha : JAM X F g (a0 :: es) T S wa) (hdb : (x == ("__debug__" : Str)) = false := by decide) (he : starEach (a0 :: es) X.env = (false, eval a0 X.env) :: starEach es X.env := by rfl) (hpl : (backTo pos (starEach es X.env)).any (·.1) = false := by rfl) :
    JEM X F g (.Call (.Name x np) (a0 :: es) [] pos) (tC C ns U) S (fun k => wa fun t z => w t fun u => k u z) :=
  peW (pe_make M Fn hr hg hm hb .nil pass0 ha hdb he hpl) fun σ H Q ⟨k, P, w, q⟩ => ⟨k, _, w, fun t z vs H1 w1 k1 s1 r1 x dx hx hdx hne => ⟨x, dx, vs, t, fun u => P u z, k1.fr, by rw [List.append_nil], hx, hdx, hne, rfl, r1, w1, fun u H2 p s2 r2 => ⟨rfl, q u z (.ref x) H2 p (k1.step s2) (s1.trans (Gm.mono s2)) ((tC C ns U).same (k1.back s2) r2)⟩⟩⟩
/-- return e, e changes what was owned and is forgotten -/
theorem js_retX {S : ζ → Gm} {A : Ty α} {P : α → Prop} {e : Expr} {w : (α → ζ → Prop) → Prop} (hrt : RtOk F (rO A) P rt) (he : JEM X F g e A S w) : JSs X F g (.Return (some e) pos :: rest) ⟨nx, rt, bk, ct⟩ (w fun r _ => P r) :=
  pssW (pss_cons (ps_ret he) pss_never) fun D σ H ⟨e, o, q⟩ => ⟨o, _, q, fun a z v H' p k' s r => e.rt _ _ (hrt a v H' p k'.same (A.same (Gm.out (g := S z)) r))⟩
end
end J
namespace L2
open PySem PySem.Spec PyProof.Rows
theorem funD_one {K : PySem.W.Frag} {x qual kn : Str} {st : Stmt} {f D : Addr} {v1 : V} {u1 : Value} {oc : Value} {od an : Option Addr} {osl : Array (Option Value)} {doc pm cdv ct : Value} (l : K.lookup f = some ⟨oc, od, .func (PySem.W.fnOf x qual (defArgs st) (defBody st) (defScope st) .none (.ref D) doc pm an cdv ct), osl⟩)
    (c : PySem.W.codeIn K cdv qual = true) (k : PySem.W.keepIn K (.ref f) = true) (hd : PySem.W.nsIn K D kn = some (some u1)) (r1 : RelV v1 u1) : FunD K x qual (defArgs st) (defBody st) (defScope st) [] [(kn, v1)] f (PySem.W.fnOf x qual (defArgs st) (defBody st) (defScope st) .none (.ref D) doc pm an cdv ct) :=
  ⟨⟨oc, od, .none, .ref D, doc, pm, an, cdv, ct, osl, rfl, l, c, .inl ⟨rfl, rfl⟩, .inr ⟨D, rfl, fun q hq => by
    cases List.mem_singleton.mp hq
    exact ⟨u1, hd, r1⟩⟩⟩, k⟩
end L2
namespace J
open PySem PySem.Spec L2 PyProof.Rows ClX RZ
section
variable {X : Cx} {F : Fr} {g0 : Gm} {α ρ κ ι τ : Type} {pos : Pos}
/-- o.m(e, ..), e changes what is owned, too -/
theorem je_methMc {E : ι → κ → List Cell} {self : ι → Addr} {i : ι} {z : κ} {C dx : Addr} {i0 : Nat} {ns : List Str} {υ : Type} {U : ATy υ} {u0 : κ → υ} {m sx : Str} {f : Addr} {fd : FuncData} {ps : List Str} {A : Ty α} {T : ATy τ} {R : Ty ρ} {w : α × τ → κ → (ρ → κ → Prop) → Prop} {n : Nat} {e : Expr} {es : List Expr} {px apos : Pos} {w1 : (α → κ → Prop) → Prop} {u : κ → (τ → Prop) → Prop} {pl : Sem Bool}
    (c : Cls X.K C) (hm : Meth X.K C m f) (Fn : FnOk X.prog X.w X.K X.mg X.base CX0 n f fd ps (spJM (fun i us => .ref (self i) :: us) (aC A T) E R w)) (hr : Room n X.A) (hb : Binds X.K fd ps []) (hs : g0.s[i0]? = some (.at (self i))) (hc : ∀ z, (E i z)[0]? = some (.ins (self i) dx C ns U (u0 z))) (hl : ∀ vs : List V, vs.length = ns.length → (ns.zip vs).lookup m = none)
    (he : JEM X F (SH g0 (E i z)) e A (fun z1 => SH g0 (E i z1)) w1) (hes : ∀ z1, JA X F (SH g0 (E i z1)) es T (u z1))
    (hN : X.N[i0]? = some sx := by rfl) (hv : Vis X.env.scope sx := by first | exact Or.inl rfl | exact Or.inr (Or.inl rfl) | exact Or.inr (Or.inr rfl)) (hd : (sx == ("__debug__" : Str)) = false := by decide) (hcd : (sx == ("__classdict__" : Str)) = false := by decide)
    (hst : starEach (e :: es) X.env = (false, eval e X.env) :: starEach es X.env := by rfl) (hpl : (backTo pos (starEach es X.env)).any (·.1) = false := by rfl)
    (ht : eval (.Call (.Attribute (.Name sx px) m apos) (e :: es) [] pos) X.env = (do
      let ov ← eval (.Name sx px) X.env
      standAt apos.atName
      let (f, first) ← holding [ov] (getMethod ov m pl)
      callWith pos f first (backTo pos (starEach (e :: es) X.env)) (backToKw pos (keywordEach [] X.env))) := by rfl) :
    JEM X F (SH g0 (E i z)) (.Call (.Attribute (.Name sx px) m apos) (e :: es) [] pos) R (fun z' => SH g0 (E i z')) (fun k => w1 fun a z1 => u z1 fun t => w (a, t) z1 k) :=
  je_methM (T := aC A T) (w := w) (wa := fun k => w1 fun a z1 => u z1 fun t => k (a, t) z1) c hm Fn hr hb hs (hc z) hl (jam_cons he hes hst) hN hv hd hcd hst hpl ht
end
section
variable {K : PySem.W.Frag} {α β γ δ : Type}
/-- what is never None -/
class NeN (K : PySem.W.Frag) (A : Ty α) [POk α] [DecidableEq α] [d : Dat K A] : Prop where
  l : ∀ a, PyData.eqv .none (d.enc a) = false
  r : ∀ a, PyData.eqv (d.enc a) .none = false
instance {A : Ty α} {B : Ty β} [POk α] [DecidableEq α] [POk β] [DecidableEq β] [dA : Dat K A] [dB : Dat K B] : NeN K (tT K (a2 A B)) := ⟨fun a => by
  show PyData.eqv .none (.tuple _) = false
  simp [PyData.eqv], fun a => by
  show PyData.eqv (.tuple _) .none = false
  simp [PyData.eqv]⟩
instance {A : Ty α} [POk α] [DecidableEq α] [dA : Dat K A] : NeN K (tK A) := ⟨fun a => by
  show PyData.eqv .none (.list _) = false
  simp [PyData.eqv], fun a => by
  show PyData.eqv (.list _) .none = false
  simp [PyData.eqv]⟩
instance {A : Ty α} [POk α] [DecidableEq α] [dA : Dat K A] [nA : NeN K A] : Dat K (tO A) where
  enc := fun o => match o with | none => .none | some a => dA.enc a
  dp := fun {H v o} h => by
    cases o with
    | none =>
      have e : v = .non := h
      rw [e]
      exact .non
    | some a => exact dA.dp h.1
  lay := fun o h => by
    cases o with
    | none => simp [PyData.canLay0]
    | some a => exact dA.lay a (h a rfl)
  n := dA.n + 1
  dep := fun o h => by
    cases o with
    | none => simp [PyData.depth]
    | some a => exact Nat.le_succ_of_le (dA.dep a (h a rfl))
  eqv := fun a b => by
    cases a with
    | none => cases b with
      | none => simp [PyData.eqv]
      | some b =>
        show PyData.eqv .none (dA.enc b) = _
        rw [nA.l b]
        simp
    | some a => cases b with
      | none =>
        show PyData.eqv (dA.enc a) .none = _
        rw [nA.r a]
        simp
      | some b =>
        show PyData.eqv (dA.enc a) (dA.enc b) = _
        rw [dA.eqv a b]
        simp
instance {A : Ty α} {B : Ty β} {C : Ty γ} {D : Ty δ} [POk α] [DecidableEq α] [POk β] [DecidableEq β] [POk γ] [DecidableEq γ] [POk δ] [DecidableEq δ] [dA : Dat K A] [dB : Dat K B] [dC : Dat K C] [dD : Dat K D] : Dat K (tT K (a4 A B C D)) where
  enc := fun t => .tuple [dA.enc t.1, dB.enc t.2.1, dC.enc t.2.2.1, dD.enc t.2.2.2]
  dp := fun ⟨a, vs, e, hs, x, y, z, u, e2, h1, h2, h3, h4⟩ => by
    subst e e2
    exact .tup hs (.cons (dA.dp h1) (.cons (dB.dp h2) (.cons (dC.dp h3) (.cons (dD.dp h4) .nil))))
  lay := fun t h => by
    simp [PyData.canLay0, PyData.canLayAll0, dA.lay _ h.1, dB.lay _ h.2.1, dC.lay _ h.2.2.1, dD.lay _ h.2.2.2]
  n := max dA.n (max dB.n (max dC.n dD.n)) + 1
  dep := fun t hp => by
    have h1 := dA.dep t.1 hp.1
    have h2 := dB.dep t.2.1 hp.2.1
    have h3 := dC.dep t.2.2.1 hp.2.2.1
    have h4 := dD.dep t.2.2.2 hp.2.2.2
    simp only [PyData.depth, PyData.depthAll]
    omega
  eqv := fun s t => by
    obtain ⟨a, b, c, d⟩ := s
    obtain ⟨a', b', c', d'⟩ := t
    have h1 := dA.eqv a a'
    have h2 := dB.eqv b b'
    have h3 := dC.eqv c c'
    have h4 := dD.eqv d d'
    simp only [PyData.eqv, PyData.eqvAll, h1, h2, h3, h4, Bool.and_true]
    simp [Prod.ext_iff]
end
end J
namespace Slw
open PySem J
abbrev St_PairSearch := List ((List Int) × (List Int)) × List (((List Int) × (List Int)) × Int) × List (Int × Int) × List ((Int × Int) × Int) × List ((Int × Int) × (Int × Int)) × List (Int × Int) × Bool
def w_law_cell (script_2 : (List Int)) (k_3 : Int) (P : Int → Prop) : Prop :=
  (((decide (k_3 < ((script_2).length : Int))) = true → (∃ x5, ixI script_2 k_3 = some x5 ∧ P x5)) ∧ ((decide (k_3 < ((script_2).length : Int))) = false → P (0 : Int)))
def w_law_row (cell_here_30 : Int) (count_31 : Int) (P : (List Int) → Prop) : Prop :=
  (wLet ([]) fun (row_here_32 : (List Int)) => (wLet (cell_here_30 - ((10 : Int) ^ (18 : Int).toNat)) fun (rest_34 : Int) => ((-(2 ^ 62) ≤ count_31 ∧ count_31 < 2 ^ 62) ∧ (wFor (fun (k_36 : Int) (s35 : Int × (List Int)) (nxt37 brk38 : (Int × (List Int)) → Prop) => (((decide (((10 : Int) ^ (18 : Int).toNat) ≤ cell_here_30)) = true → (s35.2.length < 1000000 ∧ (wLet (s35.1 % (64 : Int)) fun (y41 : Int) => (wLet (s35.1 / (64 : Int)) fun (rest_42 : Int) => (nxt37 (rest_42, (s35.2 ++ [y41]))))))) ∧ ((decide (((10 : Int) ^ (18 : Int).toNat) ≤ cell_here_30)) = false → (wLet (((cell_here_30 * (48271 : Int)) + ((k_36 + (1 : Int)) * (69621 : Int))) % (2147483647 : Int)) fun (mixed_44 : Int) => (JMul mixed_44 (((mixed_44 / (46337 : Int)) + ((3 : Int) * k_36)) + (1 : Int)) ∧ (wLet ((mixed_44 * (((mixed_44 / (46337 : Int)) + ((3 : Int) * k_36)) + (1 : Int))) % (2147483399 : Int)) fun (mixed_45 : Int) => (s35.2.length < 1000000 ∧ (wLet ((mixed_45 / (7 : Int)) % (64 : Int)) fun (y46 : Int) => (nxt37 (s35.1, (s35.2 ++ [y46]))))))))))) (fun (s35 : Int × (List Int)) => P s35.2) (rangeI 0 count_31) (rest_34, row_here_32)))))
def w_law_order (cell_here_24 : Int) (size_25 : Int) (P : (List Int) → Prop) : Prop :=
  ((-1000000 ≤ size_25 ∧ size_25 ≤ 1000000) ∧ (wLet (rangeI 0 size_25) fun (pool_26 : (List Int)) => (wLet ([]) fun (order_here_28 : (List Int)) => (w_law_row (cell_here_24) (size_25) fun r56 => (wLet r56 fun (xs48 : List Int) => (wFor (fun (digit_50 : Int) (s49 : (List Int) × (List Int)) (nxt51 brk52 : ((List Int) × (List Int)) → Prop) => (0 < ((s49.2).length : Int) ∧ ((0 ≤ (digit_50 % ((s49.2).length : Int)) ∧ (digit_50 % ((s49.2).length : Int)) < ((s49.2).length : Int)) ∧ (s49.1).length < 1000000 ∧ (s49.2).length < 1000000 ∧ ∃ y54 : Int, (s49.2)[((digit_50 % ((s49.2).length : Int))).toNat]? = some y54 ∧ (wLet ((s49.2).eraseIdx ((digit_50 % ((s49.2).length : Int))).toNat) fun (pool_55 : List Int) => (nxt51 ((s49.1 ++ [y54]), pool_55)))))) (fun (s49 : (List Int) × (List Int)) => P s49.1) xs48 (order_here_28, pool_26)))))))
def w_law_moved (lists_72 : (List (List Int))) (numbers_73 : (List Int)) (P : (List (List Int)) → Prop) : Prop :=
  ((numbers_73).length < 1000000 ∧ (wComp (fun (room_76 : Int) (N77 : Int → Prop) => (N77 (0 : Int))) numbers_73 [] fun (made_78 : List Int) => ((numbers_73).length < 1000000 ∧ (wComp (fun (room_81 : Int) (N82 : Int → Prop) => (N82 (0 : Int))) numbers_73 [] fun (made_83 : List Int) => (wLet made_78 fun (moved_here_87 : List Int) => (wLet made_83 fun (moved_here_88 : List Int) => ((-(2 ^ 62) ≤ ((numbers_73).length : Int) ∧ ((numbers_73).length : Int) < 2 ^ 62) ∧ (wFor (fun (k_90 : Int) (s89 : (List Int) × (List Int)) (nxt91 brk92 : ((List Int) × (List Int)) → Prop) => (∃ x94, ixI lists_72 (0 : Int) = some x94 ∧ (∃ x95, ixI x94 k_90 = some x95 ∧ (∃ x96, ixI numbers_73 x95 = some x96 ∧ (∃ x97, ixI numbers_73 k_90 = some x97 ∧ (∃ m99, ixW (s89.2).length x97 = some m99 ∧ (wLet ((s89.2).set m99 x96) fun (moved_here_98 : List Int) => (∃ x100, ixI lists_72 (1 : Int) = some x100 ∧ (∃ x101, ixI x100 k_90 = some x101 ∧ (∃ x102, ixI numbers_73 x101 = some x102 ∧ (∃ x103, ixI numbers_73 k_90 = some x103 ∧ (∃ m105, ixW (s89.1).length x103 = some m105 ∧ (wLet ((s89.1).set m105 x102) fun (moved_here_104 : List Int) => (nxt91 (moved_here_104, moved_here_98))))))))))))))) (fun (s89 : (List Int) × (List Int)) => P [s89.2, s89.1]) (rangeI 0 ((numbers_73).length : Int)) (moved_here_88, moved_here_87)))))))))
def w_law_plan (one_7 : Int) (two_8 : Int) (three_9 : Int) (P : (List (List Int)) → Prop) : Prop :=
  (wLet (one_7 % (4 : Int)) fun (kind_10 : Int) => (wLet ((1 : Int) + ((one_7 / (4 : Int)) % (3 : Int))) fun (size_11 : Int) => (((decide (kind_10 = (1 : Int))) = true → (wLet ((1 : Int) + ((one_7 / (4 : Int)) % (6 : Int))) fun (size_13 : Int) => ((-(2 ^ 62) ≤ size_13 ∧ size_13 < 2 ^ 62) ∧ (((rangeI 0 size_13)).length < 1000000 ∧ (wComp (fun (room_16 : Int) (N17 : Int → Prop) => (0 < size_13 ∧ (N17 ((room_16 + two_8) % size_13)))) (rangeI 0 size_13) [] fun (made_18 : List Int) => ((-(2 ^ 62) ≤ size_13 ∧ size_13 < 2 ^ 62) ∧ (((rangeI 0 size_13)).length < 1000000 ∧ (wComp (fun (room_21 : Int) (N22 : Int → Prop) => (0 < size_13 ∧ (N22 ((room_21 + three_9) % size_13)))) (rangeI 0 size_13) [] fun (made_23 : List Int) => (([made_18, made_23] : List (List Int)).length ≤ 1000 ∧ P ([made_18, made_23])))))))))) ∧ ((decide (kind_10 = (1 : Int))) = false → (w_law_order (two_8) (size_11) fun r78 => (w_law_order (three_9) (size_11) fun r79 => (([r78, r79] : List (List Int)).length ≤ 1000 ∧ (wLet ([r78, r79]) fun (lists_57 : (List (List Int))) => (wJoin (fun (s58 : (List (List Int))) => P s58) fun (J59 : (List (List Int)) → Prop) => (((decide (kind_10 = (2 : Int))) = true → (JMul size_11 ((2 : Int) + ((one_7 / (12 : Int)) % (2 : Int))) ∧ (wLet (size_11 * ((2 : Int) + ((one_7 / (12 : Int)) % (2 : Int)))) fun (many_61 : Int) => ((lists_57).length < 1000000 ∧ (wComp (fun (side_64 : (List Int)) (N71 : (List Int) → Prop) => ((-(2 ^ 62) ≤ many_61 ∧ many_61 < 2 ^ 62) ∧ (((rangeI 0 many_61)).length < 1000000 ∧ (wComp (fun (k_67 : Int) (N69 : Int → Prop) => (JDiv size_11 ∧ (JMul size_11 (k_67 / size_11) ∧ (0 < size_11 ∧ (∃ x68, ixI side_64 (k_67 % size_11) = some x68 ∧ (N69 ((size_11 * (k_67 / size_11)) + x68))))))) (rangeI 0 many_61) [] fun (made_70 : List Int) => (N71 made_70))))) lists_57 [] fun (made_72 : List (List Int)) => (wLet made_72 fun (lists_73 : (List (List Int))) => (w_law_order ((one_7 / (24 : Int))) (many_61) fun r76 => (w_law_moved (lists_73) (r76) fun r75 => (wLet r75 fun (lists_74 : (List (List Int))) => (J59 lists_74)))))))))) ∧ ((decide (kind_10 = (2 : Int))) = false → (J59 lists_57))))))))))))
def w_law_second (script_81 : (List Int)) (lists_82 : (List (List Int))) (P : (List (List Int)) → Prop) : Prop :=
  (w_law_cell (script_81) ((6 : Int)) fun r97 => (wLet (r97 % (4 : Int)) fun (choice_83 : Int) => (((decide (choice_83 = (2 : Int))) = true → (w_law_cell (script_81) ((7 : Int)) fun r88 => (∃ x85, ixI lists_82 (0 : Int) = some x85 ∧ (w_law_order (r88) (((x85).length : Int)) fun r87 => (w_law_moved (lists_82) (r87) fun r86 => P r86))))) ∧ ((decide (choice_83 = (2 : Int))) = false → (((decide (choice_83 = (3 : Int))) = true → (∃ x90, ixI lists_82 (1 : Int) = some x90 ∧ (∃ x91, ixI lists_82 (0 : Int) = some x91 ∧ (([x90, x91] : List (List Int)).length ≤ 1000 ∧ P ([x90, x91]))))) ∧ ((decide (choice_83 = (3 : Int))) = false → (w_law_cell (script_81) ((3 : Int)) fun r96 => (wLet r96 fun (kind_92 : Int) => (w_law_cell (script_81) ((4 : Int)) fun r94 => (w_law_cell (script_81) ((5 : Int)) fun r95 => (w_law_plan ((kind_92 + (if (decide ((kind_92 % (4 : Int)) = (2 : Int))) then (1 : Int) else 0))) (r94) (r95) fun r93 => P r93)))))))))))
def w_law_direction (one_107 : Int) (two_108 : Int) (least_109 : Int) (P : (Int × Int) → Prop) : Prop :=
  (0 < ((10 : Int) ^ (39 : Int).toNat) ∧ (wLet (least_109 + (one_107 % ((10 : Int) ^ (39 : Int).toNat))) fun (p_110 : Int) => (0 < ((10 : Int) ^ (39 : Int).toNat) ∧ (wLet (least_109 + (two_108 % ((10 : Int) ^ (39 : Int).toNat))) fun (q_111 : Int) => (wLet p_110 fun (common_112 : Int) => (wLet q_111 fun (rest_113 : Int) => (wWhile (fun (s114 : Int × Int) (kA121 kB122 : Prop) => (((decide ((0 : Int) < s114.2)) = true → kA121) ∧ ((decide ((0 : Int) < s114.2)) = false → kB122))) (fun (s114 : Int × Int) (nxt115 brk116 : (Int × Int) → Prop) => (0 < s114.2 ∧ (wLet s114.2 fun (common_118 : Int) => (wLet (s114.1 % s114.2) fun (rest_119 : Int) => (nxt115 (common_118, rest_119)))))) (fun (s114 : Int × Int) => (((decide (s114.1 = (0 : Int))) = true → P ((1 : Int), (1 : Int))) ∧ ((decide (s114.1 = (0 : Int))) = false → (JDiv s114.1 ∧ (JDiv s114.1 ∧ P ((p_110 / s114.1), (q_111 / s114.1))))))) (common_112, rest_113))))))))
def w_is_order (rooms_128 : (List Int)) (size_129 : Int) (P : Bool → Prop) : Prop :=
  (∀ sorted_130 : List Int, sorted_130.Perm rooms_128 → sorted_130.Pairwise (· ≤ ·) → ((-1000000 ≤ size_129 ∧ size_129 ≤ 1000000) ∧ (POk.pok (sorted_130 : (List Int)) ∧ POk.pok ((rangeI 0 size_129) : (List Int)) ∧ P (decide ((sorted_130 : (List Int)) = (rangeI 0 size_129))))))
def w_Plan___init__ (right_124 : (List Int)) (above_125 : (List Int)) (P : ((List Int) × (List Int)) → Prop) : Prop :=
  (wLet ((right_124).length : Int) fun (size_126 : Int) => ((decide ((1 : Int) ≤ size_126) = true → ((decide (size_126 ≤ (100 : Int)) = true → (w_is_order (right_124) (size_126) fun r136 => ((r136 = true → (w_is_order (above_125) (size_126) fun r135 => ((r135 = true → (wLet right_124 fun (f133 : (List Int)) => (wLet above_125 fun (f134 : (List Int)) => P (f133, f134)))) ∧ (r135 = false → False)))) ∧ (r136 = false → False)))) ∧ (decide (size_126 ≤ (100 : Int)) = false → False))) ∧ (decide ((1 : Int) ≤ size_126) = false → False)))
def w_PairSearch__number_of (pair_164 : (Int × Int)) (beside_165 : ((Int × Int) × (Int × Int))) (oz163 : St_PairSearch) (P : Int → St_PairSearch → Prop) : Prop :=
  ((oz163.2.2.2.1).length < 1000000 ∧ (∀ v, getJ oz163.2.2.2.1 pair_164 = some v → (wLet v fun (number_166 : Int) => (wJoin (fun (s168 : (List (Int × Int)) × (List ((Int × Int) × (Int × Int)))) => (P number_166 (oz163.1, oz163.2.1, s168.1, oz163.2.2.2.1, s168.2, oz163.2.2.2.2.2.1, oz163.2.2.2.2.2.2))) fun (J169 : ((List (Int × Int)) × (List ((Int × Int) × (Int × Int)))) → Prop) => (((decide (number_166 = ((oz163.2.2.1).length : Int))) = true → ((oz163.2.2.1).length < 1000000 ∧ (wLet pair_164 fun (y171 : (Int × Int)) => ((oz163.2.2.2.2.1).length < 1000000 ∧ (wLet beside_165 fun (y172 : ((Int × Int) × (Int × Int))) => (J169 ((oz163.2.2.1 ++ [y171]), (oz163.2.2.2.2.1 ++ [y172])))))))) ∧ ((decide (number_166 = ((oz163.2.2.1).length : Int))) = false → (J169 (oz163.2.2.1, oz163.2.2.2.2.1))))))) ∧ (getJ oz163.2.2.2.1 pair_164 = none → (wLet ((oz163.2.2.1).length : Int) fun (number_166 : Int) => (wJoin (fun (s168 : (List (Int × Int)) × (List ((Int × Int) × (Int × Int)))) => (P number_166 (oz163.1, oz163.2.1, s168.1, (oz163.2.2.2.1 ++ [(pair_164, ((oz163.2.2.1).length : Int))]), s168.2, oz163.2.2.2.2.2.1, oz163.2.2.2.2.2.2))) fun (J169 : ((List (Int × Int)) × (List ((Int × Int) × (Int × Int)))) → Prop) => (((decide (number_166 = ((oz163.2.2.1).length : Int))) = true → ((oz163.2.2.1).length < 1000000 ∧ (wLet pair_164 fun (y171 : (Int × Int)) => ((oz163.2.2.2.2.1).length < 1000000 ∧ (wLet beside_165 fun (y172 : ((Int × Int) × (Int × Int))) => (J169 ((oz163.2.2.1 ++ [y171]), (oz163.2.2.2.2.1 ++ [y172])))))))) ∧ ((decide (number_166 = ((oz163.2.2.1).length : Int))) = false → (J169 (oz163.2.2.1, oz163.2.2.2.2.1))))))))
def w_WalkTable_form (self_179 : ((List Int) × (List Int))) (P : ((List Int) × (List Int)) → Prop) : Prop :=
  P (self_179.1, self_179.2)
def w_PairSearch__table_number (table_178 : ((List Int) × (List Int))) (oz177 : St_PairSearch) (P : Int → St_PairSearch → Prop) : Prop :=
  (w_WalkTable_form table_178 fun r187 => ((oz177.2.1).length < 1000000 ∧ (∀ v, getJ oz177.2.1 r187 = some v → (wLet v fun (number_180 : Int) => (wJoin (fun (s182 : (List ((List Int) × (List Int)))) => (P number_180 (s182, oz177.2.1, oz177.2.2.1, oz177.2.2.2.1, oz177.2.2.2.2.1, oz177.2.2.2.2.2.1, oz177.2.2.2.2.2.2))) fun (J183 : (List ((List Int) × (List Int))) → Prop) => (((decide (number_180 = ((oz177.1).length : Int))) = true → ((oz177.1).length < 1000000 ∧ (wLet table_178 fun (y185 : ((List Int) × (List Int))) => (J183 (oz177.1 ++ [y185]))))) ∧ ((decide (number_180 = ((oz177.1).length : Int))) = false → (J183 oz177.1)))))) ∧ (getJ oz177.2.1 r187 = none → (wLet ((oz177.1).length : Int) fun (number_180 : Int) => (wJoin (fun (s182 : (List ((List Int) × (List Int)))) => (P number_180 (s182, (oz177.2.1 ++ [(r187, ((oz177.1).length : Int))]), oz177.2.2.1, oz177.2.2.2.1, oz177.2.2.2.2.1, oz177.2.2.2.2.2.1, oz177.2.2.2.2.2.2))) fun (J183 : (List ((List Int) × (List Int))) → Prop) => (((decide (number_180 = ((oz177.1).length : Int))) = true → ((oz177.1).length < 1000000 ∧ (wLet table_178 fun (y185 : ((List Int) × (List Int))) => (J183 (oz177.1 ++ [y185]))))) ∧ ((decide (number_180 = ((oz177.1).length : Int))) = false → (J183 oz177.1))))))))
def w_neighbors_after (runs_196 : (List (Str × Int))) (P : ((Int × Int) × (Int × Int)) → Prop) : Prop :=
  (wLet ((1 : Int), (0 : Int)) fun (t197 : (Int × Int)) => (wLet ((0 : Int), (1 : Int)) fun (t198 : (Int × Int)) => (wLet runs_196 fun (xs200 : List (Str × Int)) => (wFor (fun (x202 : (Str × Int)) (s201 : Int × Int × Int × Int) (nxt203 brk204 : (Int × Int × Int × Int) → Prop) => (((decide (x202.1 = ("flat" : Str))) = true → (JMul x202.2 s201.1 ∧ (JMul x202.2 s201.2.1 ∧ (wLet (s201.2.2.1 + (x202.2 * s201.1)) fun (c_207 : Int) => (wLet (s201.2.2.2 + (x202.2 * s201.2.1)) fun (d_208 : Int) => (nxt203 (s201.1, s201.2.1, c_207, d_208))))))) ∧ ((decide (x202.1 = ("flat" : Str))) = false → (JMul x202.2 s201.2.2.1 ∧ (JMul x202.2 s201.2.2.2 ∧ (wLet (s201.1 + (x202.2 * s201.2.2.1)) fun (a_210 : Int) => (wLet (s201.2.1 + (x202.2 * s201.2.2.2)) fun (b_211 : Int) => (nxt203 (a_210, b_211, s201.2.2.1, s201.2.2.2))))))))) (fun (s201 : Int × Int × Int × Int) => P ((s201.1, s201.2.1), (s201.2.2.1, s201.2.2.2))) xs200 (t197.1, t197.2, t198.1, t198.2)))))
def w_check_direction (p_216 : Int) (q_217 : Int) (P : Unit → Prop) : Prop :=
  (((decide (p_216 < (0 : Int))) = true → False) ∧ ((decide (p_216 < (0 : Int))) = false → (((decide (q_217 < (0 : Int))) = true → False) ∧ ((decide (q_217 < (0 : Int))) = false → (((!decide (((Nat.gcd (p_216).natAbs (q_217).natAbs : Nat) : Int) = (1 : Int))) = true → False) ∧ ((!decide (((Nat.gcd (p_216).natAbs (q_217).natAbs : Nat) : Int) = (1 : Int))) = false → P ()))))))
def w_check_in_tree (p_214 : Int) (q_215 : Int) (P : Unit → Prop) : Prop :=
  (w_check_direction (p_214) (q_215) fun r222 => (((decide (p_214 = (0 : Int))) = true → False) ∧ ((decide (p_214 = (0 : Int))) = false → (((decide (q_215 = (0 : Int))) = true → False) ∧ ((decide (q_215 = (0 : Int))) = false → P ())))))
def w_steps (p_212 : Int) (q_213 : Int) (P : (List (Str × Int)) → Prop) : Prop :=
  (w_check_in_tree (p_212) (q_213) fun r239 => (wLet ([]) fun (runs_223 : (List (Str × Int))) => (wWhile (fun (s225 : Int × Int × (List (Str × Int))) (kA237 kB238 : Prop) => (((!decide (s225.1 = s225.2.1)) = true → kA237) ∧ ((!decide (s225.1 = s225.2.1)) = false → kB238))) (fun (s225 : Int × Int × (List (Str × Int))) (nxt226 brk227 : (Int × Int × (List (Str × Int))) → Prop) => (((decide (s225.2.1 < s225.1)) = true → (JDiv s225.2.1 ∧ (wLet ((s225.1 - (1 : Int)) / s225.2.1) fun (count_230 : Int) => (s225.2.2.length < 1000000 ∧ (wLet (("flat" : Str), count_230) fun (y231 : (Str × Int)) => (JMul count_230 s225.2.1 ∧ (wLet (s225.1 - (count_230 * s225.2.1)) fun (p_232 : Int) => (nxt226 (p_232, s225.2.1, (s225.2.2 ++ [y231])))))))))) ∧ ((decide (s225.2.1 < s225.1)) = false → (JDiv s225.1 ∧ (wLet ((s225.2.1 - (1 : Int)) / s225.1) fun (count_234 : Int) => (s225.2.2.length < 1000000 ∧ (wLet (("steep" : Str), count_234) fun (y235 : (Str × Int)) => (JMul count_234 s225.1 ∧ (wLet (s225.2.1 - (count_234 * s225.1)) fun (q_236 : Int) => (nxt226 (s225.1, q_236, (s225.2.2 ++ [y235])))))))))))) (fun (s225 : Int × Int × (List (Str × Int))) => P s225.2.2) (p_212, q_213, runs_223))))
def w_neighbors (p_194 : Int) (q_195 : Int) (P : ((Int × Int) × (Int × Int)) → Prop) : Prop :=
  (w_steps (p_194) (q_195) fun r241 => (w_neighbors_after (r241) fun r240 => P r240))
def w_PairSearch___init__ (pair_146 : (((List Int) × (List Int)) × ((List Int) × (List Int)))) (under_147 : (Option (Int × Int))) (P : St_PairSearch → Prop) : Prop :=
  (wLet ([]) fun (f149 : List ((List Int) × (List Int))) => (wLet ([]) fun (f152 : List (Int × Int)) => (wLet ([]) fun (f155 : List ((Int × Int) × (Int × Int))) => (wLet ([]) fun (f157 : List (Int × Int)) => (wLet (under_147.isNone) fun (f158 : Bool) => (((under_147.isNone) = true → (wLet ((1 : Int), (1 : Int)) fun (t160 : (Int × Int)) => (wLet pair_146 fun (t161 : (((List Int) × (List Int)) × ((List Int) × (List Int)))) => (w_PairSearch__table_number t161.1 (f149, [], f152, [], f155, f157, f158) fun (r188 : Int) (z189 : St_PairSearch) => (w_PairSearch__table_number t161.2 z189 fun (r191 : Int) (z192 : St_PairSearch) => (w_neighbors (t160.1) (t160.2) fun r243 => (w_PairSearch__number_of (r188, r191) r243 z192 fun (r174 : Int) (z175 : St_PairSearch) => (P z175)))))))) ∧ ((under_147.isNone) = false → (∃ o159, under_147 = some o159 ∧ (wLet o159 fun (t160 : (Int × Int)) => (wLet pair_146 fun (t161 : (((List Int) × (List Int)) × ((List Int) × (List Int)))) => (w_PairSearch__table_number t161.1 (f149, [], f152, [], f155, f157, f158) fun (r188 : Int) (z189 : St_PairSearch) => (w_PairSearch__table_number t161.2 z189 fun (r191 : Int) (z192 : St_PairSearch) => (w_neighbors (t160.1) (t160.2) fun r243 => (w_PairSearch__number_of (r188, r191) r243 z192 fun (r174 : Int) (z175 : St_PairSearch) => (P z175)))))))))))))))
def w_side_by_side (one_246 : (List Int)) (two_247 : (List Int)) (P : (List Int) → Prop) : Prop :=
  (wLet ((one_246).length : Int) fun (shift_248 : Int) => ((two_247).length < 1000000 ∧ (wComp (fun (room_251 : Int) (N252 : Int → Prop) => (N252 (room_251 + shift_248))) two_247 [] fun (made_253 : List Int) => (wLet made_253 fun (shifted_254 : (List Int)) => (((one_246 ++ (shifted_254 ++ ([] : List Int)))).length ≤ 1000000 ∧ P (one_246 ++ (shifted_254 ++ ([] : List Int))))))))
def w_Plan_right (self_255 : ((List Int) × (List Int))) (P : (List Int) → Prop) : Prop :=
  P self_255.1
def w_Plan_above (self_257 : ((List Int) × (List Int))) (P : (List Int) → Prop) : Prop :=
  P self_257.2
def w_WalkTable___init__ (ends_260 : (List Int)) (marks_261 : (List Int)) (P : ((List Int) × (List Int)) → Prop) : Prop :=
  (wLet ends_260 fun (f262 : (List Int)) => (wLet marks_261 fun (f263 : (List Int)) => P (f262, f263)))
def w_without_marks (ends_259 : (List Int)) (P : ((List Int) × (List Int)) → Prop) : Prop :=
  (([(0 : Int)] : List Int).length ≤ 1000 ∧ ((-1000000 ≤ ((ends_259).length : Int) ∧ ((ends_259).length : Int) ≤ 1000000 ∧ ([(0 : Int)]).length * (((ends_259).length : Int)).toNat ≤ 1000000) ∧ (w_WalkTable___init__ (ends_259) ((List.replicate (((ends_259).length : Int)).toNat ([(0 : Int)])).flatten) fun r264 => P r264)))
def w_side_tables (plan_244 : ((List Int) × (List Int))) (other_245 : ((List Int) × (List Int))) (P : (((List Int) × (List Int)) × ((List Int) × (List Int))) → Prop) : Prop :=
  (w_Plan_right plan_244 fun r271 => (w_Plan_right other_245 fun r272 => (w_side_by_side (r271) (r272) fun r270 => (wLet r270 fun (right_256 : (List Int)) => (w_Plan_above plan_244 fun r268 => (w_Plan_above other_245 fun r269 => (w_side_by_side (r268) (r269) fun r267 => (wLet r267 fun (above_258 : (List Int)) => (w_without_marks (right_256) fun r265 => (w_without_marks (above_258) fun r266 => P (r265, r266)))))))))))
def w_PairSearch__first_direction (number_312 : Int) (oz311 : St_PairSearch) (P : (Int × Int) → St_PairSearch → Prop) : Prop :=
  (∃ x313, ixI oz311.2.2.2.2.1 number_312 = some x313 ∧ (wLet x313 fun (t314 : ((Int × Int) × (Int × Int))) => (P ((t314.1.1 + t314.2.1), (t314.1.2 + t314.2.2)) oz311)))
def w_WalkTable_size (self_327 : ((List Int) × (List Int))) (P : Int → Prop) : Prop :=
  P ((self_327.1).length : Int)
def w_WalkTable___mul__ (self_325 : ((List Int) × (List Int))) (other_326 : ((List Int) × (List Int))) (P : ((List Int) × (List Int)) → Prop) : Prop :=
  (w_WalkTable_size self_325 fun r344 => (w_WalkTable_size other_326 fun r345 => (((!decide (r344 = r345)) = true → False) ∧ ((!decide (r344 = r345)) = false → ((self_325.1).length < 1000000 ∧ (wComp (fun (there_331 : Int) (N333 : Int → Prop) => (∃ x332, ixI other_326.1 there_331 = some x332 ∧ (N333 x332))) self_325.1 [] fun (made_334 : List Int) => (wLet made_334 fun (ends_335 : (List Int)) => (((List.zip self_325.1 self_325.2)).length < 1000000 ∧ (wComp (fun (x338 : (Int × Int)) (N340 : Int → Prop) => (∃ x339, ixI other_326.2 x338.1 = some x339 ∧ ((0 ≤ x338.2 ∧ 0 ≤ x339) ∧ (N340 (orJ x338.2 x339))))) (List.zip self_325.1 self_325.2) [] fun (made_341 : List Int) => (wLet made_341 fun (marks_342 : (List Int)) => (w_WalkTable___init__ (ends_335) (marks_342) fun r343 => P r343)))))))))))
def w_PairSearch__visit (number_320 : Int) (oz319 : St_PairSearch) (P : ((List Int) × (List Int)) → St_PairSearch → Prop) : Prop :=
  (∃ x321, ixI oz319.2.2.1 number_320 = some x321 ∧ (wLet x321 fun (t322 : (Int × Int)) => (∃ x323, ixI oz319.1 t322.1 = some x323 ∧ (∃ x324, ixI oz319.1 t322.2 = some x324 ∧ (w_WalkTable___mul__ x323 x324 fun r366 => (wLet r366 fun (table_346 : ((List Int) × (List Int))) => (w_PairSearch__table_number table_346 oz319 fun (r347 : Int) (z348 : St_PairSearch) => (wLet r347 fun (joined_349 : Int) => (∃ x351, ixI z348.2.2.2.2.1 number_320 = some x351 ∧ (wLet x351 fun (t352 : ((Int × Int) × (Int × Int))) => (w_PairSearch__first_direction number_320 z348 fun (r353 : (Int × Int)) (z354 : St_PairSearch) => (wLet r353 fun (direction_355 : (Int × Int)) => (w_PairSearch__number_of (t322.1, joined_349) (t352.1, direction_355) z354 fun (r357 : Int) (z358 : St_PairSearch) => (wLet r357 fun (flat_359 : Int) => (w_PairSearch__number_of (joined_349, t322.2) (direction_355, t352.2) z358 fun (r361 : Int) (z362 : St_PairSearch) => (wLet r361 fun (steep_363 : Int) => ((z362.2.2.2.2.2.1).length < 1000000 ∧ (wLet (flat_359, steep_363) fun (y365 : (Int × Int)) => (P table_346 (z362.1, z362.2.1, z362.2.2.1, z362.2.2.2.1, z362.2.2.2.2.1, (z362.2.2.2.2.2.1 ++ [y365]), z362.2.2.2.2.2.2))))))))))))))))))))
def w_PairSearch_asked (τ : Type) (limit_277 : Int) (oz276 : St_PairSearch) (n278 : Nat) (u279 : τ) (Y : ((Int × Int) × ((List Int) × (List Int))) → τ → (τ → Prop) → Prop) (K : St_PairSearch → τ → Prop) : Prop :=
  (wJoin (fun (q381 : (Unit) × Nat × τ) => (wJoin (fun (s297 : Int) => (wWhile (fun (q376 : (St_PairSearch × Int) × Nat × τ) (kA379 kB380 : Prop) => (((decide (q376.1.2 < ((q376.1.1.2.2.1).length : Int))) = true → kA379) ∧ ((decide (q376.1.2 < ((q376.1.1.2.2.1).length : Int))) = false → kB380))) (fun (q377 : (St_PairSearch × Int) × Nat × τ) (nxt302 brk303 : ((St_PairSearch × Int) × Nat × τ) → Prop) => (((decide (q377.1.2 = limit_277)) = true → False) ∧ ((decide (q377.1.2 = limit_277)) = false → (∃ m370 : Nat, q377.2.1 = m370 + 1 ∧ (w_PairSearch__first_direction q377.1.2 q377.1.1 fun (r315 : (Int × Int)) (z316 : St_PairSearch) => (w_PairSearch__visit q377.1.2 z316 fun (r367 : ((List Int) × (List Int))) (z368 : St_PairSearch) => (Y (r315, r367) q377.2.2 fun (u371 : τ) => (wJoin (fun (s372 : Int) => (nxt302 ((z368, s372), m370, u371))) fun (J373 : Int → Prop) => (wLet (q377.1.2 + (1 : Int)) fun (number_375 : Int) => (J373 number_375)))))))))) (fun (q378 : (St_PairSearch × Int) × Nat × τ) => (K q378.1.1 q378.2.2)) ((oz276, s297), q381.2.1, q381.2.2))) fun (J298 : Int → Prop) => (wLet (0 : Int) fun (number_300 : Int) => (J298 number_300)))) fun (J281 : ((Unit) × Nat × τ) → Prop) => ((oz276.2.2.2.2.2.2 = true → (wJoin (fun (s285 : Int × Int) => (∃ m291 : Nat, n278 = m291 + 1 ∧ (∃ x290, ixI oz276.1 s285.1 = some x290 ∧ (Y (((1 : Int), (0 : Int)), x290) u279 fun (u292 : τ) => (∃ m294 : Nat, m291 = m294 + 1 ∧ (∃ x293, ixI oz276.1 s285.2 = some x293 ∧ (Y (((0 : Int), (1 : Int)), x293) u292 fun (u295 : τ) => (J281 ((), m294, u295))))))))) fun (J286 : (Int × Int) → Prop) => (∃ x288, ixI oz276.2.2.1 (0 : Int) = some x288 ∧ (wLet x288 fun (t289 : (Int × Int)) => (J286 (t289.1, t289.2)))))) ∧ (oz276.2.2.2.2.2.2 = false → (J281 ((), n278, u279)))))
def w_ring_from (start_401 : Int) (ends_402 : (List Int)) (P : (List Int) → Prop) : Prop :=
  (([start_401] : List Int).length ≤ 1000 ∧ (wLet ([start_401]) fun (members_403 : (List Int)) => (∃ x405, ixI ends_402 start_401 = some x405 ∧ (wLet x405 fun (room_406 : Int) => (wWhile (fun (s407 : Int × (List Int)) (kA414 kB415 : Prop) => (((!decide (s407.1 = start_401)) = true → kA414) ∧ ((!decide (s407.1 = start_401)) = false → kB415))) (fun (s407 : Int × (List Int)) (nxt408 brk409 : (Int × (List Int)) → Prop) => (s407.2.length < 1000000 ∧ (wLet s407.1 fun (y411 : Int) => (∃ x412, ixI ends_402 s407.1 = some x412 ∧ (wLet x412 fun (room_413 : Int) => (nxt408 (room_413, (s407.2 ++ [y411])))))))) (fun (s407 : Int × (List Int)) => P s407.2) (room_406, members_403))))))
def w_rooms_in (mark_428 : Int) (P : (List Int) → Prop) : Prop :=
  ((-(2 ^ 62) ≤ ((Builtin.Int.intBits mark_428 : Nat) : Int) ∧ ((Builtin.Int.intBits mark_428 : Nat) : Int) < 2 ^ 62) ∧ (((rangeI 0 ((Builtin.Int.intBits mark_428 : Nat) : Int))).length < 1000000 ∧ (wCompF (fun (room_431 : Int) (kA432 kB433 : Prop) => (0 ≤ room_431 ∧ ((0 ≤ (mark_428 / 2 ^ (room_431).toNat) ∧ 0 ≤ (1 : Int)) ∧ (((decide ((andJ (mark_428 / 2 ^ (room_431).toNat) (1 : Int)) = (1 : Int))) = true → kA432) ∧ ((decide ((andJ (mark_428 / 2 ^ (room_431).toNat) (1 : Int)) = (1 : Int))) = false → kB433))))) (fun (room_431 : Int) (N434 : Int → Prop) => (N434 room_431)) (rangeI 0 ((Builtin.Int.intBits mark_428 : Nat) : Int)) [] fun (made_435 : List Int) => P made_435)))
def w_rings_of (table_390 : ((List Int) × (List Int))) (P : (List (Int × Int × (List Int))) → Prop) : Prop :=
  (w_WalkTable_form table_390 fun r441 => (wLet r441 fun (t391 : ((List Int) × (List Int))) => (wLet ([]) fun (rings_393 : (List (Int × Int × (List Int)))) => (w_WalkTable_size table_390 fun r440 => ((-(2 ^ 62) ≤ r440 ∧ r440 < 2 ^ 62) ∧ (wFor (fun (start_396 : Int) (s395 : (List (Int × Int × (List Int))) × (List Int)) (nxt397 brk398 : ((List (Int × Int × (List Int))) × (List Int)) → Prop) => (((!memJ start_396 s395.2) = true → (w_ring_from (start_396) (t391.1) fun r438 => (wLet r438 fun (members_416 : (List Int)) => (wLet (0 : Int) fun (mark_417 : Int) => (wLet members_416 fun (xs419 : List Int) => (wFor (fun (room_421 : Int) (s420 : Int × (List Int)) (nxt422 brk423 : (Int × (List Int)) → Prop) => ((s420.2).length < 4000 ∧ (wLet (addJ s420.2 room_421) fun (placed_425 : List Int) => (∃ x426, ixI t391.2 room_421 = some x426 ∧ ((0 ≤ s420.1 ∧ 0 ≤ x426) ∧ (wLet (orJ s420.1 x426) fun (mark_427 : Int) => (nxt422 (mark_427, placed_425)))))))) (fun (s420 : Int × (List Int)) => (w_rooms_in (s420.1) fun r437 => (s395.1.length < 1000000 ∧ (wLet (start_396, ((members_416).length : Int), r437) fun (y436 : (Int × Int × (List Int))) => (nxt397 ((s395.1 ++ [y436]), s420.2)))))) xs419 (mark_417, s395.2))))))) ∧ ((!memJ start_396 s395.2) = false → (nxt397 (s395.1, s395.2))))) (fun (s395 : (List (Int × Int × (List Int))) × (List Int)) => P s395.1) (rangeI 0 r440) (rings_393, [])))))))
def w_rounds_of (rings_459 : (List (Int × Int × (List Int)))) (P : (List Int) → Prop) : Prop :=
  ((rings_459).length < 1000000 ∧ (wComp (fun (x462 : (Int × Int × (List Int))) (N463 : Int → Prop) => (N463 x462.2.1)) rings_459 [] fun (made_464 : List Int) => (∀ sorted_465 : List Int, sorted_465.Perm made_464 → sorted_465.Pairwise (· ≤ ·) → P sorted_465)))
def w_two_lists (table_388 : ((List Int) × (List Int))) (size_389 : Int) (P : ((List Int) × (List Int)) → Prop) : Prop :=
  (w_rings_of (table_388) fun r468 => (wLet r468 fun (rings_442 : (List (Int × Int × (List Int)))) => ((rings_442).length < 1000000 ∧ (wCompF (fun (ring_445 : (Int × Int × (List Int))) (kA446 kB447 : Prop) => (((decide (ring_445.1 < size_389)) = true → kA446) ∧ ((decide (ring_445.1 < size_389)) = false → kB447))) (fun (ring_445 : (Int × Int × (List Int))) (N448 : (Int × Int × (List Int)) → Prop) => (N448 ring_445)) rings_442 [] fun (made_449 : List (Int × Int × (List Int))) => (wLet made_449 fun (first_450 : (List (Int × Int × (List Int)))) => ((rings_442).length < 1000000 ∧ (wCompF (fun (ring_453 : (Int × Int × (List Int))) (kA454 kB455 : Prop) => (((decide (size_389 ≤ ring_453.1)) = true → kA454) ∧ ((decide (size_389 ≤ ring_453.1)) = false → kB455))) (fun (ring_453 : (Int × Int × (List Int))) (N456 : (Int × Int × (List Int)) → Prop) => (N456 ring_453)) rings_442 [] fun (made_457 : List (Int × Int × (List Int))) => (wLet made_457 fun (second_458 : (List (Int × Int × (List Int)))) => (w_rounds_of (first_450) fun r466 => (w_rounds_of (second_458) fun r467 => P (r466, r467)))))))))))
def w_Plan_size (self_469 : ((List Int) × (List Int))) (P : Int → Prop) : Prop :=
  P ((self_469.1).length : Int)
def w_copied_r (entries_475 : (Option (List (((List Int) × (List Int)) × ((List Int) × (List Int)) × Int × Int)))) (P : (Option (List (((List Int) × (List Int)) × ((List Int) × (List Int)) × Int × Int))) → Prop) : Prop :=
  (((entries_475.isNone) = true → P none) ∧ ((entries_475.isNone) = false → (∃ o476, entries_475 = some o476 ∧ P (some o476))))
def w_Comparison___init__ (certificate_472 : (Option (List (((List Int) × (List Int)) × ((List Int) × (List Int)) × Int × Int)))) (direction_473 : (Option (Int × Int))) (lists_474 : (Option ((List Int) × (List Int)))) (P : ((Option (List (((List Int) × (List Int)) × ((List Int) × (List Int)) × Int × Int))) × (Option (Int × Int)) × (Option ((List Int) × (List Int)))) → Prop) : Prop :=
  (w_copied_r (certificate_472) fun r480 => (wLet r480 fun (f477 : (Option (List (((List Int) × (List Int)) × ((List Int) × (List Int)) × Int × Int)))) => (wLet direction_473 fun (f478 : (Option (Int × Int))) => (wLet lists_474 fun (f479 : (Option ((List Int) × (List Int)))) => P (f477, f478, f479)))))
def w_PairSearch_rows  (oz486 : St_PairSearch) (P : (List (((List Int) × (List Int)) × ((List Int) × (List Int)) × Int × Int)) → St_PairSearch → Prop) : Prop :=
  ((oz486.1).length < 1000000 ∧ (wComp (fun (table_489 : ((List Int) × (List Int))) (N490 : ((List Int) × (List Int)) → Prop) => (w_WalkTable_form table_489 fun r491 => (N490 r491))) oz486.1 [] fun (made_492 : List ((List Int) × (List Int))) => (wLet made_492 fun (forms_493 : (List ((List Int) × (List Int)))) => (((List.zip oz486.2.2.1 oz486.2.2.2.2.2.1)).length < 1000000 ∧ (wComp (fun (x496 : ((Int × Int) × (Int × Int))) (N499 : (((List Int) × (List Int)) × ((List Int) × (List Int)) × Int × Int) → Prop) => (∃ x497, ixI forms_493 x496.1.1 = some x497 ∧ (∃ x498, ixI forms_493 x496.1.2 = some x498 ∧ (N499 (x497, x498, x496.2.1, x496.2.2))))) (List.zip oz486.2.2.1 oz486.2.2.2.2.2.1) [] fun (made_500 : List (((List Int) × (List Int)) × ((List Int) × (List Int)) × Int × Int)) => (P made_500 oz486))))))
def w_compare (plan_143 : ((List Int) × (List Int))) (other_144 : ((List Int) × (List Int))) (limit_145 : Int) (P : ((Option (List (((List Int) × (List Int)) × ((List Int) × (List Int)) × Int × Int))) × (Option (Int × Int)) × (Option ((List Int) × (List Int)))) → Prop) : Prop :=
  (w_side_tables (plan_143) (other_144) fun r505 => (w_PairSearch___init__ r505 none fun (oz274 : St_PairSearch) => (∃ n504, w_PairSearch_asked (Unit) limit_145 oz274 n504 () (fun (x383 : ((Int × Int) × ((List Int) × (List Int)))) (s382 : Unit) (nxt384 : Unit → Prop) => (w_Plan_size plan_143 fun r484 => (w_two_lists (x383.2) (r484) fun r483 => (wLet r483 fun (t470 : ((List Int) × (List Int))) => (POk.pok (t470.1 : (List Int)) ∧ POk.pok (t470.2 : (List Int)) ∧ (((!decide ((t470.1 : (List Int)) = t470.2)) = true → (w_Comparison___init__ (none) ((some x383.1)) ((some (t470.1, t470.2))) fun r481 => P r481)) ∧ ((!decide ((t470.1 : (List Int)) = t470.2)) = false → (nxt384 ())))))))) (fun (oz386 : St_PairSearch) (s382 : Unit) => (w_PairSearch_rows  oz386 fun (r501 : (List (((List Int) × (List Int)) × ((List Int) × (List Int)) × Int × Int))) (z502 : St_PairSearch) => (w_Comparison___init__ (some r501) none none fun r => P r))))))
def w_Comparison_alike (self_512 : ((Option (List (((List Int) × (List Int)) × ((List Int) × (List Int)) × Int × Int))) × (Option (Int × Int)) × (Option ((List Int) × (List Int))))) (P : Bool → Prop) : Prop :=
  P (self_512.2.1.isNone)
def w_Comparison_direction (self_514 : ((Option (List (((List Int) × (List Int)) × ((List Int) × (List Int)) × Int × Int))) × (Option (Int × Int)) × (Option ((List Int) × (List Int))))) (P : (Option (Int × Int)) → Prop) : Prop :=
  P self_514.2.1
def w_Comparison_lists (self_515 : ((Option (List (((List Int) × (List Int)) × ((List Int) × (List Int)) × Int × Int))) × (Option (Int × Int)) × (Option ((List Int) × (List Int))))) (P : (Option ((List Int) × (List Int))) → Prop) : Prop :=
  P self_515.2.2
def w_law_rings (table_521 : (List (List Int))) (P : (List (Int × Int × (List Int))) → Prop) : Prop :=
  (wLet ([]) fun (rings_here_522 : (List (Int × Int × (List Int)))) => (wLet ([]) fun (done_524 : (List Int)) => (∃ x526, ixI table_521 (0 : Int) = some x526 ∧ (wLet ((x526).length : Int) fun (size_527 : Int) => ((-(2 ^ 62) ≤ size_527 ∧ size_527 < 2 ^ 62) ∧ (wFor (fun (first_529 : Int) (s528 : (List Int) × (List (Int × Int × (List Int)))) (nxt530 brk531 : ((List Int) × (List (Int × Int × (List Int)))) → Prop) => (((!memJ first_529 s528.1) = true → (wLet first_529 fun (room_534 : Int) => (wLet (0 : Int) fun (rounds_here_535 : Int) => (wLet (0 : Int) fun (mark_536 : Int) => ((-(2 ^ 62) ≤ size_527 ∧ size_527 < 2 ^ 62) ∧ (wFor (fun (k_538 : Int) (s537 : Int × Int × Int × (List Int)) (nxt539 brk540 : (Int × Int × Int × (List Int)) → Prop) => (((!memJ s537.1 s537.2.2.2) = true → (s537.2.2.2.length < 1000000 ∧ (wLet s537.1 fun (y543 : Int) => (wLet (s537.2.1 + (1 : Int)) fun (rounds_here_544 : Int) => (∃ x545, ixI table_521 (1 : Int) = some x545 ∧ (∃ x546, ixI x545 s537.1 = some x546 ∧ ((0 ≤ s537.2.2.1 ∧ 0 ≤ x546) ∧ (wLet (orJ s537.2.2.1 x546) fun (mark_547 : Int) => (∃ x548, ixI table_521 (0 : Int) = some x548 ∧ (∃ x549, ixI x548 s537.1 = some x549 ∧ (wLet x549 fun (room_550 : Int) => (nxt539 (room_550, rounds_here_544, mark_547, (s537.2.2.2 ++ [y543])))))))))))))) ∧ ((!memJ s537.1 s537.2.2.2) = false → (nxt539 (s537.1, s537.2.1, s537.2.2.1, s537.2.2.2))))) (fun (s537 : Int × Int × Int × (List Int)) => ((-(2 ^ 62) ≤ size_527 ∧ size_527 < 2 ^ 62) ∧ (((rangeI 0 size_527)).length < 1000000 ∧ (wCompF (fun (k_554 : Int) (kA555 kB556 : Prop) => (0 ≤ k_554 ∧ ((0 ≤ (s537.2.2.1 / 2 ^ (k_554).toNat) ∧ 0 ≤ (1 : Int)) ∧ (((decide ((andJ (s537.2.2.1 / 2 ^ (k_554).toNat) (1 : Int)) = (1 : Int))) = true → kA555) ∧ ((decide ((andJ (s537.2.2.1 / 2 ^ (k_554).toNat) (1 : Int)) = (1 : Int))) = false → kB556))))) (fun (k_554 : Int) (N557 : Int → Prop) => (N557 k_554)) (rangeI 0 size_527) [] fun (made_558 : List Int) => (s528.2.length < 1000000 ∧ (wLet (first_529, s537.2.1, made_558) fun (y559 : (Int × Int × (List Int))) => (nxt530 (s537.2.2.2, (s528.2 ++ [y559]))))))))) (rangeI 0 size_527) (room_534, rounds_here_535, mark_536, s528.1))))))) ∧ ((!memJ first_529 s528.1) = false → (nxt530 (s528.1, s528.2))))) (fun (s528 : (List Int) × (List (Int × Int × (List Int)))) => P s528.2) (rangeI 0 size_527) (done_524, rings_here_522)))))))
def w_law_rounds (table_520 : (List (List Int))) (P : (List Int) → Prop) : Prop :=
  (w_law_rings (table_520) fun r567 => ((r567).length < 1000000 ∧ (wComp (fun (ring_563 : (Int × Int × (List Int))) (N564 : Int → Prop) => (N564 ring_563.2.1)) r567 [] fun (made_565 : List Int) => (∀ sorted_566 : List Int, sorted_566.Perm made_565 → sorted_566.Pairwise (· ≤ ·) → P sorted_566))))
def w_law_sides (right_572 : (List Int)) (above_573 : (List Int)) (P : (List (List (List Int))) → Prop) : Prop :=
  ((-(2 ^ 62) ≤ ((right_572).length : Int) ∧ ((right_572).length : Int) < 2 ^ 62) ∧ (((rangeI 0 ((right_572).length : Int))).length < 1000000 ∧ (wComp (fun (room_576 : Int) (N577 : Int → Prop) => ((0 ≤ room_576 ∧ room_576 ≤ 1000000 ∧ ((1 : Int)).natAbs < 2 ^ 64) ∧ (N577 ((1 : Int) * 2 ^ (room_576).toNat)))) (rangeI 0 ((right_572).length : Int)) [] fun (made_578 : List Int) => (wLet made_578 fun (marks_579 : (List Int)) => (([right_572, marks_579] : List (List Int)).length ≤ 1000 ∧ (([above_573, marks_579] : List (List Int)).length ≤ 1000 ∧ (([[right_572, marks_579], [above_573, marks_579]] : List (List (List Int))).length ≤ 1000 ∧ P ([[right_572, marks_579], [above_573, marks_579]]))))))))
def w_law_join (one_591 : (List (List Int))) (two_592 : (List (List Int))) (P : (List (List Int)) → Prop) : Prop :=
  (∃ x593, ixI one_591 (0 : Int) = some x593 ∧ ((x593).length < 1000000 ∧ (wComp (fun (room_596 : Int) (N599 : Int → Prop) => (∃ x597, ixI two_592 (0 : Int) = some x597 ∧ (∃ x598, ixI x597 room_596 = some x598 ∧ (N599 x598)))) x593 [] fun (made_600 : List Int) => (wLet made_600 fun (ends_601 : (List Int)) => ((-(2 ^ 62) ≤ ((ends_601).length : Int) ∧ ((ends_601).length : Int) < 2 ^ 62) ∧ (((rangeI 0 ((ends_601).length : Int))).length < 1000000 ∧ (wComp (fun (k_604 : Int) (N611 : Int → Prop) => (∃ x605, ixI one_591 (1 : Int) = some x605 ∧ (∃ x606, ixI x605 k_604 = some x606 ∧ (∃ x607, ixI two_592 (1 : Int) = some x607 ∧ (∃ x608, ixI one_591 (0 : Int) = some x608 ∧ (∃ x609, ixI x608 k_604 = some x609 ∧ (∃ x610, ixI x607 x609 = some x610 ∧ ((0 ≤ x606 ∧ 0 ≤ x610) ∧ (N611 (orJ x606 x610)))))))))) (rangeI 0 ((ends_601).length : Int)) [] fun (made_612 : List Int) => (wLet made_612 fun (marks_613 : (List Int)) => (([ends_601, marks_613] : List (List Int)).length ≤ 1000 ∧ P ([ends_601, marks_613]))))))))))
def w_law_power (table_614 : (List (List Int))) (count_615 : Int) (P : (List (List Int)) → Prop) : Prop :=
  (∃ x616, ixI table_614 (0 : Int) = some x616 ∧ ((-1000000 ≤ ((x616).length : Int) ∧ ((x616).length : Int) ≤ 1000000) ∧ (∃ x617, ixI table_614 (0 : Int) = some x617 ∧ ((x617).length < 1000000 ∧ (wComp (fun (room_620 : Int) (N621 : Int → Prop) => (N621 (0 : Int))) x617 [] fun (made_622 : List Int) => (([(rangeI 0 ((x616).length : Int)), made_622] : List (List Int)).length ≤ 1000 ∧ (wLet ([(rangeI 0 ((x616).length : Int)), made_622]) fun (result_623 : (List (List Int))) => (wWhile (fun (s624 : (List (List Int)) × Int × (List (List Int))) (kA637 kB638 : Prop) => (((decide ((0 : Int) < s624.2.1)) = true → kA637) ∧ ((decide ((0 : Int) < s624.2.1)) = false → kB638))) (fun (s624 : (List (List Int)) × Int × (List (List Int))) (nxt625 brk626 : ((List (List Int)) × Int × (List (List Int))) → Prop) => (wJoin (fun (s628 : (List (List Int))) => (w_law_join (s624.1) (s624.1) fun r636 => (wLet r636 fun (table_634 : (List (List Int))) => (wLet (s624.2.1 / (2 : Int)) fun (count_635 : Int) => (nxt625 (table_634, count_635, s628)))))) fun (J629 : (List (List Int)) → Prop) => (((decide ((s624.2.1 % (2 : Int)) = (1 : Int))) = true → (w_law_join (s624.2.2) (s624.1) fun r632 => (wLet r632 fun (result_631 : (List (List Int))) => (J629 result_631)))) ∧ ((decide ((s624.2.1 % (2 : Int)) = (1 : Int))) = false → (J629 s624.2.2))))) (fun (s624 : (List (List Int)) × Int × (List (List Int))) => P s624.2.2) (table_614, count_615, result_623)))))))))
def w_law_round (right_568 : (List Int)) (above_569 : (List Int)) (p_570 : Int) (q_571 : Int) (P : (List (List Int)) → Prop) : Prop :=
  (w_law_sides (right_568) (above_569) fun r652 => (∃ first_581 second_here_582 : (List (List Int)), r652 = [first_581, second_here_582] ∧ (((decide (q_571 = (0 : Int))) = true → P first_581) ∧ ((decide (q_571 = (0 : Int))) = false → (((decide (p_570 = (0 : Int))) = true → P second_here_582) ∧ ((decide (p_570 = (0 : Int))) = false → (wWhile (fun (s585 : Int × Int × (List (List Int)) × (List (List Int))) (kA650 kB651 : Prop) => (((!decide (s585.1 = s585.2.1)) = true → kA650) ∧ ((!decide (s585.1 = s585.2.1)) = false → kB651))) (fun (s585 : Int × Int × (List (List Int)) × (List (List Int))) (nxt586 brk587 : (Int × Int × (List (List Int)) × (List (List Int))) → Prop) => (((decide (s585.2.1 < s585.1)) = true → (JDiv s585.2.1 ∧ (wLet ((s585.1 - (1 : Int)) / s585.2.1) fun (count_590 : Int) => (w_law_power (s585.2.2.1) (count_590) fun r642 => (w_law_join (r642) (s585.2.2.2) fun r641 => (wLet r641 fun (second_here_639 : (List (List Int))) => (JMul count_590 s585.2.1 ∧ (wLet (s585.1 - (count_590 * s585.2.1)) fun (p_640 : Int) => (nxt586 (p_640, s585.2.1, s585.2.2.1, second_here_639)))))))))) ∧ ((decide (s585.2.1 < s585.1)) = false → (JDiv s585.1 ∧ (wLet ((s585.2.1 - (1 : Int)) / s585.1) fun (count_644 : Int) => (w_law_power (s585.2.2.2) (count_644) fun r648 => (w_law_join (s585.2.2.1) (r648) fun r647 => (wLet r647 fun (first_645 : (List (List Int))) => (JMul count_644 s585.1 ∧ (wLet (s585.2.1 - (count_644 * s585.1)) fun (q_646 : Int) => (nxt586 (s585.1, q_646, first_645, s585.2.2.2)))))))))))) (fun (s585 : Int × Int × (List (List Int)) × (List (List Int))) => (w_law_join (s585.2.2.1) (s585.2.2.2) fun r649 => P r649)) (p_570, q_571, first_581, second_here_582))))))))
def w_law_two_rounds (one_517 : (List (List Int))) (two_518 : (List (List Int))) (pair_519 : (Int × Int)) (P : ((List Int) × (List Int)) → Prop) : Prop :=
  (∃ x653, ixI one_517 (0 : Int) = some x653 ∧ (∃ x654, ixI one_517 (1 : Int) = some x654 ∧ (w_law_round (x653) (x654) (pair_519.1) (pair_519.2) fun r658 => (w_law_rounds (r658) fun r657 => (∃ x655, ixI two_518 (0 : Int) = some x655 ∧ (∃ x656, ixI two_518 (1 : Int) = some x656 ∧ (w_law_round (x655) (x656) (pair_519.1) (pair_519.2) fun r660 => (w_law_rounds (r660) fun r659 => P (r657, r659)))))))))
def w_Comparison_certificate (self_665 : ((Option (List (((List Int) × (List Int)) × ((List Int) × (List Int)) × Int × Int))) × (Option (Int × Int)) × (Option ((List Int) × (List Int))))) (P : (Option (List (((List Int) × (List Int)) × ((List Int) × (List Int)) × Int × Int))) → Prop) : Prop :=
  (w_copied_r (self_665.1) fun r666 => P r666)
def w_law_is_number (value_676 : Int) (P : Bool → Prop) : Prop :=
  ((true = true → P (!false)) ∧ (true = false → P false))
def w_law_is_direction (found_667 : (Int × Int)) (P : Bool → Prop) : Prop :=
  ((true = true → (((!decide (((2 : Nat) : Int) = (2 : Int))) = true → P false) ∧ ((!decide (((2 : Nat) : Int) = (2 : Int))) = false → (wLet ([found_667.1, found_667.2]) fun (xs670 : List Int) => (wFor (fun (number_672 : Int) (s671 : Unit) (nxt673 brk674 : Unit → Prop) => (w_law_is_number (number_672) fun r679 => ((r679 = true → (((decide (number_672 < (0 : Int))) = true → P false) ∧ ((decide (number_672 < (0 : Int))) = false → (nxt673 ())))) ∧ (r679 = false → P false)))) (fun (s671 : Unit) => (wLet found_667.1 fun (common_680 : Int) => (wLet found_667.2 fun (rest_681 : Int) => (wWhile (fun (s682 : Int × Int) (kA688 kB689 : Prop) => (((decide ((0 : Int) < s682.2)) = true → kA688) ∧ ((decide ((0 : Int) < s682.2)) = false → kB689))) (fun (s682 : Int × Int) (nxt683 brk684 : (Int × Int) → Prop) => (0 < s682.2 ∧ (wLet s682.2 fun (common_686 : Int) => (wLet (s682.1 % s682.2) fun (rest_687 : Int) => (nxt683 (common_686, rest_687)))))) (fun (s682 : Int × Int) => P (decide (s682.1 = (1 : Int)))) (common_680, rest_681))))) xs670 ()))))) ∧ (true = false → P false))
def w_law_is_row (actual_697 : (List Int)) (expected_698 : (List Int)) (P : Bool → Prop) : Prop :=
  ((true = true → (((!decide (((actual_697).length : Int) = ((expected_698).length : Int))) = true → P false) ∧ ((!decide (((actual_697).length : Int) = ((expected_698).length : Int))) = false → ((-(2 ^ 62) ≤ ((expected_698).length : Int) ∧ ((expected_698).length : Int) < 2 ^ 62) ∧ (wFor (fun (k_701 : Int) (s700 : Unit) (nxt702 brk703 : Unit → Prop) => (∃ x705, ixI actual_697 k_701 = some x705 ∧ (w_law_is_number (x705) fun r710 => ((r710 = true → (∃ x706, ixI actual_697 k_701 = some x706 ∧ (∃ x707, ixI expected_698 k_701 = some x707 ∧ (((!decide (x706 = x707)) = true → P false) ∧ ((!decide (x706 = x707)) = false → (nxt702 ())))))) ∧ (r710 = false → P false))))) (fun (s700 : Unit) => P true) (rangeI 0 ((expected_698).length : Int)) ()))))) ∧ (true = false → P false))
def w_law_is_lists (found_694 : ((List Int) × (List Int))) (expected_695 : ((List Int) × (List Int))) (P : Bool → Prop) : Prop :=
  ((true = true → (((!decide (((2 : Nat) : Int) = (2 : Int))) = true → P false) ∧ ((!decide (((2 : Nat) : Int) = (2 : Int))) = false → (w_law_is_row (found_694.1) (expected_695.1) fun r711 => ((r711 = true → (w_law_is_row (found_694.2) (expected_695.2) fun r712 => P r712)) ∧ (r711 = false → P false)))))) ∧ (true = false → P false))
def w_law_level (p_717 : Int) (q_718 : Int) (P : Int → Prop) : Prop :=
  (((decide (p_717 = (0 : Int))) = true → P (0 : Int)) ∧ ((decide (p_717 = (0 : Int))) = false → (((decide (q_718 = (0 : Int))) = true → P (0 : Int)) ∧ ((decide (q_718 = (0 : Int))) = false → (wLet (1 : Int) fun (total_720 : Int) => (wWhile (fun (s721 : Int × Int × Int) (kA734 kB735 : Prop) => (((!decide (s721.1 = s721.2.1)) = true → kA734) ∧ ((!decide (s721.1 = s721.2.1)) = false → kB735))) (fun (s721 : Int × Int × Int) (nxt722 brk723 : (Int × Int × Int) → Prop) => (wJoin (fun (s725 : Int × Int × Int) => (wLet (s721.2.2 + s725.2.2) fun (total_733 : Int) => (nxt722 (s725.1, s725.2.1, total_733)))) fun (J726 : (Int × Int × Int) → Prop) => (((decide (s721.2.1 < s721.1)) = true → (JDiv s721.2.1 ∧ (wLet ((s721.1 - (1 : Int)) / s721.2.1) fun (count_728 : Int) => (JMul count_728 s721.2.1 ∧ (wLet (s721.1 - (count_728 * s721.2.1)) fun (p_729 : Int) => (J726 (p_729, s721.2.1, count_728))))))) ∧ ((decide (s721.2.1 < s721.1)) = false → (JDiv s721.1 ∧ (wLet ((s721.2.1 - (1 : Int)) / s721.1) fun (count_731 : Int) => (JMul count_731 s721.1 ∧ (wLet (s721.2.1 - (count_731 * s721.1)) fun (q_732 : Int) => (J726 (s721.1, q_732, count_731)))))))))) (fun (s721 : Int × Int × Int) => P s721.2.2) (p_717, q_718, total_720)))))))
def w_law_before (one_715 : (Int × Int)) (two_716 : (Int × Int)) (P : Bool → Prop) : Prop :=
  (w_law_level (one_715.1) (one_715.2) fun r740 => (wLet r740 fun (first_736 : Int) => (w_law_level (two_716.1) (two_716.2) fun r739 => (wLet r739 fun (second_here_737 : Int) => (((!decide (first_736 = second_here_737)) = true → P (decide (first_736 < second_here_737))) ∧ ((!decide (first_736 = second_here_737)) = false → (JMul one_715.2 two_716.1 ∧ (JMul two_716.2 one_715.1 ∧ P (decide ((one_715.2 * two_716.1) < (two_716.2 * one_715.1)))))))))))
def w_law_fits (one_508 : (List (List Int))) (two_509 : (List (List Int))) (found_510 : ((Option (List (((List Int) × (List Int)) × ((List Int) × (List Int)) × Int × Int))) × (Option (Int × Int)) × (Option ((List Int) × (List Int))))) (pair_511 : (Int × Int)) (P : Bool → Prop) : Prop :=
  (w_Comparison_alike found_510 fun r755 => (((decide (r755 = true)) = true → (w_Comparison_direction found_510 fun r664 => (((r664.isSome) = true → P false) ∧ ((r664.isSome) = false → (w_Comparison_lists found_510 fun r663 => (((r663.isSome) = true → P false) ∧ ((r663.isSome) = false → (w_law_two_rounds (one_508) (two_509) (pair_511) fun r661 => (w_law_two_rounds (one_508) (two_509) (pair_511) fun r662 => (POk.pok (r661.1 : (List Int)) ∧ POk.pok (r662.2 : (List Int)) ∧ P (decide ((r661.1 : (List Int)) = r662.2)))))))))))) ∧ ((decide (r755 = true)) = false → (w_Comparison_alike found_510 fun r754 => (((!decide (r754 = false)) = true → P false) ∧ ((!decide (r754 = false)) = false → (w_Comparison_certificate found_510 fun r753 => (((r753.isSome) = true → P false) ∧ ((r753.isSome) = false → (w_Comparison_direction found_510 fun r752 => (∃ o690, r752 = some o690 ∧ (w_law_is_direction (o690) fun r751 => ((r751 = true → (w_Comparison_direction found_510 fun r750 => (∃ o692, r750 = some o692 ∧ (w_law_two_rounds (one_508) (two_509) (o692) fun r749 => (wLet r749 fun (there_693 : ((List Int) × (List Int))) => (POk.pok (there_693.1 : (List Int)) ∧ POk.pok (there_693.2 : (List Int)) ∧ (((decide ((there_693.1 : (List Int)) = there_693.2)) = true → P false) ∧ ((decide ((there_693.1 : (List Int)) = there_693.2)) = false → (w_Comparison_lists found_510 fun r748 => (∃ o713, r748 = some o713 ∧ (w_law_is_lists (o713) (there_693) fun r747 => ((r747 = true → (w_Comparison_direction found_510 fun r746 => (∃ o741, r746 = some o741 ∧ (w_law_before (pair_511) (o741) fun r745 => ((r745 = true → (w_law_two_rounds (one_508) (two_509) (pair_511) fun r743 => (w_law_two_rounds (one_508) (two_509) (pair_511) fun r744 => (POk.pok (r743.1 : (List Int)) ∧ POk.pok (r744.2 : (List Int)) ∧ P (decide ((r743.1 : (List Int)) = r744.2)))))) ∧ (r745 = false → P true)))))) ∧ (r747 = false → P false))))))))))))) ∧ (r751 = false → P false))))))))))))))
def w_law_wide (lists_761 : (List (List Int))) (P : ((List Int) × (List Int)) → Prop) : Prop :=
  (∃ x762, ixI lists_761 (0 : Int) = some x762 ∧ (wLet ((x762).length : Int) fun (size_763 : Int) => ((lists_761).length < 1000000 ∧ (wComp (fun (side_766 : (List Int)) (N773 : (List Int) → Prop) => ((-(2 ^ 62) ≤ ((50 : Int) * size_763) ∧ ((50 : Int) * size_763) < 2 ^ 62) ∧ (((rangeI 0 ((50 : Int) * size_763))).length < 1000000 ∧ (wComp (fun (k_769 : Int) (N771 : Int → Prop) => (JDiv size_763 ∧ (JMul size_763 (k_769 / size_763) ∧ (0 < size_763 ∧ (∃ x770, ixI side_766 (k_769 % size_763) = some x770 ∧ (N771 ((size_763 * (k_769 / size_763)) + x770))))))) (rangeI 0 ((50 : Int) * size_763)) [] fun (made_772 : List Int) => (N773 made_772))))) lists_761 [] fun (made_774 : List (List Int)) => (wLet made_774 fun (sides_here_775 : (List (List Int))) => (∃ x776, ixI sides_here_775 (0 : Int) = some x776 ∧ (∃ x777, ixI sides_here_775 (1 : Int) = some x777 ∧ (w_Plan___init__ (x776) (x777) fun r778 => P r778))))))))
def w_law (script_1 : (List Int)) (P : Bool → Prop) : Prop :=
  (w_law_cell (script_1) ((0 : Int)) fun r799 => (wLet r799 fun (kind_6 : Int) => (w_law_cell (script_1) ((1 : Int)) fun r797 => (w_law_cell (script_1) ((2 : Int)) fun r798 => (w_law_plan ((kind_6 + (if (decide ((kind_6 % (4 : Int)) = (2 : Int))) then (1 : Int) else 0))) (r797) (r798) fun r796 => (wLet r796 fun (one_80 : (List (List Int))) => (w_law_second (script_1) (one_80) fun r795 => (wLet r795 fun (two_98 : (List (List Int))) => (w_law_cell (script_1) ((8 : Int)) fun r794 => (wLet r794 fun (p_99 : Int) => (w_law_cell (script_1) ((9 : Int)) fun r793 => (wLet r793 fun (q_100 : Int) => (wJoin (fun (s101 : Int × Int) => (w_law_direction (s101.1) (s101.2) ((0 : Int)) fun r791 => (wLet r791 fun (pair_123 : (Int × Int)) => (∃ x137, ixI one_80 (0 : Int) = some x137 ∧ (∃ x138, ixI one_80 (1 : Int) = some x138 ∧ (w_Plan___init__ (x137) (x138) fun r790 => (wLet r790 fun (plan_here_139 : ((List Int) × (List Int))) => (∃ x140, ixI two_98 (0 : Int) = some x140 ∧ (∃ x141, ixI two_98 (1 : Int) = some x141 ∧ (w_Plan___init__ (x140) (x141) fun r789 => (wLet r789 fun (other_142 : ((List Int) × (List Int))) => (w_compare (plan_here_139) (other_142) (200000 : Int) fun r788 => (wLet r788 fun (found_506 : ((Option (List (((List Int) × (List Int)) × ((List Int) × (List Int)) × Int × Int))) × (Option (Int × Int)) × (Option ((List Int) × (List Int))))) => (w_compare (other_142) (plan_here_139) (200000 : Int) fun r787 => (wLet r787 fun (back_507 : ((Option (List (((List Int) × (List Int)) × ((List Int) × (List Int)) × Int × Int))) × (Option (Int × Int)) × (Option ((List Int) × (List Int))))) => (w_law_fits (one_80) (two_98) (found_506) (pair_123) fun r786 => ((r786 = true → (w_law_fits (two_98) (one_80) (back_507) (pair_123) fun r785 => ((r785 = true → (w_Comparison_alike found_506 fun r783 => (w_Comparison_alike back_507 fun r784 => (((!decide (r783 = r784)) = true → P false) ∧ ((!decide (r783 = r784)) = false → (w_Comparison_direction found_506 fun r781 => (w_Comparison_direction back_507 fun r782 => (POk.pok (r781 : (Option (Int × Int))) ∧ POk.pok (r782 : (Option (Int × Int))) ∧ (((!decide ((r781 : (Option (Int × Int))) = r782)) = true → P false) ∧ ((!decide ((r781 : (Option (Int × Int))) = r782)) = false → (wJoin (fun (s760 : Unit) => (w_compare (plan_here_139) (plan_here_139) (200000 : Int) fun r777 => (w_Comparison_alike r777 fun r776 => (((decide (r776 = true)) = true → (∃ x774, ixI two_98 (0 : Int) = some x774 ∧ (∃ x775, ixI two_98 (1 : Int) = some x775 ∧ (w_Plan___init__ (x774) (x775) fun r780 => (w_compare (other_142) (r780) (200000 : Int) fun r779 => (w_Comparison_alike r779 fun r778 => P (decide (r778 = true)))))))) ∧ ((decide (r776 = true)) = false → P false))))) fun (J761 : Unit → Prop) => (∃ x758, ixI one_80 (0 : Int) = some x758 ∧ (∃ x759, ixI two_98 (0 : Int) = some x759 ∧ (((decide ((if ((x759).length : Int) > ((x758).length : Int) then ((x759).length : Int) else ((x758).length : Int)) < (3 : Int))) = true → (w_law_wide (one_80) fun r771 => (w_law_wide (two_98) fun r772 => (w_compare (r771) (r772) (200000 : Int) fun r770 => (wLet r770 fun (wide_here_763 : ((Option (List (((List Int) × (List Int)) × ((List Int) × (List Int)) × Int × Int))) × (Option (Int × Int)) × (Option ((List Int) × (List Int))))) => (w_Comparison_alike wide_here_763 fun r768 => (w_Comparison_alike found_506 fun r769 => (((!decide (r768 = r769)) = true → P false) ∧ ((!decide (r768 = r769)) = false → (w_Comparison_direction wide_here_763 fun r766 => (w_Comparison_direction found_506 fun r767 => (POk.pok (r766 : (Option (Int × Int))) ∧ POk.pok (r767 : (Option (Int × Int))) ∧ (((!decide ((r766 : (Option (Int × Int))) = r767)) = true → P false) ∧ ((!decide ((r766 : (Option (Int × Int))) = r767)) = false → (J761 ()))))))))))))))) ∧ ((decide ((if ((x759).length : Int) > ((x758).length : Int) then ((x759).length : Int) else ((x758).length : Int)) < (3 : Int))) = false → (J761 ())))))))))))))))) ∧ (r785 = false → P false)))) ∧ (r786 = false → P false)))))))))))))))))) fun (J102 : (Int × Int) → Prop) => (w_law_cell (script_1) ((10 : Int)) fun r792 => (((decide ((r792 % (3 : Int)) = (1 : Int))) = true → (wLet (p_99 % (10 : Int)) fun (p_104 : Int) => (wLet (q_100 % (10 : Int)) fun (q_105 : Int) => (J102 (p_104, q_105))))) ∧ ((decide ((r792 % (3 : Int)) = (1 : Int))) = false → (J102 (p_99, q_100))))))))))))))))))
end Slw
set_option exponentiation.threshold 20000
namespace Slw
open PySem J
theorem log2_lt {n k : Nat} (h : n < 2 ^ k) (hk : 0 < k) : n.log2 < k := by
  by_cases h0 : n = 0
  · subst h0
    exact hk
  · exact (Nat.log2_lt h0).mpr h
def Big : Nat := 4000
theorem mul_ok {x y : Int} (hx : x.natAbs < 2 ^ Big) (hy : y.natAbs < 2 ^ Big) : JMul x y := by
  refine .inr (.inr ?_)
  have h1 := log2_lt hx (by decide)
  have h2 := log2_lt hy (by decide)
  have e : Big = 4000 := rfl
  omega
theorem mul_zero_ok {x : Int} : JMul x 0 := .inr (.inl ⟨by decide, by decide⟩)
theorem div_ok {y : Int} (h0 : 0 < y) (hy : y.natAbs < 2 ^ Big) : JDiv y := by
  refine ⟨h0, ?_⟩
  have h2 := log2_lt hy (by decide)
  have e : Big = 4000 := rfl
  omega
theorem big_of {x y : Int} (h0 : 0 ≤ x) (h : x ≤ y) (hy : y.natAbs < 2 ^ Big) : x.natAbs < 2 ^ Big := by omega
theorem pow39 : ((10 : Int) ^ (39 : Int).toNat) = 1000000000000000000000000000000000000000 := by decide
theorem big_small {x : Int} {k : Nat} (h : x.natAbs < 2 ^ k) (hk : k ≤ Big) : x.natAbs < 2 ^ Big := Nat.lt_of_lt_of_le h (Nat.pow_le_pow_right (by decide) hk)
theorem big_lit {x : Int} (h : x.natAbs ≤ 1000000000000000000000000000000000000000000000000000000000000000000000000000000000000000000000000) : x.natAbs < 2 ^ Big :=
  big_small (k := 400) (Nat.lt_of_le_of_lt h (by decide)) (by decide)
end Slw
namespace Slw
open PySem J
theorem cell_ok {ns : List Int} {k : Int} {P : Int → Prop} (h : 0 ≤ k) (q : ∀ x, P x) : w_law_cell ns k P := by
  unfold w_law_cell
  refine ⟨fun e => ?_, fun _ => q _⟩
  have h1 := of_decide_eq_true e
  have h2 : k.toNat < ns.length := by omega
  refine ⟨ns[k.toNat], ?_, q _⟩
  unfold ixI
  rw [if_pos h, List.getElem?_eq_getElem h2]
end Slw
namespace Slw
open PySem J
theorem check_ok {p q : Int} {P : Unit → Prop} (hp : 0 ≤ p) (hq : 0 ≤ q) (hg : Int.gcd p q = 1) (k : P ()) : w_check_direction p q P := by
  unfold w_check_direction
  refine ⟨fun e => ?_, fun _ => ⟨fun e => ?_, fun _ => ⟨fun e => ?_, fun _ => k⟩⟩⟩
  · have := of_decide_eq_true e; omega
  · have := of_decide_eq_true e; omega
  · have h : ((Nat.gcd p.natAbs q.natAbs : Nat) : Int) = 1 := by
      have h2 : Nat.gcd p.natAbs q.natAbs = 1 := hg
      rw [h2]; rfl
    rw [h] at e
    exact absurd e (by decide)
end Slw
namespace Slw
open PySem J
theorem rangeI_nat (n : Nat) : rangeI 0 (n : Int) = (List.range' 0 n).map fun (j : Nat) => (j : Int) := by
  unfold rangeI
  rw [List.range_eq_range', show ((n : Int) - 0).toNat = n by omega]
  refine List.map_congr_left fun j _ => ?_
  omega
theorem rangeI_len (n : Nat) : (rangeI 0 (n : Int)).length = n := by
  rw [rangeI_nat, List.length_map, List.length_range']
theorem mem_rangeI {n : Nat} {x : Int} : x ∈ rangeI 0 (n : Int) ↔ 0 ≤ x ∧ x < n := by
  rw [rangeI_nat, List.mem_map]
  constructor
  · rintro ⟨j, hj, rfl⟩
    have := (List.mem_range'_1.mp hj).2
    omega
  · intro ⟨h1, h2⟩
    exact ⟨x.toNat, List.mem_range'_1.mpr ⟨by omega, by omega⟩, by omega⟩
theorem rangeI_nodup (n : Nat) : (rangeI 0 (n : Int)).Nodup := by
  rw [rangeI_nat]
  exact List.Pairwise.map (R := (· ≠ ·)) _ (fun a b h z => h (by omega)) (List.nodup_range' (step := 1) (by decide))
theorem rangeI_get {n i : Nat} (h : i < (rangeI 0 (n : Int)).length) : (rangeI 0 (n : Int))[i] = (i : Int) := by
  simp [rangeI]
theorem wFor_range {σ : Type} {b : Int → σ → (σ → Prop) → (σ → Prop) → Prop} {k : σ → Prop} (n : Nat) (I : Nat → σ → Prop) (hs : ∀ i s (N : σ → Prop), i < n → I i s → (∀ s', I (i + 1) s' → N s') → b (i : Int) s N k) (hk : ∀ s, I n s → k s) (s0 : σ) (h0 : I 0 s0) : wFor b k (rangeI 0 (n : Int)) s0 := by
  rw [rangeI_nat]
  refine wFor_ok (fun r s => ∃ i, i ≤ n ∧ r = (List.range' i (n - i)).map (fun (j : Nat) => (j : Int)) ∧ I i s) ?_ ?_ _ _ ⟨0, Nat.zero_le _, by rw [Nat.sub_zero], h0⟩
  · rintro x r s N ⟨i, hi, e, hI⟩ hN
    cases hm : n - i with
    | zero =>
      rw [hm] at e
      simp at e
    | succ m =>
      rw [hm, List.range'_succ, List.map_cons] at e
      injection e with e1 e2
      subst e1
      refine hs i s N (by omega) hI fun s' h' => hN s' ⟨i + 1, by omega, ?_, h'⟩
      rw [e2, show n - (i + 1) = m by omega]
  · rintro s ⟨i, hi, e, hI⟩
    have : n - i = 0 := by
      cases hm : n - i with
      | zero => rfl
      | succ m =>
        rw [hm, List.range'_succ] at e
        simp at e
    have : i = n := by omega
    subst this
    exact hk s hI
/-- items by place -/
theorem ixI_nat {α : Type} {xs : List α} {i : Nat} (h : i < xs.length) : ixI xs (i : Int) = some xs[i] := by
  unfold ixI
  rw [if_pos (by omega), show ((i : Nat) : Int).toNat = i by omega]
  exact List.getElem?_eq_getElem h
theorem ixI_at {α : Type} {xs : List α} {i : Int} (h0 : 0 ≤ i) (h : i.toNat < xs.length) : ixI xs i = some xs[i.toNat] := by
  unfold ixI
  rw [if_pos h0]
  exact List.getElem?_eq_getElem h
theorem ixW_at {n : Nat} {i : Int} (h0 : 0 ≤ i) (h : i < n) : ixW n i = some i.toNat := by
  unfold ixW
  rw [if_pos ⟨h0, h⟩]
end Slw
namespace Slw
open PySem J
theorem small_mul {x y : Int} (h : x.natAbs < 2 ^ 64) : JMul x y := .inl ⟨by omega, by omega⟩
/-- drawn digits -/
theorem row_ok {c : Int} {n : Nat} {P : List Int → Prop} (hn : n ≤ 100000) (q : ∀ xs, xs.length = n → (∀ x ∈ xs, 0 ≤ x ∧ x < 64) → P xs) : w_law_row c n P := by
  unfold w_law_row
  refine wLet_to (wLet_to ⟨by omega, ?_⟩)
  refine wFor_range n (fun i s => s.2.length = i ∧ ∀ x ∈ s.2, 0 ≤ x ∧ x < 64) ?_ (fun s h => q _ h.1 h.2) _ ⟨rfl, fun x hx => by cases hx⟩
  rintro i ⟨r, xs⟩ N hi ⟨hl, hx⟩ hN
  dsimp only at hl hx ⊢
  have app : ∀ y, 0 ≤ y → y < 64 → ∀ r', N (r', xs ++ [y]) := fun y y0 y1 r' => hN _ ⟨by rw [List.length_append, hl]; rfl, fun x h => by
    rcases List.mem_append.mp h with h | h
    · exact hx x h
    · cases List.mem_singleton.mp h
      exact ⟨y0, y1⟩⟩
  refine ⟨fun _ => ⟨by omega, wLet_to (wLet_to (app _ (Int.emod_nonneg _ (by decide)) (Int.emod_lt_of_pos _ (by decide)) _))⟩, fun _ => wLet_ok fun m hm => ⟨small_mul ?_, wLet_to ⟨by omega, wLet_to (app _ (Int.emod_nonneg _ (by decide)) (Int.emod_lt_of_pos _ (by decide)) _)⟩⟩⟩
  have h1 := Int.emod_nonneg (c * 48271 + ((i : Int) + 1) * 69621) (show (2147483647 : Int) ≠ 0 by decide)
  have h2 := Int.emod_lt_of_pos (c * 48271 + ((i : Int) + 1) * 69621) (show (0 : Int) < 2147483647 by decide)
  omega
theorem perm_pop {l r : List Int} {t : List Int} {k : Nat} {x : Int} (hp : (l ++ r).Perm t) (hx : r[k]? = some x) : ((l ++ [x]) ++ r.eraseIdx k).Perm t := by
  have hk : k < r.length := (List.getElem?_eq_some_iff.mp hx).1
  have e : r = r.take k ++ x :: r.drop (k + 1) := by
    have := List.take_append_drop k r
    rw [List.drop_eq_getElem_cons hk] at this
    rw [List.getElem?_eq_getElem hk] at hx
    have hx' := Option.some.inj hx
    rw [hx'] at this
    exact this.symm
  refine List.Perm.trans ?_ hp
  rw [List.eraseIdx_eq_take_drop_succ, List.append_assoc, List.singleton_append]
  refine List.Perm.append_left l ?_
  have := List.perm_middle (a := x) (l₁ := r.take k) (l₂ := r.drop (k + 1))
  exact this.symm.trans (by rw [← e])
/-- a drawn order -/
theorem order_ok {c : Int} {n : Nat} {P : List Int → Prop} (hn : n ≤ 100000) (q : ∀ xs, xs.Perm (rangeI 0 n) → P xs) : w_law_order c n P := by
  unfold w_law_order
  refine ⟨by omega, wLet_to (wLet_to (row_ok hn fun ds hd _ => wLet_to ?_))⟩
  refine wFor_ok (fun r (s : List Int × List Int) => (s.1 ++ s.2).Perm (rangeI 0 n) ∧ s.2.length = r.length) ?_ ?_ _ _ ⟨by rw [List.nil_append], by rw [rangeI_len, hd]⟩
  · rintro d r ⟨o, pool⟩ N ⟨hp, hl⟩ hN
    dsimp only at hp hl ⊢
    have hpos : 0 < (pool.length : Int) := by rw [hl, List.length_cons]; omega
    have m0 := Int.emod_nonneg d (show (pool.length : Int) ≠ 0 by omega)
    have m1 := Int.emod_lt_of_pos d hpos
    have hk : (d % (pool.length : Int)).toNat < pool.length := by omega
    have tot := hp.length_eq
    rw [List.length_append, rangeI_len] at tot
    refine ⟨hpos, ⟨m0, m1⟩, by omega, by omega, pool[(d % (pool.length : Int)).toNat], List.getElem?_eq_getElem hk, wLet_to (hN _ ⟨perm_pop hp (List.getElem?_eq_getElem hk), ?_⟩)⟩
    rw [List.length_eraseIdx, if_pos hk, hl, List.length_cons]
    rfl
  · rintro ⟨o, pool⟩ ⟨hp, hl⟩
    have e : pool = [] := List.length_eq_zero_iff.mp hl
    subst e
    dsimp only at hp ⊢
    rw [List.append_nil] at hp
    exact q _ hp
end Slw
namespace Slw
open PySem J
theorem take_succ_eq {a e : List Int} {i : Nat} (ha : i < a.length) (he : i < e.length) (h : a.take i = e.take i) (x : a[i] = e[i]) : a.take (i + 1) = e.take (i + 1) := by
  rw [List.take_succ_eq_append_getElem ha, List.take_succ_eq_append_getElem he, h, x]
/-- a tuple against a list -/
theorem isrow_ok {a e : List Int} {P : Bool → Prop} (hl : e.length ≤ 1000000) (w : P (decide (a = e))) : w_law_is_row a e P := by
  unfold w_law_is_row
  refine ⟨fun _ => ⟨fun z => ?_, fun z => ⟨by omega, ?_⟩⟩, fun z => by cases z⟩
  · have ne : a ≠ e := fun q => by
      subst q
      simp at z
    rw [decide_eq_false ne] at w
    exact w
  · have el : a.length = e.length := by
      have z' : (a.length : Int) = e.length := by simpa using z
      omega
    refine wFor_range e.length (fun i _ => a.take i = e.take i) ?_ (fun _ h => ?_) () (by simp)
    · rintro i ⟨⟩ N hi h hN
      have hi2 : i < a.length := by omega
      refine ⟨a[i], ixI_nat hi2, ⟨fun _ => ⟨fun _ => ⟨a[i], ixI_nat hi2, e[i], ixI_nat hi, fun z => ?_, fun z => ?_⟩, fun z => by cases z⟩, fun z => by cases z⟩⟩
      · have ne : a ≠ e := fun q => by
          subst q
          simp at z
        rw [decide_eq_false ne] at w
        exact w
      · have ex : a[i] = e[i] := by simpa using z
        exact hN () (take_succ_eq hi2 hi h ex)
    · rw [List.take_of_length_le (by omega), List.take_of_length_le (by omega)] at h
      rw [decide_eq_true h] at w
      exact w
end Slw
namespace Slw
open PySem J
/-- the item at a place -/
def gI (xs : List Int) (i : Int) : Int := xs.getD i.toNat 0
theorem gI_ix {xs : List Int} {i : Int} (h0 : 0 ≤ i) (h : i < xs.length) : ixI xs i = some (gI xs i) := by
  rw [ixI_at h0 (by omega)]
  unfold gI
  rw [List.getD_eq_getElem?_getD, List.getElem?_eq_getElem (by omega)]
  rfl
theorem gI_mem {xs : List Int} {i : Int} (h0 : 0 ≤ i) (h : i < xs.length) : gI xs i ∈ xs := by
  unfold gI
  rw [List.getD_eq_getElem?_getD, List.getElem?_eq_getElem (by omega)]
  exact List.getElem_mem _
theorem gI_nat {xs : List Int} {i : Nat} (h : i < xs.length) : gI xs i = xs[i] := by
  unfold gI
  rw [List.getD_eq_getElem?_getD, show ((i : Nat) : Int).toNat = i by omega, List.getElem?_eq_getElem h]
  rfl
theorem orJ_nn (x y : Int) : 0 ≤ orJ x y := by
  unfold orJ
  omega
end Slw
namespace Slw
open PySem J
abbrev Tb := List Int × List Int
/-- a table of size n -/
structure IsT (n : Nat) (t : Tb) : Prop where
  l1 : t.1.length = n
  l2 : t.2.length = n
  e : ∀ x ∈ t.1, 0 ≤ x ∧ x < n
  m : ∀ x ∈ t.2, 0 ≤ x
def joinT (a b : Tb) : Tb := (a.1.map fun t => gI b.1 t, (List.zip a.1 a.2).map fun x => orJ x.2 (gI b.2 x.1))
theorem IsT.join {n : Nat} {a b : Tb} (ha : IsT n a) (hb : IsT n b) : IsT n (joinT a b) where
  l1 := by
    show (a.1.map _).length = n
    rw [List.length_map, ha.l1]
  l2 := by
    show ((List.zip a.1 a.2).map _).length = n
    rw [List.length_map, List.length_zip, ha.l1, ha.l2, Nat.min_self]
  e := fun x hx => by
    obtain ⟨t, ht, rfl⟩ := List.mem_map.mp hx
    have := ha.e t ht
    exact hb.e _ (gI_mem this.1 (by rw [hb.l1]; exact this.2))
  m := fun x hx => by
    obtain ⟨t, ht, rfl⟩ := List.mem_map.mp hx
    exact orJ_nn _ _
theorem init_tab {a b : List Int} {P : Tb → Prop} (w : P (a, b)) : w_WalkTable___init__ a b P := wLet_to (wLet_to w)
theorem zip_mem {a b : List Int} {x : Int × Int} (h : x ∈ List.zip a b) : x.1 ∈ a ∧ x.2 ∈ b := List.of_mem_zip h
theorem mulT_ok {n : Nat} {a b : Tb} {P : Tb → Prop} (hn : n ≤ 1000) (ha : IsT n a) (hb : IsT n b) (w : P (joinT a b)) : w_WalkTable___mul__ a b P := by
  unfold w_WalkTable___mul__ w_WalkTable_size
  refine ⟨fun z => ?_, fun _ => ⟨by rw [ha.l1]; omega, ?_⟩⟩
  · rw [ha.l1, hb.l1] at z
    simp at z
  · refine wComp_ok (α := Int) (β := Int) (fun t => gI b.1 t) a.1 [] _ (fun t ht N hN => ?_) ?_
    · have := ha.e t ht
      exact ⟨_, gI_ix this.1 (by rw [hb.l1]; exact this.2), hN⟩
    · rw [List.nil_append]
      refine wLet_to ⟨by rw [List.length_zip, ha.l1]; omega, ?_⟩
      refine wComp_ok (α := Int × Int) (β := Int) (fun x => orJ x.2 (gI b.2 x.1)) (List.zip a.1 a.2) [] _ (fun x hx N hN => ?_) ?_
      · have hm := zip_mem hx
        have h1 := ha.e _ hm.1
        have h2 := ha.m _ hm.2
        have hm2 : x.1 < b.2.length := by rw [hb.l2]; exact h1.2
        exact ⟨_, gI_ix h1.1 hm2, ⟨h2, hb.m _ (gI_mem h1.1 hm2)⟩, hN⟩
      · rw [List.nil_append]
        exact wLet_to (init_tab w)
end Slw
namespace Slw
open PySem J
def restT (n : Nat) : Tb := (rangeI 0 n, List.replicate n 0)
theorem IsT.rest (n : Nat) : IsT n (restT n) where
  l1 := rangeI_len n
  l2 := List.length_replicate
  e := fun x hx => mem_rangeI.mp hx
  m := fun x hx => by
    rw [List.eq_of_mem_replicate hx]
    omega
end Slw
namespace Slw
open PySem J
theorem orJ_assoc {x y z : Int} (hx : 0 ≤ x) (hy : 0 ≤ y) (hz : 0 ≤ z) : orJ (orJ x y) z = orJ x (orJ y z) := by
  unfold orJ
  rw [Int.toNat_natCast, Int.toNat_natCast, Nat.or_assoc]
theorem orJ_zl {x : Int} (h : 0 ≤ x) : orJ 0 x = x := by
  unfold orJ
  rw [show ((0 : Int)).toNat = 0 from rfl, Nat.zero_or]
  omega
theorem orJ_zr {x : Int} (h : 0 ≤ x) : orJ x 0 = x := by
  unfold orJ
  rw [show ((0 : Int)).toNat = 0 from rfl, Nat.or_zero]
  omega
theorem joinT_get1 {n : Nat} {a b : Tb} (ha : IsT n a) {i : Nat} (hi : i < n) : gI (joinT a b).1 i = gI b.1 (gI a.1 i) := by
  have h1 : i < a.1.length := by rw [ha.l1]; exact hi
  rw [gI_nat (show i < (joinT a b).1.length by show i < (a.1.map _).length; rw [List.length_map]; exact h1), gI_nat h1]
  show (a.1.map fun t => gI b.1 t)[i]'_ = _
  rw [List.getElem_map]
theorem joinT_get2 {n : Nat} {a b : Tb} (ha : IsT n a) {i : Nat} (hi : i < n) : gI (joinT a b).2 i = orJ (gI a.2 i) (gI b.2 (gI a.1 i)) := by
  have h1 : i < a.1.length := by rw [ha.l1]; exact hi
  have h2 : i < a.2.length := by rw [ha.l2]; exact hi
  rw [gI_nat (show i < (joinT a b).2.length by show i < ((List.zip a.1 a.2).map _).length; rw [List.length_map, List.length_zip]; omega), gI_nat h1, gI_nat h2]
  show ((List.zip a.1 a.2).map fun x => orJ x.2 (gI b.2 x.1))[i]'_ = _
  rw [List.getElem_map, List.getElem_zip]
theorem IsT.ext {n : Nat} {a b : Tb} (ha : IsT n a) (hb : IsT n b) (h1 : ∀ i : Nat, i < n → gI a.1 i = gI b.1 i) (h2 : ∀ i : Nat, i < n → gI a.2 i = gI b.2 i) : a = b := by
  refine Prod.ext (List.ext_getElem (by rw [ha.l1, hb.l1]) fun i i1 i2 => ?_) (List.ext_getElem (by rw [ha.l2, hb.l2]) fun i i1 i2 => ?_)
  · have := h1 i (by rw [← ha.l1]; exact i1)
    rw [gI_nat i1, gI_nat i2] at this
    exact this
  · have := h2 i (by rw [← ha.l2]; exact i1)
    rw [gI_nat i1, gI_nat i2] at this
    exact this
theorem IsT.end {n : Nat} {a : Tb} (ha : IsT n a) {i : Nat} (hi : i < n) : ∃ j : Nat, j < n ∧ gI a.1 i = j := by
  have h1 : i < a.1.length := by rw [ha.l1]; exact hi
  have := ha.e _ (gI_mem (i := (i : Int)) (by omega) (by omega))
  exact ⟨(gI a.1 i).toNat, by omega, by omega⟩
theorem IsT.mk0 {n : Nat} {a : Tb} (ha : IsT n a) {i : Nat} (hi : i < n) : 0 ≤ gI a.2 i := ha.m _ (gI_mem (by omega) (by rw [ha.l2]; omega))
theorem joinT_assoc {n : Nat} {a b c : Tb} (ha : IsT n a) (hb : IsT n b) (hc : IsT n c) : joinT (joinT a b) c = joinT a (joinT b c) := by
  refine ((ha.join hb).join hc).ext (ha.join (hb.join hc)) (fun i hi => ?_) fun i hi => ?_
  · obtain ⟨j, hj, ej⟩ := ha.end hi
    rw [joinT_get1 (ha.join hb) hi, joinT_get1 ha hi, joinT_get1 ha hi, ej, joinT_get1 hb hj]
  · obtain ⟨j, hj, ej⟩ := ha.end hi
    obtain ⟨m, hm, em⟩ := hb.end hj
    rw [joinT_get2 (ha.join hb) hi, joinT_get2 ha hi, joinT_get1 ha hi, joinT_get2 ha hi, ej, joinT_get2 hb hj, em]
    exact orJ_assoc (ha.mk0 hi) (hb.mk0 hj) (hc.mk0 hm)
theorem rest_get1 {n i : Nat} (hi : i < n) : gI (restT n).1 i = i := by
  have h : i < (rangeI 0 (n : Int)).length := by rw [rangeI_len]; exact hi
  show gI (rangeI 0 (n : Int)) i = i
  rw [gI_nat h, rangeI_get h]
theorem rest_get2 {n i : Nat} (hi : i < n) : gI (restT n).2 i = 0 := by
  have h : i < (List.replicate n (0 : Int)).length := by rw [List.length_replicate]; exact hi
  show gI (List.replicate n (0 : Int)) i = 0
  rw [gI_nat h, List.getElem_replicate]
theorem rest_join {n : Nat} {a : Tb} (ha : IsT n a) : joinT (restT n) a = a := by
  refine ((IsT.rest n).join ha).ext ha (fun i hi => ?_) fun i hi => ?_
  · rw [joinT_get1 (IsT.rest n) hi, rest_get1 hi]
  · rw [joinT_get2 (IsT.rest n) hi, rest_get1 hi, rest_get2 hi, orJ_zl (ha.mk0 hi)]
theorem join_rest {n : Nat} {a : Tb} (ha : IsT n a) : joinT a (restT n) = a := by
  refine (ha.join (IsT.rest n)).ext ha (fun i hi => ?_) fun i hi => ?_
  · obtain ⟨j, hj, ej⟩ := ha.end hi
    rw [joinT_get1 ha hi, ej, rest_get1 hj]
  · obtain ⟨j, hj, ej⟩ := ha.end hi
    rw [joinT_get2 ha hi, ej, rest_get2 hj, orJ_zr (ha.mk0 hi)]
theorem size_of {c m : Int} {lo : Int} (hm : 0 < m) (h0 : 0 ≤ lo) : ∃ n : Nat, lo + c % m = (n : Int) ∧ lo ≤ n ∧ (n : Int) < lo + m := by
  have h1 := Int.emod_nonneg c (show m ≠ 0 by omega)
  have h2 := Int.emod_lt_of_pos c hm
  exact ⟨(lo + c % m).toNat, by omega, by omega, by omega⟩
end Slw
namespace Slw
open PySem J
theorem tree_ok {p q : Int} {P : Unit → Prop} (hp : 0 < p) (hq : 0 < q) (hg : Int.gcd p q = 1) (k : P ()) : w_check_in_tree p q P := by
  unfold w_check_in_tree
  refine check_ok (by omega) (by omega) hg ?_
  refine ⟨fun e => ?_, fun _ => ⟨fun e => ?_, fun _ => k⟩⟩
  · have := of_decide_eq_true e; omega
  · have := of_decide_eq_true e; omega
end Slw
namespace Slw
open PySem J
theorem fs_ne : ¬ (("flat" : Str) = "steep") := by decide +kernel
theorem sf_ne : ¬ (("steep" : Str) = "flat") := by decide +kernel
abbrev Q4 := Int × Int × Int × Int
def turn (s : Q4) (x : Str × Int) : Q4 :=
  if x.1 = ("flat" : Str) then (s.1, s.2.1, s.2.2.1 + x.2 * s.1, s.2.2.2 + x.2 * s.2.1) else (s.1 + x.2 * s.2.2.1, s.2.1 + x.2 * s.2.2.2, s.2.2.1, s.2.2.2)
def nb (s : Q4) (rs : List (Str × Int)) : Q4 := rs.foldl turn s
def s1001 : Q4 := (1, 0, 0, 1)
/-- none is negative; all are below the bound -/
structure Ok4 (s : Q4) : Prop where
  a : 0 ≤ s.1
  b : 0 ≤ s.2.1
  c : 0 ≤ s.2.2.1
  d : 0 ≤ s.2.2.2
structure Le4 (s t : Q4) : Prop where
  a : s.1 ≤ t.1
  b : s.2.1 ≤ t.2.1
  c : s.2.2.1 ≤ t.2.2.1
  d : s.2.2.2 ≤ t.2.2.2
theorem Le4.refl (s : Q4) : Le4 s s := ⟨Int.le_refl _, Int.le_refl _, Int.le_refl _, Int.le_refl _⟩
theorem Le4.trans {s t u : Q4} (h : Le4 s t) (k : Le4 t u) : Le4 s u := ⟨Int.le_trans h.a k.a, Int.le_trans h.b k.b, Int.le_trans h.c k.c, Int.le_trans h.d k.d⟩
theorem turn_ok {s : Q4} {x : Str × Int} (h : Ok4 s) (hx : 0 ≤ x.2) : Ok4 (turn s x) ∧ Le4 s (turn s x) := by
  have h1 := Int.mul_nonneg hx h.a
  have h2 := Int.mul_nonneg hx h.b
  have h3 := Int.mul_nonneg hx h.c
  have h4 := Int.mul_nonneg hx h.d
  obtain ⟨a, b, c, d⟩ := h
  unfold turn
  by_cases e : x.1 = ("flat" : Str)
  · rw [if_pos e]
    exact ⟨⟨a, b, by dsimp only; omega, by dsimp only; omega⟩, ⟨Int.le_refl _, Int.le_refl _, by dsimp only; omega, by dsimp only; omega⟩⟩
  · rw [if_neg e]
    exact ⟨⟨by dsimp only; omega, by dsimp only; omega, c, d⟩, ⟨by dsimp only; omega, by dsimp only; omega, Int.le_refl _, Int.le_refl _⟩⟩
theorem nb_le {rs : List (Str × Int)} : ∀ {s : Q4}, Ok4 s → (∀ x ∈ rs, 0 ≤ x.2) → Ok4 (nb s rs) ∧ Le4 s (nb s rs) := by
  induction rs with
  | nil => intro s h _; exact ⟨h, Le4.refl s⟩
  | cons x r ih =>
    intro s h hx
    have t := turn_ok h (hx x List.mem_cons_self)
    have u := ih t.1 (fun y hy => hx y (List.mem_cons_of_mem _ hy))
    exact ⟨u.1, t.2.trans u.2⟩
theorem nb_snoc (s : Q4) (rs : List (Str × Int)) (x : Str × Int) : nb s (rs ++ [x]) = turn (nb s rs) x := by
  unfold nb
  rw [List.foldl_append]
  rfl
theorem mul_bd {k a t : Int} (hk : 0 ≤ k) (ha : 0 ≤ a) (h : k * a ≤ t) (ht : t.natAbs < 2 ^ Big) (ha2 : a.natAbs < 2 ^ Big) : JMul k a := by
  by_cases z : a = 0
  · rw [z]; exact mul_zero_ok
  · have h1 : k * 1 ≤ k * a := Int.mul_le_mul_of_nonneg_left (by omega) hk
    have h2 : k ≤ t := by omega
    exact mul_ok (big_of hk h2 ht) ha2
structure Bd4 (s : Q4) : Prop where
  a : s.1.natAbs < 2 ^ Big
  b : s.2.1.natAbs < 2 ^ Big
  c : s.2.2.1.natAbs < 2 ^ Big
  d : s.2.2.2.natAbs < 2 ^ Big
theorem Bd4.le {s t : Q4} (h : Ok4 s) (l : Le4 s t) (b : Bd4 t) : Bd4 s := ⟨big_of h.a l.a b.a, big_of h.b l.b b.b, big_of h.c l.c b.c, big_of h.d l.d b.d⟩
/-- what one turn multiplies -/
theorem turn_mul {s : Q4} {x : Str × Int} (h : Ok4 s) (hx : 0 ≤ x.2) (bd : Bd4 (turn s x)) :
    if x.1 = ("flat" : Str) then JMul x.2 s.1 ∧ JMul x.2 s.2.1 else JMul x.2 s.2.2.1 ∧ JMul x.2 s.2.2.2 := by
  have hl := (turn_ok h hx).2
  have bs := bd.le h hl
  unfold turn at bd
  by_cases e : x.1 = ("flat" : Str)
  · rw [if_pos e] at bd ⊢
    have c0 := h.c
    have d0 := h.d
    exact ⟨mul_bd hx h.a (show x.2 * s.1 ≤ s.2.2.1 + x.2 * s.1 by omega) bd.c bs.a, mul_bd hx h.b (show x.2 * s.2.1 ≤ s.2.2.2 + x.2 * s.2.1 by omega) bd.d bs.b⟩
  · rw [if_neg e] at bd ⊢
    have a0 := h.a
    have b0 := h.b
    exact ⟨mul_bd hx h.c (show x.2 * s.2.2.1 ≤ s.1 + x.2 * s.2.2.1 by omega) bd.a bs.c, mul_bd hx h.d (show x.2 * s.2.2.2 ≤ s.2.1 + x.2 * s.2.2.2 by omega) bd.b bs.d⟩
end Slw
namespace Slw
open PySem J
def Kinds (rs : List (Str × Int)) : Prop := ∀ x ∈ rs, (x.1 = ("flat" : Str) ∨ x.1 = ("steep" : Str)) ∧ 1 ≤ x.2
def Alt (rs : List (Str × Int)) : Prop := ∀ (i : Nat) x y, rs[i]? = some x → rs[i + 1]? = some y → x.1 ≠ y.1
theorem Kinds.snoc {rs : List (Str × Int)} {x : Str × Int} (h : Kinds rs) (hx : (x.1 = ("flat" : Str) ∨ x.1 = ("steep" : Str)) ∧ 1 ≤ x.2) : Kinds (rs ++ [x]) := fun y hy => by
  rcases List.mem_append.mp hy with h1 | h1
  · exact h y h1
  · rw [List.mem_singleton.mp h1]; exact hx
theorem Alt.snoc {rs : List (Str × Int)} {y : Str × Int} (h : Alt rs) (hl : ∀ x, rs.getLast? = some x → x.1 ≠ y.1) : Alt (rs ++ [y]) := fun i u v hu hv => by
  have hv1 : i + 1 < (rs ++ [y]).length := (List.getElem?_eq_some_iff.mp hv).1
  rw [List.length_append, List.length_singleton] at hv1
  by_cases e : i + 1 < rs.length
  · rw [List.getElem?_append_left e] at hv
    rw [List.getElem?_append_left (by omega)] at hu
    exact h i u v hu hv
  · have ei : i + 1 = rs.length := by omega
    rw [ei, List.getElem?_append_right (Nat.le_refl _), Nat.sub_self] at hv
    have e1 : y = v := Option.some.inj hv
    rw [List.getElem?_append_left (by omega)] at hu
    subst e1
    refine hl u ?_
    rw [List.getLast?_eq_getElem?, show rs.length - 1 = i by omega]
    exact hu
theorem turn_det {s : Q4} {x : Str × Int} (h : s.1 * s.2.2.2 - s.2.1 * s.2.2.1 = 1) : (turn s x).1 * (turn s x).2.2.2 - (turn s x).2.1 * (turn s x).2.2.1 = 1 := by
  unfold turn
  split
  · dsimp only; grind
  · dsimp only; grind
/-- what steps hands back -/
structure StepsOf (p q : Int) (rs : List (Str × Int)) : Prop where
  kinds : Kinds rs
  alt : Alt rs
  p_eq : (nb s1001 rs).1 + (nb s1001 rs).2.2.1 = p
  q_eq : (nb s1001 rs).2.1 + (nb s1001 rs).2.2.2 = q
  det : (nb s1001 rs).1 * (nb s1001 rs).2.2.2 - (nb s1001 rs).2.1 * (nb s1001 rs).2.2.1 = 1
  len : rs.length ≤ 8000
theorem StepsOf.nn {p q : Int} {rs : List (Str × Int)} (h : StepsOf p q rs) : Ok4 (nb s1001 rs) := (nb_le ⟨by decide, by decide, by decide, by decide⟩ fun x hx => by have := (h.kinds x hx).2; omega).1
theorem quot_one {p q : Int} (hq : 0 < q) (hl : q < p) : 1 ≤ (p - 1) / q ∧ 1 ≤ p - (p - 1) / q * q ∧ p - (p - 1) / q * q ≤ q ∧ 0 ≤ (p - 1) / q := by
  have e := Int.mul_ediv_add_emod (p - 1) q
  have r0 := Int.emod_nonneg (p - 1) (show q ≠ 0 by omega)
  have r1 := Int.emod_lt_of_pos (p - 1) hq
  have h1 : 1 ≤ (p - 1) / q := (Int.le_ediv_iff_mul_le hq).mpr (by omega)
  rw [Int.mul_comm] at e
  exact ⟨h1, by omega, by omega, by omega⟩
theorem half {p q c : Int} (hq : 0 < q) (h1 : 1 ≤ c) (h2 : p - c * q ≤ q) : 2 * ((p - c * q) * q) ≤ p * q := by
  have h3 : 1 * q ≤ c * q := Int.mul_le_mul_of_nonneg_right h1 (by omega)
  have h4 : 2 * (p - c * q) ≤ p := by omega
  have h5 := Int.mul_le_mul_of_nonneg_right h4 (Int.le_of_lt hq)
  have h6 : 2 * (p - c * q) * q = 2 * ((p - c * q) * q) := Int.mul_assoc ..
  omega
theorem pow_two_len {n : Nat} {x : Int} (hx : 1 ≤ x) (b : (2 : Int) ^ n * x < 2 ^ 8000) : n ≤ 8000 := by
  by_cases h : n ≤ 8000
  · exact h
  · exfalso
    have h1 : (2 : Int) ^ 8000 ≤ 2 ^ n := by
      have := Nat.pow_le_pow_right (show 0 < 2 by decide) (show 8000 ≤ n by omega)
      exact_mod_cast this
    have h2 : (0 : Int) ≤ 2 ^ n := Int.le_trans (by decide) h1
    have h3 : (2 : Int) ^ n * 1 ≤ 2 ^ n * x := Int.mul_le_mul_of_nonneg_left hx h2
    omega
theorem steps_ok {p q : Int} {P : List (Str × Int) → Prop} (hp : 0 < p) (hq : 0 < q) (hg : Int.gcd p q = 1) (bp : p.natAbs < 2 ^ Big) (bq : q.natAbs < 2 ^ Big) (k : ∀ rs, StepsOf p q rs → P rs) : w_steps p q P := by
  unfold w_steps
  refine tree_ok hp hq hg (wLet_to ?_)
  have hpq : p * q < 2 ^ 8000 := by
    have h1 : p < 2 ^ 4000 := by
      have : p.natAbs < 2 ^ 4000 := bp
      have e : ((p.natAbs : Nat) : Int) = p := by omega
      rw [← e]
      exact_mod_cast this
    have h2 : q < 2 ^ 4000 := by
      have : q.natAbs < 2 ^ 4000 := bq
      have e : ((q.natAbs : Nat) : Int) = q := by omega
      rw [← e]
      exact_mod_cast this
    have e : (2 : Int) ^ 8000 = 2 ^ 4000 * 2 ^ 4000 := by rw [← Int.pow_add]
    rw [e]
    exact Int.mul_lt_mul h1 (Int.le_of_lt h2) hq (Int.le_of_lt (Int.pow_pos (by decide)))
  refine ⟨fun s => 1 ≤ s.1 ∧ 1 ≤ s.2.1 ∧ Int.gcd s.1 s.2.1 = 1 ∧ Kinds s.2.2 ∧ Alt s.2.2 ∧ (∀ x, s.2.2.getLast? = some x → (x.1 = ("flat" : Str) ∧ s.1 ≤ s.2.1) ∨ (x.1 = ("steep" : Str) ∧ s.2.1 ≤ s.1)) ∧
    p = (nb s1001 s.2.2).1 * s.1 + (nb s1001 s.2.2).2.2.1 * s.2.1 ∧ q = (nb s1001 s.2.2).2.1 * s.1 + (nb s1001 s.2.2).2.2.2 * s.2.1 ∧
    (nb s1001 s.2.2).1 * (nb s1001 s.2.2).2.2.2 - (nb s1001 s.2.2).2.1 * (nb s1001 s.2.2).2.2.1 = 1 ∧ (2 : Int) ^ s.2.2.length * (s.1 * s.2.1) ≤ p * q ∧ s.1 ≤ p ∧ s.2.1 ≤ q, fun s => (s.1 + s.2.1).toNat,
    ⟨hp, hq, hg, (fun x hx => by cases hx), (fun i x y hx => by cases hx), (fun x hx => by cases hx), ?_, ?_, (by show (1 : Int) * 1 - 0 * 0 = 1; decide), ?_, Int.le_refl _, Int.le_refl _⟩, ?_⟩
  · show p = 1 * p + 0 * q
    omega
  · show q = 0 * p + 1 * q
    omega
  · show (2 : Int) ^ 0 * (p * q) ≤ p * q
    rw [Int.pow_zero, Int.one_mul]
    exact Int.le_refl _
  · rintro ⟨u, v, rs⟩ ⟨u1, v1, g, kd, al, la, ep, eq, det, len, up, vq⟩
    dsimp only at u1 v1 g kd al la ep eq det len up vq ⊢
    have uv1 : 1 ≤ u * v := by
      have := Int.mul_le_mul_of_nonneg_right u1 (show (0 : Int) ≤ v by omega)
      omega
    have l8 : rs.length ≤ 8000 := pow_two_len uv1 (Int.lt_of_le_of_lt len hpq)
    refine ⟨fun e => ?_, fun e => ?_⟩
    · have hne : u ≠ v := fun z => by rw [z] at e; simp at e
      refine ⟨fun c => ?_, fun c => ?_⟩
      · have hlt : v < u := of_decide_eq_true c
        obtain ⟨c1, w1, w2, c0⟩ := quot_one (show 0 < v by omega) hlt
        have bv : v.natAbs < 2 ^ Big := big_of (by omega) vq bq
        have bu : u.natAbs < 2 ^ Big := big_of (by omega) up bp
        have hc : (u - 1) / v ≤ u := Int.le_trans (Int.ediv_le_self _ (by omega)) (by omega)
        refine ⟨div_ok (by omega) bv, by omega, mul_ok (big_of c0 hc bu) bv, ?_⟩
        generalize hcc : (u - 1) / v = cc at c1 w1 w2 c0 hc ⊢
        have ht : turn (nb s1001 rs) (("flat" : Str), cc) = ((nb s1001 rs).1, (nb s1001 rs).2.1, (nb s1001 rs).2.2.1 + cc * (nb s1001 rs).1, (nb s1001 rs).2.2.2 + cc * (nb s1001 rs).2.1) := if_pos rfl
        refine ⟨⟨w1, v1, ?_, kd.snoc ⟨.inl rfl, c1⟩, al.snoc fun x hx => ?_, fun x hx => ?_, ?_, ?_, ?_, ?_, ?_, vq⟩, ?_⟩
        · rw [Int.gcd_sub_mul_right_left]
          exact g
        · rcases la x hx with ⟨_, l⟩ | ⟨l, _⟩
          · omega
          · rw [l]; exact sf_ne
        · rw [List.getLast?_concat] at hx
          rw [← Option.some.inj hx]
          exact .inl ⟨rfl, w2⟩
        · rw [nb_snoc, ht]
          dsimp only
          grind
        · rw [nb_snoc, ht]
          dsimp only
          grind
        · rw [nb_snoc]
          exact turn_det det
        · have hh := half (show 0 < v by omega) c1 w2
          rw [List.length_append, List.length_singleton, Int.pow_succ, Int.mul_assoc]
          refine Int.le_trans (Int.mul_le_mul_of_nonneg_left hh (Int.le_of_lt (Int.pow_pos (by decide)))) len
        · have : 0 ≤ cc * v := Int.mul_nonneg c0 (by omega)
          omega
        · have : 1 * v ≤ cc * v := Int.mul_le_mul_of_nonneg_right c1 (by omega)
          omega
      · have hlt : u < v := by
          have := of_decide_eq_false c
          omega
        obtain ⟨c1, w1, w2, c0⟩ := quot_one (show 0 < u by omega) hlt
        have bv : v.natAbs < 2 ^ Big := big_of (by omega) vq bq
        have bu : u.natAbs < 2 ^ Big := big_of (by omega) up bp
        have hc : (v - 1) / u ≤ v := Int.le_trans (Int.ediv_le_self _ (by omega)) (by omega)
        refine ⟨div_ok (by omega) bu, by omega, mul_ok (big_of c0 hc bv) bu, ?_⟩
        generalize hcc : (v - 1) / u = cc at c1 w1 w2 c0 hc ⊢
        have ht : turn (nb s1001 rs) (("steep" : Str), cc) = ((nb s1001 rs).1 + cc * (nb s1001 rs).2.2.1, (nb s1001 rs).2.1 + cc * (nb s1001 rs).2.2.2, (nb s1001 rs).2.2.1, (nb s1001 rs).2.2.2) := if_neg sf_ne
        refine ⟨⟨u1, w1, ?_, kd.snoc ⟨.inr rfl, c1⟩, al.snoc fun x hx => ?_, fun x hx => ?_, ?_, ?_, ?_, ?_, up, ?_⟩, ?_⟩
        · rw [Int.gcd_sub_mul_right_right]
          exact g
        · rcases la x hx with ⟨l, _⟩ | ⟨_, l⟩
          · rw [l]; exact fs_ne
          · omega
        · rw [List.getLast?_concat] at hx
          rw [← Option.some.inj hx]
          exact .inr ⟨rfl, w2⟩
        · rw [nb_snoc, ht]
          dsimp only
          grind
        · rw [nb_snoc, ht]
          dsimp only
          grind
        · rw [nb_snoc]
          exact turn_det det
        · have hh := half (show 0 < u by omega) c1 w2
          rw [Int.mul_comm u (v - cc * u), List.length_append, List.length_singleton, Int.pow_succ, Int.mul_assoc]
          rw [Int.mul_comm u v] at len
          refine Int.le_trans (Int.mul_le_mul_of_nonneg_left hh (Int.le_of_lt (Int.pow_pos (by decide)))) len
        · have : 0 ≤ cc * u := Int.mul_nonneg c0 (by omega)
          omega
        · have : 1 * u ≤ cc * u := Int.mul_le_mul_of_nonneg_right c1 (by omega)
          omega
    · have he : u = v := by
        by_cases z : u = v
        · exact z
        · rw [decide_eq_false z] at e; cases e
      subst he
      have hu : u = 1 := by
        rw [Int.gcd_self] at g
        omega
      subst hu
      rw [Int.mul_one, Int.mul_one] at ep eq
      exact k rs ⟨kd, al, ep.symm, eq.symm, det, l8⟩
end Slw
namespace Slw
open PySem J
def E : List (Str × Int) → Int × Int
  | [] => (1, 1)
  | x :: r => if x.1 = ("flat" : Str) then ((E r).1 + x.2 * (E r).2, (E r).2) else ((E r).1, (E r).2 + x.2 * (E r).1)
theorem E_cons (x : Str × Int) (r : List (Str × Int)) : E (x :: r) = if x.1 = ("flat" : Str) then ((E r).1 + x.2 * (E r).2, (E r).2) else ((E r).1, (E r).2 + x.2 * (E r).1) := rfl
theorem E_pos : ∀ {rs : List (Str × Int)}, (∀ x ∈ rs, 0 ≤ x.2) → 1 ≤ (E rs).1 ∧ 1 ≤ (E rs).2
  | [], _ => ⟨by decide, by decide⟩
  | x :: r, h => by
    obtain ⟨h1, h2⟩ := E_pos (rs := r) fun y hy => h y (List.mem_cons_of_mem _ hy)
    have h0 := h x List.mem_cons_self
    have m1 := Int.mul_nonneg h0 (show (0 : Int) ≤ (E r).1 by omega)
    have m2 := Int.mul_nonneg h0 (show (0 : Int) ≤ (E r).2 by omega)
    rw [E_cons]
    split
    · exact ⟨by dsimp only; omega, h2⟩
    · exact ⟨h1, by dsimp only; omega⟩
theorem nb_E : ∀ (rs : List (Str × Int)) (s : Q4), (nb s rs).1 + (nb s rs).2.2.1 = s.1 * (E rs).1 + s.2.2.1 * (E rs).2 ∧ (nb s rs).2.1 + (nb s rs).2.2.2 = s.2.1 * (E rs).1 + s.2.2.2 * (E rs).2
  | [], s => by
    show s.1 + s.2.2.1 = s.1 * 1 + s.2.2.1 * 1 ∧ s.2.1 + s.2.2.2 = s.2.1 * 1 + s.2.2.2 * 1
    omega
  | x :: r, s => by
    have ih := nb_E r (turn s x)
    have e : nb s (x :: r) = nb (turn s x) r := rfl
    rw [e, ih.1, ih.2, E_cons]
    unfold turn
    generalize (E r).1 = u
    generalize (E r).2 = v
    by_cases c : x.1 = ("flat" : Str)
    · rw [if_pos c, if_pos c]
      dsimp only
      clear ih e
      constructor <;> grind
    · rw [if_neg c, if_neg c]
      dsimp only
      clear ih e
      constructor <;> grind
theorem nb_E1 (rs : List (Str × Int)) : (nb s1001 rs).1 + (nb s1001 rs).2.2.1 = (E rs).1 ∧ (nb s1001 rs).2.1 + (nb s1001 rs).2.2.2 = (E rs).2 := by
  have h := nb_E rs s1001
  have e : s1001 = ((1 : Int), (0 : Int), (0 : Int), (1 : Int)) := rfl
  rw [h.1, h.2, e]
  dsimp only
  omega
def F (u v : Int) : List (Str × Int) :=
  if h : 1 ≤ u ∧ 1 ≤ v ∧ v < u then (("flat" : Str), (u - 1) / v) :: F (u - (u - 1) / v * v) v
  else if h : 1 ≤ u ∧ 1 ≤ v ∧ u < v then (("steep" : Str), (v - 1) / u) :: F u (v - (v - 1) / u * u)
  else []
termination_by (u + v).toNat
decreasing_by
  · obtain ⟨c1, w1, w2, c0⟩ := quot_one (show 0 < v by omega) h.2.2
    have : 1 * v ≤ (u - 1) / v * v := Int.mul_le_mul_of_nonneg_right c1 (by omega)
    omega
  · obtain ⟨c1, w1, w2, c0⟩ := quot_one (show 0 < u by omega) h.2.2
    have : 1 * u ≤ (v - 1) / u * u := Int.mul_le_mul_of_nonneg_right c1 (by omega)
    omega
theorem F_flat {u v : Int} (hu : 1 ≤ u) (hv : 1 ≤ v) (h : v < u) : F u v = (("flat" : Str), (u - 1) / v) :: F (u - (u - 1) / v * v) v := by
  rw [F]
  exact dif_pos ⟨hu, hv, h⟩
theorem F_steep {u v : Int} (hu : 1 ≤ u) (hv : 1 ≤ v) (h : u < v) : F u v = (("steep" : Str), (v - 1) / u) :: F u (v - (v - 1) / u * u) := by
  rw [F]
  rw [dif_neg (by omega)]
  exact dif_pos ⟨hu, hv, h⟩
theorem F_self (u : Int) : F u u = [] := by
  rw [F]
  rw [dif_neg (by omega), dif_neg (by omega)]
theorem Kinds.tail {x : Str × Int} {r : List (Str × Int)} (h : Kinds (x :: r)) : Kinds r := fun y hy => h y (List.mem_cons_of_mem _ hy)
theorem Kinds.nn {r : List (Str × Int)} (h : Kinds r) : ∀ x ∈ r, 0 ≤ x.2 := fun x hx => by have := (h x hx).2; omega
theorem Alt.tail {x : Str × Int} {r : List (Str × Int)} (h : Alt (x :: r)) : Alt r := fun i u v hu hv => h (i + 1) u v (by rw [List.getElem?_cons_succ]; exact hu) (by rw [List.getElem?_cons_succ]; exact hv)
theorem Alt.head {x y : Str × Int} {r : List (Str × Int)} (h : Alt (x :: y :: r)) : x.1 ≠ y.1 := h 0 x y rfl rfl
theorem div_of {u v c : Int} (hv : 1 ≤ v) (hu : 1 ≤ u) (h : u ≤ v) : (u + c * v - 1) / v = c := by
  have e : u + c * v - 1 = (u - 1) + c * v := by omega
  rw [e, Int.add_mul_ediv_right _ _ (by omega), Int.ediv_eq_zero_of_lt (by omega) (by omega)]
  omega
theorem FE : ∀ {rs : List (Str × Int)}, Kinds rs → Alt rs → F (E rs).1 (E rs).2 = rs
  | [], _, _ => F_self 1
  | x :: r, hk, ha => by
    have ih := FE (rs := r) hk.tail ha.tail
    obtain ⟨h1, h2⟩ := E_pos (rs := r) hk.tail.nn
    obtain ⟨kx, cx⟩ := hk x List.mem_cons_self
    have m1 : 1 * (E r).1 ≤ x.2 * (E r).1 := Int.mul_le_mul_of_nonneg_right cx (by omega)
    have m2 : 1 * (E r).2 ≤ x.2 * (E r).2 := Int.mul_le_mul_of_nonneg_right cx (by omega)
    by_cases e : x.1 = ("flat" : Str)
    · have he : E (x :: r) = ((E r).1 + x.2 * (E r).2, (E r).2) := by
        rw [E_cons]
        exact if_pos e
      have hle : (E r).1 ≤ (E r).2 := by
        cases r with
        | nil => exact Int.le_refl 1
        | cons y t =>
          have hy : y.1 ≠ ("flat" : Str) := fun z => ha.head (by rw [e, z])
          have h3 := E_pos (rs := t) hk.tail.tail.nn
          have cy := (hk.tail y List.mem_cons_self).2
          have m3 : 1 * (E t).1 ≤ y.2 * (E t).1 := Int.mul_le_mul_of_nonneg_right cy (by omega)
          have hey : E (y :: t) = ((E t).1, (E t).2 + y.2 * (E t).1) := by
            rw [E_cons]
            exact if_neg hy
          rw [hey]
          dsimp only
          omega
      rw [he]
      dsimp only
      rw [F_flat (by omega) h2 (by omega), div_of h2 h1 hle, show (E r).1 + x.2 * (E r).2 - x.2 * (E r).2 = (E r).1 by omega, ih, ← e]
    · have e2 : x.1 = ("steep" : Str) := by
        rcases kx with z | z
        · exact absurd z e
        · exact z
      have he : E (x :: r) = ((E r).1, (E r).2 + x.2 * (E r).1) := by
        rw [E_cons]
        exact if_neg e
      have hle : (E r).2 ≤ (E r).1 := by
        cases r with
        | nil => exact Int.le_refl 1
        | cons y t =>
          have hy : y.1 = ("flat" : Str) := by
            rcases (hk.tail y List.mem_cons_self).1 with z | z
            · exact z
            · exact absurd (by rw [e2, z]) ha.head
          have h3 := E_pos (rs := t) hk.tail.tail.nn
          have cy := (hk.tail y List.mem_cons_self).2
          have m3 : 1 * (E t).2 ≤ y.2 * (E t).2 := Int.mul_le_mul_of_nonneg_right cy (by omega)
          have hey : E (y :: t) = ((E t).1 + y.2 * (E t).2, (E t).2) := by
            rw [E_cons]
            exact if_pos hy
          rw [hey]
          dsimp only
          omega
      rw [he]
      dsimp only
      rw [F_steep h1 (by omega) (by omega), div_of h1 h2 hle, show (E r).2 + x.2 * (E r).1 - x.2 * (E r).1 = (E r).2 by omega, ih, ← e2]
def sw (x : Str × Int) : Str × Int := if x.1 = ("flat" : Str) then (("steep" : Str), x.2) else (("flat" : Str), x.2)
end Slw
namespace Slw
open PySem J
def lev (p q : Int) : Int := 1 + ((F p q).map (·.2)).sum
end Slw
namespace Slw
open PySem J
theorem Alt.cons {x : Str × Int} {r : List (Str × Int)} (h : Alt r) (hx : ∀ y, r.head? = some y → x.1 ≠ y.1) : Alt (x :: r) := fun i u v hu hv => by
  cases i with
  | zero =>
    have e : x = u := Option.some.inj hu
    subst e
    rw [List.getElem?_cons_succ] at hv
    refine hx v ?_
    rw [List.head?_eq_getElem?]
    exact hv
  | succ j =>
    rw [List.getElem?_cons_succ] at hu hv
    exact h j u v hu hv
theorem F_spec : ∀ (n : Nat) (u v : Int), (u + v).toNat ≤ n → 1 ≤ u → 1 ≤ v → Int.gcd u v = 1 →
    Kinds (F u v) ∧ Alt (F u v) ∧ E (F u v) = (u, v) ∧ (∀ x, (F u v).head? = some x → (x.1 = ("flat" : Str) ∧ v < u) ∨ (x.1 = ("steep" : Str) ∧ u < v))
  | 0, u, v, hn, hu, hv, _ => by omega
  | n + 1, u, v, hn, hu, hv, hg => by
    by_cases h : v < u
    · obtain ⟨c1, w1, w2, c0⟩ := quot_one (show 0 < v by omega) h
      have hm : 1 * v ≤ (u - 1) / v * v := Int.mul_le_mul_of_nonneg_right c1 (by omega)
      rw [F_flat hu hv h]
      generalize (u - 1) / v = c at c1 w1 w2 c0 hm ⊢
      have hg2 : Int.gcd (u - c * v) v = 1 := by rw [Int.gcd_sub_mul_right_left]; exact hg
      obtain ⟨k, a, e, hd⟩ := F_spec n (u - c * v) v (by omega) w1 hv hg2
      refine ⟨fun x hx => ?_, a.cons fun y hy => ?_, ?_, fun x hx => ?_⟩
      · rcases List.mem_cons.mp hx with z | z
        · rw [z]; exact ⟨.inl rfl, c1⟩
        · exact k x z
      · rcases hd y hy with ⟨_, z⟩ | ⟨z, _⟩
        · omega
        · rw [z]; exact fs_ne
      · rw [E_cons, if_pos rfl, e]
        exact Prod.ext (by dsimp only; omega) rfl
      · rw [← (Option.some.inj hx : _ = x)]
        exact .inl ⟨rfl, h⟩
    · by_cases h2 : u < v
      · obtain ⟨c1, w1, w2, c0⟩ := quot_one (show 0 < u by omega) h2
        have hm : 1 * u ≤ (v - 1) / u * u := Int.mul_le_mul_of_nonneg_right c1 (by omega)
        rw [F_steep hu hv h2]
        generalize (v - 1) / u = c at c1 w1 w2 c0 hm ⊢
        have hg2 : Int.gcd u (v - c * u) = 1 := by rw [Int.gcd_sub_mul_right_right]; exact hg
        obtain ⟨k, a, e, hd⟩ := F_spec n u (v - c * u) (by omega) hu w1 hg2
        refine ⟨fun x hx => ?_, a.cons fun y hy => ?_, ?_, fun x hx => ?_⟩
        · rcases List.mem_cons.mp hx with z | z
          · rw [z]; exact ⟨.inr rfl, c1⟩
          · exact k x z
        · rcases hd y hy with ⟨z, _⟩ | ⟨_, z⟩
          · rw [z]; exact sf_ne
          · omega
        · rw [E_cons, if_neg sf_ne, e]
          exact Prod.ext rfl (by dsimp only; omega)
        · rw [← (Option.some.inj hx : _ = x)]
          exact .inr ⟨rfl, h2⟩
      · have e : u = v := by omega
        subst e
        have hu1 : u = 1 := by
          rw [Int.gcd_self] at hg
          omega
        subst hu1
        rw [F_self]
        exact ⟨(fun x hx => by cases hx), (fun i x y hx => by cases hx), rfl, (fun x hx => by cases hx)⟩
theorem gcd_det {a b c d : Int} (h : a * d - b * c = 1) : Int.gcd (a + c) (b + d) = 1 := by
  have e : a * (b + d) - b * (a + c) = 1 := by grind
  have d1 : ((Int.gcd (a + c) (b + d) : Nat) : Int) ∣ a * (b + d) - b * (a + c) := Int.dvd_sub (Int.dvd_mul_of_dvd_right (Int.gcd_dvd_right ..)) (Int.dvd_mul_of_dvd_right (Int.gcd_dvd_left ..))
  rw [e] at d1
  have := Int.le_of_dvd (by decide) d1
  have z : Int.gcd (a + c) (b + d) ≠ 0 := fun z => by
    have := Int.gcd_eq_zero_iff.mp z
    rw [this.1, this.2] at e
    simp at e
  omega
theorem Alt.init {rs : List (Str × Int)} {y : Str × Int} (h : Alt (rs ++ [y])) : Alt rs ∧ ∀ x, rs.getLast? = some x → x.1 ≠ y.1 := by
  refine ⟨fun i u v hu hv => ?_, fun x hx => ?_⟩
  · have l1 := (List.getElem?_eq_some_iff.mp hu).1
    have l2 := (List.getElem?_eq_some_iff.mp hv).1
    exact h i u v (by rw [List.getElem?_append_left l1]; exact hu) (by rw [List.getElem?_append_left l2]; exact hv)
  · have hn : rs ≠ [] := fun z => by subst z; cases hx
    have hl : 0 < rs.length := List.length_pos_iff.mpr hn
    rw [List.getLast?_eq_getElem?] at hx
    refine h (rs.length - 1) x y (by rw [List.getElem?_append_left (by omega)]; exact hx) ?_
    rw [show rs.length - 1 + 1 = rs.length by omega, List.getElem?_append_right (Nat.le_refl _), Nat.sub_self]
    rfl
theorem turn_f {s : Q4} {x : Str × Int} (c : x.1 = ("flat" : Str)) : turn s x = (s.1, s.2.1, s.2.2.1 + x.2 * s.1, s.2.2.2 + x.2 * s.2.1) := if_pos c
theorem turn_s {s : Q4} {x : Str × Int} (c : ¬ x.1 = ("flat" : Str)) : turn s x = (s.1 + x.2 * s.2.2.1, s.2.1 + x.2 * s.2.2.2, s.2.2.1, s.2.2.2) := if_neg c
theorem turn_two {s : Q4} {x y : Str × Int} (h : y.1 = x.1) : turn s (x.1, y.2 + x.2) = turn (turn s y) x := by
  by_cases c : x.1 = ("flat" : Str)
  · have c2 : y.1 = ("flat" : Str) := by rw [h]; exact c
    rw [turn_f (x := (x.1, y.2 + x.2)) c, turn_f (x := x) c, turn_f (x := y) c2]
    refine Prod.ext rfl (Prod.ext rfl (Prod.ext ?_ ?_)) <;> dsimp only <;> grind
  · have c2 : ¬ y.1 = ("flat" : Str) := by rw [h]; exact c
    rw [turn_s (x := (x.1, y.2 + x.2)) c, turn_s (x := x) c, turn_s (x := y) c2]
    refine Prod.ext ?_ (Prod.ext ?_ rfl) <;> dsimp only <;> grind
/-- one more step: the level is one more -/
theorem one_more {rs : List (Str × Int)} (hk : Kinds rs) (ha : Alt rs) {z : Str × Int} (kz : (z.1 = ("flat" : Str) ∨ z.1 = ("steep" : Str)) ∧ z.2 = 1) :
    ∃ ts, Kinds ts ∧ Alt ts ∧ nb s1001 ts = turn (nb s1001 rs) z ∧ (ts.map (·.2)).sum = (rs.map (·.2)).sum + 1 := by
  by_cases h : ∃ t y, rs = t ++ [y] ∧ y.1 = z.1
  · obtain ⟨t, y, rfl, e⟩ := h
    obtain ⟨a1, a2⟩ := ha.init
    have ky := hk y (List.mem_append.mpr (.inr (List.mem_singleton.mpr rfl)))
    refine ⟨t ++ [(z.1, y.2 + z.2)], Kinds.snoc (fun x hx => hk x (List.mem_append.mpr (.inl hx))) ⟨kz.1, by have := ky.2; have := kz.2; dsimp only; omega⟩, a1.snoc fun x hx => by
      have := a2 x hx
      rw [e] at this
      exact this, ?_, ?_⟩
    · rw [nb_snoc, nb_snoc, turn_two e]
    · rw [List.map_append, List.map_append, List.sum_append, List.sum_append]
      simp
      have := kz.2
      omega
  · refine ⟨rs ++ [z], hk.snoc ⟨kz.1, by have := kz.2; omega⟩, ha.snoc fun x hx e => ?_, nb_snoc _ _ _, ?_⟩
    · have hn : rs ≠ [] := fun z => by subst z; cases hx
      refine h ⟨rs.dropLast, x, ?_, e⟩
      have : rs.getLast hn = x := by
        rw [List.getLast?_eq_some_getLast hn] at hx
        exact Option.some.inj hx
      rw [← this]
      exact (List.dropLast_concat_getLast hn).symm
    · rw [List.map_append, List.sum_append]
      simp
      have := kz.2
      omega
end Slw
namespace Slw
open PySem J
/-- w_law_level: the same level -/
theorem lawlevel_pos {p q : Int} {P : Int → Prop} (hp : 0 < p) (hq : 0 < q) (bp : p.natAbs < 2 ^ Big) (bq : q.natAbs < 2 ^ Big) (k : P (lev p q)) : w_law_level p q P := by
  unfold w_law_level
  refine ⟨fun e => ?_, fun _ => ⟨fun e => ?_, fun _ => wLet_to ?_⟩⟩
  · have := of_decide_eq_true e; omega
  · have := of_decide_eq_true e; omega
  refine ⟨fun s => 1 ≤ s.1 ∧ 1 ≤ s.2.1 ∧ s.1 ≤ p ∧ s.2.1 ≤ q ∧ s.2.2 + ((F s.1 s.2.1).map (·.2)).sum = lev p q, fun s => (s.1 + s.2.1).toNat, ⟨hp, hq, Int.le_refl _, Int.le_refl _, rfl⟩, ?_⟩
  rintro ⟨u, v, t⟩ ⟨u1, v1, up, vq, e⟩
  dsimp only at u1 v1 up vq e ⊢
  have bv : v.natAbs < 2 ^ Big := big_of (by omega) vq bq
  have bu : u.natAbs < 2 ^ Big := big_of (by omega) up bp
  refine ⟨fun c => ?_, fun c => ?_⟩
  · have hne : u ≠ v := fun z => by rw [z] at c; simp at c
    refine wJoin_ok (fun s => 1 ≤ s.1 ∧ 1 ≤ s.2.1 ∧ s.1 ≤ p ∧ s.2.1 ≤ q ∧ (t + s.2.2) + ((F s.1 s.2.1).map (·.2)).sum = lev p q ∧ (s.1 + s.2.1).toNat < (u + v).toNat) (fun s hs => wLet_to ⟨⟨hs.1, hs.2.1, hs.2.2.1, hs.2.2.2.1, hs.2.2.2.2.1⟩, hs.2.2.2.2.2⟩) (fun J hJ => ⟨fun c => ?_, fun c => ?_⟩)
    · have hlt : v < u := of_decide_eq_true c
      obtain ⟨c1, w1, w2, c0⟩ := quot_one (show 0 < v by omega) hlt
      have hc : (u - 1) / v ≤ u := Int.le_trans (Int.ediv_le_self _ (by omega)) (by omega)
      have hm : 1 * v ≤ (u - 1) / v * v := Int.mul_le_mul_of_nonneg_right c1 (by omega)
      rw [F_flat u1 v1 hlt, List.map_cons, List.sum_cons] at e
      refine ⟨div_ok (by omega) bv, wLet_to ⟨mul_ok (big_of c0 hc bu) bv, wLet_to (hJ _ ⟨w1, v1, ?_, vq, ?_, ?_⟩)⟩⟩
      · dsimp only; omega
      · dsimp only at e ⊢; omega
      · dsimp only; omega
    · have hlt : u < v := by
        have := of_decide_eq_false c
        omega
      obtain ⟨c1, w1, w2, c0⟩ := quot_one (show 0 < u by omega) hlt
      have hc : (v - 1) / u ≤ v := Int.le_trans (Int.ediv_le_self _ (by omega)) (by omega)
      have hm : 1 * u ≤ (v - 1) / u * u := Int.mul_le_mul_of_nonneg_right c1 (by omega)
      rw [F_steep u1 v1 hlt, List.map_cons, List.sum_cons] at e
      refine ⟨div_ok (by omega) bu, wLet_to ⟨mul_ok (big_of c0 hc bv) bu, wLet_to (hJ _ ⟨u1, w1, up, ?_, ?_, ?_⟩)⟩⟩
      · dsimp only; omega
      · dsimp only at e ⊢; omega
      · dsimp only; omega
  · have he : u = v := by
      by_cases z : u = v
      · exact z
      · rw [decide_eq_false z] at c; cases c
    subst he
    rw [F_self] at e
    have : t = lev p q := by
      rw [← e]
      simp
    rw [this]
    exact k
structure Dir (x : Int × Int) : Prop where
  a : 0 ≤ x.1
  b : 0 ≤ x.2
  g : Int.gcd x.1 x.2 = 1
  b1 : x.1.natAbs < 2 ^ Big
  b2 : x.2.natAbs < 2 ^ Big
def Lv (x : Int × Int) : Int := if x.1 = 0 ∨ x.2 = 0 then 0 else lev x.1 x.2
theorem Lv_zero {x : Int × Int} (h : x.1 = 0 ∨ x.2 = 0) : Lv x = 0 := if_pos h
theorem Lv_pos {x : Int × Int} (h1 : 0 < x.1) (h2 : 0 < x.2) : Lv x = lev x.1 x.2 := if_neg (by omega)
theorem sum_nn : ∀ {rs : List (Str × Int)}, (∀ x ∈ rs, 0 ≤ x.2) → 0 ≤ (rs.map (·.2)).sum
  | [], _ => by decide
  | x :: r, h => by
    have ih := sum_nn (rs := r) fun y hy => h y (List.mem_cons_of_mem _ hy)
    have h0 := h x List.mem_cons_self
    rw [List.map_cons, List.sum_cons]
    omega
theorem lev_one {p q : Int} (hp : 0 < p) (hq : 0 < q) (hg : Int.gcd p q = 1) : 1 ≤ lev p q := by
  have h := F_spec (p + q).toNat p q (Nat.le_refl _) (by omega) (by omega) hg
  have := sum_nn h.1.nn
  unfold lev
  omega
theorem lawlevel_dir {x : Int × Int} {P : Int → Prop} (h : Dir x) (k : P (Lv x)) : w_law_level x.1 x.2 P := by
  have ha := h.a
  have hb := h.b
  by_cases z : x.1 = 0 ∨ x.2 = 0
  · rw [Lv_zero z] at k
    unfold w_law_level
    refine ⟨fun _ => k, fun e => ⟨fun _ => k, fun e2 => ?_⟩⟩
    have h1 := of_decide_eq_false e
    have h2 := of_decide_eq_false e2
    omega
  · rw [Lv_pos (by omega) (by omega)] at k
    exact lawlevel_pos (by omega) (by omega) h.b1 h.b2 k
def bef (x y : Int × Int) : Bool := if Lv x = Lv y then decide (x.2 * y.1 < y.2 * x.1) else decide (Lv x < Lv y)
theorem before_ok {x y : Int × Int} {P : Bool → Prop} (hx : Dir x) (hy : Dir y) (k : P (bef x y)) : w_law_before x y P := by
  unfold w_law_before
  refine lawlevel_dir hx (wLet_to (lawlevel_dir hy (wLet_to ⟨fun e => ?_, fun e => ⟨mul_ok hx.b2 hy.b1, mul_ok hy.b2 hx.b1, ?_⟩⟩)))
  · have z : ¬ Lv x = Lv y := fun z => by rw [decide_eq_true z] at e; cases e
    unfold bef at k
    rw [if_neg z] at k
    exact k
  · have z : Lv x = Lv y := by
      by_cases z : Lv x = Lv y
      · exact z
      · rw [decide_eq_false z] at e; cases e
    unfold bef at k
    rw [if_pos z] at k
    exact k
theorem bef_anti {x y : Int × Int} (h : bef x y = true) (k : bef y x = true) : False := by
  unfold bef at h k
  by_cases z : Lv x = Lv y
  · rw [if_pos z] at h
    rw [if_pos z.symm] at k
    have h1 := of_decide_eq_true h
    have h2 := of_decide_eq_true k
    omega
  · rw [if_neg z] at h
    rw [if_neg (fun e => z e.symm)] at k
    have h1 := of_decide_eq_true h
    have h2 := of_decide_eq_true k
    omega
theorem dvd_eq {a b : Int} (ha : 0 ≤ a) (hb : 0 ≤ b) (h : a ∣ b) (k : b ∣ a) : a = b := Int.dvd_antisymm ha hb h k
theorem cop_dvd {p q r : Int} (g : Int.gcd p q = 1) (h : p ∣ q * r) : p ∣ r := by
  have h1 : p.natAbs ∣ q.natAbs * r.natAbs := by
    rw [← Int.natAbs_mul]
    exact Int.natAbs_dvd_natAbs.mpr h
  exact Int.natAbs_dvd_natAbs.mp (Nat.Coprime.dvd_of_dvd_mul_left g h1)
theorem cross_eq {x y : Int × Int} (hx : Dir x) (hy : Dir y) (e : x.2 * y.1 = y.2 * x.1) : x = y := by
  have d1 : x.1 ∣ y.1 := cop_dvd hx.g ⟨y.2, by rw [e, Int.mul_comm]⟩
  have d2 : y.1 ∣ x.1 := cop_dvd hy.g ⟨x.2, by rw [← e, Int.mul_comm]⟩
  have e1 := dvd_eq hx.a hy.a d1 d2
  have g1 : Int.gcd x.2 x.1 = 1 := by rw [Int.gcd_comm]; exact hx.g
  have g2 : Int.gcd y.2 y.1 = 1 := by rw [Int.gcd_comm]; exact hy.g
  have d3 : x.2 ∣ y.2 := cop_dvd g1 ⟨y.1, by rw [Int.mul_comm x.1 y.2, ← e]⟩
  have d4 : y.2 ∣ x.2 := cop_dvd g2 ⟨x.1, by rw [Int.mul_comm y.1 x.2, e]⟩
  exact Prod.ext e1 (dvd_eq hx.b hy.b d3 d4)
theorem bef_total {x y : Int × Int} (hx : Dir x) (hy : Dir y) (h : bef x y = false) (k : bef y x = false) : x = y := by
  unfold bef at h k
  by_cases z : Lv x = Lv y
  · rw [if_pos z] at h
    rw [if_pos z.symm] at k
    have h1 := of_decide_eq_false h
    have h2 := of_decide_eq_false k
    exact cross_eq hx hy (by omega)
  · rw [if_neg z] at h
    rw [if_neg (fun e => z e.symm)] at k
    have h1 := of_decide_eq_false h
    have h2 := of_decide_eq_false k
    omega
end Slw
namespace Slw
open PySem J
/-- a table repeated -/
def pwT (n : Nat) (t : Tb) : Nat → Tb
  | 0 => restT n
  | k + 1 => joinT (pwT n t k) t
theorem IsT.pw {n : Nat} {t : Tb} (ht : IsT n t) : ∀ k, IsT n (pwT n t k)
  | 0 => IsT.rest n
  | k + 1 => (IsT.pw ht k).join ht
theorem pw_left {n : Nat} {t : Tb} (ht : IsT n t) : ∀ k, joinT t (pwT n t k) = pwT n t (k + 1)
  | 0 => by
    show joinT t (restT n) = joinT (restT n) t
    rw [join_rest ht, rest_join ht]
  | k + 1 => by
    show joinT t (joinT (pwT n t k) t) = joinT (pwT n t (k + 1)) t
    rw [← joinT_assoc ht (ht.pw k) ht, pw_left ht k]
theorem pw_sq {n : Nat} {t : Tb} (ht : IsT n t) : ∀ k, pwT n (joinT t t) k = pwT n t (2 * k)
  | 0 => rfl
  | k + 1 => by
    show joinT (pwT n (joinT t t) k) (joinT t t) = pwT n t (2 * k + 2)
    rw [pw_sq ht k, ← joinT_assoc (ht.pw _) ht ht]
    rfl
end Slw
namespace Slw
open PySem J
def tt (n : Nat) (s : Tb × Tb) (x : Str × Int) : Tb × Tb := if x.1 = ("flat" : Str) then (s.1, joinT (pwT n s.1 x.2.toNat) s.2) else (joinT s.1 (pwT n s.2 x.2.toNat), s.2)
def tts (n : Nat) (s : Tb × Tb) (rs : List (Str × Int)) : Tb × Tb := rs.foldl (tt n) s
structure T2 (n : Nat) (s : Tb × Tb) : Prop where
  a : IsT n s.1
  b : IsT n s.2
theorem T2.tt {n : Nat} {s : Tb × Tb} {x : Str × Int} (h : T2 n s) : T2 n (Slw.tt n s x) := by
  unfold Slw.tt
  split
  · exact ⟨h.a, (h.a.pw _).join h.b⟩
  · exact ⟨h.a.join (h.b.pw _), h.b⟩
theorem T2.tts {n : Nat} : ∀ {rs : List (Str × Int)} {s : Tb × Tb}, T2 n s → T2 n (Slw.tts n s rs)
  | [], _, h => h
  | x :: r, s, h => T2.tts (rs := r) h.tt
theorem tts_snoc (n : Nat) (s : Tb × Tb) (rs : List (Str × Int)) (x : Str × Int) : tts n s (rs ++ [x]) = tt n (tts n s rs) x := by
  unfold tts
  rw [List.foldl_append]
  rfl
theorem pw_one {n : Nat} {t : Tb} (ht : IsT n t) : pwT n t 1 = t := rest_join ht
theorem tt_one {n : Nat} {s : Tb × Tb} {k : Str} {c : Int} (h : T2 n s) (hc : 0 ≤ c) : tt n s (k, c + 1) = tt n (tt n s (k, c)) (k, 1) := by
  have e1 : (c + 1).toNat = c.toNat + 1 := by omega
  unfold tt
  by_cases z : k = ("flat" : Str)
  · rw [if_pos z, if_pos z, if_pos z]
    dsimp only
    rw [e1, ← pw_left h.a, show ((1 : Int)).toNat = 1 from rfl, pw_one h.a, joinT_assoc h.a (h.a.pw _) h.b]
  · rw [if_neg z, if_neg z, if_neg z]
    dsimp only
    rw [e1, show ((1 : Int)).toNat = 1 from rfl, pw_one h.b, joinT_assoc h.a (h.b.pw _) h.b]
    rfl
/-- the table of one round of p:q -/
def Rt (n : Nat) (A B : Tb) (p q : Int) : Tb := if q = 0 then A else if p = 0 then B else joinT (tts n (A, B) (F p q)).1 (tts n (A, B) (F p q)).2
theorem Rt_pos {n : Nat} {A B : Tb} {p q : Int} (hp : 1 ≤ p) (hq : 1 ≤ q) : Rt n A B p q = joinT (tts n (A, B) (F p q)).1 (tts n (A, B) (F p q)).2 := by
  unfold Rt
  rw [if_neg (by omega), if_neg (by omega)]
theorem sum_nn0 : ∀ {rs : List (Str × Int)}, (∀ x ∈ rs, 0 ≤ x.2) → 0 ≤ (rs.map (·.2)).sum
  | [], _ => by decide
  | x :: r, h => by
    have h1 := h x List.mem_cons_self
    have h2 := sum_nn0 (rs := r) fun y hy => h y (List.mem_cons_of_mem _ hy)
    rw [List.map_cons, List.sum_cons]
    omega
/-- one step less -/
theorem less_one {n : Nat} {s : Tb × Tb} {r0 : List (Str × Int)} {y : Str × Int} (h : T2 n s) (hk : Kinds (r0 ++ [y])) (ha : Alt (r0 ++ [y])) :
    ∃ r1, Kinds r1 ∧ Alt r1 ∧ nb s1001 (r0 ++ [y]) = turn (nb s1001 r1) (y.1, 1) ∧ tts n s (r0 ++ [y]) = tt n (tts n s r1) (y.1, 1) ∧ ((r0 ++ [y]).map (·.2)).sum = (r1.map (·.2)).sum + 1 := by
  have ky := hk y (List.mem_append.mpr (.inr (List.mem_singleton.mpr rfl)))
  have k0 : Kinds r0 := fun x hx => hk x (List.mem_append.mpr (.inl hx))
  obtain ⟨a1, a2⟩ := ha.init
  obtain ⟨k, c⟩ := y
  dsimp only at ky a2 ⊢
  by_cases z : c = 1
  · subst z
    refine ⟨r0, k0, a1, nb_snoc _ _ _, tts_snoc _ _ _ _, ?_⟩
    rw [List.map_append, List.sum_append]
    simp
  · obtain ⟨d, rfl⟩ : ∃ d : Int, c = d + 1 := ⟨c - 1, by omega⟩
    have d1 : 1 ≤ d := by have := ky.2; omega
    refine ⟨r0 ++ [(k, d)], k0.snoc ⟨ky.1, d1⟩, a1.snoc a2, ?_, ?_, ?_⟩
    · rw [nb_snoc, nb_snoc, ← turn_two (x := (k, 1)) (y := (k, d)) rfl]
    · rw [tts_snoc, tts_snoc, ← tt_one h.tts (by omega)]
    · rw [List.map_append, List.sum_append, List.map_append, List.sum_append]
      simp
      omega
theorem Kinds.e1 {rs : List (Str × Int)} (h : Kinds rs) : 1 ≤ (nb s1001 rs).1 + (nb s1001 rs).2.2.1 ∧ 1 ≤ (nb s1001 rs).2.1 + (nb s1001 rs).2.2.2 := by
  obtain ⟨h1, h2⟩ := E_pos (rs := rs) (Kinds.nn h)
  obtain ⟨e1, e2⟩ := nb_E1 rs
  omega
theorem Rt_nb {n : Nat} {A B : Tb} {rs : List (Str × Int)} (hk : Kinds rs) (ha : Alt rs) : Rt n A B ((nb s1001 rs).1 + (nb s1001 rs).2.2.1) ((nb s1001 rs).2.1 + (nb s1001 rs).2.2.2) = joinT (tts n (A, B) rs).1 (tts n (A, B) rs).2 := by
  have hp := hk.e1
  rw [Rt_pos hp.1 hp.2]
  obtain ⟨e1, e2⟩ := nb_E1 rs
  rw [e1, e2, FE hk ha]
theorem key {n : Nat} {A B : Tb} (h : T2 n (A, B)) : ∀ (m : Nat) (rs : List (Str × Int)), Kinds rs → Alt rs → (rs.map (·.2)).sum ≤ m →
    (tts n (A, B) rs).1 = Rt n A B (nb s1001 rs).1 (nb s1001 rs).2.1 ∧ (tts n (A, B) rs).2 = Rt n A B (nb s1001 rs).2.2.1 (nb s1001 rs).2.2.2
  | m, rs, hk, ha, hm => by
    rcases List.eq_nil_or_concat rs with rfl | ⟨r0, y, rfl⟩
    · exact ⟨rfl, rfl⟩
    · rw [List.concat_eq_append] at hk ha hm ⊢
      obtain ⟨r1, k1, a1, en, et, es⟩ := less_one (n := n) (s := (A, B)) h hk ha
      have s0 := sum_nn0 (rs := r1) k1.nn
      match m, hm with
      | 0, hm => omega
      | m + 1, hm =>
        obtain ⟨i1, i2⟩ := key h m r1 k1 a1 (by omega)
        have rn := Rt_nb (n := n) (A := A) (B := B) k1 a1
        have t2 : T2 n (tts n (A, B) r1) := h.tts
        rw [en, et]
        generalize hN : nb s1001 r1 = N at i1 i2 rn ⊢
        by_cases z : y.1 = ("flat" : Str)
        · rw [show tt n (tts n (A, B) r1) (y.1, 1) = ((tts n (A, B) r1).1, joinT (pwT n (tts n (A, B) r1).1 1) (tts n (A, B) r1).2) from if_pos z, show turn N (y.1, 1) = (N.1, N.2.1, N.2.2.1 + 1 * N.1, N.2.2.2 + 1 * N.2.1) from if_pos z]
          dsimp only
          rw [pw_one t2.a, Int.one_mul, Int.one_mul, Int.add_comm N.2.2.1, Int.add_comm N.2.2.2, rn]
          exact ⟨i1, rfl⟩
        · rw [show tt n (tts n (A, B) r1) (y.1, 1) = (joinT (tts n (A, B) r1).1 (pwT n (tts n (A, B) r1).2 1), (tts n (A, B) r1).2) from if_neg z, show turn N (y.1, 1) = (N.1 + 1 * N.2.2.1, N.2.1 + 1 * N.2.2.2, N.2.2.1, N.2.2.2) from if_neg z]
          dsimp only
          rw [pw_one t2.b, Int.one_mul, Int.one_mul, rn]
          exact ⟨rfl, i2⟩
def mk1 (n : Nat) : List Int := (rangeI 0 (n : Int)).map fun r => (1 : Int) * 2 ^ r.toNat
theorem T2.sides {n : Nat} {r a : List Int} (hr : r.Perm (rangeI 0 n)) (ha : a.Perm (rangeI 0 n)) : T2 n ((r, mk1 n), (a, mk1 n)) := by
  have hm : ∀ x ∈ mk1 n, (0 : Int) ≤ x := fun x hx => by
    obtain ⟨r, hr, rfl⟩ := List.mem_map.mp hx
    rw [Int.one_mul]
    exact Int.le_of_lt (Int.pow_pos (by decide))
  have lm : (mk1 n).length = n := by
    unfold mk1
    rw [List.length_map, rangeI_len]
  exact ⟨⟨by rw [hr.length_eq, rangeI_len], lm, fun x hx => mem_rangeI.mp (hr.mem_iff.mp hx), hm⟩, ⟨by rw [ha.length_eq, rangeI_len], lm, fun x hx => mem_rangeI.mp (ha.mem_iff.mp hx), hm⟩⟩
end Slw
namespace Slw
open PySem J
theorem nd_len : ∀ (xs ys : List Int), xs.Nodup → (∀ x ∈ xs, x ∈ ys) → xs.length ≤ ys.length
  | [], _, _, _ => Nat.zero_le _
  | x :: r, ys, hn, h => by
    have hx := h x List.mem_cons_self
    have hn' := List.nodup_cons.mp hn
    have := nd_len r (ys.erase x) hn'.2 fun y hy => (List.mem_erase_of_ne (fun e => hn'.1 (by rw [← e]; exact hy))).mpr (h y (List.mem_cons_of_mem _ hy))
    rw [List.length_erase_of_mem hx] at this
    have hp : 0 < ys.length := List.length_pos_of_mem hx
    rw [List.length_cons]
    omega
structure RT (n : Nat) (e m : List Int) : Prop where
  pe : e.Perm (rangeI 0 n)
  lm : m.length = n
  bm : ∀ x ∈ m, 0 ≤ x ∧ x < 2 ^ n
theorem RT.le {n : Nat} {e m : List Int} (R : RT n e m) : e.length = n := by rw [R.pe.length_eq, rangeI_len]
theorem RT.rng {n : Nat} {e m : List Int} (R : RT n e m) {x : Int} (h0 : 0 ≤ x) (h : x < n) : 0 ≤ gI e x ∧ gI e x < n :=
  mem_rangeI.mp (R.pe.mem_iff.mp (gI_mem h0 (by rw [R.le]; exact h)))
theorem RT.ix {n : Nat} {e m : List Int} (R : RT n e m) {x : Int} (h0 : 0 ≤ x) (h : x < n) : ixI e x = some (gI e x) := gI_ix h0 (by rw [R.le]; exact h)
theorem RT.mx {n : Nat} {e m : List Int} (R : RT n e m) {x : Int} (h0 : 0 ≤ x) (h : x < n) : ixI m x = some (gI m x) := gI_ix h0 (by rw [R.lm]; exact h)
theorem RT.mb {n : Nat} {e m : List Int} (R : RT n e m) {x : Int} (h0 : 0 ≤ x) (h : x < n) : 0 ≤ gI m x ∧ gI m x < 2 ^ n := R.bm _ (gI_mem h0 (by rw [R.lm]; exact h))
theorem RT.inj {n : Nat} {e m : List Int} (R : RT n e m) {x y : Int} (x0 : 0 ≤ x) (x1 : x < n) (y0 : 0 ≤ y) (y1 : y < n) (h : gI e x = gI e y) : x = y := by
  have nd : e.Nodup := R.pe.nodup_iff.mpr (rangeI_nodup n)
  have P := List.pairwise_iff_getElem.mp nd
  have lx : x.toNat < e.length := by rw [R.le]; omega
  have ly : y.toNat < e.length := by rw [R.le]; omega
  have ex : gI e x = e[x.toNat] := by
    have := gI_nat lx
    rw [show ((x.toNat : Nat) : Int) = x by omega] at this
    exact this
  have ey : gI e y = e[y.toNat] := by
    have := gI_nat ly
    rw [show ((y.toNat : Nat) : Int) = y by omega] at this
    exact this
  rw [ex, ey] at h
  rcases Nat.lt_trichotomy x.toNat y.toNat with q | q | q
  · exact absurd h (P _ _ lx ly q)
  · omega
  · exact absurd h.symm (P _ _ ly lx q)
def it (e : List Int) (s : Int) : Nat → Int
  | 0 => s
  | k + 1 => gI e (it e s k)
theorem RT.it {n : Nat} {e m : List Int} (R : RT n e m) {s : Int} (s0 : 0 ≤ s) (s1 : s < n) : ∀ j, 0 ≤ Slw.it e s j ∧ Slw.it e s j < n
  | 0 => ⟨s0, s1⟩
  | j + 1 => R.rng (RT.it R s0 s1 j).1 (RT.it R s0 s1 j).2
theorem RT.back {n : Nat} {e m : List Int} (R : RT n e m) {s : Int} (s0 : 0 ≤ s) (s1 : s < n) (d : Nat) : ∀ i, Slw.it e s (i + d) = Slw.it e s i → Slw.it e s d = s
  | 0, h => by
    rw [Nat.zero_add] at h
    exact h
  | i + 1, h => by
    rw [show i + 1 + d = (i + d) + 1 by omega] at h
    exact RT.back R s0 s1 d i (R.inj (R.it s0 s1 _).1 (R.it s0 s1 _).2 (R.it s0 s1 _).1 (R.it s0 s1 _).2 h)
theorem it_add (e : List Int) (s : Int) (i : Nat) : ∀ d, it e s (i + d) = it e (it e s i) d
  | 0 => rfl
  | d + 1 => by
    rw [show i + (d + 1) = (i + d) + 1 by omega]
    show gI e (it e s (i + d)) = gI e (it e (it e s i) d)
    rw [it_add e s i d]
def orb (e : List Int) (s : Int) (k : Nat) : List Int := (List.range k).map (it e s)
theorem orb_succ (e : List Int) (s : Int) (k : Nat) : orb e s (k + 1) = orb e s k ++ [it e s k] := by
  unfold orb
  rw [List.range_succ, List.map_append]
  rfl
theorem orb_len (e : List Int) (s : Int) (k : Nat) : (orb e s k).length = k := by
  unfold orb
  rw [List.length_map, List.length_range]
theorem orb_get {e : List Int} {s : Int} {k i : Nat} (h : i < (orb e s k).length) : (orb e s k)[i] = it e s i := by
  simp [orb]
theorem mem_orb {e : List Int} {s : Int} {k : Nat} {x : Int} : x ∈ orb e s k ↔ ∃ j, j < k ∧ it e s j = x := by
  unfold orb
  rw [List.mem_map]
  constructor
  · rintro ⟨j, h, r⟩
    exact ⟨j, List.mem_range.mp h, r⟩
  · rintro ⟨j, h, r⟩
    exact ⟨j, List.mem_range.mpr h, r⟩
def IsPer (e : List Int) (s : Int) (n k : Nat) : Prop := 1 ≤ k ∧ k ≤ n ∧ it e s k = s ∧ ∀ j, 0 < j → j < k → it e s j ≠ s
theorem RT.nd {n : Nat} {e m : List Int} (R : RT n e m) {s : Int} (s0 : 0 ≤ s) (s1 : s < n) {k : Nat} (h : ∀ j, 0 < j → j < k → Slw.it e s j ≠ s) : (orb e s k).Nodup := by
  refine List.pairwise_iff_getElem.mpr fun i j hi hj hij => ?_
  rw [orb_get, orb_get]
  rw [orb_len] at hi hj
  intro q
  refine h (j - i) (by omega) (by omega) (R.back s0 s1 (j - i) i ?_)
  rw [show i + (j - i) = j by omega]
  exact q.symm
theorem RT.per {n : Nat} {e m : List Int} (R : RT n e m) {s : Int} (s0 : 0 ≤ s) (s1 : s < n) : ∃ k, IsPer e s n k := by
  apply Classical.byContradiction
  intro no
  have all : ∀ j, 0 < j → j < n + 1 → Slw.it e s j ≠ s := by
    intro j
    induction j using Nat.strongRecOn with
    | ind j ih =>
      intro h0 h1 q
      exact no ⟨j, h0, by omega, q, fun i i0 i1 => ih i i1 i0 (by omega)⟩
  have := nd_len (orb e s (n + 1)) (rangeI 0 n) (R.nd s0 s1 all) fun x hx => by
    obtain ⟨j, _, rfl⟩ := mem_orb.mp hx
    exact mem_rangeI.mpr (R.it s0 s1 j)
  rw [orb_len, rangeI_len] at this
  omega
noncomputable def per (e : List Int) (n : Nat) (s : Int) : Nat := open Classical in if h : ∃ k, IsPer e s n k then Classical.choose h else 1
theorem RT.isPer {n : Nat} {e m : List Int} (R : RT n e m) {s : Int} (s0 : 0 ≤ s) (s1 : s < n) : IsPer e s n (Slw.per e n s) := by
  unfold Slw.per
  rw [dif_pos (R.per s0 s1)]
  exact Classical.choose_spec (R.per s0 s1)
/-- the ring of a start -/
noncomputable def rg (e : List Int) (n : Nat) (s : Int) : List Int := orb e s (per e n s)
def Cl (e D : List Int) : Prop := ∀ x ∈ D, gI e x ∈ D
theorem RT.rgCl {n : Nat} {e m : List Int} (R : RT n e m) {s : Int} (s0 : 0 ≤ s) (s1 : s < n) : Cl e (rg e n s) := by
  intro x hx
  obtain ⟨j, hj, rfl⟩ := mem_orb.mp hx
  obtain ⟨p1, p2, p3, _⟩ := R.isPer s0 s1
  by_cases h : j + 1 < Slw.per e n s
  · exact mem_orb.mpr ⟨j + 1, h, rfl⟩
  · have e1 : j + 1 = Slw.per e n s := by omega
    refine mem_orb.mpr ⟨0, by omega, ?_⟩
    show s = Slw.it e s (j + 1)
    rw [e1, p3]
theorem RT.rgNd {n : Nat} {e m : List Int} (R : RT n e m) {s : Int} (s0 : 0 ≤ s) (s1 : s < n) : (rg e n s).Nodup := R.nd s0 s1 (R.isPer s0 s1).2.2.2
theorem RT.inRg {n : Nat} {e m : List Int} (R : RT n e m) {s : Int} (s0 : 0 ≤ s) (s1 : s < n) : ∀ j, Slw.it e s j ∈ rg e n s
  | 0 => mem_orb.mpr ⟨0, (R.isPer s0 s1).1, rfl⟩
  | j + 1 => R.rgCl s0 s1 _ (RT.inRg R s0 s1 j)
theorem Cl.it {e D : List Int} (h : Cl e D) {x : Int} (hx : x ∈ D) : ∀ j, Slw.it e x j ∈ D
  | 0 => hx
  | j + 1 => h _ (Cl.it h hx j)
/-- a start that is not placed: none of its ring is -/
theorem RT.off {n : Nat} {e m : List Int} (R : RT n e m) {s : Int} (s0 : 0 ≤ s) (s1 : s < n) {D : List Int} (h : Cl e D) (hs : ¬ s ∈ D) : ∀ x ∈ rg e n s, ¬ x ∈ D := by
  intro x hx hd
  obtain ⟨j, hj, rfl⟩ := mem_orb.mp hx
  obtain ⟨p1, p2, p3, _⟩ := R.isPer s0 s1
  have := h.it hd (Slw.per e n s - j)
  rw [← it_add, show j + (Slw.per e n s - j) = Slw.per e n s by omega, p3] at this
  exact hs this
theorem RT.rgIn {n : Nat} {e m : List Int} (R : RT n e m) {s : Int} (s0 : 0 ≤ s) (s1 : s < n) : ∀ x ∈ rg e n s, 0 ≤ x ∧ x < n := fun x hx => by
  obtain ⟨j, _, rfl⟩ := mem_orb.mp hx
  exact R.it s0 s1 j
theorem nodup_app {D X : List Int} (h1 : D.Nodup) (h2 : X.Nodup) (h : ∀ x ∈ X, ¬ x ∈ D) : (D ++ X).Nodup :=
  List.nodup_append.mpr ⟨h1, h2, fun a ha b hb q => h b hb (by rw [← q]; exact ha)⟩
/-- the mark of rooms -/
def mkO (m xs : List Int) : Int := xs.foldl (fun a r => orJ a (gI m r)) 0
theorem mkO_app (m xs : List Int) (x : Int) : mkO m (xs ++ [x]) = orJ (mkO m xs) (gI m x) := by
  unfold mkO
  rw [List.foldl_append]
  rfl
theorem mkO_bnd {n : Nat} {m : List Int} : ∀ (k : Nat) (xs : List Int), xs.length = k → (∀ x ∈ xs, gI m x < 2 ^ n) → 0 ≤ mkO m xs ∧ mkO m xs < 2 ^ n
  | 0, xs, hl, _ => by
    have e : xs = [] := List.length_eq_zero_iff.mp hl
    subst e
    exact ⟨Int.le_refl _, Int.pow_pos (by decide)⟩
  | k + 1, xs, hl, h => by
    obtain ⟨ys, y, rfl⟩ : ∃ ys y, xs = ys ++ [y] := ⟨xs.dropLast, xs.getLast (fun z => by rw [z] at hl; cases hl), (List.dropLast_concat_getLast _).symm⟩
    rw [List.length_append] at hl
    have b := mkO_bnd k ys (by simpa using hl) fun x hx => h x (List.mem_append_left _ hx)
    have b2 := h y (by simp)
    rw [mkO_app]
    have P : ((2 : Int) ^ n) = ((2 ^ n : Nat) : Int) := by norm_cast
    rw [P] at b b2 ⊢
    unfold orJ
    have := Nat.or_lt_two_pow (x := (mkO m ys).toNat) (y := (gI m y).toNat) (n := n) (by omega) (by
      have : 0 < 2 ^ n := Nat.two_pow_pos n
      omega)
    exact ⟨by omega, by omega⟩
def bitP (mark k : Int) : Bool := decide ((andJ (mark / 2 ^ (k).toNat) (1 : Int)) = (1 : Int))
def roomsJ (n : Nat) (mark : Int) : List Int := (rangeI 0 n).filter (bitP mark)
theorem bitP_hi {b : Nat} {mark : Int} (h0 : 0 ≤ mark) (h : mark < 2 ^ b) {k : Nat} (hk : b ≤ k) : bitP mark k = false := by
  unfold bitP
  rw [show ((k : Nat) : Int).toNat = k by omega]
  have : mark / 2 ^ k = 0 := Int.ediv_eq_zero_of_lt h0 (Int.lt_of_lt_of_le h (by
    have := Nat.pow_le_pow_right (show 0 < 2 by decide) hk
    have P : ∀ n : Nat, ((2 : Int) ^ n) = ((2 ^ n : Nat) : Int) := fun n => by norm_cast
    rw [P, P]
    omega))
  rw [this]
  decide
theorem roomsJ_eq {b n : Nat} {mark : Int} (h0 : 0 ≤ mark) (h : mark < 2 ^ b) (hb : b ≤ n) : roomsJ b mark = roomsJ n mark := by
  unfold roomsJ
  have e : rangeI 0 (n : Int) = rangeI 0 (b : Int) ++ (List.range' b (n - b)).map fun (j : Nat) => (j : Int) := by
    rw [rangeI_nat, rangeI_nat, ← List.map_append]
    congr 1
    have := (List.range'_append (s := 0) (m := b) (n := n - b) (step := 1)).symm
    rw [Nat.one_mul, Nat.zero_add, show b + (n - b) = n by omega] at this
    exact this
  rw [e, List.filter_append]
  refine (List.append_nil _).symm.trans (congrArg _ (Eq.symm (List.filter_eq_nil_iff.mpr ?_)))
  intro x hx
  obtain ⟨j, hj, rfl⟩ := List.mem_map.mp hx
  have := (List.mem_range'_1.mp hj).1
  rw [bitP_hi h0 h this]
  decide
end Slw
namespace Slw
open PySem J
abbrev Pl := List Int × List Int
theorem perm_rt {n : Nat} {e : List Int} (h : e.Perm (rangeI 0 n)) : RT n e (List.replicate n 0) :=
  ⟨h, List.length_replicate, fun x hx => by
    rw [List.eq_of_mem_replicate hx]
    exact ⟨Int.le_refl _, Int.pow_pos (by decide)⟩⟩
theorem rangeI_le (n : Nat) : (rangeI 0 (n : Int)).Pairwise (· ≤ ·) := by
  rw [rangeI_nat]
  exact List.Pairwise.map (R := (· < ·)) _ (fun a b h => by omega) (List.pairwise_lt_range' (step := 1))
theorem sorted_is {n : Nat} {xs ys : List Int} (h : xs.Perm (rangeI 0 n)) (p : ys.Perm xs) (s : ys.Pairwise (· ≤ ·)) : ys = rangeI 0 n :=
  List.Perm.eq_of_pairwise (le := (· ≤ ·)) (fun a b _ _ h1 h2 => Int.le_antisymm h1 h2) s (rangeI_le n) (p.trans h)
theorem pokI (x : List Int) : POk.pok x := fun _ _ => trivial
theorem perm_gI {n : Nat} {xs : List Int} (h : xs.Perm (rangeI 0 n)) {j : Nat} (hj : j < n) : 0 ≤ gI xs j ∧ gI xs j < n :=
  (perm_rt h).rng (by omega) (by omega)
theorem perm_hit {n : Nat} {xs : List Int} (h : xs.Perm (rangeI 0 n)) {i : Nat} (hi : i < n) : ∃ j : Nat, j < n ∧ gI xs j = i := by
  have hm : (i : Int) ∈ xs := h.mem_iff.mpr (mem_rangeI.mpr ⟨by omega, by omega⟩)
  obtain ⟨j, hj, e⟩ := List.getElem_of_mem hm
  exact ⟨j, by have := h.length_eq; rw [rangeI_len] at this; omega, by rw [gI_nat hj, e]⟩
theorem gI_set {xs : List Int} {m : Nat} {v : Int} {i : Int} (hi : 0 ≤ i) (hm : m < xs.length) : gI (xs.set m v) i = if i.toNat = m then v else gI xs i := by
  unfold gI
  rw [List.getD_eq_getElem?_getD, List.getD_eq_getElem?_getD]
  split
  · rename_i e
    rw [e, List.getElem?_set_self hm]
    rfl
  · rename_i e
    rw [List.getElem?_set_ne (fun z => e z.symm)]
end Slw
namespace Slw
open PySem J
theorem is_order_ok {n : Nat} {xs : List Int} {P : Bool → Prop} (hn : n ≤ 1000) (h : xs.Perm (rangeI 0 n)) (w : P true) : w_is_order xs n P := by
  unfold w_is_order
  intro ys p s
  have e := sorted_is h p s
  subst e
  refine ⟨by omega, pokI _, pokI _, ?_⟩
  rw [decide_eq_true rfl]
  exact w
theorem init_pl {n : Nat} {a b : List Int} {P : Pl → Prop} (h1 : 1 ≤ n) (h2 : n ≤ 100) (ha : a.Perm (rangeI 0 n)) (hb : b.Perm (rangeI 0 n)) (w : P (a, b)) : w_Plan___init__ a b P := by
  unfold w_Plan___init__
  have la : a.length = n := by have := ha.length_eq; rw [rangeI_len] at this; exact this
  rw [la]
  refine wLet_to ⟨fun _ => ⟨fun _ => is_order_ok (by omega) ha ⟨fun _ => is_order_ok (by omega) hb ⟨fun _ => wLet_to (wLet_to w), fun z => by cases z⟩, fun z => by cases z⟩, fun z => ?_⟩, fun z => ?_⟩
  · have := of_decide_eq_false z
    omega
  · have := of_decide_eq_false z
    omega
end Slw
namespace Slw
open PySem J
/-- an order's numbers moved by an order -/
structure IsMv (n : Nat) (o xs r : List Int) : Prop where
  l : r.length = n
  g : ∀ j : Nat, j < n → gI r (gI o j) = gI o (gI xs j)
theorem perm_len {n : Nat} {xs : List Int} (h : xs.Perm (rangeI 0 n)) : xs.length = n := by
  have := h.length_eq
  rw [rangeI_len] at this
  exact this
theorem perm_inj {n : Nat} {xs : List Int} (h : xs.Perm (rangeI 0 n)) {i j : Nat} (hi : i < n) (hj : j < n) (e : gI xs i = gI xs j) : i = j := by
  have := (perm_rt h).inj (x := (i : Int)) (y := (j : Int)) (by omega) (by omega) (by omega) (by omega) e
  omega
theorem perm_nat {n : Nat} {xs : List Int} (h : xs.Perm (rangeI 0 n)) {j : Nat} (hj : j < n) : ∃ k : Nat, k < n ∧ gI xs j = k := by
  have := perm_gI h hj
  exact ⟨(gI xs j).toNat, by omega, by omega⟩
theorem gstep {n i : Nat} {o s : List Int} {f : Nat → Int} (h : o.Perm (rangeI 0 n)) (hi : i < n) (hl : s.length = n) (hg : ∀ j : Nat, j < i → gI s (gI o j) = f j) : (s.set (gI o i).toNat (f i)).length = n ∧ ∀ j : Nat, j < i + 1 → gI (s.set (gI o i).toNat (f i)) (gI o j) = f j := by
  have bi := perm_gI h hi
  refine ⟨by rw [List.length_set]; exact hl, fun j hj => ?_⟩
  have bj := perm_gI h (show j < n by omega)
  rw [gI_set bj.1 (by omega)]
  by_cases q : j = i
  · subst q
    rw [if_pos rfl]
  · rw [if_neg fun z => q (perm_inj h (by omega) hi (by omega))]
    exact hg j (by omega)
theorem same_at {n : Nat} {o r r2 : List Int} (h : o.Perm (rangeI 0 n)) (l1 : r.length = n) (l2 : r2.length = n) (g : ∀ j : Nat, j < n → gI r (gI o j) = gI r2 (gI o j)) : r = r2 := by
  refine List.ext_getElem (by rw [l1, l2]) fun i i1 i2 => ?_
  obtain ⟨j, hj, e⟩ := perm_hit h (show i < n by rw [← l1]; exact i1)
  have := g j hj
  rw [e, gI_nat i1, gI_nat i2] at this
  exact this
theorem IsMv.uniq {n : Nat} {o xs r r2 : List Int} (h : o.Perm (rangeI 0 n)) (a : IsMv n o xs r) (b : IsMv n o xs r2) : r = r2 :=
  same_at h a.l b.l fun j hj => by rw [a.g j hj, b.g j hj]
theorem IsMv.perm {n : Nat} {o xs r : List Int} (h : o.Perm (rangeI 0 n)) (hx : xs.Perm (rangeI 0 n)) (a : IsMv n o xs r) : r.Perm (rangeI 0 n) := by
  have ge : ∀ i (hi : i < r.length), ∃ j : Nat, j < n ∧ gI o j = i ∧ r[i] = gI o (gI xs j) := fun i hi => by
    obtain ⟨j, hj, e⟩ := perm_hit h (show i < n by rw [← a.l]; exact hi)
    have e1 := a.g j hj
    rw [e, gI_nat hi] at e1
    exact ⟨j, hj, e, e1⟩
  refine (List.perm_ext_iff_of_nodup (List.pairwise_iff_getElem.mpr fun i j hi hj hij q => ?_) (rangeI_nodup n)).mpr fun x => ⟨fun hx' => ?_, fun hx' => ?_⟩
  · obtain ⟨a1, h1, b1, c1⟩ := ge i hi
    obtain ⟨a2, h2, b2, c2⟩ := ge j hj
    rw [c1, c2] at q
    obtain ⟨u1, v1, w1⟩ := perm_nat hx h1
    obtain ⟨u2, v2, w2⟩ := perm_nat hx h2
    rw [w1, w2] at q
    have e := perm_inj h v1 v2 q
    subst e
    have e2 := perm_inj hx h1 h2 (by rw [w1, w2])
    subst e2
    omega
  · obtain ⟨i, hi, e⟩ := List.getElem_of_mem hx'
    obtain ⟨j, hj, _, c⟩ := ge i hi
    obtain ⟨u, v, w⟩ := perm_nat hx hj
    have b := perm_gI h v
    rw [← e, c, w]
    exact mem_rangeI.mpr b
  · have b := mem_rangeI.mp hx'
    obtain ⟨t, ht, et⟩ := perm_hit h (show x.toNat < n by omega)
    obtain ⟨j, hj, ej⟩ := perm_hit hx ht
    have e1 := a.g j hj
    rw [ej, et, show ((x.toNat : Nat) : Int) = x by omega] at e1
    have c := perm_gI h hj
    rw [← e1]
    exact gI_mem c.1 (by rw [a.l]; exact c.2)
theorem IsMv.range {n : Nat} {xs r : List Int} (hx : xs.Perm (rangeI 0 n)) (a : IsMv n (rangeI 0 n) xs r) : r = xs := by
  refine same_at (o := rangeI 0 (n : Int)) (List.Perm.refl _) a.l (perm_len hx) fun i hi => ?_
  have g : ∀ j : Nat, j < n → gI (rangeI 0 (n : Int)) j = j := fun j hj => by
    have : j < (rangeI 0 (n : Int)).length := by rw [rangeI_len]; exact hj
    rw [gI_nat this, rangeI_get]
  rw [a.g i hi]
  obtain ⟨u, hu, eu⟩ := perm_nat hx hi
  rw [eu, g u hu, g i hi, eu]
end Slw
namespace Slw
open PySem J
theorem rangeI_sum (n m : Nat) : rangeI 0 ((n + m : Nat) : Int) = rangeI 0 (n : Int) ++ (rangeI 0 (m : Int)).map (fun x => x + (n : Int)) := by
  refine List.ext_getElem (by rw [List.length_append, List.length_map, rangeI_len, rangeI_len, rangeI_len]) fun i h1 h2 => ?_
  rw [rangeI_get h1, List.getElem_append]
  split
  · rename_i h
    rw [rangeI_get h]
  · rename_i h
    rw [rangeI_len] at h
    rw [List.getElem_map, rangeI_get]
    have e : (rangeI 0 (n : Int)).length = n := rangeI_len n
    omega
theorem gI_all {n : Nat} {r : List Int} (hr : r.length = n) : (rangeI 0 (n : Int)).map (gI r) = r := by
  refine List.ext_getElem (by rw [List.length_map, rangeI_len, hr]) fun i h1 h2 => ?_
  rw [List.getElem_map, rangeI_get, gI_nat h2]
/-- a list of sides laid side by side, t times -/
theorem tile_perm {n : Nat} {r : List Int} (hn : 0 < n) (hr : r.Perm (rangeI 0 n)) : ∀ t : Nat, ((rangeI 0 ((t * n : Nat) : Int)).map fun k => (n : Int) * (k / n) + gI r (k % n)).Perm (rangeI 0 ((t * n : Nat) : Int))
  | 0 => by
    rw [Nat.zero_mul]
    exact List.Perm.refl _
  | t + 1 => by
    have e : (t + 1) * n = t * n + n := Nat.succ_mul t n
    have hl : r.length = n := by rw [hr.length_eq, rangeI_len]
    rw [e, rangeI_sum, List.map_append]
    refine List.Perm.append (tile_perm hn hr t) ?_
    rw [List.map_map]
    have e2 : (rangeI 0 (n : Int)).map ((fun k => (n : Int) * (k / n) + gI r (k % n)) ∘ fun x => x + ((t * n : Nat) : Int)) = ((rangeI 0 (n : Int)).map (gI r)).map fun x => x + ((t * n : Nat) : Int) := by
      rw [List.map_map]
      refine List.map_congr_left fun x hx => ?_
      obtain ⟨x0, x1⟩ := mem_rangeI.mp hx
      show (n : Int) * ((x + ((t * n : Nat) : Int)) / n) + gI r ((x + ((t * n : Nat) : Int)) % n) = gI r x + ((t * n : Nat) : Int)
      have h1 : ((t * n : Nat) : Int) = (t : Int) * n := by push_cast; rfl
      rw [h1, Int.add_mul_ediv_right _ _ (by omega), Int.add_mul_emod_self_right, Int.ediv_eq_zero_of_lt x0 x1, Int.emod_eq_of_lt x0 x1, Int.zero_add, Int.mul_comm]
      omega
    rw [e2, gI_all hl]
    exact hr.map _
end Slw
namespace Slw
open PySem J
abbrev PP := (Int × Int) × (Int × Int)
def code (u : List Bool) : Nat := u.foldl (fun n c => 2 * n + c.toNat) 1
theorem code_snoc (u : List Bool) (c : Bool) : code (u ++ [c]) = 2 * code u + c.toNat := by
  unfold code
  rw [List.foldl_append]
  rfl
theorem snoc_ind {α : Type} {p : List α → Prop} (h0 : p []) (h1 : ∀ u c, p u → p (u ++ [c])) (u : List α) : p u := by
  have : ∀ (n : Nat) (u : List α), u.length = n → p u := fun n => by
    induction n with
    | zero => intro u h; rw [List.length_eq_zero_iff.mp h]; exact h0
    | succ n ih =>
      intro u h
      obtain ⟨t, c, rfl⟩ : ∃ t c, u = t ++ [c] := ⟨u.dropLast, u.getLast (fun z => by rw [z] at h; cases h), (List.dropLast_concat_getLast _).symm⟩
      exact h1 t c (ih t (by rw [List.length_append] at h; simpa using h))
  exact this _ u rfl
theorem code_pos (u : List Bool) : 1 ≤ code u := by
  refine snoc_ind (p := fun u => 1 ≤ code u) (by decide) (fun u c h => ?_) u
  rw [code_snoc]
  omega
theorem code_len (u : List Bool) : 2 ^ u.length ≤ code u ∧ code u < 2 ^ (u.length + 1) := by
  refine snoc_ind (p := fun u => 2 ^ u.length ≤ code u ∧ code u < 2 ^ (u.length + 1)) (by decide) (fun u c h => ?_) u
  rw [code_snoc, List.length_append, List.length_singleton, Nat.pow_succ, Nat.pow_succ 2 (u.length + 1)]
  have : c.toNat ≤ 1 := by cases c <;> decide
  omega
theorem code_inj {u v : List Bool} (h : code u = code v) : u = v := by
  have : ∀ u v : List Bool, code u = code v → u = v := fun u => by
    refine snoc_ind (p := fun u => ∀ v : List Bool, code u = code v → u = v) (fun v h => ?_) (fun u c ih v h => ?_) u
    · rcases List.eq_nil_or_concat v with rfl | ⟨t, d, rfl⟩
      · rfl
      · rw [List.concat_eq_append, code_snoc] at h
        have := code_pos t
        have e : code [] = 1 := rfl
        omega
    · rcases List.eq_nil_or_concat v with rfl | ⟨t, d, rfl⟩
      · rw [code_snoc] at h
        have := code_pos u
        have e : code [] = 1 := rfl
        omega
      · rw [List.concat_eq_append, code_snoc, code_snoc] at h
        have h1 : c.toNat ≤ 1 := by cases c <;> decide
        have h2 : d.toNat ≤ 1 := by cases d <;> decide
        have e1 : code u = code t := by omega
        have e2 : c.toNat = d.toNat := by omega
        have e3 : c = d := by cases c <;> cases d <;> first | rfl | cases e2
        rw [List.concat_eq_append, ih t e1, e3]
  exact this u v h
theorem code_mono {u v : List Bool} (h : code u ≤ code v) (c : Bool) : code (u ++ [c]) ≤ code (v ++ [c]) := by
  rw [code_snoc, code_snoc]
  omega
theorem code_lt {u v : List Bool} (h : code u < code v) (c d : Bool) : code (u ++ [c]) < code (v ++ [d]) := by
  rw [code_snoc, code_snoc]
  have h1 : c.toNat ≤ 1 := by cases c <;> decide
  omega
theorem code_up (u : List Bool) (c : Bool) : code u < code (u ++ [c]) := by
  rw [code_snoc]
  have := code_pos u
  omega
def nstep (e : PP) (c : Bool) : PP := if c then ((e.1.1 + e.2.1, e.1.2 + e.2.2), e.2) else (e.1, (e.1.1 + e.2.1, e.1.2 + e.2.2))
def nat (e0 : PP) (u : List Bool) : PP := u.foldl nstep e0
def pdir (e : PP) : Int × Int := (e.1.1 + e.2.1, e.1.2 + e.2.2)
theorem nat_snoc (e0 : PP) (u : List Bool) (c : Bool) : nat e0 (u ++ [c]) = nstep (nat e0 u) c := by
  unfold nat
  rw [List.foldl_append]
  rfl
structure Nd (e : PP) : Prop where
  a : 0 ≤ e.1.1
  b : 0 ≤ e.1.2
  c : 0 ≤ e.2.1
  d : 0 ≤ e.2.2
  det : e.1.1 * e.2.2 - e.1.2 * e.2.1 = 1
theorem Nd.step {e : PP} (h : Nd e) (c : Bool) : Nd (nstep e c) := by
  obtain ⟨h1, h2, h3, h4, h5⟩ := h
  cases c with
  | true => exact ⟨by show 0 ≤ e.1.1 + e.2.1; omega, by show 0 ≤ e.1.2 + e.2.2; omega, h3, h4, by show (e.1.1 + e.2.1) * e.2.2 - (e.1.2 + e.2.2) * e.2.1 = 1; grind⟩
  | false => exact ⟨h1, h2, by show 0 ≤ e.1.1 + e.2.1; omega, by show 0 ≤ e.1.2 + e.2.2; omega, by show e.1.1 * (e.1.2 + e.2.2) - e.1.2 * (e.1.1 + e.2.1) = 1; grind⟩
theorem Nd.nat {e : PP} (h : Nd e) (u : List Bool) : Nd (Slw.nat e u) := by
  refine snoc_ind (p := fun u => Nd (Slw.nat e u)) h (fun u c ih => ?_) u
  rw [nat_snoc]
  exact ih.step c
theorem Nd.pos {e : PP} (h : Nd e) : 1 ≤ (pdir e).1 ∧ 1 ≤ (pdir e).2 := by
  obtain ⟨h1, h2, h3, h4, h5⟩ := h
  show 1 ≤ e.1.1 + e.2.1 ∧ 1 ≤ e.1.2 + e.2.2
  constructor
  · by_cases z : e.1.1 + e.2.1 = 0
    · have z1 : e.1.1 = 0 := by omega
      have z2 : e.2.1 = 0 := by omega
      rw [z1, z2] at h5
      simp at h5
    · omega
  · by_cases z : e.1.2 + e.2.2 = 0
    · have z1 : e.1.2 = 0 := by omega
      have z2 : e.2.2 = 0 := by omega
      rw [z1, z2] at h5
      simp at h5
    · omega
/-- what lies below a node lies between its neighbors -/
theorem Nd.within : ∀ (u : List Bool) {e : PP}, Nd e → 0 < e.1.1 * (pdir (Slw.nat e u)).2 - e.1.2 * (pdir (Slw.nat e u)).1 ∧ 0 < (pdir (Slw.nat e u)).1 * e.2.2 - (pdir (Slw.nat e u)).2 * e.2.1
  | [], e, h => by
    obtain ⟨h1, h2, h3, h4, h5⟩ := h
    show 0 < e.1.1 * (e.1.2 + e.2.2) - e.1.2 * (e.1.1 + e.2.1) ∧ 0 < (e.1.1 + e.2.1) * e.2.2 - (e.1.2 + e.2.2) * e.2.1
    constructor <;> grind
  | c :: u, e, h => by
    have ih := Nd.within u (h.step c)
    have P := Nd.pos ((h.step c).nat u)
    show 0 < e.1.1 * (pdir (Slw.nat (nstep e c) u)).2 - e.1.2 * (pdir (Slw.nat (nstep e c) u)).1 ∧ 0 < (pdir (Slw.nat (nstep e c) u)).1 * e.2.2 - (pdir (Slw.nat (nstep e c) u)).2 * e.2.1
    generalize pdir (Slw.nat (nstep e c) u) = x at ih P ⊢
    obtain ⟨p, q⟩ := x
    obtain ⟨h1, h2, h3, h4, h5⟩ := h
    dsimp only at ih P ⊢
    cases c with
    | true =>
      have i1 : 0 < (e.1.1 + e.2.1) * q - (e.1.2 + e.2.2) * p := ih.1
      have i2 : 0 < p * e.2.2 - q * e.2.1 := ih.2
      exact ⟨by grind, i2⟩
    | false =>
      have i1 : 0 < e.1.1 * q - e.1.2 * p := ih.1
      have i2 : 0 < p * (e.1.2 + e.2.2) - q * (e.1.1 + e.2.1) := ih.2
      exact ⟨i1, by grind⟩
theorem cross_cancel {a b p q r s : Int} (ha : 0 < a) (hp : 0 < p) (hr : 0 < r) (h1 : 0 < p * b - q * a) (h2 : 0 < a * s - b * r) : q * r < s * p := by
  have e1 : (q * a) * r < (p * b) * r := Int.mul_lt_mul_of_pos_right (by omega) hr
  have e2 : (b * r) * p < (a * s) * p := Int.mul_lt_mul_of_pos_right (by omega) hp
  have e3 : a * (q * r) < a * (s * p) := by
    have x1 : (q * a) * r = a * (q * r) := by grind
    have x2 : (a * s) * p = a * (s * p) := by grind
    have x3 : (p * b) * r = (b * r) * p := by grind
    omega
  exact Int.lt_of_mul_lt_mul_left e3 (by omega)
def codeF (n : Nat) (u : List Bool) : Nat := u.foldl (fun n c => 2 * n + c.toNat) n
theorem codeF_lt : ∀ {u v : List Bool} {n m : Nat}, u.length = v.length → n < m → codeF n u < codeF m v
  | [], [], n, m, _, h => h
  | c :: u, d :: v, n, m, hl, h => by
    have h1 : c.toNat ≤ 1 := by cases c <;> decide
    exact codeF_lt (u := u) (v := v) (n := 2 * n + c.toNat) (m := 2 * m + d.toNat) (Nat.succ.inj hl) (by omega)
theorem slope_lt : ∀ {u v : List Bool} {e : PP} {n : Nat}, Nd e → u.length = v.length → codeF n u < codeF n v → (pdir (nat e u)).2 * (pdir (nat e v)).1 < (pdir (nat e v)).2 * (pdir (nat e u)).1
  | [], [], e, n, _, _, h => absurd h (Nat.lt_irrefl _)
  | c :: u, d :: v, e, n, he, hl, h => by
    have hl' := Nat.succ.inj hl
    by_cases z : c = d
    · subst z
      exact slope_lt (u := u) (v := v) (e := nstep e c) (n := 2 * n + c.toNat) (he.step c) hl' h
    · have cf : c = false ∧ d = true := by
        cases c with
        | false => cases d with
          | false => exact absurd rfl z
          | true => exact ⟨rfl, rfl⟩
        | true => cases d with
          | false => exact absurd h (Nat.lt_asymm (codeF_lt (u := v) (v := u) (n := 2 * n + 0) (m := 2 * n + 1) hl'.symm (by omega)))
          | true => exact absurd rfl z
      obtain ⟨rfl, rfl⟩ := cf
      have w1 := (Nd.within u (he.step false)).2
      have w2 := (Nd.within v (he.step true)).1
      have P1 := Nd.pos ((he.step false).nat u)
      have P2 := Nd.pos ((he.step true).nat v)
      have P0 := he.pos
      exact cross_cancel (a := e.1.1 + e.2.1) (b := e.1.2 + e.2.2) (p := (pdir (nat (nstep e false) u)).1) (q := (pdir (nat (nstep e false) u)).2) (r := (pdir (nat (nstep e true) v)).1) (s := (pdir (nat (nstep e true) v)).2) (by have := P0.1; exact this) (by omega) (by omega) w1 w2
end Slw
namespace Slw
open PySem J
section
variable {β : Type} [DecidableEq β] (f : List Bool → β)
/-- the paths that were found: a path is new where its thing is -/
def addP (P : List (List Bool)) (u : List Bool) : List (List Bool) := if f u ∈ P.map f then P else P ++ [u]
def visP (P : List (List Bool)) (k : Nat) : List (List Bool) := match P[k]? with
  | some u => addP f (addP f P (u ++ [false])) (u ++ [true])
  | none => P
def runP : Nat → List (List Bool)
  | 0 => [[]]
  | k + 1 => visP f (runP k) k
/-- children's things come from their parents' things alone -/
def Det : Prop := ∀ u v c, f u = f v → f (u ++ [c]) = f (v ++ [c])
structure PI (k : Nat) (P : List (List Bool)) : Prop where
  srt : P.Pairwise (fun u v => code u < code v)
  dst : (P.map f).Nodup
  hd : P[0]? = some []
  src : ∀ u ∈ P, u = [] ∨ ∃ m v c, m < k ∧ P[m]? = some v ∧ u = v ++ [c]
  chd : ∀ m v c, m < k → P[m]? = some v → ∃ w ∈ P, code w ≤ code (v ++ [c]) ∧ f w = f (v ++ [c])
variable {f}
theorem addP_pre {P : List (List Bool)} {u : List Bool} {m : Nat} {v : List Bool} (h : P[m]? = some v) : (addP f P u)[m]? = some v := by
  unfold addP
  split
  · exact h
  · rw [List.getElem?_append_left (List.getElem?_eq_some_iff.mp h).1]
    exact h
theorem addP_sub {P : List (List Bool)} {u w : List Bool} (h : w ∈ P) : w ∈ addP f P u := by
  unfold addP
  split
  · exact h
  · exact List.mem_append_left _ h
theorem addP_has (P : List (List Bool)) (u : List Bool) (hP : ∀ w ∈ P, code w ≤ code u) : ∃ w ∈ addP f P u, code w ≤ code u ∧ f w = f u := by
  unfold addP
  split
  · rename_i h
    obtain ⟨w, hw, e⟩ := List.mem_map.mp h
    exact ⟨w, hw, hP w hw, e⟩
  · exact ⟨u, List.mem_append_right _ (List.mem_singleton.mpr rfl), Nat.le_refl _, rfl⟩
theorem addP_mem {P : List (List Bool)} {u w : List Bool} (h : w ∈ addP f P u) : w ∈ P ∨ w = u := by
  unfold addP at h
  split at h
  · exact .inl h
  · rcases List.mem_append.mp h with h | h
    · exact .inl h
    · exact .inr (List.mem_singleton.mp h)
theorem addP_srt {P : List (List Bool)} {u : List Bool} (s : P.Pairwise (fun u v => code u < code v)) (hP : ∀ w ∈ P, code w < code u) : (addP f P u).Pairwise (fun u v => code u < code v) := by
  unfold addP
  split
  · exact s
  · exact List.pairwise_append.mpr ⟨s, List.pairwise_singleton _ _, fun a ha b hb => by rw [List.mem_singleton.mp hb]; exact hP a ha⟩
theorem addP_dst {P : List (List Bool)} {u : List Bool} (s : (P.map f).Nodup) : ((addP f P u).map f).Nodup := by
  unfold addP
  split
  · exact s
  · rename_i h
    rw [List.map_append]
    exact List.nodup_append.mpr ⟨s, by simp, fun a ha b hb e => by
      rw [List.map_singleton, List.mem_singleton] at hb
      rw [e, hb] at ha
      exact h ha⟩
theorem PI.zero : PI f 0 [[]] := ⟨List.pairwise_singleton _ _, by simp, rfl, fun u hu => .inl (List.mem_singleton.mp hu), fun m v c h => absurd h (Nat.not_lt_zero m)⟩
theorem PI.lt {k : Nat} {P : List (List Bool)} (h : PI f k P) {i j : Nat} {u v : List Bool} (hi : P[i]? = some u) (hj : P[j]? = some v) (l : i < j) : code u < code v := by
  obtain ⟨i1, rfl⟩ := List.getElem?_eq_some_iff.mp hi
  obtain ⟨j1, rfl⟩ := List.getElem?_eq_some_iff.mp hj
  exact List.pairwise_iff_getElem.mp h.srt i j i1 j1 l
theorem PI.step {k : Nat} {P : List (List Bool)} (h : PI f k P) {u : List Bool} (hu : P[k]? = some u) : PI f (k + 1) (visP f P k) := by
  have e : visP f P k = addP f (addP f P (u ++ [false])) (u ++ [true]) := by unfold visP; rw [hu]
  rw [e]
  have lt0 : ∀ w ∈ P, code w < code (u ++ [false]) := fun w hw => by
    rcases h.src w hw with rfl | ⟨m, v, c, hm, hv, rfl⟩
    · rw [code_snoc]
      have := code_pos u
      have e : code [] = 1 := rfl
      omega
    · exact code_lt (h.lt hv hu hm) _ _
  have ft : code (u ++ [false]) < code (u ++ [true]) := by
    rw [code_snoc, code_snoc]
    show 2 * code u + 0 < 2 * code u + 1
    omega
  have lt1 : ∀ w ∈ addP f P (u ++ [false]), code w < code (u ++ [true]) := fun w hw => by
    rcases addP_mem hw with hw | rfl
    · exact Nat.lt_trans (lt0 w hw) ft
    · exact ft
  have hk : (addP f (addP f P (u ++ [false])) (u ++ [true]))[k]? = some u := addP_pre (addP_pre hu)
  refine ⟨addP_srt (addP_srt h.srt lt0) lt1, addP_dst (addP_dst h.dst), addP_pre (addP_pre h.hd), fun w hw => ?_, fun m v c hm hv => ?_⟩
  · rcases addP_mem hw with hw | rfl
    · rcases addP_mem hw with hw | rfl
      · rcases h.src w hw with rfl | ⟨m, v, c, hm, hv, rfl⟩
        · exact .inl rfl
        · exact .inr ⟨m, v, c, by omega, addP_pre (addP_pre hv), rfl⟩
      · exact .inr ⟨k, u, false, by omega, hk, rfl⟩
    · exact .inr ⟨k, u, true, by omega, hk, rfl⟩
  · by_cases z : m = k
    · subst z
      have ev : v = u := by
        rw [hk] at hv
        exact (Option.some.inj hv).symm
      subst ev
      cases c with
      | false =>
        obtain ⟨w, hw, h1, h2⟩ := addP_has (f := f) P (v ++ [false]) fun w hw => Nat.le_of_lt (lt0 w hw)
        exact ⟨w, addP_sub hw, h1, h2⟩
      | true => exact addP_has (f := f) _ (v ++ [true]) fun w hw => Nat.le_of_lt (lt1 w hw)
    · have lm : m < k := by omega
      have lP : m < P.length := by
        have := (List.getElem?_eq_some_iff.mp hu).1
        omega
      have hv' : P[m]? = some v := by
        have e1 : P[m]? = some P[m] := List.getElem?_eq_getElem lP
        have e2 := addP_pre (f := f) (u := u ++ [true]) (addP_pre (f := f) (u := u ++ [false]) e1)
        rw [hv] at e2
        rw [e1, Option.some.inj e2]
      obtain ⟨w, hw, h1, h2⟩ := h.chd m v c lm hv'
      exact ⟨w, addP_sub (addP_sub hw), h1, h2⟩
/-- whatever comes before all that waits was there already -/
theorem PI.cover {k : Nat} {P : List (List Bool)} (h : PI f k P) (hd : Det f) (u : List Bool) : (∀ j w, k ≤ j → P[j]? = some w → code u < code w) → ∃ m w, m < k ∧ P[m]? = some w ∧ code w ≤ code u ∧ f w = f u := by
  refine snoc_ind (p := fun u => (∀ j w, k ≤ j → P[j]? = some w → code u < code w) → ∃ m w, m < k ∧ P[m]? = some w ∧ code w ≤ code u ∧ f w = f u) (fun hw => ?_) (fun u c ih hw => ?_) u
  · rcases Nat.eq_zero_or_pos k with z | z
    · exact absurd (hw 0 [] (by omega) h.hd) (Nat.lt_irrefl _)
    · exact ⟨0, [], z, h.hd, Nat.le_refl _, rfl⟩
  · obtain ⟨m, v, hm, hv, h1, h2⟩ := ih fun j w hj hj2 => Nat.lt_trans (code_up u c) (hw j w hj hj2)
    obtain ⟨w, hwP, w1, w2⟩ := h.chd m v c hm hv
    obtain ⟨j, hj⟩ := List.getElem?_of_mem hwP
    have le : code w ≤ code (u ++ [c]) := Nat.le_trans w1 (code_mono h1 c)
    refine ⟨j, w, ?_, hj, le, by rw [w2, hd v u c h2]⟩
    apply Classical.byContradiction
    intro q
    exact absurd (hw j w (by omega) hj) (by omega)
/-- things from a finite list: so many paths at most -/
theorem PI.few {k : Nat} {P : List (List Bool)} (h : PI f k P) {S : List β} (hS : ∀ u, f u ∈ S) : P.length ≤ S.length := by
  have gen : ∀ (xs ys : List β), xs.Nodup → (∀ x ∈ xs, x ∈ ys) → xs.length ≤ ys.length := fun xs => by
    induction xs with
    | nil => intro ys _ _; exact Nat.zero_le _
    | cons x r ih =>
      intro ys hn h
      have hx := h x List.mem_cons_self
      have hn' := List.nodup_cons.mp hn
      have := ih (ys.erase x) hn'.2 fun y hy => (List.mem_erase_of_ne (fun e => hn'.1 (by rw [← e]; exact hy))).mpr (h y (List.mem_cons_of_mem _ hy))
      rw [List.length_erase_of_mem hx] at this
      have hp : 0 < ys.length := List.length_pos_of_mem hx
      rw [List.length_cons]
      omega
  have := gen _ S h.dst fun x hx => by
    obtain ⟨u, _, rfl⟩ := List.mem_map.mp hx
    exact hS u
  rw [List.length_map] at this
  exact this
end
end Slw
namespace Slw
open PySem J
def idxJ {α : Type} (ts : List α) : List (α × Int) := ts.mapIdx fun i t => (t, (i : Int))
theorem idxJ_snoc {α : Type} (ts : List α) (t : α) : idxJ (ts ++ [t]) = idxJ ts ++ [(t, (ts.length : Int))] := by
  unfold idxJ
  rw [List.mapIdx_append, List.mapIdx_singleton, Nat.zero_add]
theorem idxJ_len {α : Type} (ts : List α) : (idxJ ts).length = ts.length := by
  unfold idxJ
  rw [List.length_mapIdx]
theorem getJ_snoc {α : Type} [DecidableEq α] (kvs : List (α × Int)) (a : α) (d : Int) (k : α) : getJ (kvs ++ [(a, d)]) k = match getJ kvs k with | some v => some v | none => if a = k then some d else none := by
  unfold getJ
  rw [List.find?_append]
  cases h : kvs.find? fun x => decide (x.1 = k) with
  | some x => rfl
  | none =>
    show (([(a, d)] : List (α × Int)).find? fun x => decide (x.1 = k)).map (·.2) = if a = k then some d else none
    by_cases z : a = k
    · rw [if_pos z, List.find?_cons_of_pos (by exact decide_eq_true z)]
      rfl
    · rw [if_neg z, List.find?_cons_of_neg (by simpa using z)]
      rfl
theorem getJ_idx {α : Type} [DecidableEq α] (ts : List α) (k : α) : (∀ v, getJ (idxJ ts) k = some v → ∃ i : Nat, v = i ∧ i < ts.length ∧ ts[i]? = some k) ∧ (getJ (idxJ ts) k = none → k ∉ ts) := by
  refine snoc_ind (p := fun ts => (∀ v, getJ (idxJ ts) k = some v → ∃ i : Nat, v = i ∧ i < ts.length ∧ ts[i]? = some k) ∧ (getJ (idxJ ts) k = none → k ∉ ts)) ⟨fun v h => (nomatch h), fun _ h => (nomatch h)⟩ (fun ts t ih => ?_) ts
  rw [idxJ_snoc]
  refine ⟨fun v h => ?_, fun h m => ?_⟩
  · rw [getJ_snoc] at h
    cases g : getJ (idxJ ts) k with
    | some v' =>
      rw [g] at h
      cases h
      obtain ⟨i, e, l, hi⟩ := ih.1 _ g
      exact ⟨i, e, by rw [List.length_append]; omega, by rw [List.getElem?_append_left l]; exact hi⟩
    | none =>
      rw [g] at h
      by_cases z : t = k
      · rw [show (match (none : Option Int) with | some v => some v | none => if t = k then some (ts.length : Int) else none) = some (ts.length : Int) from if_pos z] at h
        cases h
        exact ⟨ts.length, rfl, by rw [List.length_append]; simp, by rw [List.getElem?_append_right (Nat.le_refl _), Nat.sub_self, z]; rfl⟩
      · rw [show (match (none : Option Int) with | some v => some v | none => if t = k then some (ts.length : Int) else none) = none from if_neg z] at h
        cases h
  · rw [getJ_snoc] at h
    cases g : getJ (idxJ ts) k with
    | some v' => rw [g] at h; cases h
    | none =>
      rw [g] at h
      rcases List.mem_append.mp m with m | m
      · exact ih.2 g m
      · have e := List.mem_singleton.mp m
        rw [show (match (none : Option Int) with | some v => some v | none => if t = k then some (ts.length : Int) else none) = some (ts.length : Int) from if_pos e.symm] at h
        cases h
def pstep (s : Tb × Tb) (c : Bool) : Tb × Tb := if c then (joinT s.1 s.2, s.2) else (s.1, joinT s.1 s.2)
def pat (s : Tb × Tb) (u : List Bool) : Tb × Tb := u.foldl pstep s
theorem pat_snoc (s : Tb × Tb) (u : List Bool) (c : Bool) : pat s (u ++ [c]) = pstep (pat s u) c := by
  unfold pat
  rw [List.foldl_append]
  rfl
theorem pat_det (s : Tb × Tb) : Det (pat s) := fun u v c h => by rw [pat_snoc, pat_snoc, h]
/-- a finite set of tables, closed under joins -/
structure ClS (n : Nat) (S : List Tb) : Prop where
  it : ∀ t ∈ S, IsT n t
  cl : ∀ a ∈ S, ∀ b ∈ S, joinT a b ∈ S
  len : S.length ≤ 400
theorem ClS.pat {n : Nat} {S : List Tb} (h : ClS n S) {s : Tb × Tb} (h1 : s.1 ∈ S) (h2 : s.2 ∈ S) (u : List Bool) : (Slw.pat s u).1 ∈ S ∧ (Slw.pat s u).2 ∈ S := by
  refine snoc_ind (p := fun u => (Slw.pat s u).1 ∈ S ∧ (Slw.pat s u).2 ∈ S) ⟨h1, h2⟩ (fun u c ih => ?_) u
  rw [pat_snoc]
  cases c with
  | true => exact ⟨h.cl _ ih.1 _ ih.2, ih.2⟩
  | false => exact ⟨ih.1, h.cl _ ih.1 _ ih.2⟩
theorem ClS.few {n : Nat} {S : List Tb} (h : ClS n S) {s : Tb × Tb} (h1 : s.1 ∈ S) (h2 : s.2 ∈ S) {k : Nat} {P : List (List Bool)} (hP : PI (Slw.pat s) k P) : P.length ≤ 160000 := by
  have := hP.few (S := S.flatMap fun a => S.map fun b => (a, b)) fun u => by
    obtain ⟨a, b⟩ := h.pat h1 h2 u
    exact List.mem_flatMap.mpr ⟨_, a, List.mem_map.mpr ⟨_, b, rfl⟩⟩
  have e : (S.flatMap fun a => S.map fun b => (a, b)).length = S.length * S.length := by
    have gen : ∀ T : List Tb, (T.flatMap fun a => S.map fun b => (a, b)).length = T.length * S.length := fun T => by
      induction T with
      | nil => simp
      | cons a T ih => rw [List.flatMap_cons, List.length_append, List.length_map, ih, List.length_cons, Nat.succ_mul, Nat.add_comm]
    exact gen S
  have l := Nat.mul_le_mul h.len h.len
  omega
structure Rep (S : List Tb) (s0 : Tb × Tb) (e0 : PP) (k : Nat) (P : List (List Bool)) (z : St_PairSearch) : Prop where
  ts : ∀ t ∈ z.1, t ∈ S
  tn : z.2.1 = idxJ z.1
  td : z.1.Nodup
  pn : z.2.2.2.1 = idxJ z.2.2.1
  pd : z.2.2.1.Nodup
  nb : z.2.2.2.2.1 = P.map (nat e0)
  pl : z.2.2.1.length = P.length
  pr : ∀ (m : Nat) (u : List Bool), P[m]? = some u → ∃ i j : Nat, z.2.2.1[m]? = some ((i : Int), (j : Int)) ∧ z.1[i]? = some (pat s0 u).1 ∧ z.1[j]? = some (pat s0 u).2
  ch : z.2.2.2.2.2.1.length = k
theorem nd_len2 {α : Type} [DecidableEq α] : ∀ (xs ys : List α), xs.Nodup → (∀ x ∈ xs, x ∈ ys) → xs.length ≤ ys.length
  | [], _, _, _ => Nat.zero_le _
  | x :: r, ys, hn, h => by
    have hx := h x List.mem_cons_self
    have hn' := List.nodup_cons.mp hn
    have := nd_len2 r (ys.erase x) hn'.2 fun y hy => (List.mem_erase_of_ne (fun e => hn'.1 (by rw [← e]; exact hy))).mpr (h y (List.mem_cons_of_mem _ hy))
    rw [List.length_erase_of_mem hx] at this
    have hp : 0 < ys.length := List.length_pos_of_mem hx
    rw [List.length_cons]
    omega
theorem nd_at {α : Type} {xs : List α} (h : xs.Nodup) {i j : Nat} {x : α} (hi : xs[i]? = some x) (hj : xs[j]? = some x) : i = j := by
  obtain ⟨i1, e1⟩ := List.getElem?_eq_some_iff.mp hi
  obtain ⟨j1, e2⟩ := List.getElem?_eq_some_iff.mp hj
  have P := List.pairwise_iff_getElem.mp h
  rcases Nat.lt_trichotomy i j with q | q | q
  · exact absurd (e1.trans e2.symm) (P i j i1 j1 q)
  · exact q
  · exact absurd (e2.trans e1.symm) (P j i j1 i1 q)
section
variable {n k : Nat} {S : List Tb} {s0 : Tb × Tb} {e0 : PP} {P : List (List Bool)} {z : St_PairSearch}
theorem Rep.tl (R : Rep S s0 e0 k P z) (C : ClS n S) : z.1.length ≤ 400 := Nat.le_trans (nd_len2 _ _ R.td R.ts) C.len
theorem tabnum_ok (C : ClS n S) (R : Rep S s0 e0 k P z) {t : Tb} (ht : t ∈ S) {Q : Int → St_PairSearch → Prop}
    (w : ∀ (i : Nat) (z' : St_PairSearch), z'.1[i]? = some t → (∀ (m : Nat) (x : Tb), z.1[m]? = some x → z'.1[m]? = some x) → Rep S s0 e0 k P z' → z'.2.2.2.2.2.2 = z.2.2.2.2.2.2 → z'.2.2.1 = z.2.2.1 → Q (i : Int) z') : w_PairSearch__table_number t z Q := by
  have tl := R.tl C
  unfold w_PairSearch__table_number w_WalkTable_form
  have hg := getJ_idx z.1 t
  rw [show (t.1, t.2) = t from rfl]
  rw [R.tn, idxJ_len]
  refine ⟨by omega, fun v hv => wLet_to ?_, fun hn => wLet_to ?_⟩
  · obtain ⟨i, rfl, hi, hi2⟩ := hg.1 v hv
    refine wJoin_ok (fun s => s = z.1) (fun s es => ?_) (fun J hJ => ⟨fun q => absurd (of_decide_eq_true q) (by omega), fun _ => hJ _ rfl⟩)
    subst es
    rw [← R.tn]
    exact w i z hi2 (fun m x h => h) R rfl rfl
  · have hm := hg.2 hn
    refine wJoin_ok (fun s => s = z.1 ++ [t]) (fun s es => ?_) (fun J hJ => ⟨fun _ => ⟨by omega, wLet_to (hJ _ rfl)⟩, fun q => absurd rfl (of_decide_eq_false q)⟩)
    subst es
    have pre : ∀ (m : Nat) (x : Tb), z.1[m]? = some x → (z.1 ++ [t])[m]? = some x := fun m x h => by
      rw [List.getElem?_append_left (List.getElem?_eq_some_iff.mp h).1]
      exact h
    refine w z.1.length _ ?_ pre ?_ rfl rfl
    · show (z.1 ++ [t])[z.1.length]? = some t
      rw [List.getElem?_append_right (Nat.le_refl _), Nat.sub_self]
      rfl
    · refine ⟨fun x hx => ?_, ?_, ?_, R.pn, R.pd, R.nb, R.pl, fun m u hu => ?_, R.ch⟩
      · rcases List.mem_append.mp hx with h | h
        · exact R.ts x h
        · rw [List.mem_singleton.mp h]; exact ht
      · show idxJ z.1 ++ [(t, (z.1.length : Int))] = idxJ (z.1 ++ [t])
        rw [idxJ_snoc]
      · exact List.nodup_append.mpr ⟨R.td, by simp, fun a ha b hb e => by
          rw [List.mem_singleton.mp hb] at e
          rw [e] at ha
          exact hm ha⟩
      · obtain ⟨i, j, h1, h2, h3⟩ := R.pr m u hu
        exact ⟨i, j, h1, pre _ _ h2, pre _ _ h3⟩
/-- where a pair of numbers stands -/
theorem Rep.has (R : Rep S s0 e0 k P z) {i j : Nat} {u : List Bool} (hi : z.1[i]? = some (pat s0 u).1) (hj : z.1[j]? = some (pat s0 u).2) {m : Nat} {w : List Bool} (hw : P[m]? = some w) : z.2.2.1[m]? = some ((i : Int), (j : Int)) ↔ pat s0 w = pat s0 u := by
  obtain ⟨i', j', h1, h2, h3⟩ := R.pr m w hw
  constructor
  · intro h
    rw [h1] at h
    have h := Option.some.inj h
    have e1 : i' = i := by have := congrArg Prod.fst h; dsimp only at this; omega
    have e2 : j' = j := by have := congrArg Prod.snd h; dsimp only at this; omega
    rw [e1, hi] at h2
    rw [e2, hj] at h3
    exact Prod.ext (Option.some.inj h2).symm (Option.some.inj h3).symm
  · intro h
    rw [h] at h2 h3
    have e1 := nd_at R.td h2 hi
    have e2 := nd_at R.td h3 hj
    rw [h1, e1, e2]
theorem numof_ok (C : ClS n S) (R : Rep S s0 e0 k P z) (hP : P.length ≤ 180000) {i j : Nat} {u : List Bool} (hi : z.1[i]? = some (pat s0 u).1) (hj : z.1[j]? = some (pat s0 u).2) {Q : Int → St_PairSearch → Prop}
    (w : ∀ (m : Nat) (w' : List Bool) (z' : St_PairSearch), Rep S s0 e0 k (addP (pat s0) P u) z' → z'.1 = z.1 → z'.2.2.2.2.2.2 = z.2.2.2.2.2.2 → (addP (pat s0) P u)[m]? = some w' → pat s0 w' = pat s0 u → Q (m : Int) z') : w_PairSearch__number_of ((i : Int), (j : Int)) (nat e0 u) z Q := by
  unfold w_PairSearch__number_of
  have hg := getJ_idx z.2.2.1 ((i : Int), (j : Int))
  have hl := R.pl
  have hnb : z.2.2.2.2.1.length = P.length := by rw [R.nb, List.length_map]
  rw [R.pn, idxJ_len]
  refine ⟨by omega, fun v hv => wLet_to ?_, fun hn => wLet_to ?_⟩
  · obtain ⟨m, rfl, hm, hm2⟩ := hg.1 v hv
    refine wJoin_ok (fun s => s = (z.2.2.1, z.2.2.2.2.1)) (fun s es => ?_) (fun J hJ => ⟨fun q => absurd (of_decide_eq_true q) (by omega), fun _ => hJ _ rfl⟩)
    subst es
    have lm : m < P.length := by omega
    have hw : P[m]? = some P[m] := List.getElem?_eq_getElem lm
    have e := (R.has hi hj hw).mp hm2
    have ea : addP (pat s0) P u = P := if_pos (List.mem_map.mpr ⟨_, List.getElem_mem lm, e⟩)
    rw [← R.pn]
    exact w m P[m] z (by rw [ea]; exact R) rfl rfl (by rw [ea]; exact hw) e
  · have hm := hg.2 hn
    have nw : ¬ pat s0 u ∈ P.map (pat s0) := fun h => by
      obtain ⟨w', hw', e⟩ := List.mem_map.mp h
      obtain ⟨m, hm'⟩ := List.getElem?_of_mem hw'
      exact hm (List.mem_of_getElem? ((R.has hi hj hm').mpr e))
    have ea : addP (pat s0) P u = P ++ [u] := if_neg nw
    refine wJoin_ok (fun s => s = (z.2.2.1 ++ [((i : Int), (j : Int))], z.2.2.2.2.1 ++ [nat e0 u])) (fun s es => ?_) (fun J hJ => ⟨fun _ => ⟨by omega, wLet_to ⟨by omega, wLet_to (hJ _ rfl)⟩⟩, fun q => absurd rfl (of_decide_eq_false q)⟩)
    subst es
    rw [show (z.2.2.1.length : Int) = ((P.length : Nat) : Int) by rw [hl]]
    refine w P.length u _ ?_ rfl rfl (by rw [ea, List.getElem?_append_right (Nat.le_refl _), Nat.sub_self]; rfl) rfl
    rw [ea]
    refine ⟨R.ts, R.tn, R.td, ?_, ?_, ?_, ?_, fun m v hv => ?_, R.ch⟩
    · show idxJ z.2.2.1 ++ [(((i : Int), (j : Int)), ((P.length : Nat) : Int))] = idxJ (z.2.2.1 ++ [((i : Int), (j : Int))])
      rw [idxJ_snoc, hl]
    · exact List.nodup_append.mpr ⟨R.pd, by simp, fun a ha b hb e => by
        rw [List.mem_singleton.mp hb] at e
        rw [e] at ha
        exact hm ha⟩
    · show z.2.2.2.2.1 ++ [nat e0 u] = (P ++ [u]).map (nat e0)
      rw [List.map_append, R.nb]
      rfl
    · show (z.2.2.1 ++ [((i : Int), (j : Int))]).length = (P ++ [u]).length
      rw [List.length_append, List.length_append, hl]
      rfl
    · by_cases l : m < P.length
      · rw [List.getElem?_append_left l] at hv
        obtain ⟨i', j', h1, h2, h3⟩ := R.pr m v hv
        exact ⟨i', j', by show (z.2.2.1 ++ [_])[m]? = _; rw [List.getElem?_append_left (by omega)]; exact h1, h2, h3⟩
      · have e1 : m = P.length := by
          have := (List.getElem?_eq_some_iff.mp hv).1
          rw [List.length_append, List.length_singleton] at this
          omega
        subst e1
        rw [List.getElem?_append_right (Nat.le_refl _), Nat.sub_self] at hv
        cases hv
        exact ⟨i, j, by show (z.2.2.1 ++ [_])[P.length]? = _; rw [List.getElem?_append_right (by omega), hl, Nat.sub_self]; rfl, hi, hj⟩
theorem ix_some {α : Type} {xs : List α} {m : Nat} {x : α} (h : xs[m]? = some x) : ixI xs (m : Int) = some x := by
  obtain ⟨l, rfl⟩ := List.getElem?_eq_some_iff.mp h
  exact ixI_nat l
theorem fdir_ok (R : Rep S s0 e0 k P z) {m : Nat} {u : List Bool} (hu : P[m]? = some u) {Q : Int × Int → St_PairSearch → Prop} (w : Q (pdir (nat e0 u)) z) : w_PairSearch__first_direction (m : Int) z Q := by
  unfold w_PairSearch__first_direction
  refine ⟨nat e0 u, ix_some ?_, wLet_to w⟩
  rw [R.nb, List.getElem?_map, hu]
  rfl
theorem addP_le {P : List (List Bool)} {u : List Bool} : (addP (pat s0) P u).length ≤ P.length + 1 := by
  unfold addP
  split
  · omega
  · rw [List.length_append, List.length_singleton]
    omega
theorem visit_ok (hn : n ≤ 1000) (C : ClS n S) (h1 : s0.1 ∈ S) (h2 : s0.2 ∈ S) (R : Rep S s0 e0 k P z) (hP : P.length ≤ 170000) {m : Nat} {u : List Bool} (hu : P[m]? = some u) (hk : k ≤ 160000) {Q : Tb → St_PairSearch → Prop}
    (w : ∀ z', Rep S s0 e0 (k + 1) (visP (pat s0) P m) z' → z'.2.2.2.2.2.2 = z.2.2.2.2.2.2 → Q (joinT (pat s0 u).1 (pat s0 u).2) z') : w_PairSearch__visit (m : Int) z Q := by
  unfold w_PairSearch__visit
  obtain ⟨i, j, hp, hi, hj⟩ := R.pr m u hu
  obtain ⟨a1, a2⟩ := C.pat h1 h2 u
  refine ⟨_, ix_some hp, wLet_to ⟨_, ix_some hi, _, ix_some hj, mulT_ok hn (C.it _ a1) (C.it _ a2) (wLet_to (tabnum_ok C R (C.cl _ a1 _ a2) fun q z1 hq pre R1 e1 ep => wLet_to ⟨nat e0 u, ix_some ?_, wLet_to (fdir_ok R1 hu (wLet_to ?_))⟩))⟩⟩
  · rw [R1.nb, List.getElem?_map, hu]
    rfl
  have f1 : pat s0 (u ++ [false]) = ((pat s0 u).1, joinT (pat s0 u).1 (pat s0 u).2) := by rw [pat_snoc]; rfl
  have f2 : pat s0 (u ++ [true]) = (joinT (pat s0 u).1 (pat s0 u).2, (pat s0 u).2) := by rw [pat_snoc]; rfl
  have n1 : nat e0 (u ++ [false]) = ((nat e0 u).1, pdir (nat e0 u)) := by rw [nat_snoc]; rfl
  have n2 : nat e0 (u ++ [true]) = (pdir (nat e0 u), (nat e0 u).2) := by rw [nat_snoc]; rfl
  rw [← n1]
  refine numof_ok C R1 (by omega) (u := u ++ [false]) (by rw [f1]; exact pre _ _ hi) (by rw [f1]; exact hq) fun m1 w1 z2 R2 t2 e2 _ _ => wLet_to ?_
  rw [← n2]
  have al := addP_le (s0 := s0) (P := P) (u := u ++ [false])
  refine numof_ok C R2 (by omega) (u := u ++ [true]) (by rw [f2, t2]; exact hq) (by rw [f2, t2]; exact pre _ _ hj) fun m2 w2 z3 R3 t3 e3 _ _ => wLet_to ⟨by rw [R3.ch]; omega, wLet_to ?_⟩
  have ev : visP (pat s0) P m = addP (pat s0) (addP (pat s0) P (u ++ [false])) (u ++ [true]) := by unfold visP; rw [hu]
  refine w _ ?_ (by show z3.2.2.2.2.2.2 = _; rw [e3, e2, e1])
  rw [ev]
  refine ⟨R3.ts, R3.tn, R3.td, R3.pn, R3.pd, R3.nb, R3.pl, R3.pr, ?_⟩
  show (z3.2.2.2.2.2.1 ++ [_]).length = k + 1
  rw [List.length_append, R3.ch]
  rfl
end
end Slw
namespace Slw
open PySem J
theorem runP_pre {β : Type} [DecidableEq β] {f : List Bool → β} (k : Nat) {m : Nat} {v : List Bool} (h : (runP f k)[m]? = some v) : (runP f (k + 1))[m]? = some v := by
  show (visP f (runP f k) k)[m]? = some v
  unfold visP
  split
  · exact addP_pre (addP_pre h)
  · exact h
theorem asked_ok {n : Nat} {S : List Tb} {s0 : Tb × Tb} {e0 : PP} {z : St_PairSearch} (hn : n ≤ 1000) (C : ClS n S) (h1 : s0.1 ∈ S) (h2 : s0.2 ∈ S) {limit : Int} (hl : 160000 < limit) {τ : Type} {u0 : τ} {Y : ((Int × Int) × Tb) → τ → (τ → Prop) → Prop} {K : St_PairSearch → τ → Prop}
    (R : Rep S s0 e0 0 [[]] z) (IS : τ → Prop) (I : Nat → τ → Prop) (hS0 : z.2.2.2.2.2.2 = false → I 0 u0)
    (hS1 : z.2.2.2.2.2.2 = true → ∀ N : τ → Prop, (∀ u, IS u → N u) → Y ((1, 0), s0.1) u0 N)
    (hS2 : z.2.2.2.2.2.2 = true → ∀ (u : τ) (N : τ → Prop), IS u → (∀ u', I 0 u' → N u') → Y ((0, 1), s0.2) u N)
    (hV : ∀ (k : Nat) (u : τ) (v : List Bool) (N : τ → Prop), PI (pat s0) k (runP (pat s0) k) → (runP (pat s0) k)[k]? = some v → I k u → (∀ u', I (k + 1) u' → N u') → Y (pdir (nat e0 v), joinT (pat s0 v).1 (pat s0 v).2) u N)
    (hE : ∀ (k : Nat) (u : τ) (z' : St_PairSearch), PI (pat s0) k (runP (pat s0) k) → k = (runP (pat s0) k).length → Rep S s0 e0 k (runP (pat s0) k) z' → I k u → K z' u) : w_PairSearch_asked τ limit z 200000 u0 Y K := by
  unfold w_PairSearch_asked
  refine wJoin_ok (fun q => 199998 ≤ q.2.1 ∧ I 0 q.2.2) (fun q hq => ?_) (fun J hJ => ⟨fun hs => ?_, fun hs => hJ _ ⟨Nat.le_of_ble_eq_true rfl, hS0 hs⟩⟩)
  · obtain ⟨⟨⟩, fuel, u⟩ := q
    obtain ⟨hf, hI⟩ := hq
    dsimp only at hf hI ⊢
    refine wJoin_ok (fun x => x = 0) (fun x ex => ?_) (fun J hJ => wLet_to (hJ _ rfl))
    subst ex
    refine ⟨fun q => ∃ k : Nat, q.1.2 = (k : Int) ∧ PI (pat s0) k (runP (pat s0) k) ∧ Rep S s0 e0 k (runP (pat s0) k) q.1.1 ∧ 199998 ≤ q.2.1 + k ∧ I k q.2.2 ∧ k ≤ (runP (pat s0) k).length, fun q => q.2.1, ⟨0, rfl, PI.zero, R, hf, hI, Nat.zero_le _⟩, ?_⟩
    rintro ⟨⟨z1, num⟩, m, u1⟩ ⟨k, ek, hP, R1, hm, hI1, hk⟩
    dsimp only at ek R1 hm hI1 ⊢
    subst ek
    have few := C.few h1 h2 hP
    have pl := R1.pl
    refine ⟨fun q => ?_, fun q => ?_⟩
    · have q := of_decide_eq_true q
      have kl : k < (runP (pat s0) k).length := by omega
      have hv : (runP (pat s0) k)[k]? = some (runP (pat s0) k)[k] := List.getElem?_eq_getElem kl
      generalize (runP (pat s0) k)[k] = v at hv
      have hP2 : PI (pat s0) (k + 1) (runP (pat s0) (k + 1)) := hP.step hv
      have few2 := C.few h1 h2 hP2
      refine ⟨fun y => absurd (of_decide_eq_true y) (by omega), fun _ => ⟨m - 1, by omega, fdir_ok R1 hv ?_⟩⟩
      refine visit_ok hn C h1 h2 R1 (by omega) hv (by omega) fun z2 R2 e2 => ?_
      refine hV k u1 v _ hP hv hI1 fun u2 hI2 => ?_
      refine wJoin_ok (fun x => x = ((k + 1 : Nat) : Int)) (fun x ex => ?_) (fun J hJ => wLet_to (hJ _ (by push_cast; rfl)))
      subst ex
      have l2 : k + 1 ≤ (runP (pat s0) (k + 1)).length := by
        have := (List.getElem?_eq_some_iff.mp (runP_pre k hv)).1
        omega
      exact ⟨⟨k + 1, rfl, hP2, R2, by show 199998 ≤ m - 1 + (k + 1); omega, hI2, l2⟩, by show m - 1 < m; omega⟩
    · have q := of_decide_eq_false q
      exact hE k u1 z1 hP (by omega) R1 hI1
  · obtain ⟨i, j, hp, hi, hj⟩ := R.pr 0 [] rfl
    refine wJoin_ok (fun t => t = ((i : Int), (j : Int))) (fun t et => ?_) (fun J2 hJ2 => ⟨_, ix_some (m := 0) hp, wLet_to (hJ2 _ rfl)⟩)
    subst et
    refine ⟨199999, rfl, _, ix_some hi, hS1 hs _ fun u1 hu1 => ⟨199998, rfl, _, ix_some hj, hS2 hs u1 _ hu1 fun u2 hu2 => hJ _ ⟨Nat.le_refl _, hu2⟩⟩⟩
end Slw
namespace Slw
open PySem J
abbrev e11 : PP := ((1, 0), (0, 1))
theorem nd11 : Nd e11 := ⟨by decide, by decide, by decide, by decide, by decide⟩
/-- runs and paths -/
theorem runs_of (u : List Bool) : ∃ rs, Kinds rs ∧ Alt rs ∧ nb s1001 rs = ((nat e11 u).1.1, (nat e11 u).1.2, (nat e11 u).2.1, (nat e11 u).2.2) ∧ (rs.map (·.2)).sum = (u.length : Int) := by
  refine snoc_ind (p := fun u => ∃ rs, Kinds rs ∧ Alt rs ∧ nb s1001 rs = ((nat e11 u).1.1, (nat e11 u).1.2, (nat e11 u).2.1, (nat e11 u).2.2) ∧ (rs.map (·.2)).sum = (u.length : Int)) ⟨[], fun x hx => (nomatch hx), fun i x y hx => (nomatch hx), rfl, rfl⟩ (fun u c ih => ?_) u
  obtain ⟨rs, hk, ha, hn, hs⟩ := ih
  obtain ⟨ts, k2, a2, n2, s2⟩ := one_more hk ha (z := (if c then ("steep" : Str) else ("flat" : Str), 1)) ⟨by cases c <;> simp, rfl⟩
  refine ⟨ts, k2, a2, ?_, by rw [s2, hs, List.length_append]; simp⟩
  rw [n2, hn, nat_snoc]
  cases c with
  | true => 
    rw [turn_s (x := (if true then ("steep" : Str) else ("flat" : Str), 1)) sf_ne]
    show ((nat e11 u).1.1 + 1 * (nat e11 u).2.1, (nat e11 u).1.2 + 1 * (nat e11 u).2.2, (nat e11 u).2.1, (nat e11 u).2.2) = ((nat e11 u).1.1 + (nat e11 u).2.1, (nat e11 u).1.2 + (nat e11 u).2.2, (nat e11 u).2.1, (nat e11 u).2.2)
    rw [Int.one_mul, Int.one_mul]
  | false =>
    rw [turn_f (x := (if false then ("steep" : Str) else ("flat" : Str), 1)) rfl]
    show ((nat e11 u).1.1, (nat e11 u).1.2, (nat e11 u).2.1 + 1 * (nat e11 u).1.1, (nat e11 u).2.2 + 1 * (nat e11 u).1.2) = ((nat e11 u).1.1, (nat e11 u).1.2, (nat e11 u).1.1 + (nat e11 u).2.1, (nat e11 u).1.2 + (nat e11 u).2.2)
    rw [Int.one_mul, Int.one_mul, Int.add_comm (nat e11 u).2.1, Int.add_comm (nat e11 u).2.2]
theorem lev_path (u : List Bool) : Lv (pdir (nat e11 u)) = (u.length : Int) + 1 := by
  obtain ⟨rs, hk, ha, hn, hs⟩ := runs_of u
  have P := (nd11.nat u).pos
  obtain ⟨e1, e2⟩ := nb_E1 rs
  rw [hn] at e1 e2
  have d1 : (pdir (nat e11 u)).1 = (E rs).1 := e1
  have d2 : (pdir (nat e11 u)).2 = (E rs).2 := e2
  rw [Lv_pos (by omega) (by omega)]
  unfold lev
  rw [d1, d2, FE hk ha, hs]
  omega
theorem pdir_gcd {e : PP} (h : Nd e) : Int.gcd (pdir e).1 (pdir e).2 = 1 := gcd_det h.det
theorem code_bef {u v : List Bool} (h : code u < code v) : bef (pdir (nat e11 u)) (pdir (nat e11 v)) = true := by
  unfold bef
  rw [lev_path, lev_path]
  by_cases z : u.length = v.length
  · rw [if_pos (by rw [z])]
    exact decide_eq_true (slope_lt (u := u) (v := v) (e := e11) (n := 1) nd11 z h)
  · rw [if_neg (by omega)]
    refine decide_eq_true ?_
    have l1 := code_len u
    have l2 := code_len v
    have : u.length < v.length := by
      apply Classical.byContradiction
      intro q
      have p := Nat.pow_le_pow_right (show 0 < 2 by decide) (show v.length + 1 ≤ u.length by omega)
      omega
    omega
theorem bef_code {u v : List Bool} (h : bef (pdir (nat e11 u)) (pdir (nat e11 v)) = true) : code u < code v := by
  rcases Nat.lt_trichotomy (code u) (code v) with q | q | q
  · exact q
  · rw [code_inj q] at h
    exact (bef_anti h h).elim
  · exact (bef_anti h (code_bef q)).elim
/-- a path leads to every direction of the tree -/
theorem path_runs {n : Nat} {s : Tb × Tb} (h : T2 n s) : ∀ (m : Nat) (rs : List (Str × Int)), Kinds rs → Alt rs → (rs.map (·.2)).sum ≤ m → ∃ u : List Bool, nb s1001 rs = ((nat e11 u).1.1, (nat e11 u).1.2, (nat e11 u).2.1, (nat e11 u).2.2) ∧ tts n s rs = pat s u
  | m, rs, hk, ha, hm => by
    rcases List.eq_nil_or_concat rs with rfl | ⟨r0, y, rfl⟩
    · exact ⟨[], rfl, rfl⟩
    · rw [List.concat_eq_append] at hk ha hm ⊢
      obtain ⟨r1, k1, a1, en, et, es⟩ := less_one (n := n) (s := s) h hk ha
      have s0 := sum_nn0 (rs := r1) k1.nn
      match m, hm with
      | 0, hm => omega
      | m + 1, hm =>
        obtain ⟨u, i1, i2⟩ := path_runs h m r1 k1 a1 (by omega)
        have t2 : T2 n (tts n s r1) := h.tts
        rw [en, et, i1]
        by_cases z : y.1 = ("flat" : Str)
        · refine ⟨u ++ [false], ?_, ?_⟩
          · rw [turn_f (x := (y.1, 1)) z, nat_snoc]
            show ((nat e11 u).1.1, (nat e11 u).1.2, (nat e11 u).2.1 + 1 * (nat e11 u).1.1, (nat e11 u).2.2 + 1 * (nat e11 u).1.2) = ((nat e11 u).1.1, (nat e11 u).1.2, (nat e11 u).1.1 + (nat e11 u).2.1, (nat e11 u).1.2 + (nat e11 u).2.2)
            rw [Int.one_mul, Int.one_mul, Int.add_comm (nat e11 u).2.1, Int.add_comm (nat e11 u).2.2]
          · rw [show tt n (tts n s r1) (y.1, 1) = ((tts n s r1).1, joinT (pwT n (tts n s r1).1 1) (tts n s r1).2) from if_pos z, pw_one t2.a, pat_snoc, i2]
            rfl
        · refine ⟨u ++ [true], ?_, ?_⟩
          · rw [turn_s (x := (y.1, 1)) z, nat_snoc]
            show ((nat e11 u).1.1 + 1 * (nat e11 u).2.1, (nat e11 u).1.2 + 1 * (nat e11 u).2.2, (nat e11 u).2.1, (nat e11 u).2.2) = ((nat e11 u).1.1 + (nat e11 u).2.1, (nat e11 u).1.2 + (nat e11 u).2.2, (nat e11 u).2.1, (nat e11 u).2.2)
            rw [Int.one_mul, Int.one_mul]
          · rw [show tt n (tts n s r1) (y.1, 1) = (joinT (tts n s r1).1 (pwT n (tts n s r1).2 1), (tts n s r1).2) from if_neg z, pw_one t2.b, pat_snoc, i2]
            rfl
theorem path_of {n : Nat} {s : Tb × Tb} (h : T2 n s) {p q : Int} (hp : 1 ≤ p) (hq : 1 ≤ q) (hg : Int.gcd p q = 1) : ∃ u : List Bool, pdir (nat e11 u) = (p, q) ∧ joinT (pat s u).1 (pat s u).2 = Rt n s.1 s.2 p q := by
  obtain ⟨k, al, e, _⟩ := F_spec (p + q).toNat p q (Nat.le_refl _) (by omega) (by omega) hg
  obtain ⟨u, h1, h2⟩ := path_runs h ((F p q).map fun (x : Str × Int) => x.2).sum.toNat (F p q) k al (by have := sum_nn0 (rs := F p q) k.nn; omega)
  refine ⟨u, ?_, ?_⟩
  · obtain ⟨e1, e2⟩ := nb_E1 (F p q)
    rw [h1, e] at e1 e2
    exact Prod.ext e1 e2
  · rw [Rt_pos hp hq, h2]
/-- the table of one round at a path -/
theorem Rt_path {n : Nat} {s : Tb × Tb} (h : T2 n s) (u : List Bool) : joinT (pat s u).1 (pat s u).2 = Rt n s.1 s.2 (pdir (nat e11 u)).1 (pdir (nat e11 u)).2 := by
  have P := (nd11.nat u).pos
  have N := nd11.nat u
  obtain ⟨v, h1, h2⟩ := path_of h P.1 P.2 (pdir_gcd N)
  have e : v = u := by
    apply code_inj
    rcases Nat.lt_trichotomy (code v) (code u) with q | q | q
    · have := code_bef q
      rw [h1] at this
      exact (bef_anti this this).elim
    · exact q
    · have := code_bef q
      rw [h1] at this
      exact (bef_anti this this).elim
  rw [← h2, e]
theorem pw2 : ∀ n : Nat, (1 : Int) ≤ 2 ^ n := fun n => Int.pow_pos (by decide)
theorem nat_big (u : List Bool) : (nat e11 u).1.1 ≤ 2 ^ u.length ∧ (nat e11 u).1.2 ≤ 2 ^ u.length ∧ (nat e11 u).2.1 ≤ 2 ^ u.length ∧ (nat e11 u).2.2 ≤ 2 ^ u.length := by
  refine snoc_ind (p := fun u => (nat e11 u).1.1 ≤ 2 ^ u.length ∧ (nat e11 u).1.2 ≤ 2 ^ u.length ∧ (nat e11 u).2.1 ≤ 2 ^ u.length ∧ (nat e11 u).2.2 ≤ 2 ^ u.length) (by decide) (fun u c ih => ?_) u
  obtain ⟨h1, h2, h3, h4⟩ := ih
  rw [nat_snoc, List.length_append, List.length_singleton, Int.pow_succ]
  have := pw2 u.length
  cases c with
  | true =>
    show (nat e11 u).1.1 + (nat e11 u).2.1 ≤ _ ∧ (nat e11 u).1.2 + (nat e11 u).2.2 ≤ _ ∧ (nat e11 u).2.1 ≤ _ ∧ (nat e11 u).2.2 ≤ _
    omega
  | false =>
    show (nat e11 u).1.1 ≤ _ ∧ (nat e11 u).1.2 ≤ _ ∧ (nat e11 u).1.1 + (nat e11 u).2.1 ≤ _ ∧ (nat e11 u).1.2 + (nat e11 u).2.2 ≤ _
    omega
theorem pdir_dir {u : List Bool} (h : u.length ≤ 3900) : Dir (pdir (nat e11 u)) := by
  have N := nd11.nat u
  have P := N.pos
  obtain ⟨h1, h2, h3, h4⟩ := nat_big u
  have bb : (2 : Int) ^ u.length + 2 ^ u.length < 2 ^ Big := by
    have e : (2 : Int) ^ u.length + 2 ^ u.length = 2 ^ (u.length + 1) := by rw [Int.pow_succ]; omega
    rw [e]
    have P2 : ∀ n : Nat, ((2 : Int) ^ n) = ((2 ^ n : Nat) : Int) := fun n => by norm_cast
    rw [P2, P2]
    have := Nat.pow_lt_pow_right (show 1 < 2 by decide) (show u.length + 1 < Big by show u.length + 1 < 4000; omega)
    exact_mod_cast this
  have c1 : (pdir (nat e11 u)).1 < 2 ^ Big := Int.lt_of_le_of_lt (show (nat e11 u).1.1 + (nat e11 u).2.1 ≤ _ by omega) bb
  have c2 : (pdir (nat e11 u)).2 < 2 ^ Big := Int.lt_of_le_of_lt (show (nat e11 u).1.2 + (nat e11 u).2.2 ≤ _ by omega) bb
  have P2 : ((2 : Int) ^ Big) = ((2 ^ Big : Nat) : Int) := by norm_cast
  rw [P2] at c1 c2
  exact ⟨by omega, by omega, pdir_gcd N, by omega, by omega⟩
theorem PI.plen {β : Type} [DecidableEq β] {f : List Bool → β} {k : Nat} {P : List (List Bool)} (h : PI f k P) : ∀ (n m : Nat) (u : List Bool), m ≤ n → P[m]? = some u → u.length ≤ m
  | n, m, u, hn, hu => by
    rcases h.src u (List.mem_of_getElem? hu) with rfl | ⟨m', v, c, _, hv, rfl⟩
    · exact Nat.zero_le _
    · have lt : m' < m := by
        apply Classical.byContradiction
        intro q
        have up := code_up v c
        rcases Nat.lt_or_eq_of_le (Nat.le_of_not_lt q) with q | q
        · exact absurd (h.lt hu hv q) (by omega)
        · subst q
          rw [hu] at hv
          have := Option.some.inj hv
          rw [this] at up
          exact absurd up (Nat.lt_irrefl _)
      match n, hn with
      | 0, hn => omega
      | n + 1, hn =>
        have := PI.plen h n m' v (by omega) hv
        rw [List.length_append, List.length_singleton]
        omega
end Slw
namespace Slw
open PySem J
abbrev Rg := Int × Int × List Int
theorem ring_from_ok {n : Nat} {e m : List Int} (R : RT n e m) (hn : n ≤ 1000) {s : Int} (s0 : 0 ≤ s) (s1 : s < n) {P : List Int → Prop} (w : P (rg e n s)) : w_ring_from s e P := by
  obtain ⟨p1, p2, p3, p4⟩ := R.isPer s0 s1
  unfold w_ring_from
  refine ⟨by show 1 ≤ 1000; omega, wLet_to ⟨_, R.ix s0 s1, wLet_to ⟨fun q => ∃ j, 1 ≤ j ∧ j ≤ per e n s ∧ q = (it e s j, orb e s j), fun q => per e n s - q.2.length, ⟨1, by omega, p1, rfl⟩, ?_⟩⟩⟩
  rintro _ ⟨j, h1, h2, rfl⟩
  dsimp only
  refine ⟨fun z => ⟨by rw [orb_len]; omega, wLet_to ⟨_, R.ix (R.it s0 s1 j).1 (R.it s0 s1 j).2, wLet_to ⟨⟨j + 1, by omega, ?_, ?_⟩, ?_⟩⟩⟩, fun z => ?_⟩
  · have hj : j ≠ per e n s := fun q => by
      rw [q, p3] at z
      simp at z
    omega
  · rw [orb_succ]
    rfl
  · have hj : j ≠ per e n s := fun q => by
      rw [q, p3] at z
      simp at z
    rw [List.length_append, orb_len]
    simp only [List.length_cons, List.length_nil]
    omega
  · have ez : it e s j = s := by simpa using z
    have hj : j = per e n s := by
      apply Classical.byContradiction
      intro q
      exact p4 j (by omega) (by omega) ez
    rw [hj]
    exact w
theorem rooms_ok {n : Nat} {mark : Int} (hn : n ≤ 100000) (h0 : 0 ≤ mark) (h : mark < 2 ^ n) {P : List Int → Prop} (w : P (roomsJ n mark)) : w_rooms_in mark P := by
  unfold w_rooms_in
  have P2 : ∀ n : Nat, ((2 : Int) ^ n) = ((2 ^ n : Nat) : Int) := fun n => by norm_cast
  have hb : Builtin.Int.intBits mark ≤ n := intBits_le_iff.mpr (by rw [P2] at h; omega)
  have hlt : mark < 2 ^ (Builtin.Int.intBits mark) := by
    have := intBits_le_iff.mp (Nat.le_refl (Builtin.Int.intBits mark))
    rw [P2]
    omega
  refine ⟨by omega, by rw [rangeI_len]; omega, ?_⟩
  refine wCompF_ok (α := Int) (β := Int) (bitP mark) (fun x => x) _ [] _ (fun x hx A B hA hB => ⟨(mem_rangeI.mp hx).1, ⟨Int.ediv_nonneg h0 (Int.le_of_lt (Int.pow_pos (by decide))), by decide⟩, hA, hB⟩) (fun x _ _ N hN => hN) ?_
  rw [List.nil_append, List.map_id', ← roomsJ_eq h0 hlt hb] at *
  exact w
/-- the rings, start by start -/
noncomputable def rst (e m : List Int) (n : Nat) : Nat → List Rg × List Int
  | 0 => ([], [])
  | i + 1 => if memJ (i : Int) (rst e m n i).2 = true then rst e m n i else ((rst e m n i).1 ++ [((i : Int), ((per e n i : Nat) : Int), roomsJ n (mkO m (rg e n i)))], (rst e m n i).2 ++ rg e n i)
structure RI (n : Nat) (e m : List Int) (i : Nat) (q : List Rg × List Int) : Prop where
  nd : q.2.Nodup
  sub : ∀ x ∈ q.2, 0 ≤ x ∧ x < n
  cl : Cl e q.2
  all : ∀ j : Nat, j < i → (j : Int) ∈ q.2
  sum : (q.1.map fun r => r.2.1).sum = (q.2.length : Int)
  len : q.1.length ≤ i
  rl : ∀ r ∈ q.1, r.2.2.length ≤ n
theorem Cl.app {e D X : List Int} (h1 : Cl e D) (h2 : Cl e X) : Cl e (D ++ X) := fun x hx => by
  rcases List.mem_append.mp hx with h | h
  · exact List.mem_append_left _ (h1 _ h)
  · exact List.mem_append_right _ (h2 _ h)
theorem RI.len2 {n : Nat} {e m : List Int} {i : Nat} {q : List Rg × List Int} (I : RI n e m i q) : q.2.length ≤ n := by
  have := nd_len q.2 (rangeI 0 n) I.nd fun x hx => mem_rangeI.mpr (I.sub x hx)
  rw [rangeI_len] at this
  exact this
theorem RT.ri {n : Nat} {e m : List Int} (R : RT n e m) : ∀ i, i ≤ n → RI n e m i (rst e m n i)
  | 0, _ => ⟨List.nodup_nil, fun x hx => (List.not_mem_nil hx).elim, fun x hx => (List.not_mem_nil hx).elim, fun j hj => absurd hj (Nat.not_lt_zero j), rfl, Nat.le_refl _, fun x hx => (List.not_mem_nil hx).elim⟩
  | i + 1, hi => by
    have I := RT.ri R i (by omega)
    have s0 : (0 : Int) ≤ (i : Int) := by omega
    have s1 : (i : Int) < n := by omega
    unfold rst
    by_cases h : memJ (i : Int) (rst e m n i).2 = true
    · rw [if_pos h]
      refine ⟨I.nd, I.sub, I.cl, fun j hj => ?_, I.sum, by have := I.len; omega, I.rl⟩
      by_cases q : j < i
      · exact I.all j q
      · have : j = i := by omega
        subst this
        exact of_memJ h
    · rw [if_neg h]
      have off := R.off s0 s1 I.cl fun z => h (memJ_true z)
      refine ⟨nodup_app I.nd (R.rgNd s0 s1) off, fun x hx => ?_, I.cl.app (R.rgCl s0 s1), fun j hj => ?_, ?_, ?_, fun r hr => ?_⟩
      · rcases List.mem_append.mp hx with q | q
        · exact I.sub _ q
        · exact R.rgIn s0 s1 _ q
      · by_cases q : j < i
        · exact List.mem_append_left _ (I.all j q)
        · have : j = i := by omega
          subst this
          exact List.mem_append_right _ (R.inRg s0 s1 0)
      · show (((rst e m n i).1 ++ [_]).map _).sum = (((rst e m n i).2 ++ rg e n i).length : Int)
        rw [List.map_append, List.sum_append, I.sum, List.length_append]
        unfold rg
        rw [orb_len]
        simp
      · show ((rst e m n i).1 ++ [_]).length ≤ i + 1
        rw [List.length_append]
        have := I.len
        simpa using this
      · rcases List.mem_append.mp hr with q | q
        · exact I.rl r q
        · cases List.mem_singleton.mp q
          have := List.length_filter_le (bitP (mkO m (rg e n i))) (rangeI 0 (n : Int))
          rw [rangeI_len] at this
          exact this
theorem RT.mkb {n : Nat} {e m : List Int} (R : RT n e m) {s : Int} (s0 : 0 ≤ s) (s1 : s < n) {k : Nat} : 0 ≤ mkO m (orb e s k) ∧ mkO m (orb e s k) < 2 ^ n :=
  mkO_bnd _ _ rfl fun x hx => by
    obtain ⟨j, _, rfl⟩ := mem_orb.mp hx
    exact (R.mb (R.it s0 s1 j).1 (R.it s0 s1 j).2).2
theorem addJ_new {xs : List Int} {k : Int} (h : ¬ k ∈ xs) : addJ xs k = xs ++ [k] := by
  unfold addJ
  rw [memJ_false h]
  rfl
theorem not_memJ {x : Int} {xs : List Int} : ((!memJ x xs) = true) ↔ ¬ (memJ x xs = true) := by
  cases memJ x xs <;> simp
theorem not_memJ' {x : Int} {xs : List Int} : ((!memJ x xs) = false) ↔ (memJ x xs = true) := by
  cases memJ x xs <;> simp
theorem rst_in {e m : List Int} {n i : Nat} (h : memJ (i : Int) (rst e m n i).2 = true) : rst e m n (i + 1) = rst e m n i := by
  show (if _ then _ else _) = _
  rw [if_pos h]
theorem rst_new {e m : List Int} {n i : Nat} (h : ¬ memJ (i : Int) (rst e m n i).2 = true) : rst e m n (i + 1) = ((rst e m n i).1 ++ [((i : Int), ((per e n i : Nat) : Int), roomsJ n (mkO m (rg e n i)))], (rst e m n i).2 ++ rg e n i) := by
  show (if _ then _ else _) = _
  rw [if_neg h]
theorem rings_ok {n : Nat} {e m : List Int} (R : RT n e m) (hn : n ≤ 1000) {P : List Rg → Prop} (w : P (rst e m n n).1) : w_rings_of (e, m) P := by
  unfold w_rings_of
  unfold w_WalkTable_form w_WalkTable_size
  refine wLet_to (wLet_to ⟨?_, ?_⟩)
  · rw [R.le]
    omega
  show wFor _ _ (rangeI 0 (e.length : Int)) _
  rw [R.le]
  refine wFor_range n (fun i q => q = rst e m n i) ?_ ?_ _ rfl
  · rintro i _ N hi rfl hN
    have I := R.ri i (by omega)
    have s0 : (0 : Int) ≤ (i : Int) := by omega
    have s1 : (i : Int) < n := by omega
    refine ⟨fun z => ?_, fun z => hN _ (rst_in (not_memJ'.mp z)).symm⟩
    have hz := not_memJ.mp z
    have off := R.off s0 s1 I.cl fun z => hz (memJ_true z)
    have big := nodup_app I.nd (R.rgNd s0 s1) off
    have bl := nd_len _ (rangeI 0 n) big fun x hx => by
      rcases List.mem_append.mp hx with q | q
      · exact mem_rangeI.mpr (I.sub _ q)
      · exact mem_rangeI.mpr (R.rgIn s0 s1 _ q)
    rw [rangeI_len, List.length_append] at bl
    refine ring_from_ok R hn s0 s1 (wLet_to (wLet_to (wLet_to ?_)))
    refine wFor_ok (fun r (q : Int × List Int) => ∃ pre, pre ++ r = rg e n i ∧ q = (mkO m pre, (rst e m n i).2 ++ pre)) ?_ ?_ _ _ ⟨[], List.nil_append _, by rw [List.append_nil]; rfl⟩
    · rintro x r _ N2 ⟨pre, hp, rfl⟩ hN2
      have xm : x ∈ rg e n i := by rw [← hp]; simp
      have xb := R.rgIn s0 s1 x xm
      have pl : pre.length ≤ (rg e n i).length := by rw [← hp, List.length_append]; omega
      have prn : ∀ y ∈ pre, 0 ≤ gI m y ∧ gI m y < 2 ^ n := fun y hy => by
        have := R.rgIn s0 s1 y (by rw [← hp]; exact List.mem_append_left _ hy)
        exact R.mb this.1 this.2
      refine ⟨by show ((rst e m n i).2 ++ pre).length < 4000; rw [List.length_append]; omega, wLet_to ⟨_, R.mx xb.1 xb.2, ⟨(mkO_bnd _ pre rfl fun y hy => (prn y hy).2).1, (R.mb xb.1 xb.2).1⟩, wLet_to (hN2 _ ⟨pre ++ [x], by rw [← hp, List.append_assoc]; rfl, ?_⟩)⟩⟩
      rw [mkO_app]
      refine Prod.ext rfl ?_
      show addJ ((rst e m n i).2 ++ pre) x = (rst e m n i).2 ++ (pre ++ [x])
      rw [addJ_new, List.append_assoc]
      intro hx
      have b2 := big
      rw [← hp, ← List.append_assoc] at b2
      exact (List.nodup_append.mp b2).2.2 x hx x List.mem_cons_self rfl
    · rintro _ ⟨pre, hp, rfl⟩
      rw [List.append_nil] at hp
      subst hp
      refine rooms_ok (n := n) (by omega) (R.mkb s0 s1).1 (R.mkb s0 s1).2 ⟨by have := I.len; omega, wLet_to (hN _ ?_)⟩
      rw [rst_new hz]
      unfold rg
      rw [orb_len]
  · rintro _ rfl
    exact w
theorem law_rings_ok {n : Nat} {e m : List Int} (R : RT n e m) (hn : n ≤ 1000) {P : List Rg → Prop} (w : P (rst e m n n).1) : w_law_rings [e, m] P := by
  unfold w_law_rings
  refine wLet_to (wLet_to ⟨e, rfl, wLet_to ⟨by rw [R.le]; omega, ?_⟩⟩)
  rw [R.le]
  refine wFor_range n (fun i q => q = ((rst e m n i).2, (rst e m n i).1)) ?_ ?_ _ rfl
  · rintro i _ N hi rfl hN
    have I := R.ri i (by omega)
    have s0 : (0 : Int) ≤ (i : Int) := by omega
    have s1 : (i : Int) < n := by omega
    refine ⟨fun z => ?_, fun z => hN _ (by rw [rst_in (not_memJ'.mp z)])⟩
    have hz := not_memJ.mp z
    have off := R.off s0 s1 I.cl fun z => hz (memJ_true z)
    have big := nodup_app I.nd (R.rgNd s0 s1) off
    obtain ⟨p1, p2, p3, p4⟩ := R.isPer s0 s1
    refine wLet_to (wLet_to (wLet_to ⟨by omega, ?_⟩))
    refine wFor_range n (fun j q => q = (it e i (min j (per e n i)), (((min j (per e n i) : Nat)) : Int), mkO m (orb e i (min j (per e n i))), (rst e m n i).2 ++ orb e i (min j (per e n i)))) ?_ ?_ _ ?_
    · rintro j _ N2 hj rfl hN2
      have ib := R.it s0 s1 j
      dsimp only
      by_cases hjk : j < per e n i
      · have m1 : min j (per e n i) = j := Nat.min_eq_left (by omega)
        have m2 : min (j + 1) (per e n i) = j + 1 := Nat.min_eq_left (by omega)
        rw [m1]
        rw [m2] at hN2
        refine ⟨fun z2 => ⟨by rw [List.length_append, orb_len]; have := I.len2; omega, wLet_to (wLet_to ⟨m, rfl, _, R.mx ib.1 ib.2, ⟨(R.mkb s0 s1).1, (R.mb ib.1 ib.2).1⟩, wLet_to ⟨e, rfl, _, R.ix ib.1 ib.2, wLet_to (hN2 _ ?_)⟩⟩)⟩, fun z2 => ?_⟩
        · rw [orb_succ, mkO_app, List.append_assoc]
          rfl
        · exfalso
          rcases List.mem_append.mp (of_memJ (not_memJ'.mp z2)) with h | h
          · exact off _ (mem_orb.mpr ⟨j, hjk, rfl⟩) h
          · obtain ⟨a, ha, hb⟩ := mem_orb.mp h
            have P := List.pairwise_iff_getElem.mp (R.rgNd s0 s1)
            have la : a < (rg e n i).length := by unfold rg; rw [orb_len]; omega
            have lj : j < (rg e n i).length := by unfold rg; rw [orb_len]; omega
            exact P a j la lj ha ((orb_get (k := per e n i) la).trans (hb.trans (orb_get (k := per e n i) lj).symm))
      · have m1 : min j (per e n i) = per e n i := Nat.min_eq_right (by omega)
        have m2 : min (j + 1) (per e n i) = per e n i := Nat.min_eq_right (by omega)
        rw [m1]
        rw [m2] at hN2
        refine ⟨fun z2 => ?_, fun z2 => hN2 _ rfl⟩
        exfalso
        refine not_memJ.mp z2 (memJ_true (List.mem_append_right _ ?_))
        exact R.inRg s0 s1 _
    · rintro _ rfl
      have m1 : min n (per e n i) = per e n i := Nat.min_eq_right (by omega)
      rw [m1]
      refine ⟨by omega, by rw [rangeI_len]; omega, ?_⟩
      refine wCompF_ok (α := Int) (β := Int) (bitP (mkO m (rg e n i))) (fun x => x) _ [] _ (fun x hx A B hA hB => ⟨(mem_rangeI.mp hx).1, ⟨Int.ediv_nonneg (R.mkb s0 s1).1 (Int.le_of_lt (Int.pow_pos (by decide))), by decide⟩, hA, hB⟩) (fun x _ _ N hN => hN) ?_
      rw [List.nil_append, List.map_id']
      refine ⟨by have := I.len; show (rst e m n i).1.length < 1000000; omega, wLet_to (hN _ ?_)⟩
      rw [rst_new hz]
      rfl
    · rw [Nat.zero_min]
      show _ = (_, _, _, _ ++ [])
      rw [List.append_nil]
      rfl
  · rintro _ rfl
    exact w
end Slw
namespace Slw
open PySem J
def zer (n : Nat) : List Int := List.replicate n 0
noncomputable def rl (n : Nat) (e : List Int) : List Int := (rst e (zer n) n n).1.map (·.2.1)
theorem rst_marks (e m m' : List Int) (n : Nat) : ∀ i, (rst e m n i).2 = (rst e m' n i).2 ∧ (rst e m n i).1.map (fun x => (x.1, x.2.1)) = (rst e m' n i).1.map (fun x => (x.1, x.2.1))
  | 0 => ⟨rfl, rfl⟩
  | i + 1 => by
    obtain ⟨h1, h2⟩ := rst_marks e m m' n i
    by_cases z : memJ (i : Int) (rst e m n i).2 = true
    · have z' : memJ (i : Int) (rst e m' n i).2 = true := by rw [← h1]; exact z
      rw [rst_in z, rst_in z']
      exact ⟨h1, h2⟩
    · have z' : ¬ memJ (i : Int) (rst e m' n i).2 = true := by rw [← h1]; exact z
      rw [rst_new z, rst_new z']
      dsimp only
      rw [h1, List.map_append, List.map_append, h2]
      exact ⟨rfl, rfl⟩
theorem rl_marks (n : Nat) (e m : List Int) : (rst e m n n).1.map (fun x => x.2.1) = rl n e := by
  have := congrArg (List.map Prod.snd) (rst_marks e m (zer n) n n).2
  rw [List.map_map, List.map_map] at this
  exact this
/-- sorted lists -/
def so (l : List Int) : List Int := l.mergeSort (fun a b => decide (a ≤ b))
theorem so_perm (l : List Int) : (so l).Perm l := List.mergeSort_perm _ _
theorem so_sorted (l : List Int) : (so l).Pairwise (· ≤ ·) := by
  have := List.pairwise_mergeSort (le := fun a b : Int => decide (a ≤ b)) (fun a b c h1 h2 => by
    have h1 := of_decide_eq_true h1
    have h2 := of_decide_eq_true h2
    exact decide_eq_true (Int.le_trans h1 h2)) (fun a b => by
    by_cases z : a ≤ b
    · simp [z]
    · have : b ≤ a := by omega
      simp [this]) l
  exact this.imp fun h => of_decide_eq_true h
theorem so_uniq {l ys : List Int} (p : ys.Perm l) (s : ys.Pairwise (· ≤ ·)) : ys = so l :=
  List.Perm.eq_of_pairwise (le := (· ≤ ·)) (fun a b _ _ h1 h2 => Int.le_antisymm h1 h2) s (so_sorted l) (p.trans (so_perm l).symm)
theorem so_congr {l m : List Int} (p : l.Perm m) : so l = so m := so_uniq ((so_perm l).trans p) (so_sorted l)
theorem so_eq {l m : List Int} : so l = so m ↔ ∀ r : Int, l.count r = m.count r := by
  constructor
  · intro h r
    rw [← (so_perm l).count_eq, h, (so_perm m).count_eq]
  · exact fun h => so_congr (List.perm_iff_count.mpr h)
/-- periods along a ring -/
theorem isPer_uniq {e : List Int} {s : Int} {n n' k k' : Nat} (h : IsPer e s n k) (h' : IsPer e s n' k') : k = k' := by
  obtain ⟨a1, _, a3, a4⟩ := h
  obtain ⟨b1, _, b3, b4⟩ := h'
  rcases Nat.lt_trichotomy k k' with q | q | q
  · exact absurd a3 (b4 k (by omega) q)
  · exact q
  · exact absurd b3 (a4 k' (by omega) q)
section
variable {n : Nat} {e m : List Int}
theorem it_comm (e : List Int) (s : Int) (i d : Nat) : it e (it e s i) d = it e (it e s d) i := by rw [← it_add, ← it_add, Nat.add_comm]
theorem RT.perIt (R : RT n e m) {s : Int} (s0 : 0 ≤ s) (s1 : s < n) (i : Nat) : Slw.per e n (Slw.it e s i) = Slw.per e n s := by
  obtain ⟨h0, h1⟩ := R.it s0 s1 i
  obtain ⟨p1, p2, p3, p4⟩ := R.isPer s0 s1
  refine isPer_uniq (R.isPer h0 h1) (n' := n) ⟨p1, p2, ?_, fun j j0 j1 q => ?_⟩
  · rw [it_comm, p3]
  · have : Slw.it e s (i + j) = Slw.it e s i := by rw [it_add, q]
    exact p4 j j0 j1 (R.back s0 s1 j i this)
noncomputable def Qp (e : List Int) (n : Nat) (Q : Int → Bool) (r : Nat) (x : Int) : Bool := open Classical in Q x && decide (per e n x = r)
theorem count_map_filter (l : List Rg) (Q : Int → Bool) (r : Int) : ((l.filter fun x => Q x.1).map (·.2.1)).count r = (l.filter fun x => Q x.1 && decide (x.2.1 = r)).length := by
  induction l with
  | nil => rfl
  | cons x l ih =>
    by_cases z : Q x.1 = true
    · rw [List.filter_cons_of_pos (p := fun x : Rg => Q x.1) z, List.map_cons, List.count_cons, ih]
      by_cases y : x.2.1 = r
      · rw [List.filter_cons_of_pos (by rw [z, decide_eq_true y]; rfl), List.length_cons, if_pos (by simpa using y)]
      · rw [List.filter_cons_of_neg (by rw [z, decide_eq_false y]; decide), if_neg (by simpa using y)]
        rfl
    · rw [List.filter_cons_of_neg (p := fun x : Rg => Q x.1) z, ih, List.filter_cons_of_neg (by simp [Bool.eq_false_iff.mpr z])]
/-- rings by their starts' kind, elements by theirs -/
theorem RT.cnt (R : RT n e m) (Q : Int → Bool) (hQ : ∀ x : Int, 0 ≤ x → x < n → Q (gI e x) = Q x) (r : Nat) : ∀ i, i ≤ n → ((rst e m n i).2.filter (Qp e n Q r)).length = ((rst e m n i).1.filter fun x => Q x.1 && decide (x.2.1 = (r : Int))).length * r
  | 0, _ => by simp [rst]
  | i + 1, hi => by
    have ih := RT.cnt R Q hQ r i (by omega)
    by_cases z : memJ (i : Int) (rst e m n i).2 = true
    · rw [rst_in z]
      exact ih
    · rw [rst_new z]
      dsimp only
      rw [List.filter_append, List.length_append, List.filter_append, List.length_append, Nat.add_mul, ih]
      congr 1
      have s0 : (0 : Int) ≤ (i : Int) := by omega
      have s1 : (i : Int) < n := by omega
      have qi : ∀ j, Q (Slw.it e (i : Int) j) = Q i := fun j => by
        induction j with
        | zero => rfl
        | succ j ih =>
          obtain ⟨a, b⟩ := R.it s0 s1 j
          show Q (gI e (Slw.it e (i : Int) j)) = _
          rw [hQ _ a b, ih]
      have all : ∀ x ∈ rg e n i, Qp e n Q r x = (Q i && decide (((Slw.per e n i : Nat) : Int) = (r : Int))) := fun x hx => by
        obtain ⟨j, _, rfl⟩ := mem_orb.mp hx
        unfold Qp
        rw [qi j, R.perIt s0 s1 j]
        congr 1
        by_cases y : Slw.per e n i = r
        · rw [decide_eq_true y, decide_eq_true (by omega)]
        · rw [decide_eq_false y, decide_eq_false (by omega)]
      have len : (rg e n i).length = Slw.per e n i := orb_len _ _ _
      by_cases y : (Q i && decide (((Slw.per e n i : Nat) : Int) = (r : Int))) = true
      · rw [List.filter_eq_self.mpr (fun x hx => by rw [all x hx]; exact y), List.filter_cons_of_pos (p := fun x : Rg => Q x.1 && decide (x.2.1 = (r : Int))) y, len]
        have := of_decide_eq_true (Bool.and_eq_true_iff.mp y).2
        simp
        omega
      · rw [List.filter_eq_nil_iff.mpr (fun x hx => by rw [all x hx]; exact y), List.filter_cons_of_neg (p := fun x : Rg => Q x.1 && decide (x.2.1 = (r : Int))) y]
        simp
theorem RT.rings (R : RT n e m) (Q : Int → Bool) (hQ : ∀ x : Int, 0 ≤ x → x < n → Q (gI e x) = Q x) (r : Nat) : (((rst e m n n).1.filter fun x => Q x.1).map (·.2.1)).count (r : Int) * r = ((rangeI 0 (n : Int)).filter (Qp e n Q r)).length := by
  rw [count_map_filter, ← R.cnt Q hQ r n (Nat.le_refl n)]
  have I := R.ri n (Nat.le_refl n)
  have pm : (rst e m n n).2.Perm (rangeI 0 n) := (List.perm_ext_iff_of_nodup I.nd (rangeI_nodup n)).mpr fun z => ⟨fun h => mem_rangeI.mpr (I.sub z h), fun h => by
    obtain ⟨z0, z1⟩ := mem_rangeI.mp h
    obtain ⟨j, rfl⟩ : ∃ j : Nat, z = j := ⟨z.toNat, by omega⟩
    exact I.all j (by omega)⟩
  exact (pm.filter _).length_eq
theorem rst_pos (R : RT n e m) : ∀ i, i ≤ n → ∀ x ∈ (rst e m n i).1, 1 ≤ x.2.1
  | 0, _, x, h => (nomatch h)
  | i + 1, hi, x, h => by
    by_cases z : memJ (i : Int) (rst e m n i).2 = true
    · rw [rst_in z] at h
      exact rst_pos R i (by omega) x h
    · rw [rst_new z] at h
      rcases List.mem_append.mp h with h | h
      · exact rst_pos R i (by omega) x h
      · rw [List.mem_singleton.mp h]
        have := (R.isPer (s := (i : Int)) (by omega) (by omega)).1
        dsimp only
        omega
/-- the counts tell the list -/
noncomputable def pc (n : Nat) (e : List Int) (r : Nat) : Nat := ((rangeI 0 (n : Int)).filter (Qp e n (fun _ => true) r)).length
theorem RT.part (R : RT n e m) (Q : Int → Bool) (hQ : ∀ x : Int, 0 ≤ x → x < n → Q (gI e x) = Q x) {n' : Nat} {e' : List Int} (R' : RT n' e' (zer n')) (h : ∀ r : Nat, 1 ≤ r → ((rangeI 0 (n : Int)).filter (Qp e n Q r)).length = pc n' e' r) : so (((rst e m n n).1.filter fun x => Q x.1).map (·.2.1)) = so (rl n' e') := by
  refine so_eq.mpr fun r => ?_
  by_cases z : 1 ≤ r
  · obtain ⟨r, rfl⟩ : ∃ k : Nat, r = k := ⟨r.toNat, by omega⟩
    have h1 := R.rings Q hQ r
    have h2 := R'.rings (fun _ => true) (fun _ _ _ => rfl) r
    rw [h r (by omega)] at h1
    have e2 : ((rst e' (zer n') n' n').1.filter fun _ => true) = (rst e' (zer n') n' n').1 := List.filter_eq_self.mpr fun _ _ => rfl
    rw [e2] at h2
    have h3 : (((rst e m n n).1.filter fun x => Q x.1).map (·.2.1)).count (r : Int) * r = (rl n' e').count (r : Int) * r := h1.trans h2.symm
    exact Nat.eq_of_mul_eq_mul_right (by omega) h3
  · rw [List.count_eq_zero_of_not_mem, List.count_eq_zero_of_not_mem]
    · intro q
      obtain ⟨x, hx, e⟩ := List.mem_map.mp q
      have := rst_pos R' n' (Nat.le_refl _) x hx
      omega
    · intro q
      obtain ⟨x, hx, e⟩ := List.mem_map.mp q
      have := rst_pos R n (Nat.le_refl _) x (List.mem_filter.mp hx).1
      omega
theorem rl_iff {n n' : Nat} {e e' : List Int} (R : RT n e (zer n)) (R' : RT n' e' (zer n')) : so (rl n e) = so (rl n' e') ↔ ∀ r : Nat, 1 ≤ r → pc n e r = pc n' e' r := by
  constructor
  · intro h r hr
    have h1 := R.rings (fun _ => true) (fun _ _ _ => rfl) r
    have h2 := R'.rings (fun _ => true) (fun _ _ _ => rfl) r
    have e1 : ((rst e (zer n) n n).1.filter fun _ => true) = (rst e (zer n) n n).1 := List.filter_eq_self.mpr fun _ _ => rfl
    have e2 : ((rst e' (zer n') n' n').1.filter fun _ => true) = (rst e' (zer n') n' n').1 := List.filter_eq_self.mpr fun _ _ => rfl
    rw [e1] at h1
    rw [e2] at h2
    unfold pc
    rw [← h1, ← h2]
    congr 1
    exact so_eq.mp h r
  · intro h
    have := R.part (fun _ => true) (fun _ _ _ => rfl) R' h
    have e1 : ((rst e (zer n) n n).1.filter fun _ => true) = (rst e (zer n) n n).1 := List.filter_eq_self.mpr fun _ _ => rfl
    rw [e1] at this
    exact this
end
end Slw
namespace Slw
open PySem J
theorem orJ_lt {n : Nat} {x y : Int} (x0 : 0 ≤ x) (y0 : 0 ≤ y) (hx : x < 2 ^ n) (hy : y < 2 ^ n) : 0 ≤ orJ x y ∧ orJ x y < 2 ^ n := by
  have P : ((2 : Int) ^ n) = ((2 ^ n : Nat) : Int) := by norm_cast
  rw [P] at hx hy ⊢
  unfold orJ
  have := Nat.or_lt_two_pow (x := x.toNat) (y := y.toNat) (n := n) (by omega) (by omega)
  omega
theorem RT.join {n : Nat} {a b : Tb} (ha : RT n a.1 a.2) (hb : RT n b.1 b.2) : RT n (joinT a b).1 (joinT a b).2 where
  pe := by
    have h1 : ((rangeI 0 (n : Int)).map (gI b.1)) = b.1 := by
      refine List.ext_getElem (by rw [List.length_map, rangeI_len, hb.le]) fun i h1 h2 => ?_
      rw [List.getElem_map, rangeI_get, gI_nat h2]
    show (a.1.map fun t => gI b.1 t).Perm _
    have h2 := ha.pe.map (gI b.1)
    rw [h1] at h2
    exact h2.trans hb.pe
  lm := by
    show ((List.zip a.1 a.2).map _).length = n
    rw [List.length_map, List.length_zip, ha.le, ha.lm, Nat.min_self]
  bm := fun x hx => by
    obtain ⟨t, ht, rfl⟩ := List.mem_map.mp hx
    have hm := List.of_mem_zip (show (t.1, t.2) ∈ List.zip a.1 a.2 from ht)
    have h1 := ha.bm _ hm.2
    have h2 := mem_rangeI.mp (ha.pe.mem_iff.mp hm.1)
    have h3 := hb.mb h2.1 h2.2
    exact orJ_lt h1.1 h3.1 h1.2 h3.2
theorem RT.rest (n : Nat) : RT n (restT n).1 (restT n).2 := ⟨List.Perm.refl _, by show (List.replicate n (0 : Int)).length = n; rw [List.length_replicate], fun x hx => by
  have e : x = 0 := (List.mem_replicate.mp hx).2
  have p : (0 : Int) < 2 ^ n := Int.pow_pos (by decide)
  omega⟩
theorem RT.pw {n : Nat} {t : Tb} (ht : RT n t.1 t.2) : ∀ k, RT n (pwT n t k).1 (pwT n t k).2
  | 0 => RT.rest n
  | k + 1 => (RT.pw ht k).join ht
structure R2 (n : Nat) (s : Tb × Tb) : Prop where
  a : RT n s.1.1 s.1.2
  b : RT n s.2.1 s.2.2
theorem R2.tt {n : Nat} {s : Tb × Tb} {x : Str × Int} (h : R2 n s) : R2 n (Slw.tt n s x) := by
  unfold Slw.tt
  split
  · exact ⟨h.a, (RT.pw h.a _).join h.b⟩
  · exact ⟨h.a.join (RT.pw h.b _), h.b⟩
theorem R2.tts {n : Nat} : ∀ {rs : List (Str × Int)} {s : Tb × Tb}, R2 n s → R2 n (Slw.tts n s rs)
  | [], _, h => h
  | x :: r, s, h => R2.tts (rs := r) h.tt
theorem R2.sides {n : Nat} {r a : List Int} (hr : r.Perm (rangeI 0 n)) (ha : a.Perm (rangeI 0 n)) : R2 n ((r, mk1 n), (a, mk1 n)) := by
  have hm : ∀ x ∈ mk1 n, (0 : Int) ≤ x ∧ x < 2 ^ n := fun x hx => by
    obtain ⟨y, hy, rfl⟩ := List.mem_map.mp hx
    obtain ⟨y0, y1⟩ := mem_rangeI.mp hy
    rw [Int.one_mul]
    have P : ∀ n : Nat, ((2 : Int) ^ n) = ((2 ^ n : Nat) : Int) := fun n => by norm_cast
    have := Nat.pow_lt_pow_right (show 1 < 2 by decide) (show y.toNat < n by omega)
    exact ⟨by rw [P]; exact Int.natCast_nonneg _, by rw [P, P]; exact_mod_cast this⟩
  have lm : (mk1 n).length = n := by
    unfold mk1
    rw [List.length_map, rangeI_len]
  exact ⟨⟨hr, lm, hm⟩, ⟨ha, lm, hm⟩⟩
theorem Rt.rt {n : Nat} {A B : Tb} (h : R2 n (A, B)) (p q : Int) : RT n (Rt n A B p q).1 (Rt n A B p q).2 := by
  unfold Rt
  split
  · exact h.a
  · split
    · exact h.b
    · exact (R2.tts h).a.join (R2.tts h).b
end Slw
namespace Slw
open PySem J
def sbs (n : Nat) (a b : List Int) : List Int := a ++ b.map fun x => x + (n : Int)
theorem zer_get {n i : Nat} (hi : i < n) : gI (zer n) i = 0 := by
  unfold zer
  rw [gI_nat (by rw [List.length_replicate]; exact hi), List.getElem_replicate]
theorem IsT.zer {n : Nat} {e : List Int} (h : e.Perm (rangeI 0 n)) : IsT n (e, Slw.zer n) :=
  ⟨perm_len h, List.length_replicate, fun x hx => mem_rangeI.mp (h.mem_iff.mp hx), fun x hx => by
    rw [List.eq_of_mem_replicate hx]
    omega⟩
theorem sbs_lo {n : Nat} {a b : List Int} (ha : a.length = n) {i : Nat} (hi : i < n) : gI (sbs n a b) i = gI a i := by
  unfold sbs
  rw [gI_nat (by rw [List.length_append]; omega), gI_nat (by omega), List.getElem_append_left (by omega)]
theorem sbs_hi {n m : Nat} {a b : List Int} (ha : a.length = n) (hb : b.length = m) {i : Nat} (hi : i < m) : gI (sbs n a b) ((n + i : Nat) : Int) = gI b i + n := by
  unfold sbs
  rw [gI_nat (by rw [List.length_append, List.length_map]; omega), gI_nat (by omega), List.getElem_append_right (by omega), List.getElem_map]
  congr 2
  omega
theorem sbs_perm {n m : Nat} {a b : List Int} (ha : a.Perm (rangeI 0 n)) (hb : b.Perm (rangeI 0 m)) : (sbs n a b).Perm (rangeI 0 ((n + m : Nat) : Int)) := by
  rw [rangeI_sum]
  exact ha.append (hb.map _)
/-- what joins keep -/
theorem pw_keep {R : Tb → Tb → Tb → Prop} {N n m : Nat} (hj : ∀ {T A B T' A' B'}, R T A B → R T' A' B' → R (joinT T T') (joinT A A') (joinT B B')) (hr : R (restT N) (restT n) (restT m)) {T A B : Tb} (h : R T A B) : ∀ k, R (pwT N T k) (pwT n A k) (pwT m B k)
  | 0 => hr
  | k + 1 => hj (pw_keep hj hr h k) h
theorem tts_keep {R : Tb → Tb → Tb → Prop} {N n m : Nat} (hj : ∀ {T A B T' A' B'}, R T A B → R T' A' B' → R (joinT T T') (joinT A A') (joinT B B')) (hr : R (restT N) (restT n) (restT m)) : ∀ (rs : List (Str × Int)) {s a b : Tb × Tb}, R s.1 a.1 b.1 → R s.2 a.2 b.2 → R (tts N s rs).1 (tts n a rs).1 (tts m b rs).1 ∧ R (tts N s rs).2 (tts n a rs).2 (tts m b rs).2
  | [], s, a, b, h1, h2 => ⟨h1, h2⟩
  | x :: rs, s, a, b, h1, h2 => by
    have st : R (tt N s x).1 (tt n a x).1 (tt m b x).1 ∧ R (tt N s x).2 (tt n a x).2 (tt m b x).2 := by
      unfold tt
      by_cases z : x.1 = ("flat" : Str)
      · rw [if_pos z, if_pos z, if_pos z]
        exact ⟨h1, hj (pw_keep hj hr h1 _) h2⟩
      · rw [if_neg z, if_neg z, if_neg z]
        exact ⟨hj h1 (pw_keep hj hr h2 _), h2⟩
    exact tts_keep hj hr rs st.1 st.2
theorem Rt_keep {R : Tb → Tb → Tb → Prop} {N n m : Nat} (hj : ∀ {T A B T' A' B'}, R T A B → R T' A' B' → R (joinT T T') (joinT A A') (joinT B B')) (hr : R (restT N) (restT n) (restT m)) {T A B T' A' B' : Tb} (h1 : R T A B) (h2 : R T' A' B') (p q : Int) : R (Rt N T T' p q) (Rt n A A' p q) (Rt m B B' p q) := by
  unfold Rt
  split
  · exact h1
  · split
    · exact h2
    · obtain ⟨k1, k2⟩ := tts_keep hj hr (F p q) (s := (T, T')) (a := (A, A')) (b := (B, B')) h1 h2
      exact hj k1 k2
structure Sm (n m : Nat) (T A B : Tb) : Prop where
  e : T.1 = sbs n A.1 B.1
  z : T.2 = zer (n + m)
  a : IsT n A
  b : IsT m B
theorem zer_join {N : Nat} {x y : List Int} (hx : IsT N (x, zer N)) : (joinT (x, zer N) (y, zer N)).2 = zer N := by
  have l2 : (joinT (x, zer N) (y, zer N)).2.length = N := by
    show ((List.zip x (zer N)).map _).length = N
    rw [List.length_map, List.length_zip, (hx.l1 : x.length = N), (hx.l2 : (zer N).length = N), Nat.min_self]
  refine List.ext_getElem (by rw [l2]; exact List.length_replicate.symm) fun i i1 i2 => ?_
  rw [l2] at i1
  have := joinT_get2 (b := (y, zer N)) hx i1
  obtain ⟨j, hj, ej⟩ := hx.end i1
  rw [ej] at this
  rw [show gI (zer N) (i : Int) = 0 from zer_get i1, show gI (zer N) (j : Int) = 0 from zer_get hj, gI_nat (by rw [l2]; exact i1)] at this
  rw [this]
  have z0 : (zer N)[i]'(by rw [show (zer N).length = N from List.length_replicate]; exact i1) = 0 := by simp [zer]
  rw [z0]
  rfl
theorem sbs_map {n m : Nat} {a b a' b' : List Int} (la : a'.length = n) (lb : b'.length = m) (ha : ∀ x ∈ a, 0 ≤ x ∧ x < n) (hb : ∀ x ∈ b, 0 ≤ x ∧ x < m) : (sbs n a b).map (gI (sbs n a' b')) = sbs n (a.map (gI a')) (b.map (gI b')) := by
  unfold sbs
  rw [List.map_append, List.map_map, List.map_map]
  congr 1
  · refine List.map_congr_left fun x hx => ?_
    obtain ⟨h0, h1⟩ := ha x hx
    obtain ⟨i, rfl⟩ : ∃ i : Nat, x = i := ⟨x.toNat, by omega⟩
    exact sbs_lo la (by omega)
  · refine List.map_congr_left fun x hx => ?_
    obtain ⟨h0, h1⟩ := hb x hx
    obtain ⟨i, rfl⟩ : ∃ i : Nat, x = i := ⟨x.toNat, by omega⟩
    have := sbs_hi (n := n) (a := a') (b := b') la lb (i := i) (by omega)
    show gI (sbs n a' b') ((i : Int) + n) = gI b' i + n
    rw [← this]
    congr 1
    push_cast
    omega
theorem Sm.isT {n m : Nat} {T A B : Tb} (h : Sm n m T A B) : IsT (n + m) T := by
  refine ⟨?_, ?_, fun x hx => ?_, fun x hx => ?_⟩
  · rw [h.e]
    unfold sbs
    rw [List.length_append, List.length_map, h.a.l1, h.b.l1]
  · rw [h.z]
    exact List.length_replicate
  · rw [h.e] at hx
    rcases List.mem_append.mp hx with hx | hx
    · have := h.a.e x hx
      omega
    · obtain ⟨y, hy, rfl⟩ := List.mem_map.mp hx
      have := h.b.e y hy
      omega
  · rw [h.z] at hx
    rw [List.eq_of_mem_replicate hx]
    omega
theorem Sm.join {n m : Nat} {T A B T' A' B' : Tb} (h : Sm n m T A B) (h' : Sm n m T' A' B') : Sm n m (joinT T T') (joinT A A') (joinT B B') := by
  refine ⟨?_, ?_, h.a.join h'.a, h.b.join h'.b⟩
  · show T.1.map (gI T'.1) = sbs n (A.1.map (gI A'.1)) (B.1.map (gI B'.1))
    rw [h.e, h'.e]
    exact sbs_map h'.a.l1 h'.b.l1 h.a.e h.b.e
  · have iT := h.isT
    have e1 : T = (T.1, zer (n + m)) := Prod.ext rfl h.z
    have e2 : T' = (T'.1, zer (n + m)) := Prod.ext rfl h'.z
    rw [e1] at iT
    rw [e1, e2]
    exact zer_join iT
theorem Sm.rest (n m : Nat) : Sm n m (restT (n + m)) (restT n) (restT m) := ⟨rangeI_sum n m, rfl, IsT.rest n, IsT.rest m⟩
/-- the ends of one round -/
def en (n : Nat) (r a : List Int) (p q : Int) : List Int := (Rt n (r, zer n) (a, zer n) p q).1
theorem zerR {n : Nat} {r : List Int} (h : r.Perm (rangeI 0 n)) : RT n r (zer n) := perm_rt h
theorem en_perm {n : Nat} {r a : List Int} (hr : r.Perm (rangeI 0 n)) (ha : a.Perm (rangeI 0 n)) (p q : Int) : (en n r a p q).Perm (rangeI 0 n) := (Rt.rt (A := (r, zer n)) (B := (a, zer n)) ⟨zerR hr, zerR ha⟩ p q).pe
theorem Rt_sum {n m : Nat} {r a r2 a2 : List Int} (hr : r.Perm (rangeI 0 n)) (ha : a.Perm (rangeI 0 n)) (hr2 : r2.Perm (rangeI 0 m)) (ha2 : a2.Perm (rangeI 0 m)) (p q : Int) : Rt (n + m) (sbs n r r2, zer (n + m)) (sbs n a a2, zer (n + m)) p q = (sbs n (en n r a p q) (en m r2 a2 p q), zer (n + m)) := by
  have := Rt_keep (R := Sm n m) Sm.join (Sm.rest n m) (T := (sbs n r r2, zer (n + m))) (A := (r, zer n)) (B := (r2, zer m)) (T' := (sbs n a a2, zer (n + m))) (A' := (a, zer n)) (B' := (a2, zer m)) ⟨rfl, rfl, IsT.zer hr, IsT.zer hr2⟩ ⟨rfl, rfl, IsT.zer ha, IsT.zer ha2⟩ p q
  exact Prod.ext this.e this.z
/-- marks change no ends -/
theorem Rt_ends {n : Nat} {r a m1 m2 : List Int} (p q : Int) : (Rt n (r, m1) (a, m2) p q).1 = en n r a p q := by
  have := Rt_keep (R := fun T A _ => T.1 = A.1) (N := n) (n := n) (m := n) (fun {T A B T' A' B'} h h' => by
    show T.1.map (gI T'.1) = A.1.map (gI A'.1)
    rw [h, h']) rfl (T := (r, m1)) (A := (r, zer n)) (B := (r, zer n)) (T' := (a, m2)) (A' := (a, zer n)) (B' := (a, zer n)) rfl rfl p q
  exact this
theorem per_of {e : List Int} {n k : Nat} {s : Int} {m : List Int} (R : RT n e m) (s0 : 0 ≤ s) (s1 : s < n) {e' : List Int} {s' : Int} {n' : Nat} (h : IsPer e' s' n' k) (hh : ∀ j, Slw.it e s j = s ↔ Slw.it e' s' j = s') : per e n s = k := by
  obtain ⟨a1, a2, a3, a4⟩ := h
  refine isPer_uniq (R.isPer s0 s1) (n' := k) ⟨a1, Nat.le_refl _, (hh k).mpr a3, fun j j0 j1 q => a4 j j0 j1 ((hh j).mp q)⟩
section
variable {n m : Nat} {e1 e2 : List Int}
theorem it_lo (h1 : e1.Perm (rangeI 0 n)) {s : Nat} (hs : s < n) : ∀ j, it (sbs n e1 e2) s j = it e1 s j
  | 0 => rfl
  | j + 1 => by
    obtain ⟨a, b⟩ := (zerR h1).it (s := (s : Int)) (by omega) (by omega) j
    show gI (sbs n e1 e2) (it (sbs n e1 e2) s j) = gI e1 (it e1 s j)
    rw [it_lo h1 hs j]
    obtain ⟨i, hi⟩ : ∃ i : Nat, it e1 s j = i := ⟨(it e1 s j).toNat, by omega⟩
    rw [hi]
    exact sbs_lo (perm_len h1) (by omega)
theorem it_hi (h1 : e1.Perm (rangeI 0 n)) (h2 : e2.Perm (rangeI 0 m)) {s : Nat} (hs : s < m) : ∀ j, it (sbs n e1 e2) ((n + s : Nat) : Int) j = it e2 s j + n
  | 0 => by
    show ((n + s : Nat) : Int) = (s : Int) + n
    push_cast
    omega
  | j + 1 => by
    obtain ⟨a, b⟩ := (zerR h2).it (s := (s : Int)) (by omega) (by omega) j
    show gI (sbs n e1 e2) (it (sbs n e1 e2) ((n + s : Nat) : Int) j) = gI e2 (it e2 s j) + n
    rw [it_hi h1 h2 hs j]
    obtain ⟨i, hi⟩ : ∃ i : Nat, it e2 s j = i := ⟨(it e2 s j).toNat, by omega⟩
    rw [hi, ← sbs_hi (perm_len h1) (perm_len h2) (i := i) (by omega)]
    congr 1
    push_cast
    omega
theorem per_lo (h1 : e1.Perm (rangeI 0 n)) (h2 : e2.Perm (rangeI 0 m)) {s : Nat} (hs : s < n) : per (sbs n e1 e2) (n + m) s = per e1 n s :=
  per_of (zerR (sbs_perm h1 h2)) (by omega) (by omega) ((zerR h1).isPer (s := (s : Int)) (by omega) (by omega)) fun j => by rw [it_lo h1 hs]
theorem per_hi (h1 : e1.Perm (rangeI 0 n)) (h2 : e2.Perm (rangeI 0 m)) {s : Nat} (hs : s < m) : per (sbs n e1 e2) (n + m) ((n + s : Nat) : Int) = per e2 m s :=
  per_of (zerR (sbs_perm h1 h2)) (by omega) (by omega) ((zerR h2).isPer (s := (s : Int)) (by omega) (by omega)) fun j => by
    rw [it_hi h1 h2 hs]
    push_cast
    omega
theorem Qp_eq {e e' : List Int} {n n' : Nat} {Q Q' : Int → Bool} {r : Nat} {x x' : Int} (h1 : Q x = Q' x') (h2 : per e n x = per e' n' x') : Qp e n Q r x = Qp e' n' Q' r x' := by
  unfold Qp
  rw [h1, h2]
theorem Qp_no {e : List Int} {n : Nat} {Q : Int → Bool} {r : Nat} {x : Int} (h1 : Q x = false) : Qp e n Q r x = false := by
  unfold Qp
  rw [h1]
  rfl
theorem pc_lo (h1 : e1.Perm (rangeI 0 n)) (h2 : e2.Perm (rangeI 0 m)) (r : Nat) : ((rangeI 0 ((n + m : Nat) : Int)).filter (Qp (sbs n e1 e2) (n + m) (fun x => decide (x < (n : Int))) r)).length = pc n e1 r := by
  rw [rangeI_sum, List.filter_append, List.length_append]
  have z2 : ((rangeI 0 (m : Int)).map fun x => x + (n : Int)).filter (Qp (sbs n e1 e2) (n + m) (fun x => decide (x < (n : Int))) r) = [] := List.filter_eq_nil_iff.mpr fun x hx => by
    obtain ⟨y, hy, rfl⟩ := List.mem_map.mp hx
    have := mem_rangeI.mp hy
    rw [Qp_no (decide_eq_false (by omega))]
    decide
  rw [z2]
  unfold pc
  rw [List.filter_congr fun x hx => by
    obtain ⟨x0, x1⟩ := mem_rangeI.mp hx
    obtain ⟨i, rfl⟩ : ∃ i : Nat, x = i := ⟨x.toNat, by omega⟩
    exact Qp_eq (Q' := fun _ => true) (decide_eq_true x1) (per_lo h1 h2 (by omega))]
  rfl
theorem pc_hi (h1 : e1.Perm (rangeI 0 n)) (h2 : e2.Perm (rangeI 0 m)) (r : Nat) : ((rangeI 0 ((n + m : Nat) : Int)).filter (Qp (sbs n e1 e2) (n + m) (fun x => decide ((n : Int) ≤ x)) r)).length = pc m e2 r := by
  rw [rangeI_sum, List.filter_append, List.length_append]
  have z2 : (rangeI 0 (n : Int)).filter (Qp (sbs n e1 e2) (n + m) (fun x => decide ((n : Int) ≤ x)) r) = [] := List.filter_eq_nil_iff.mpr fun x hx => by
    have := mem_rangeI.mp hx
    rw [Qp_no (decide_eq_false (by omega))]
    decide
  rw [z2, List.filter_map, List.length_map]
  unfold pc
  rw [List.filter_congr (q := Qp e2 m (fun _ => true) r) fun x hx => by
    obtain ⟨x0, x1⟩ := mem_rangeI.mp hx
    obtain ⟨i, rfl⟩ : ∃ i : Nat, x = i := ⟨x.toNat, by omega⟩
    show Qp (sbs n e1 e2) (n + m) (fun x => decide ((n : Int) ≤ x)) r ((i : Int) + n) = _
    have e : (i : Int) + n = ((n + i : Nat) : Int) := by push_cast; omega
    rw [e]
    exact Qp_eq (decide_eq_true (by push_cast; omega)) (per_hi h1 h2 (by omega))]
  simp
theorem sbs_side (h1 : e1.Perm (rangeI 0 n)) (h2 : e2.Perm (rangeI 0 m)) {x : Int} (x0 : 0 ≤ x) (x1 : x < ((n + m : Nat) : Int)) : (gI (sbs n e1 e2) x < n ↔ x < n) := by
  by_cases z : x < n
  · obtain ⟨i, rfl⟩ : ∃ i : Nat, x = i := ⟨x.toNat, by omega⟩
    rw [sbs_lo (perm_len h1) (by omega)]
    have := perm_gI h1 (show i < n by omega)
    omega
  · obtain ⟨i, rfl⟩ : ∃ i : Nat, x = ((n + i : Nat) : Int) := ⟨x.toNat - n, by omega⟩
    rw [sbs_hi (perm_len h1) (perm_len h2) (by omega)]
    have := perm_gI h2 (show i < m by omega)
    omega
end
theorem two_ok {n m : Nat} {e1 e2 : List Int} (hn : n + m ≤ 1000) (h1 : e1.Perm (rangeI 0 n)) (h2 : e2.Perm (rangeI 0 m)) {P : List Int × List Int → Prop} (w : P (so (rl n e1), so (rl m e2))) : w_two_lists (sbs n e1 e2, zer (n + m)) n P := by
  have R := zerR (sbs_perm h1 h2)
  have I := R.ri (n + m) (Nat.le_refl _)
  have il := I.len
  unfold w_two_lists
  refine rings_ok R hn (wLet_to ⟨by omega, ?_⟩)
  refine wCompF_ok (α := Rg) (β := Rg) (fun x => decide (x.1 < (n : Int))) (fun x => x) _ [] _ (fun x _ A B hA hB => ⟨fun z => hA z, fun z => hB z⟩) (fun x _ _ N hN => hN) ?_
  rw [List.nil_append, List.map_id']
  refine wLet_to ⟨by omega, ?_⟩
  refine wCompF_ok (α := Rg) (β := Rg) (fun x => decide ((n : Int) ≤ x.1)) (fun x => x) _ [] _ (fun x _ A B hA hB => ⟨fun z => hA z, fun z => hB z⟩) (fun x _ _ N hN => hN) ?_
  rw [List.nil_append, List.map_id']
  have r1 := R.part (fun x => decide (x < (n : Int))) (fun x x0 x1 => by
    have := sbs_side h1 h2 x0 x1
    by_cases z : x < n
    · rw [decide_eq_true z, decide_eq_true (this.mpr z)]
    · rw [decide_eq_false z, decide_eq_false fun y => z (this.mp y)]) (zerR h1) fun r _ => pc_lo h1 h2 r
  have r2 := R.part (fun x => decide ((n : Int) ≤ x)) (fun x x0 x1 => by
    have := sbs_side h1 h2 x0 x1
    by_cases z : x < n
    · rw [decide_eq_false (by omega), decide_eq_false (by have := this.mpr z; omega)]
    · rw [decide_eq_true (by omega), decide_eq_true (by have : ¬ _ := fun y => z (this.mp y); omega)]) (zerR h2) fun r _ => pc_hi h1 h2 r
  have ro : ∀ {l : List Rg} {K : List Int → Prop}, l.length ≤ n + m → K (so (l.map fun x => x.2.1)) → w_rounds_of l K := fun {l K} hl hK => by
    unfold w_rounds_of
    refine ⟨by omega, wComp_ok (α := Rg) (β := Int) (fun x => x.2.1) l [] _ (fun _ _ N hN => hN) fun ys p s => ?_⟩
    rw [List.nil_append] at p
    rw [so_uniq p s]
    exact hK
  have l1 := List.length_filter_le (fun x : Rg => decide (x.1 < (n : Int))) (rst (sbs n e1 e2) (zer (n + m)) (n + m) (n + m)).1
  have l2 := List.length_filter_le (fun x : Rg => decide ((n : Int) ≤ x.1)) (rst (sbs n e1 e2) (zer (n + m)) (n + m) (n + m)).1
  refine wLet_to (ro (by omega) (ro (by omega) ?_))
  rw [r1, r2]
  exact w
end Slw
namespace Slw
open PySem J
/-- the neighbors behind runs -/
theorem after_ok {rs : List (Str × Int)} {P : (Int × Int) × Int × Int → Prop} (hx : ∀ x ∈ rs, 0 ≤ x.2) (bd : Bd4 (nb s1001 rs))
    (q : P (((nb s1001 rs).1, (nb s1001 rs).2.1), ((nb s1001 rs).2.2.1, (nb s1001 rs).2.2.2))) : w_neighbors_after rs P := by
  unfold w_neighbors_after
  refine wFor_ok (fun r s => Ok4 s ∧ (∀ x ∈ r, 0 ≤ x.2) ∧ nb s r = nb s1001 rs) ?_ ?_ _ _ ⟨⟨by decide, by decide, by decide, by decide⟩, hx, rfl⟩
  · rintro x r s N ⟨h, hx, e⟩ hN
    have hx0 := hx x List.mem_cons_self
    have t := turn_ok h hx0
    have u := nb_le t.1 (fun y hy => hx y (List.mem_cons_of_mem _ hy) : ∀ y ∈ r, 0 ≤ y.2)
    have eu : nb (turn s x) r = nb s1001 rs := e
    rw [eu] at u
    have m := turn_mul h hx0 (bd.le t.1 u.2)
    have nx := hN (turn s x) ⟨t.1, fun y hy => hx y (List.mem_cons_of_mem _ hy), eu⟩
    refine ⟨fun c => ?_, fun c => ?_⟩
    · have c := of_decide_eq_true c
      rw [if_pos c] at m
      unfold turn at nx
      rw [if_pos c] at nx
      exact ⟨m.1, m.2, nx⟩
    · have c := of_decide_eq_false c
      rw [if_neg c] at m
      unfold turn at nx
      rw [if_neg c] at nx
      exact ⟨m.1, m.2, nx⟩
  · rintro s ⟨_, _, e⟩
    have e' : s = nb s1001 rs := e
    rw [e']
    exact q
end Slw
namespace Slw
open PySem J
/-- the two neighbors: they are the only such pair -/
structure NbOf (p q : Int) (t : (Int × Int) × Int × Int) : Prop where
  a : 0 ≤ t.1.1
  b : 0 ≤ t.1.2
  c : 0 ≤ t.2.1
  d : 0 ≤ t.2.2
  p_eq : t.1.1 + t.2.1 = p
  q_eq : t.1.2 + t.2.2 = q
  det : t.1.1 * t.2.2 - t.1.2 * t.2.1 = 1
theorem bd_of_sum {p x y : Int} (hx : 0 ≤ x) (hy : 0 ≤ y) (h : x + y = p) (b : p.natAbs < 2 ^ Big) : x.natAbs < 2 ^ Big := by omega
theorem neighbors_ok {p q : Int} {P : (Int × Int) × Int × Int → Prop} (hp : 0 < p) (hq : 0 < q) (hg : Int.gcd p q = 1) (bp : p.natAbs < 2 ^ Big) (bq : q.natAbs < 2 ^ Big) (k : ∀ t, NbOf p q t → P t) : w_neighbors p q P := by
  unfold w_neighbors
  refine steps_ok hp hq hg bp bq fun rs h => ?_
  have n := h.nn
  refine after_ok (fun x hx => by have := (h.kinds x hx).2; omega) ⟨bd_of_sum n.a n.c h.p_eq bp, bd_of_sum n.b n.d h.q_eq bq, bd_of_sum n.c n.a (by rw [Int.add_comm]; exact h.p_eq) bp, bd_of_sum n.d n.b (by rw [Int.add_comm]; exact h.q_eq) bq⟩ ?_
  exact k _ ⟨n.a, n.b, n.c, n.d, h.p_eq, h.q_eq, h.det⟩
theorem NbOf.pq {p q : Int} {t : (Int × Int) × Int × Int} (h : NbOf p q t) : t.1.1 * q - t.1.2 * p = 1 := by
  have := h.det
  have e1 := h.p_eq
  have e2 := h.q_eq
  subst e1 e2
  grind
theorem dvd_small {p x y : Int} (hp : 0 < p) (hx : 0 ≤ x) (hxp : x ≤ p) (hy : 0 ≤ y) (hyp : y ≤ p) (h : p ∣ x - y) : x = y ∨ (x = p ∧ y = 0) ∨ (x = 0 ∧ y = p) := by
  obtain ⟨k, hk⟩ := h
  by_cases k0 : k = 0
  · subst k0; left; omega
  · by_cases k1 : 1 ≤ k
    · have : p * 1 ≤ p * k := Int.mul_le_mul_of_nonneg_left k1 (by omega)
      right; left; omega
    · have : p * k ≤ p * (-1) := Int.mul_le_mul_of_nonneg_left (show k ≤ -1 by omega) (by omega)
      right; right; omega
theorem NbOf.uniq {p q : Int} {t u : (Int × Int) × Int × Int} (hp : 0 < p) (hq : 0 < q) (hg : Int.gcd p q = 1) (h : NbOf p q t) (k : NbOf p q u) : t = u := by
  obtain ⟨⟨a, b⟩, c, d⟩ := t
  obtain ⟨⟨a', b'⟩, c', d'⟩ := u
  have h1 := h.pq
  have h2 := k.pq
  obtain ⟨a0, b0, c0, d0, e1, e2, _⟩ := h
  obtain ⟨a0', b0', c0', d0', e1', e2', _⟩ := k
  dsimp only at *
  have hd : p ∣ (a - a') * q := ⟨b - b', by grind⟩
  have hd2 : p ∣ a - a' := by
    have h1 : p.natAbs ∣ (a - a').natAbs * q.natAbs := by
      rw [← Int.natAbs_mul]
      exact Int.natAbs_dvd_natAbs.mpr hd
    exact Int.natAbs_dvd_natAbs.mp (Nat.Coprime.dvd_of_dvd_mul_right hg h1)
  have za : a ≠ 0 := fun z => by
    subst z
    have := Int.mul_nonneg b0 (show (0 : Int) ≤ p by omega)
    omega
  have za' : a' ≠ 0 := fun z => by
    subst z
    have := Int.mul_nonneg b0' (show (0 : Int) ≤ p by omega)
    omega
  have ea : a = a' := by
    rcases dvd_small hp a0 (by omega) a0' (by omega) hd2 with e | ⟨_, e⟩ | ⟨e, _⟩
    · exact e
    · exact absurd e za'
    · exact absurd e za
  subst ea
  have eb : b = b' := by
    have e : b * p = b' * p := by omega
    exact Int.eq_of_mul_eq_mul_right (by omega) e
  subst eb
  have ec : c = c' := by omega
  have ed : d = d' := by omega
  subst ec ed
  rfl
/-- what has such neighbors is a direction -/
theorem NbOf.gcd {p q : Int} {t : (Int × Int) × Int × Int} (h : NbOf p q t) : Int.gcd p q = 1 := by
  have e := h.pq
  have d1 : ((Int.gcd p q : Nat) : Int) ∣ t.1.1 * q - t.1.2 * p := Int.dvd_sub (Int.dvd_mul_of_dvd_right (Int.gcd_dvd_right ..)) (Int.dvd_mul_of_dvd_right (Int.gcd_dvd_left ..))
  rw [e] at d1
  have := Int.le_of_dvd (by decide) d1
  have z : Int.gcd p q ≠ 0 := fun z => by
    have := Int.gcd_eq_zero_iff.mp z
    rw [this.1, this.2] at e
    simp at e
  omega
end Slw
namespace Slw
open PySem J
theorem rep0 (S : List Tb) (s0 : Tb × Tb) (e0 : PP) (b : Bool) : Rep S s0 e0 0 [] ([], [], [], [], [], [], b) :=
  ⟨fun t h => (nomatch h), rfl, List.nodup_nil, rfl, List.nodup_nil, rfl, rfl, fun m u h => (nomatch h), rfl⟩
theorem addP_nil {β : Type} [DecidableEq β] (f : List Bool → β) (u : List Bool) : addP f [] u = [u] := if_neg (fun h => (nomatch h))
theorem nbe : NbOf 1 1 e11 := ⟨by decide, by decide, by decide, by decide, by decide, by decide, by decide⟩
theorem nb11 {t : (Int × Int) × Int × Int} (h : NbOf 1 1 t) : t = nat e11 [] :=
  h.uniq (by decide) (by decide) (by decide) nbe
theorem psinit_ok {n : Nat} {S : List Tb} {A B : Tb} (C : ClS n S) (h1 : A ∈ S) (h2 : B ∈ S) {Q : St_PairSearch → Prop} (w : ∀ z, Rep S (A, B) e11 0 [[]] z → z.2.2.2.2.2.2 = true → Q z) : w_PairSearch___init__ (A, B) none Q := by
  unfold w_PairSearch___init__
  refine wLet_to (wLet_to (wLet_to (wLet_to (wLet_to ⟨fun _ => wLet_to (wLet_to ?_), fun y => by cases y⟩))))
  refine tabnum_ok C (rep0 S (A, B) e11 true) h1 fun i z1 hi _ R1 f1 _ => ?_
  refine tabnum_ok C R1 h2 fun j z2 hj pre R2 f2 _ => ?_
  refine neighbors_ok (by decide) (by decide) (by decide) (by decide) (by decide) fun t ht => ?_
  rw [nb11 ht]
  refine numof_ok C R2 (Nat.zero_le _) (u := []) (pre _ _ hi) hj fun m w' z3 R3 _ f3 _ _ => ?_
  rw [addP_nil] at R3
  exact w z3 R3 (by rw [f3, f2, f1])
theorem rows_ok {n k : Nat} {S : List Tb} {s0 : Tb × Tb} {e0 : PP} {P : List (List Bool)} {z : St_PairSearch} (C : ClS n S) (R : Rep S s0 e0 k P z) (hP : P.length ≤ 180000) {Q : List (Tb × Tb × Int × Int) → St_PairSearch → Prop} (w : ∀ rows, Q rows z) : w_PairSearch_rows z Q := by
  unfold w_PairSearch_rows
  have tl := R.tl C
  refine ⟨by omega, wComp_ok (α := Tb) (β := Tb) (fun x => x) z.1 [] _ (fun x _ N hN => hN) ?_⟩
  rw [List.nil_append, List.map_id']
  refine wLet_to ⟨?_, ?_⟩
  · have := R.pl
    rw [List.length_zip]
    omega
  · refine wComp_ok (α := (Int × Int) × (Int × Int)) (β := Tb × Tb × Int × Int) (fun x => ((ixI z.1 x.1.1).getD ([], []), (ixI z.1 x.1.2).getD ([], []), x.2.1, x.2.2)) _ [] _ (fun x hx N hN => ?_) (w _)
    obtain ⟨m, hm⟩ := List.getElem?_of_mem (List.of_mem_zip (show (x.1, x.2) ∈ List.zip _ _ from hx)).1
    have lm : m < P.length := by
      have := (List.getElem?_eq_some_iff.mp hm).1
      rw [← R.pl]
      exact this
    obtain ⟨i, j, h1, h2, h3⟩ := R.pr m P[m] (List.getElem?_eq_getElem lm)
    rw [hm] at h1
    have e := Option.some.inj h1
    have e1 : x.1.1 = i := by rw [e]
    have e2 : x.1.2 = j := by rw [e]
    rw [e1, e2, ix_some h2, ix_some h3] at hN
    rw [e1, e2]
    exact ⟨_, ix_some h2, _, ix_some h3, hN⟩
end Slw
namespace Slw
open PySem J
structure Grp (n : Nat) (G : List (List Int)) : Prop where
  pe : ∀ g ∈ G, g.Perm (rangeI 0 n)
  cl : ∀ a ∈ G, ∀ b ∈ G, a.map (gI b) ∈ G
  len : G.length ≤ 6
def SS (n m : Nat) (G H : List (List Int)) : List Tb := G.flatMap fun g => H.map fun h => (sbs n g h, zer (n + m))
theorem mem_SS {n m : Nat} {G H : List (List Int)} {t : Tb} : t ∈ SS n m G H ↔ ∃ g ∈ G, ∃ h ∈ H, t = (sbs n g h, zer (n + m)) := by
  unfold SS
  constructor
  · intro h
    obtain ⟨g, hg, h⟩ := List.mem_flatMap.mp h
    obtain ⟨h', hh, e⟩ := List.mem_map.mp h
    exact ⟨g, hg, h', hh, e.symm⟩
  · rintro ⟨g, hg, h, hh, rfl⟩
    exact List.mem_flatMap.mpr ⟨g, hg, List.mem_map.mpr ⟨h, hh, rfl⟩⟩
theorem flat_len {α β γ : Type} (T : List α) (S : List β) (f : α → β → γ) : (T.flatMap fun a => S.map fun b => f a b).length = T.length * S.length := by
  induction T with
  | nil => simp
  | cons a T ih => rw [List.flatMap_cons, List.length_append, List.length_map, ih, List.length_cons, Nat.succ_mul, Nat.add_comm]
theorem SS_len {n m : Nat} {G H : List (List Int)} (g : Grp n G) (h : Grp m H) : (SS n m G H).length ≤ 36 := by
  unfold SS
  rw [flat_len]
  exact Nat.mul_le_mul g.len h.len
theorem perm_is {n : Nat} {g : List Int} (h : g.Perm (rangeI 0 n)) : ∀ x ∈ g, 0 ≤ x ∧ x < n := fun x hx => mem_rangeI.mp (h.mem_iff.mp hx)
theorem Grp.cls {n m : Nat} {G H : List (List Int)} (g : Grp n G) (h : Grp m H) : ClS (n + m) (SS n m G H) := by
  refine ⟨fun t ht => ?_, fun a ha b hb => ?_, Nat.le_trans (SS_len g h) (by decide)⟩
  · obtain ⟨x, hx, y, hy, rfl⟩ := mem_SS.mp ht
    exact IsT.zer (sbs_perm (g.pe x hx) (h.pe y hy))
  · obtain ⟨x, hx, y, hy, rfl⟩ := mem_SS.mp ha
    obtain ⟨x', hx', y', hy', rfl⟩ := mem_SS.mp hb
    refine mem_SS.mpr ⟨_, g.cl x hx x' hx', _, h.cl y hy y' hy', Prod.ext ?_ ?_⟩
    · exact sbs_map (perm_len (g.pe x' hx')) (perm_len (h.pe y' hy')) (perm_is (g.pe x hx)) (perm_is (h.pe y hy))
    · exact zer_join (IsT.zer (sbs_perm (g.pe x hx) (h.pe y hy)))
theorem few36 {n m : Nat} {G H : List (List Int)} (g : Grp n G) (h : Grp m H) {s : Tb × Tb} (h1 : s.1 ∈ SS n m G H) (h2 : s.2 ∈ SS n m G H) {k : Nat} {P : List (List Bool)} (hP : PI (pat s) k P) : P.length ≤ 1296 := by
  have := hP.few (S := (SS n m G H).flatMap fun a => (SS n m G H).map fun b => (a, b)) fun u => by
    obtain ⟨a, b⟩ := (g.cls h).pat h1 h2 u
    exact List.mem_flatMap.mpr ⟨_, a, List.mem_map.mpr ⟨_, b, rfl⟩⟩
  rw [flat_len] at this
  have l := Nat.mul_le_mul (SS_len g h) (SS_len g h)
  omega
theorem map_get {n : Nat} {a : List Int} (f : Int → Int) (ha : a.length = n) {i : Nat} (hi : i < n) : gI (a.map f) i = f (gI a i) := by
  rw [gI_nat (by rw [List.length_map]; omega), gI_nat (by omega), List.getElem_map]
def tl (n t : Nat) (e : List Int) : List Int := (rangeI 0 ((t * n : Nat) : Int)).map fun k => (n : Int) * (k / n) + gI e (k % n)
section
variable {n t : Nat}
theorem tl_len (e : List Int) : (tl n t e).length = t * n := by
  unfold tl
  rw [List.length_map, rangeI_len]
theorem tl_get {e : List Int} {i : Nat} (hi : i < t * n) : gI (tl n t e) i = (n : Int) * ((i : Int) / n) + gI e ((i : Int) % n) := by
  rw [gI_nat (by rw [tl_len]; exact hi)]
  unfold tl
  rw [List.getElem_map, rangeI_get]
theorem tl_at {e : List Int} {q y : Nat} (hq : q < t) (hy : y < n) : gI (tl n t e) (((n * q + y : Nat)) : Int) = (n : Int) * q + gI e y := by
  have lt : n * q + y < t * n := by
    have := Nat.mul_le_mul_left n (show q + 1 ≤ t by omega)
    rw [Nat.mul_succ] at this
    rw [Nat.mul_comm t n]
    omega
  rw [tl_get lt]
  have d1 : ((n * q + y : Nat) : Int) / n = q := by
    have : (n * q + y) / n = q := by
      rw [Nat.add_comm, Nat.add_mul_div_left _ _ (show 0 < n by omega), Nat.div_eq_of_lt hy, Nat.zero_add]
    omega
  have d2 : ((n * q + y : Nat) : Int) % n = y := by
    have : (n * q + y) % n = y := by
      rw [Nat.add_comm, Nat.add_mul_mod_self_left, Nat.mod_eq_of_lt hy]
    omega
  rw [d1, d2]
/-- a number of a tiled list in its two parts -/
theorem tl_num {k : Nat} (hn : 0 < n) (hk : k < t * n) : ∃ q y : Nat, q < t ∧ y < n ∧ k = n * q + y :=
  ⟨k / n, k % n, Nat.div_lt_of_lt_mul (by rw [Nat.mul_comm]; exact hk), Nat.mod_lt _ hn, (Nat.div_add_mod k n).symm⟩
theorem tl_ext {a b : List Int} (hn : 0 < n) (ha : a.length = t * n) (hb : b.length = t * n) (h : ∀ q y : Nat, q < t → y < n → gI a ((n * q + y : Nat) : Int) = gI b ((n * q + y : Nat) : Int)) : a = b := by
  refine List.ext_getElem (by rw [ha, hb]) fun i h1 h2 => ?_
  obtain ⟨q, y, hq, hy, e⟩ := tl_num hn (show i < t * n by rw [← ha]; exact h1)
  have := h q y hq hy
  rw [← e, gI_nat h1, gI_nat h2] at this
  exact this
theorem tl_lt {q y : Nat} (hq : q < t) (hy : y < n) : n * q + y < t * n := by
  have := Nat.mul_le_mul_left n (show q + 1 ≤ t by omega)
  rw [Nat.mul_succ] at this
  rw [Nat.mul_comm t n]
  omega
theorem tl_map {a b : List Int} (hn : 0 < n) (ha : a.length = n) (ia : ∀ x ∈ a, 0 ≤ x ∧ x < n) : (tl n t a).map (gI (tl n t b)) = tl n t (a.map (gI b)) := by
  refine tl_ext hn (by rw [List.length_map, tl_len]) (tl_len _) fun q y hq hy => ?_
  rw [map_get (n := t * n) _ (tl_len _) (tl_lt hq hy), tl_at hq hy, tl_at hq hy, map_get _ ha hy]
  have hb := ia _ (gI_mem (xs := a) (i := (y : Int)) (by omega) (by omega))
  obtain ⟨y', hy'⟩ : ∃ y' : Nat, gI a y = y' := ⟨(gI a y).toNat, by omega⟩
  rw [hy'] at hb ⊢
  have := tl_at (e := b) hq (show y' < n by omega)
  rw [← this]
  congr 1
theorem tl_rest (hn : 0 < n) : rangeI 0 ((t * n : Nat) : Int) = tl n t (rangeI 0 (n : Int)) := by
  refine tl_ext hn (rangeI_len _) (tl_len _) fun q y hq hy => ?_
  rw [tl_at hq hy, gI_nat (by rw [rangeI_len]; exact tl_lt hq hy), gI_nat (by rw [rangeI_len]; exact hy), rangeI_get, rangeI_get]
  push_cast
  rfl
theorem en_tl {r a : List Int} (hn : 0 < n) (hr : r.Perm (rangeI 0 n)) (ha : a.Perm (rangeI 0 n)) (p q : Int) : en (t * n) (tl n t r) (tl n t a) p q = tl n t (en n r a p q) := by
  have := Rt_keep (R := fun T A _ => T.1 = tl n t A.1 ∧ IsT n A) (N := t * n) (n := n) (m := n) (fun {T A B T' A' B'} h h' => by
    refine ⟨?_, h.2.join h'.2⟩
    show T.1.map (gI T'.1) = tl n t (A.1.map (gI A'.1))
    rw [h.1, h'.1]
    exact tl_map hn h.2.l1 h.2.e) ⟨tl_rest hn, IsT.rest n⟩ (T := (tl n t r, zer (t * n))) (A := (r, zer n)) (B := (r, zer n)) (T' := (tl n t a, zer (t * n))) (A' := (a, zer n)) (B' := (a, zer n)) ⟨rfl, IsT.zer hr⟩ ⟨rfl, IsT.zer ha⟩ p q
  exact this.1
theorem tl_perm {e : List Int} (hn : 0 < n) (h : e.Perm (rangeI 0 n)) : (tl n t e).Perm (rangeI 0 ((t * n : Nat) : Int)) := tile_perm hn h t
theorem it_tl {e : List Int} (h : e.Perm (rangeI 0 n)) {q y : Nat} (hq : q < t) (hy : y < n) : ∀ j, it (tl n t e) ((n * q + y : Nat) : Int) j = (n : Int) * q + it e y j
  | 0 => by
    show ((n * q + y : Nat) : Int) = _ + (y : Int)
    push_cast
    rfl
  | j + 1 => by
    obtain ⟨a, b⟩ := (zerR h).it (s := (y : Int)) (by omega) (by omega) j
    show gI (tl n t e) (it (tl n t e) ((n * q + y : Nat) : Int) j) = (n : Int) * q + gI e (it e y j)
    rw [it_tl h hq hy j]
    obtain ⟨y', hy'⟩ : ∃ y' : Nat, it e y j = y' := ⟨(it e y j).toNat, by omega⟩
    rw [hy'] at a b ⊢
    rw [← tl_at (e := e) hq (show y' < n by omega)]
    congr 1
theorem per_tl {e : List Int} (h : e.Perm (rangeI 0 n)) {q y : Nat} (hq : q < t) (hy : y < n) : per (tl n t e) (t * n) ((n * q + y : Nat) : Int) = per e n y := by
  have lt := tl_lt hq hy
  refine per_of (zerR (tl_perm (t := t) (by omega) h)) (by omega) (by exact_mod_cast lt) ((zerR h).isPer (s := (y : Int)) (by omega) (by omega)) fun j => ?_
  rw [it_tl h hq hy]
  push_cast
  omega
theorem pc_tl {e : List Int} (hn : 0 < n) (h : e.Perm (rangeI 0 n)) (r : Nat) : pc (t * n) (tl n t e) r = t * pc n e r := by
  have key : ∀ s, s ≤ t → ((rangeI 0 ((s * n : Nat) : Int)).filter (Qp (tl n t e) (t * n) (fun _ => true) r)).length = s * pc n e r := fun s => by
    induction s with
    | zero =>
      intro _
      rw [Nat.zero_mul, Nat.zero_mul]
      rfl
    | succ s ih =>
      intro hs
      rw [Nat.succ_mul, rangeI_sum, List.filter_append, List.length_append, ih (by omega), Nat.succ_mul, List.filter_map, List.length_map]
      congr 1
      unfold pc
      rw [List.filter_congr fun x hx => ?_]
      obtain ⟨x0, x1⟩ := mem_rangeI.mp hx
      obtain ⟨y, rfl⟩ : ∃ y : Nat, x = y := ⟨x.toNat, by omega⟩
      show Qp (tl n t e) (t * n) (fun _ => true) r ((y : Int) + ((s * n : Nat) : Int)) = _
      have e1 : (y : Int) + ((s * n : Nat) : Int) = ((n * s + y : Nat) : Int) := by
        rw [Nat.mul_comm]
        push_cast
        omega
      rw [e1]
      exact Qp_eq rfl (per_tl h (by omega) (by omega))
  exact key t (Nat.le_refl t)
theorem tl_so {m : Nat} {e e' : List Int} (ht : 0 < t) (hn : 0 < n) (hm : 0 < m) (h : e.Perm (rangeI 0 n)) (h' : e'.Perm (rangeI 0 m)) : so (rl (t * n) (tl n t e)) = so (rl (t * m) (tl m t e')) ↔ so (rl n e) = so (rl m e') := by
  rw [rl_iff (zerR (tl_perm hn h)) (zerR (tl_perm hm h')), rl_iff (zerR h) (zerR h')]
  constructor
  · intro k r hr
    have := k r hr
    rw [pc_tl hn h, pc_tl hm h'] at this
    exact Nat.eq_of_mul_eq_mul_left ht this
  · intro k r hr
    rw [pc_tl hn h, pc_tl hm h', k r hr]
theorem Grp.tile {G : List (List Int)} (hn : 0 < n) (g : Grp n G) : Grp (t * n) (G.map (tl n t)) := by
  refine ⟨fun x hx => ?_, fun a ha b hb => ?_, by rw [List.length_map]; exact g.len⟩
  · obtain ⟨y, hy, rfl⟩ := List.mem_map.mp hx
    exact tl_perm hn (g.pe y hy)
  · obtain ⟨x, hx, rfl⟩ := List.mem_map.mp ha
    obtain ⟨y, hy, rfl⟩ := List.mem_map.mp hb
    rw [tl_map hn (perm_len (g.pe x hx)) (perm_is (g.pe x hx))]
    exact List.mem_map.mpr ⟨_, g.cl x hx y hy, rfl⟩
end
end Slw
namespace Slw
open PySem J
abbrev Cm := Option (List (Tb × Tb × Int × Int)) × Option (Int × Int) × Option (List Int × List Int)
/-- the sorted rounds of a plan in a direction -/
noncomputable def LL (n : Nat) (r a : List Int) (d : Int × Int) : List Int := so (rl n (en n r a d.1 d.2))
structure Pm (n : Nat) (r a : List Int) : Prop where
  n1 : 1 ≤ n
  n2 : n ≤ 100
  r : r.Perm (rangeI 0 n)
  a : a.Perm (rangeI 0 n)
inductive Cmp (L M : Int × Int → List Int) : Cm → Prop
  | same (rows : List (Tb × Tb × Int × Int)) (h : ∀ d, Dir d → L d = M d) : Cmp L M (some rows, none, none)
  | diff (d : Int × Int) (hd : Dir d) (h : L d ≠ M d) (hb : ∀ x, Dir x → bef x d = true → L x = M x) : Cmp L M (none, some d, some (L d, M d))
theorem sbs_split {n : Nat} {a b a' b' : List Int} (h : sbs n a b = sbs n a' b') (l : a.length = a'.length) : a = a' ∧ b = b' := by
  unfold sbs at h
  obtain ⟨h1, h2⟩ := List.append_inj h l
  refine ⟨h1, ?_⟩
  have := congrArg (List.map fun x => x - (n : Int)) h2
  rw [List.map_map, List.map_map] at this
  have e : ((fun x : Int => x - n) ∘ fun x => x + (n : Int)) = id := by
    funext x
    show x + (n : Int) - n = x
    omega
  rw [e, List.map_id, List.map_id] at this
  exact this
theorem runP_at {β : Type} [DecidableEq β] {f : List Bool → β} {m : Nat} {v : List Bool} (h : (runP f m)[m]? = some v) : ∀ k, m ≤ k → (runP f k)[m]? = some v
  | 0, q => by
    have : m = 0 := by omega
    subst this
    exact h
  | k + 1, q => by
    rcases Nat.lt_or_eq_of_le q with q | q
    · exact runP_pre k (runP_at h k (by omega))
    · rw [← q]
      exact h
theorem dir10 : Dir (1, 0) := ⟨by decide, by decide, by decide, by decide, by decide⟩
theorem dir01 : Dir (0, 1) := ⟨by decide, by decide, by decide, by decide, by decide⟩
theorem dir_side {x : Int × Int} (h : Dir x) : x = (1, 0) ∨ x = (0, 1) ∨ (1 ≤ x.1 ∧ 1 ≤ x.2) := by
  have a := h.a
  have b := h.b
  have g := h.g
  obtain ⟨p, q⟩ := x
  dsimp only at a b g
  by_cases hp : p = 0
  · subst hp
    rw [Int.gcd_zero_left] at g
    exact .inr (.inl (by rw [show q = 1 by omega]))
  · by_cases hq : q = 0
    · subst hq
      rw [Int.gcd_zero_right] at g
      exact .inl (by rw [show p = 1 by omega])
    · exact .inr (.inr ⟨by show 1 ≤ p; omega, by show 1 ≤ q; omega⟩)
theorem two_sbs {n m : Nat} {r2 a2 r a : List Int} (hN : n + m ≤ 1000) (h1 : r.Perm (rangeI 0 n)) (h2 : r2.Perm (rangeI 0 m)) {P : List Int → Prop} (w : P (sbs n r r2)) : w_side_by_side r r2 P := by
  unfold w_side_by_side
  have l1 := perm_len h1
  have l2 := perm_len h2
  refine wLet_to ⟨by omega, wComp_ok (α := Int) (β := Int) (fun x => x + (r.length : Int)) r2 [] _ (fun _ _ N hN => hN) (wLet_to ?_)⟩
  rw [List.nil_append, List.append_nil, l1]
  refine ⟨?_, w⟩
  rw [List.length_append, List.length_map]
  omega
theorem nomarks_ok {N : Nat} {e : List Int} (hN : N ≤ 1000) (h : e.length = N) {P : Tb → Prop} (w : P (e, zer N)) : w_without_marks e P := by
  unfold w_without_marks
  refine ⟨by show 1 ≤ 1000; omega, ⟨by omega, by omega, ?_⟩, init_tab ?_⟩
  · show 1 * (e.length : Int).toNat ≤ 1000000
    omega
  · have e1 : (List.replicate ((e.length : Int)).toNat ([(0 : Int)])).flatten = zer N := by
      rw [show ((e.length : Int)).toNat = N by omega]
      unfold zer
      rw [List.flatten_replicate_singleton]
    rw [e1]
    exact w
section
variable {n m : Nat} {r a r2 a2 : List Int}
theorem sides2_ok (p1 : Pm n r a) (p2 : Pm m r2 a2) {P : Tb × Tb → Prop} (w : P ((sbs n r r2, zer (n + m)), (sbs n a a2, zer (n + m)))) : w_side_tables (r, a) (r2, a2) P := by
  unfold w_side_tables w_Plan_right w_Plan_above
  have n2 := p1.n2
  have m2 := p2.n2
  refine two_sbs (a := a) (a2 := a2) (by omega) p1.r p2.r (wLet_to (two_sbs (a := a) (a2 := a2) (by omega) p1.a p2.a (wLet_to ?_)))
  exact nomarks_ok (by omega) (perm_len (sbs_perm p1.r p2.r)) (nomarks_ok (by omega) (perm_len (sbs_perm p1.a p2.a)) w)
theorem compare_ok (p1 : Pm n r a) (p2 : Pm m r2 a2) {G H : List (List Int)} (g : Grp n G) (h : Grp m H) (hr : r ∈ G) (ha : a ∈ G) (hr2 : r2 ∈ H) (ha2 : a2 ∈ H) {P : Cm → Prop} (w : ∀ f, Cmp (LL n r a) (LL m r2 a2) f → P f) : w_compare (r, a) (r2, a2) 200000 P := by
  unfold w_compare
  have n2 := p1.n2
  have m2 := p2.n2
  have C := g.cls h
  have s1 : (sbs n r r2, zer (n + m)) ∈ SS n m G H := mem_SS.mpr ⟨r, hr, r2, hr2, rfl⟩
  have s2 : (sbs n a a2, zer (n + m)) ∈ SS n m G H := mem_SS.mpr ⟨a, ha, a2, ha2, rfl⟩
  have t2 : T2 (n + m) ((sbs n r r2, zer (n + m)), (sbs n a a2, zer (n + m))) := ⟨C.it _ s1, C.it _ s2⟩
  have RS := fun p q => Rt_sum p1.r p1.a p2.r p2.a p q
  refine sides2_ok p1 p2 (psinit_ok C s1 s2 fun z R hs => ⟨200000, ?_⟩)
  generalize hs0 : (((sbs n r r2, zer (n + m)), (sbs n a a2, zer (n + m))) : Tb × Tb) = s0 at R t2
  have e1 : s0.1 = (sbs n r r2, zer (n + m)) := by rw [← hs0]
  have e2 : s0.2 = (sbs n a a2, zer (n + m)) := by rw [← hs0]
  -- one visit's question
  have ask : ∀ (d : Int × Int) (T : Tb) (N : Unit → Prop), Dir d → T = (sbs n (en n r a d.1 d.2) (en m r2 a2 d.1 d.2), zer (n + m)) → (∀ x, Dir x → bef x d = true → LL n r a x = LL m r2 a2 x) → (LL n r a d = LL m r2 a2 d → N ()) → w_Plan_size (r, a) fun r484 => w_two_lists T r484 fun r483 => wLet r483 fun t470 => POk.pok (t470.1 : (List Int)) ∧ POk.pok (t470.2 : (List Int)) ∧ (((!decide ((t470.1 : (List Int)) = t470.2)) = true → (w_Comparison___init__ (none) ((some d)) ((some (t470.1, t470.2))) fun r481 => P r481)) ∧ ((!decide ((t470.1 : (List Int)) = t470.2)) = false → (N ()))) := fun d T N hd eT hb hN => by
    unfold w_Plan_size
    rw [eT, show (((r, a) : List Int × List Int).1.length : Int) = (n : Int) by rw [show ((r, a) : List Int × List Int).1 = r from rfl, perm_len p1.r]]
    refine two_ok (by omega) (en_perm p1.r p1.a _ _) (en_perm p2.r p2.a _ _) (wLet_to ⟨pokI _, pokI _, fun y => ?_, fun y => ?_⟩)
    · have ne : LL n r a d ≠ LL m r2 a2 d := fun q => by
        have y' : (!decide (LL n r a d = LL m r2 a2 d)) = true := y
        rw [q] at y'
        simp at y'
      unfold w_Comparison___init__ w_copied_r
      refine ⟨fun _ => wLet_to (wLet_to (wLet_to (w _ (Cmp.diff d hd ne hb)))), fun y => by cases y⟩
    · refine hN ?_
      have y' : (!decide (LL n r a d = LL m r2 a2 d)) = false := y
      simpa using y'
  -- what was seen before
  let Seen : Nat → Prop := fun k => LL n r a (1, 0) = LL m r2 a2 (1, 0) ∧ LL n r a (0, 1) = LL m r2 a2 (0, 1) ∧ ∀ i, i < k → ∃ v, (runP (pat s0) i)[i]? = some v ∧ LL n r a (pdir (nat e11 v)) = LL m r2 a2 (pdir (nat e11 v))
  have tab : ∀ v, joinT (pat s0 v).1 (pat s0 v).2 = (sbs n (en n r a (pdir (nat e11 v)).1 (pdir (nat e11 v)).2) (en m r2 a2 (pdir (nat e11 v)).1 (pdir (nat e11 v)).2), zer (n + m)) := fun v => by
    rw [Rt_path t2 v, e1, e2]
    exact RS _ _
  have cov : ∀ (k : Nat) (x : Int × Int), Dir x → Seen k → PI (pat s0) k (runP (pat s0) k) → (∀ u, pdir (nat e11 u) = x → ∀ j v, k ≤ j → (runP (pat s0) k)[j]? = some v → code u < code v) → LL n r a x = LL m r2 a2 x := fun k x hx hI hP hw => by
    rcases dir_side hx with e | e | ⟨x1, x2⟩
    · rw [e]; exact hI.1
    · rw [e]; exact hI.2.1
    · obtain ⟨u, hu, _⟩ := path_of t2 x1 x2 hx.g
      have hu : pdir (nat e11 u) = x := hu
      obtain ⟨i, v, hi, hv, _, ev⟩ := hP.cover (pat_det s0) u (hw u hu)
      obtain ⟨v', hv', eL⟩ := hI.2.2 i hi
      have := runP_at hv' k (by omega)
      rw [hv] at this
      have := Option.some.inj this
      subst this
      have t1 := tab v
      have t3 := tab u
      rw [ev, t3] at t1
      have t1 := congrArg Prod.fst t1
      obtain ⟨q1, q2⟩ := sbs_split t1 (by rw [perm_len (en_perm p1.r p1.a _ _), perm_len (en_perm p1.r p1.a _ _)])
      rw [hu] at q1 q2
      unfold LL at eL ⊢
      rw [q1, q2]
      exact eL
  have h1 : s0.1 ∈ SS n m G H := by rw [e1]; exact s1
  have h2 : s0.2 ∈ SS n m G H := by rw [e2]; exact s2
  refine asked_ok (n := n + m) (by omega) C h1 h2 (by decide) R (fun _ => LL n r a (1, 0) = LL m r2 a2 (1, 0)) (fun k _ => Seen k) (fun y => ?_) (fun _ N hN => ?_) (fun _ u N hu hN => ?_) (fun k u v N hP hv hI hN => ?_) (fun k u z' hP ek R' hI => ?_)
  · rw [hs] at y
    cases y
  · refine ask (1, 0) s0.1 N dir10 (by rw [e1]; rfl) (fun x hx hb => ?_) fun e => hN () e
    unfold bef at hb
    rw [Lv_zero (x := (1, 0)) (.inr rfl)] at hb
    rcases dir_side hx with e | e | ⟨x1, x2⟩
    · subst e
      exact absurd hb (by decide)
    · subst e
      exact absurd hb (by decide)
    · have := lev_one (show 0 < x.1 by omega) (show 0 < x.2 by omega) hx.g
      rw [Lv_pos (by omega) (by omega), if_neg (by omega)] at hb
      have := of_decide_eq_true hb
      omega
  · refine ask (0, 1) s0.2 N dir01 (by rw [e2]; rfl) (fun x hx hb => ?_) fun e => hN () ⟨hu, e, fun i hi => absurd hi (Nat.not_lt_zero i)⟩
    unfold bef at hb
    rw [Lv_zero (x := (0, 1)) (.inl rfl)] at hb
    rcases dir_side hx with e | e | ⟨x1, x2⟩
    · subst e
      exact hu
    · subst e
      exact absurd hb (by decide)
    · have := lev_one (show 0 < x.1 by omega) (show 0 < x.2 by omega) hx.g
      rw [Lv_pos (by omega) (by omega), if_neg (by omega)] at hb
      have := of_decide_eq_true hb
      omega
  · have few := few36 g h h1 h2 hP
    have kl := (List.getElem?_eq_some_iff.mp hv).1
    have pl := hP.plen k k v (Nat.le_refl _) hv
    refine ask (pdir (nat e11 v)) _ N (pdir_dir (by omega)) (tab v) (fun x hx hb => ?_) fun e => hN () ⟨hI.1, hI.2.1, fun i hi => ?_⟩
    · refine cov k x hx hI hP fun u hu j v' hj hv' => ?_
      have cl : code u < code v := bef_code (by rw [hu]; exact hb)
      rcases Nat.lt_or_eq_of_le hj with q | q
      · exact Nat.lt_trans cl (hP.lt hv hv' q)
      · subst q
        rw [hv] at hv'
        rw [← Option.some.inj hv']
        exact cl
    · rcases Nat.lt_or_eq_of_le (Nat.le_of_lt_succ hi) with q | q
      · exact hI.2.2 i q
      · rw [q]
        exact ⟨v, hv, e⟩
  · have few := few36 g h h1 h2 hP
    refine rows_ok C R' (by omega) fun rows => ?_
    unfold w_Comparison___init__ w_copied_r
    refine ⟨fun y => (by cases y), fun _ => ⟨_, rfl, wLet_to (wLet_to (wLet_to (w _ (Cmp.same rows fun d hd => ?_))))⟩⟩
    refine cov k d hd hI hP fun u hu j v hj hv => ?_
    have := (List.getElem?_eq_some_iff.mp hv).1
    omega
end
end Slw
namespace Slw
open PySem J
theorem rot_perm {n : Nat} (hn : 0 < n) (c : Int) : ((rangeI 0 (n : Int)).map fun x => (x + c) % (n : Int)).Perm (rangeI 0 n) := by
  have c0 := Int.emod_nonneg c (show (n : Int) ≠ 0 by omega)
  have c1 := Int.emod_lt_of_pos c (show (0 : Int) < n by omega)
  obtain ⟨k, hk⟩ : ∃ k : Nat, c % n = k := ⟨(c % n).toNat, by omega⟩
  have e : ((rangeI 0 (n : Int)).map fun x => (x + c) % (n : Int)) = (rangeI 0 (n : Int)).drop k ++ (rangeI 0 (n : Int)).take k := by
    refine List.ext_getElem (by rw [List.length_map, List.length_append, List.length_drop, List.length_take, rangeI_len]; omega) fun i h1 h2 => ?_
    have hi : i < n := by rw [List.length_map, rangeI_len] at h1; exact h1
    rw [List.getElem_map, rangeI_get, List.getElem_append]
    have e1 : ((i : Int) + c) % n = ((i : Int) + k) % n := by rw [← hk, Int.add_emod_emod]
    rw [e1]
    split
    · rename_i h
      rw [List.length_drop, rangeI_len] at h
      rw [List.getElem_drop, rangeI_get, Int.emod_eq_of_lt (by omega) (by omega)]
      omega
    · rename_i h
      rw [List.length_drop, rangeI_len] at h
      have l : ((rangeI 0 (n : Int)).drop k).length = n - k := by rw [List.length_drop, rangeI_len]
      rw [List.getElem_take, rangeI_get]
      have e2 : ((i : Int) + k) = ((i : Int) + k - n) + 1 * n := by omega
      rw [e2, Int.add_mul_emod_self_right, Int.emod_eq_of_lt (by omega) (by omega)]
      omega
  rw [e]
  have := List.perm_append_comm (l₁ := (rangeI 0 (n : Int)).drop k) (l₂ := (rangeI 0 (n : Int)).take k)
  rw [List.take_append_drop] at this
  exact this
end Slw
namespace Slw
open PySem J
def AO : Nat → List (List Int)
  | 1 => [[0]]
  | 2 => [[0, 1], [1, 0]]
  | 3 => [[0, 1, 2], [0, 2, 1], [1, 0, 2], [1, 2, 0], [2, 0, 1], [2, 1, 0]]
  | _ => []
theorem nodup_perm {n : Nat} {xs : List Int} (h : xs.Nodup) (l : xs.length = n) (b : ∀ x ∈ xs, 0 ≤ x ∧ x < n) : xs.Perm (rangeI 0 n) := by
  have hsub : ∀ x ∈ xs, x ∈ rangeI 0 (n : Int) := fun x hx => mem_rangeI.mpr (b x hx)
  refine (List.perm_ext_iff_of_nodup h (rangeI_nodup n)).mpr fun x => ⟨hsub x, fun hx => ?_⟩
  apply Classical.byContradiction
  intro q
  have := nd_len2 (x :: xs) (rangeI 0 (n : Int)) (List.nodup_cons.mpr ⟨q, h⟩) fun y hy => by
    rcases List.mem_cons.mp hy with e | e
    · rw [e]; exact hx
    · exact hsub y e
  rw [List.length_cons, rangeI_len] at this
  omega
theorem AO_cases {n : Nat} (h1 : 1 ≤ n) (h3 : n ≤ 3) : n = 1 ∨ n = 2 ∨ n = 3 := by omega
theorem AO_grp {n : Nat} (h1 : 1 ≤ n) (h3 : n ≤ 3) : Grp n (AO n) := by
  rcases AO_cases h1 h3 with rfl | rfl | rfl
  · exact ⟨fun g hg => nodup_perm ((by decide : ∀ g ∈ AO 1, g.Nodup) g hg) ((by decide : ∀ g ∈ AO 1, g.length = 1) g hg) ((by decide : ∀ g ∈ AO 1, ∀ x ∈ g, 0 ≤ x ∧ x < ((1 : Nat) : Int)) g hg), by decide, by decide⟩
  · exact ⟨fun g hg => nodup_perm ((by decide : ∀ g ∈ AO 2, g.Nodup) g hg) ((by decide : ∀ g ∈ AO 2, g.length = 2) g hg) ((by decide : ∀ g ∈ AO 2, ∀ x ∈ g, 0 ≤ x ∧ x < ((2 : Nat) : Int)) g hg), by decide, by decide⟩
  · exact ⟨fun g hg => nodup_perm ((by decide : ∀ g ∈ AO 3, g.Nodup) g hg) ((by decide : ∀ g ∈ AO 3, g.length = 3) g hg) ((by decide : ∀ g ∈ AO 3, ∀ x ∈ g, 0 ≤ x ∧ x < ((3 : Nat) : Int)) g hg), by decide, by decide⟩
theorem AO_all {n : Nat} (h1 : 1 ≤ n) (h3 : n ≤ 3) {xs : List Int} (h : xs.Perm (rangeI 0 n)) : xs ∈ AO n := by
  have nd : xs.Nodup := h.nodup_iff.mpr (rangeI_nodup n)
  have l := perm_len h
  have b := perm_is h
  rcases AO_cases h1 h3 with rfl | rfl | rfl
  · match xs, l with
    | [x], _ =>
      have := b x (by simp)
      have e : x = 0 := by omega
      subst e
      decide
  · match xs, l with
    | [x, y], _ =>
      have hx := b x (by simp)
      have hy := b y (by simp)
      have ne : x ≠ y := by simp at nd; exact nd
      rcases (by omega : (x = 0 ∧ y = 1) ∨ (x = 1 ∧ y = 0)) with ⟨rfl, rfl⟩ | ⟨rfl, rfl⟩ <;> decide
  · match xs, l with
    | [x, y, z], _ =>
      have hx := b x (by simp)
      have hy := b y (by simp)
      have hz := b z (by simp)
      have ne : x ≠ y ∧ x ≠ z ∧ y ≠ z := by
        simp at nd
        exact ⟨nd.1.1, nd.1.2, nd.2⟩
      rcases (by omega : (x = 0 ∧ y = 1 ∧ z = 2) ∨ (x = 0 ∧ y = 2 ∧ z = 1) ∨ (x = 1 ∧ y = 0 ∧ z = 2) ∨ (x = 1 ∧ y = 2 ∧ z = 0) ∨ (x = 2 ∧ y = 0 ∧ z = 1) ∨ (x = 2 ∧ y = 1 ∧ z = 0)) with ⟨rfl, rfl, rfl⟩ | ⟨rfl, rfl, rfl⟩ | ⟨rfl, rfl, rfl⟩ | ⟨rfl, rfl, rfl⟩ | ⟨rfl, rfl, rfl⟩ | ⟨rfl, rfl, rfl⟩ <;> decide
/-- rotations -/
def rot (n : Nat) (c : Int) : List Int := (rangeI 0 (n : Int)).map fun x => (x + c) % (n : Int)
theorem rot_mod (n : Nat) (c : Int) : rot n (c % n) = rot n c := by
  unfold rot
  refine List.map_congr_left fun x _ => ?_
  rw [Int.add_emod_emod]
theorem rot_get {n : Nat} {c : Int} {i : Nat} (hi : i < n) : gI (rot n c) i = ((i : Int) + c) % n := by
  unfold rot
  rw [map_get _ (rangeI_len n) hi, gI_nat (by rw [rangeI_len]; exact hi), rangeI_get]
theorem rot_map {n : Nat} (a b : Int) : (rot n a).map (gI (rot n b)) = rot n (a + b) := by
  rcases Nat.eq_zero_or_pos n with z | hn
  · subst z
    rfl
  refine List.ext_getElem (by unfold rot; rw [List.length_map, List.length_map, List.length_map]) fun i h1 h2 => ?_
  have hi : i < n := by
    have h2 := h2
    unfold rot at h2
    rw [List.length_map, rangeI_len] at h2
    exact h2
  have l : (rot n a).length = n := by unfold rot; rw [List.length_map, rangeI_len]
  have e1 := map_get (gI (rot n b)) l hi
  rw [gI_nat h1, rot_get hi] at e1
  have e2 := rot_get (c := a + b) hi
  rw [gI_nat h2] at e2
  rw [e1, e2]
  have m0 := Int.emod_nonneg ((i : Int) + a) (show (n : Int) ≠ 0 by omega)
  have m1 := Int.emod_lt_of_pos ((i : Int) + a) (show (0 : Int) < n by omega)
  obtain ⟨k, hk⟩ : ∃ k : Nat, ((i : Int) + a) % n = k := ⟨(((i : Int) + a) % n).toNat, by omega⟩
  rw [hk, rot_get (by omega), ← hk, Int.emod_add_emod, Int.add_assoc]
theorem rot_in {n : Nat} (hn : 0 < n) (c : Int) : rot n c ∈ (rangeI 0 (n : Int)).map (rot n) := by
  rw [← rot_mod n c]
  exact List.mem_map.mpr ⟨_, mem_rangeI.mpr ⟨Int.emod_nonneg c (by omega), Int.emod_lt_of_pos c (by omega)⟩, rfl⟩
theorem rot_grp {n : Nat} (hn : 0 < n) (h6 : n ≤ 6) : Grp n ((rangeI 0 (n : Int)).map (rot n)) := by
  refine ⟨fun g hg => ?_, fun a ha b hb => ?_, by rw [List.length_map, rangeI_len]; exact h6⟩
  · obtain ⟨c, _, rfl⟩ := List.mem_map.mp hg
    exact rot_perm hn c
  · obtain ⟨c, _, rfl⟩ := List.mem_map.mp ha
    obtain ⟨d, _, rfl⟩ := List.mem_map.mp hb
    rw [rot_map]
    exact rot_in hn _
/-- moved by an order -/
def mvl (n : Nat) (o x : List Int) : List Int := (rangeI 0 (n : Int)).map fun i => gI o (gI x ((o.idxOf i : Nat) : Int))
theorem idx_at {n : Nat} {o : List Int} (h : o.Perm (rangeI 0 n)) {j : Nat} (hj : j < n) : o.idxOf (gI o j) = j := by
  have lo := perm_len h
  have hm : gI o j ∈ o := gI_mem (by omega) (by omega)
  have hl := List.idxOf_lt_length_of_mem hm
  have e := List.getElem_idxOf hl
  refine perm_inj h (by omega) hj ?_
  rw [gI_nat hl]
  exact e
theorem mvl_is {n : Nat} {o x : List Int} (h : o.Perm (rangeI 0 n)) : IsMv n o x (mvl n o x) := by
  refine ⟨by unfold mvl; rw [List.length_map, rangeI_len], fun j hj => ?_⟩
  obtain ⟨k, hk, ek⟩ := perm_nat h hj
  have e := idx_at h hj
  rw [ek] at e ⊢
  unfold mvl
  rw [map_get _ (rangeI_len n) hk, gI_nat (xs := rangeI 0 (n : Int)) (i := k) (by rw [rangeI_len]; exact hk), rangeI_get, e]
theorem Grp.mv {n : Nat} {G : List (List Int)} (g : Grp n G) {o : List Int} (h : o.Perm (rangeI 0 n)) : Grp n (G.map (mvl n o)) := by
  refine ⟨fun x hx => ?_, fun a ha b hb => ?_, by rw [List.length_map]; exact g.len⟩
  · obtain ⟨y, hy, rfl⟩ := List.mem_map.mp hx
    exact (mvl_is h).perm h (g.pe y hy)
  · obtain ⟨x, hx, rfl⟩ := List.mem_map.mp ha
    obtain ⟨y, hy, rfl⟩ := List.mem_map.mp hb
    have px := g.pe x hx
    have mx : IsMv n o x (mvl n o x) := mvl_is h
    have my : IsMv n o y (mvl n o y) := mvl_is h
    have mz : IsMv n o (x.map (gI y)) (mvl n o (x.map (gI y))) := mvl_is h
    have e : (mvl n o x).map (gI (mvl n o y)) = mvl n o (x.map (gI y)) := by
      refine same_at h (by rw [List.length_map]; exact mx.l) mz.l fun j hj => ?_
      obtain ⟨k, hk, ek⟩ := perm_nat h hj
      obtain ⟨u, hu, eu⟩ := perm_nat px hj
      rw [mz.g j hj, map_get _ (perm_len px) hj, eu]
      have m1 := mx.g j hj
      have m2 := my.g u hu
      rw [ek] at m1 ⊢
      rw [map_get _ mx.l hk, m1, eu, m2]
    rw [e]
    exact List.mem_map.mpr ⟨_, g.cl x hx y hy, rfl⟩
structure Dr (n : Nat) (r a : List Int) : Prop where
  p : Pm n r a
  le : n ≤ 6
  g : ∃ G, Grp n G ∧ r ∈ G ∧ a ∈ G
theorem Dr.mv {n : Nat} {r a r' a' o : List Int} (d : Dr n r a) (h : o.Perm (rangeI 0 n)) (m1 : IsMv n o r r') (m2 : IsMv n o a a') : Dr n r' a' := by
  obtain ⟨G, g, hr, ha⟩ := d.g
  have e1 := m1.uniq h (mvl_is h)
  have e2 := m2.uniq h (mvl_is h)
  exact ⟨⟨d.p.n1, d.p.n2, m1.perm h d.p.r, m2.perm h d.p.a⟩, d.le, _, g.mv h, by rw [e1]; exact List.mem_map.mpr ⟨_, hr, rfl⟩, by rw [e2]; exact List.mem_map.mpr ⟨_, ha, rfl⟩⟩
theorem Dr.sw {n : Nat} {r a : List Int} (d : Dr n r a) : Dr n a r := by
  obtain ⟨G, g, hr, ha⟩ := d.g
  exact ⟨⟨d.p.n1, d.p.n2, d.p.a, d.p.r⟩, d.le, G, g, ha, hr⟩
theorem Dr.ao {n : Nat} {r a : List Int} (h1 : 1 ≤ n) (h3 : n ≤ 3) (hr : r.Perm (rangeI 0 n)) (ha : a.Perm (rangeI 0 n)) : Dr n r a :=
  ⟨⟨h1, by omega, hr, ha⟩, by omega, AO n, AO_grp h1 h3, AO_all h1 h3 hr, AO_all h1 h3 ha⟩
theorem Dr.ro {n : Nat} (h1 : 1 ≤ n) (h6 : n ≤ 6) (b c : Int) : Dr n (rot n b) (rot n c) :=
  ⟨⟨h1, by omega, rot_perm h1 b, rot_perm h1 c⟩, h6, _, rot_grp h1 h6, rot_in h1 b, rot_in h1 c⟩
end Slw
namespace Slw
open PySem J
theorem lawjoin_ok {n : Nat} {a b : Tb} {P : List (List Int) → Prop} (hn : n ≤ 1000) (ha : IsT n a) (hb : IsT n b) (w : P [(joinT a b).1, (joinT a b).2]) : w_law_join [a.1, a.2] [b.1, b.2] P := by
  unfold w_law_join
  have la := ha.l1
  have la2 := ha.l2
  refine ⟨a.1, rfl, by omega, ?_⟩
  refine wComp_ok (α := Int) (β := Int) (fun t => gI b.1 t) a.1 [] _ (fun t ht N hN => ?_) ?_
  · have := ha.e t ht
    exact ⟨b.1, rfl, _, gI_ix this.1 (by rw [hb.l1]; exact this.2), hN⟩
  rw [List.nil_append]
  refine wLet_to ?_
  have ll : (a.1.map fun t => gI b.1 t).length = n := by rw [List.length_map, la]
  rw [ll]
  refine ⟨by omega, by rw [rangeI_len]; omega, ?_⟩
  refine wComp_ok (α := Int) (β := Int) (fun k => orJ (gI a.2 k) (gI b.2 (gI a.1 k))) (rangeI 0 (n : Int)) [] _ (fun k hk N hN => ?_) ?_
  · obtain ⟨k0, k1⟩ := mem_rangeI.mp hk
    have m1 : k < (a.1.length : Int) := by omega
    have m2 : k < (a.2.length : Int) := by omega
    have e := ha.e _ (gI_mem k0 m1)
    have m3 : gI a.1 k < (b.2.length : Int) := by rw [hb.l2]; exact e.2
    exact ⟨a.2, rfl, _, gI_ix k0 m2, b.2, rfl, a.1, rfl, _, gI_ix k0 m1, _, gI_ix e.1 m3, ⟨ha.m _ (gI_mem k0 m2), hb.m _ (gI_mem e.1 m3)⟩, hN⟩
  rw [List.nil_append]
  refine wLet_to ⟨by show 2 ≤ 1000; omega, ?_⟩
  have e2 : (rangeI 0 (n : Int)).map (fun k => orJ (gI a.2 k) (gI b.2 (gI a.1 k))) = (joinT a b).2 := by
    refine List.ext_getElem (by rw [List.length_map, rangeI_len, (ha.join hb).l2]) fun i h1 h2 => ?_
    have hi : i < n := by rw [(ha.join hb).l2] at h2; exact h2
    rw [List.getElem_map, rangeI_get, ← gI_nat h2, joinT_get2 ha hi]
  rw [e2]
  exact w
end Slw
namespace Slw
open PySem J
theorem lawpow_ok {n : Nat} {t : Tb} {c : Int} {P : List (List Int) → Prop} (hn : n ≤ 1000) (ht : IsT n t) (hc : 0 ≤ c) (w : P [(pwT n t c.toNat).1, (pwT n t c.toNat).2]) : w_law_power [t.1, t.2] c P := by
  unfold w_law_power
  have l1 := ht.l1
  refine ⟨t.1, rfl, by omega, t.1, rfl, by omega, ?_⟩
  refine wComp_ok (α := Int) (β := Int) (fun _ => 0) t.1 [] _ (fun _ _ N hN => hN) ?_
  rw [List.nil_append]
  have e0 : t.1.map (fun _ => (0 : Int)) = List.replicate n 0 := by
    rw [List.map_const', l1]
  rw [e0, l1]
  refine ⟨by show 2 ≤ 1000; omega, wLet_to ⟨fun s => ∃ (d : Nat) (j p : Tb), s = ([p.1, p.2], (d : Int), [j.1, j.2]) ∧ IsT n j ∧ IsT n p ∧ joinT j (pwT n p d) = pwT n t c.toNat, fun s => s.2.1.toNat, ⟨c.toNat, restT n, t, ?_, IsT.rest n, ht, rest_join (ht.pw _)⟩, ?_⟩⟩
  · rw [show ((c.toNat : Nat) : Int) = c by omega]
    rfl
  rintro _ ⟨d, j, p, rfl, hj, hp, e⟩
  dsimp only
  refine ⟨fun z => ?_, fun z => ?_⟩
  · have dpos : 0 < d := by simpa using z
    have hd : ((d : Int) / 2) = ((d / 2 : Nat) : Int) := by omega
    refine wJoin_ok (fun l => ∃ j' : Tb, l = [j'.1, j'.2] ∧ IsT n j' ∧ joinT j' (pwT n (joinT p p) (d / 2)) = pwT n t c.toNat) ?_ fun J hJ => ⟨fun y => ?_, fun y => ?_⟩
    · rintro _ ⟨j', rfl, h1, h2⟩
      refine lawjoin_ok hn hp hp (wLet_to (wLet_to ⟨⟨d / 2, j', joinT p p, by rw [hd], h1, hp.join hp, h2⟩, ?_⟩))
      show ((d : Int) / 2).toNat < (d : Int).toNat
      omega
    · have y' : (d : Int) % 2 = 1 := of_decide_eq_true y
      refine lawjoin_ok hn hj hp (wLet_to (hJ _ ⟨joinT j p, rfl, hj.join hp, ?_⟩))
      rw [pw_sq hp, joinT_assoc hj hp (hp.pw _), pw_left hp, show 2 * (d / 2) + 1 = d by omega]
      exact e
    · have y' : ¬ (d : Int) % 2 = 1 := of_decide_eq_false y
      refine hJ _ ⟨j, rfl, hj, ?_⟩
      rw [pw_sq hp, show 2 * (d / 2) = d by omega]
      exact e
  · have d0 : d = 0 := by
      have : ¬ (0 : Int) < d := of_decide_eq_false z
      omega
    subst d0
    have e' : joinT j (restT n) = pwT n t c.toNat := e
    rw [join_rest hj] at e'
    rw [e']
    exact w
theorem lawsides_ok {n : Nat} {r a : List Int} {P : List (List (List Int)) → Prop} (hn : n ≤ 1000) (hr : r.length = n) (w : P [[r, mk1 n], [a, mk1 n]]) : w_law_sides r a P := by
  unfold w_law_sides
  rw [hr]
  refine ⟨⟨by omega, by omega⟩, by rw [rangeI_len]; omega, ?_⟩
  refine wComp_ok (α := Int) (β := Int) (fun r => (1 : Int) * 2 ^ r.toNat) (rangeI 0 (n : Int)) [] _ (fun x hx N hN => ?_) ?_
  · obtain ⟨x0, x1⟩ := mem_rangeI.mp hx
    exact ⟨⟨x0, by omega, by decide⟩, hN⟩
  · rw [List.nil_append]
    exact wLet_to ⟨by show 2 ≤ 1000; omega, by show 2 ≤ 1000; omega, by show 2 ≤ 1000; omega, w⟩
theorem lawround_ok {n : Nat} {r a : List Int} {p q : Int} {P : List (List Int) → Prop} (hn : n ≤ 1000) (hr : r.Perm (rangeI 0 n)) (ha : a.Perm (rangeI 0 n)) (hp : 0 ≤ p) (hq : 0 ≤ q) (h0 : p = 0 ∨ q = 0 ∨ Kinds (F p q)) (bp : p.natAbs < 2 ^ Big) (bq : q.natAbs < 2 ^ Big)
    (w : P [(Rt n (r, mk1 n) (a, mk1 n) p q).1, (Rt n (r, mk1 n) (a, mk1 n) p q).2]) : w_law_round r a p q P := by
  unfold w_law_round
  have t2 := T2.sides hr ha
  refine lawsides_ok hn (by rw [hr.length_eq, rangeI_len]) ⟨_, _, rfl, fun z => ?_, fun z => ⟨fun z2 => ?_, fun z2 => ?_⟩⟩
  · have z := of_decide_eq_true z
    unfold Rt at w
    rw [if_pos z] at w
    exact w
  · have z := of_decide_eq_false z
    have z2 := of_decide_eq_true z2
    unfold Rt at w
    rw [if_neg z, if_pos z2] at w
    exact w
  · have z := of_decide_eq_false z
    have z2 := of_decide_eq_false z2
    have kk : Kinds (F p q) := (h0.resolve_left z2).resolve_left z
    rw [Rt_pos (by omega) (by omega)] at w
    refine ⟨fun s => ∃ A B : Tb, s = (s.1, s.2.1, [A.1, A.2], [B.1, B.2]) ∧ T2 n (A, B) ∧ 1 ≤ s.1 ∧ 1 ≤ s.2.1 ∧ s.1 ≤ p ∧ s.2.1 ≤ q ∧ tts n (A, B) (F s.1 s.2.1) = tts n ((r, mk1 n), (a, mk1 n)) (F p q), fun s => (s.1 + s.2.1).toNat,
      ⟨(r, mk1 n), (a, mk1 n), rfl, t2, by show 1 ≤ p; omega, by show 1 ≤ q; omega, Int.le_refl _, Int.le_refl _, rfl⟩, ?_⟩
    rintro ⟨u, v, x, y⟩ ⟨A, B, e, tab, u1, v1, up, vq, et⟩
    dsimp only at e tab u1 v1 up vq et ⊢
    obtain ⟨rfl, rfl⟩ : x = [A.1, A.2] ∧ y = [B.1, B.2] := by
      injection e with _ e
      injection e with _ e
      injection e with e1 e2
      exact ⟨e1, e2⟩
    have bv : v.natAbs < 2 ^ Big := big_of (by omega) vq bq
    have bu : u.natAbs < 2 ^ Big := big_of (by omega) up bp
    refine ⟨fun c => ?_, fun c => ?_⟩
    · have hne : u ≠ v := fun z => by rw [z] at c; simp at c
      refine ⟨fun c => ?_, fun c => ?_⟩
      · have hlt : v < u := of_decide_eq_true c
        obtain ⟨c1, w1, w2, c0⟩ := quot_one (show 0 < v by omega) hlt
        have hc : (u - 1) / v ≤ u := Int.le_trans (Int.ediv_le_self _ (by omega)) (by omega)
        have hm : 1 * v ≤ (u - 1) / v * v := Int.mul_le_mul_of_nonneg_right c1 (by omega)
        rw [F_flat u1 v1 hlt] at et
        refine ⟨div_ok (by omega) bv, wLet_to (lawpow_ok hn tab.a c0 (lawjoin_ok hn (tab.a.pw _) tab.b (wLet_to ⟨mul_ok (big_of c0 hc bu) bv, wLet_to ⟨⟨A, joinT (pwT n A ((u - 1) / v).toNat) B, rfl, ⟨tab.a, (tab.a.pw _).join tab.b⟩, w1, v1, ?_, vq, ?_⟩, ?_⟩⟩)))⟩
        · omega
        · rw [← et]
          rfl
        · omega
      · have hlt : u < v := by
          have := of_decide_eq_false c
          omega
        obtain ⟨c1, w1, w2, c0⟩ := quot_one (show 0 < u by omega) hlt
        have hc : (v - 1) / u ≤ v := Int.le_trans (Int.ediv_le_self _ (by omega)) (by omega)
        have hm : 1 * u ≤ (v - 1) / u * u := Int.mul_le_mul_of_nonneg_right c1 (by omega)
        rw [F_steep u1 v1 hlt] at et
        refine ⟨div_ok (by omega) bu, wLet_to (lawpow_ok hn tab.b c0 (lawjoin_ok hn tab.a (tab.b.pw _) (wLet_to ⟨mul_ok (big_of c0 hc bv) bu, wLet_to ⟨⟨joinT A (pwT n B ((v - 1) / u).toNat), B, rfl, ⟨tab.a.join (tab.b.pw _), tab.b⟩, u1, w1, up, ?_, ?_⟩, ?_⟩⟩)))⟩
        · omega
        · rw [← et]
          show tts n _ _ = tts n (tt n (A, B) (("steep" : Str), (v - 1) / u)) _
          rw [show tt n (A, B) (("steep" : Str), (v - 1) / u) = (joinT A (pwT n B ((v - 1) / u).toNat), B) from if_neg sf_ne]
        · omega
    · have he : u = v := by
        by_cases z : u = v
        · exact z
        · rw [decide_eq_false z] at c; cases c
      subst he
      rw [F_self] at et
      have et' : (A, B) = tts n ((r, mk1 n), (a, mk1 n)) (F p q) := et
      rw [← et'] at w
      exact lawjoin_ok hn tab.a tab.b w
end Slw
namespace Slw
open PySem J
theorem gcd_step (a b : Int) (ha : 0 ≤ a) (hb : 0 < b) : Int.gcd b (a % b) = Int.gcd a b := by
  have h0 : 0 ≤ a % b := Int.emod_nonneg _ (by omega)
  unfold Int.gcd
  rw [Int.natAbs_emod_of_nonneg ha, Nat.gcd_comm, ← Nat.gcd_rec, Nat.gcd_comm]
/-- a drawn direction -/
theorem dir_ok {one two least : Int} {P : Int × Int → Prop} (h0 : 0 ≤ least) (h1 : least ≤ 1)
    (q : ∀ p q, least ≤ p → least ≤ q → p ≤ 10 ^ 39 → q ≤ 10 ^ 39 → Int.gcd p q = 1 → P (p, q)) : w_law_direction one two least P := by
  unfold w_law_direction
  rw [pow39]
  have m1 := Int.emod_nonneg one (show (1000000000000000000000000000000000000000 : Int) ≠ 0 by decide)
  have m2 := Int.emod_lt_of_pos one (show (0 : Int) < 1000000000000000000000000000000000000000 by decide)
  have n1 := Int.emod_nonneg two (show (1000000000000000000000000000000000000000 : Int) ≠ 0 by decide)
  have n2 := Int.emod_lt_of_pos two (show (0 : Int) < 1000000000000000000000000000000000000000 by decide)
  have e39 : (10 : Int) ^ 39 = 1000000000000000000000000000000000000000 := by decide
  refine ⟨by decide, wLet_ok fun p0 hp => ⟨by decide, wLet_ok fun q0 hq => wLet_to (wLet_to ?_)⟩⟩
  have p1 : least ≤ p0 := by omega
  have p2 : p0 ≤ 10 ^ 39 := by omega
  have q1 : least ≤ q0 := by omega
  have q2 : q0 ≤ 10 ^ 39 := by omega
  refine ⟨fun s => 0 ≤ s.1 ∧ 0 ≤ s.2 ∧ s.1 ≤ 10 ^ 39 ∧ s.2 ≤ 10 ^ 39 ∧ Int.gcd s.1 s.2 = Int.gcd p0 q0, fun s => s.2.toNat, ⟨by show 0 ≤ p0; omega, by show 0 ≤ q0; omega, p2, q2, rfl⟩, ?_⟩
  rintro ⟨c, r⟩ ⟨c0, r0, c1, r1, hg⟩
  dsimp only at c0 r0 c1 r1 hg ⊢
  refine ⟨fun e => ?_, fun e => ?_⟩
  · have hr := of_decide_eq_true e
    have l := Int.emod_lt_of_pos c hr
    have l0 := Int.emod_nonneg c (show r ≠ 0 by omega)
    exact ⟨hr, ⟨r0, l0, r1, by omega, by rw [gcd_step c r c0 hr, hg]⟩, by omega⟩
  · have hr := of_decide_eq_false e
    have er : r = 0 := by omega
    subst er
    have ec : (c : Int) = ((Int.gcd p0 q0 : Nat) : Int) := by
      rw [← hg, Int.gcd_zero_right]
      omega
    refine ⟨fun e => ?_, fun e => ?_⟩
    · have hc := of_decide_eq_true e
      have z : Int.gcd p0 q0 = 0 := by omega
      have zz := Int.gcd_eq_zero_iff.mp z
      exact q 1 1 (by omega) (by omega) (by decide) (by decide) (by decide)
    · have hc := of_decide_eq_false e
      have cp : 0 < c := by omega
      have dok : JDiv c := div_ok cp (big_lit (by omega))
      refine ⟨dok, dok, ?_⟩
      have gpos : 0 < Int.gcd p0 q0 := by omega
      have d1 : (c : Int) ∣ p0 := by rw [ec]; exact Int.gcd_dvd_left ..
      have d2 : (c : Int) ∣ q0 := by rw [ec]; exact Int.gcd_dvd_right ..
      have e1 := Int.ediv_mul_cancel d1
      have e2 := Int.ediv_mul_cancel d2
      have f1 : p0 / c ≤ p0 := Int.ediv_le_self _ (by omega)
      have f2 : q0 / c ≤ q0 := Int.ediv_le_self _ (by omega)
      have g1 : 0 ≤ p0 / c := Int.ediv_nonneg (by omega) (by omega)
      have g2 : 0 ≤ q0 / c := Int.ediv_nonneg (by omega) (by omega)
      have pz : p0 / c = 0 → p0 = 0 := fun z => by rw [z] at e1; omega
      have qz : q0 / c = 0 → q0 = 0 := fun z => by rw [z] at e2; omega
      refine q _ _ ?_ ?_ (by omega) (by omega) ?_
      · by_cases hz : p0 / c = 0
        · have := pz hz; omega
        · omega
      · by_cases hz : q0 / c = 0
        · have := qz hz; omega
        · omega
      · rw [ec]
        exact Int.gcd_ediv_gcd_ediv_gcd gpos
end Slw
namespace Slw
open PySem J
/-- two orders moved by an order -/
theorem moved_ok {n : Nat} {x y o : List Int} {P : List (List Int) → Prop} (hn : n ≤ 1000) (hx : x.Perm (rangeI 0 n)) (hy : y.Perm (rangeI 0 n)) (ho : o.Perm (rangeI 0 n)) (h : ∀ r s, IsMv n o x r → IsMv n o y s → P [r, s]) : w_law_moved [x, y] o P := by
  unfold w_law_moved
  have lo := perm_len ho
  refine ⟨by omega, wComp_ok (α := Int) (β := Int) (fun _ => 0) o [] _ (fun _ _ N hN => hN) ⟨by omega, wComp_ok (α := Int) (β := Int) (fun _ => 0) o [] _ (fun _ _ N hN => hN) (wLet_to (wLet_to ⟨by omega, ?_⟩))⟩⟩
  rw [lo]
  refine wFor_range n (fun i (s : List Int × List Int) => (s.2.length = n ∧ ∀ j : Nat, j < i → gI s.2 (gI o j) = gI o (gI x j)) ∧ s.1.length = n ∧ ∀ j : Nat, j < i → gI s.1 (gI o j) = gI o (gI y j)) (fun i s N hi hI hN => ?_) (fun s hI => h _ _ ⟨hI.1.1, hI.1.2⟩ ⟨hI.2.1, hI.2.2⟩) _ ?_
  · have oi := perm_gI ho hi
    obtain ⟨a, ha, ea⟩ := perm_nat hx hi
    obtain ⟨b, hb, eb⟩ := perm_nat hy hi
    have lx := perm_len hx
    have ly := perm_len hy
    have g1 := gstep (f := fun j => gI o (gI x j)) ho hi hI.1.1 hI.1.2
    have g2 := gstep (f := fun j => gI o (gI y j)) ho hi hI.2.1 hI.2.2
    refine ⟨x, rfl, _, gI_ix (by omega) (by omega), _, gI_ix (by omega) (by omega), _, gI_ix (by omega) (by omega), _, ixW_at oi.1 (by omega), wLet_to ⟨y, rfl, _, gI_ix (by omega) (by omega), _, gI_ix (by omega) (by omega), _, gI_ix (by omega) (by omega), _, ixW_at oi.1 (by omega), wLet_to (hN _ ⟨g1, g2⟩)⟩⟩
  · refine ⟨⟨?_, fun j hj => absurd hj (Nat.not_lt_zero j)⟩, ?_, fun j hj => absurd hj (Nat.not_lt_zero j)⟩
    · show ([] ++ o.map _).length = n
      rw [List.nil_append, List.length_map, lo]
    · show ([] ++ o.map _).length = n
      rw [List.nil_append, List.length_map, lo]
end Slw
namespace Slw
open PySem J
theorem LL_len {n : Nat} {r a : List Int} (p : Pm n r a) (d : Int × Int) : (LL n r a d).length ≤ n := by
  unfold LL
  rw [(so_perm _).length_eq]
  unfold rl
  rw [List.length_map]
  have I := (zerR (en_perm p.r p.a d.1 d.2)).ri n (Nat.le_refl n)
  exact I.len
theorem Dir.k {d : Int × Int} (h : Dir d) : d.1 = 0 ∨ d.2 = 0 ∨ Kinds (F d.1 d.2) := by
  have a := h.a
  have b := h.b
  by_cases z : d.1 = 0
  · exact .inl z
  · by_cases y : d.2 = 0
    · exact .inr (.inl y)
    · exact .inr (.inr (F_spec (d.1 + d.2).toNat d.1 d.2 (Nat.le_refl _) (by omega) (by omega) h.g).1)
theorem lawrounds_at {n : Nat} {r a : List Int} (p : Pm n r a) {d : Int × Int} (h : Dir d) {P : List Int → Prop} (w : P (LL n r a d)) : w_law_rounds [(Rt n (r, mk1 n) (a, mk1 n) d.1 d.2).1, (Rt n (r, mk1 n) (a, mk1 n) d.1 d.2).2] P := by
  unfold w_law_rounds
  have n2 := p.n2
  have R := Rt.rt (R2.sides p.r p.a) d.1 d.2
  have I := R.ri n (Nat.le_refl n)
  have il := I.len
  refine law_rings_ok R (by omega) ⟨by omega, wComp_ok (α := Rg) (β := Int) (fun x => x.2.1) _ [] _ (fun _ _ N hN => hN) fun ys q s => ?_⟩
  rw [List.nil_append, rl_marks, Rt_ends] at q
  rw [so_uniq q s]
  exact w
theorem tworounds_ok {n m : Nat} {r a r2 a2 : List Int} (p : Pm n r a) (p2 : Pm m r2 a2) {d : Int × Int} (h : Dir d) {P : List Int × List Int → Prop} (w : P (LL n r a d, LL m r2 a2 d)) : w_law_two_rounds [r, a] [r2, a2] d P := by
  unfold w_law_two_rounds
  have n2 := p.n2
  have m2 := p2.n2
  refine ⟨r, rfl, a, rfl, lawround_ok (by omega) p.r p.a h.a h.b h.k h.b1 h.b2 (lawrounds_at p h ⟨r2, rfl, a2, rfl, lawround_ok (by omega) p2.r p2.a h.a h.b h.k h.b1 h.b2 (lawrounds_at p2 h w)⟩)⟩
theorem isnum_ok {x : Int} {P : Bool → Prop} (w : P true) : w_law_is_number x P := ⟨fun _ => w, fun z => by cases z⟩
theorem isdir_ok {d : Int × Int} (h : Dir d) {P : Bool → Prop} (w : P true) : w_law_is_direction d P := by
  unfold w_law_is_direction
  have a := h.a
  have b := h.b
  refine ⟨fun _ => ⟨fun z => by simp at z, fun _ => wLet_to (wFor_ok (fun r _ => ∀ x ∈ r, 0 ≤ x) (fun x r s N hx hN => ?_) (fun s _ => ?_) _ _ ?_)⟩, fun z => by cases z⟩
  · have x0 := hx x List.mem_cons_self
    refine isnum_ok ⟨fun _ => ⟨fun z => ?_, fun _ => hN () fun y hy => hx y (List.mem_cons_of_mem _ hy)⟩, fun z => by cases z⟩
    have := of_decide_eq_true z
    omega
  · refine wLet_to (wLet_to ⟨fun s => 0 ≤ s.1 ∧ 0 ≤ s.2 ∧ Int.gcd s.1 s.2 = 1, fun s => s.2.toNat, ⟨a, b, h.g⟩, ?_⟩)
    rintro ⟨c, r⟩ ⟨c0, r0, hg⟩
    dsimp only at c0 r0 hg ⊢
    refine ⟨fun e => ?_, fun e => ?_⟩
    · have hr := of_decide_eq_true e
      have l := Int.emod_lt_of_pos c hr
      have l0 := Int.emod_nonneg c (show r ≠ 0 by omega)
      exact ⟨hr, ⟨r0, l0, by rw [gcd_step c r c0 hr, hg]⟩, by omega⟩
    · have hr := of_decide_eq_false e
      have er : r = 0 := by omega
      subst er
      rw [Int.gcd_zero_right] at hg
      have : c = 1 := by omega
      subst this
      exact w
  · intro x hx
    rcases List.mem_cons.mp hx with e | hx
    · rw [e]; exact a
    · rw [List.mem_singleton.mp hx]; exact b
theorem dec_t {p : Prop} [Decidable p] (h : p) {P : Bool → Prop} (w : P true) : P (decide p) := by
  rw [decide_eq_true h]
  exact w
theorem isrow_t {a : List Int} {P : Bool → Prop} (hl : a.length ≤ 1000000) (w : P true) : w_law_is_row a a P := isrow_ok hl (by rw [decide_eq_true rfl]; exact w)
theorem fits_ok {n m : Nat} {r a r2 a2 : List Int} (p : Pm n r a) (p2 : Pm m r2 a2) {d : Int × Int} (h : Dir d) {f : Cm} (hf : Cmp (LL n r a) (LL m r2 a2) f) {P : Bool → Prop} (w : P true) : w_law_fits [r, a] [r2, a2] f d P := by
  unfold w_law_fits w_Comparison_alike w_Comparison_direction w_Comparison_lists w_Comparison_certificate w_copied_r
  have n2 := p.n2
  have m2 := p2.n2
  cases hf with
  | same rows hs =>
    refine ⟨fun _ => ⟨fun z => (by cases z), fun _ => ⟨fun z => (by cases z), fun _ => ?_⟩⟩, fun z => by cases z⟩
    exact tworounds_ok p p2 h (tworounds_ok p p2 h ⟨pokI _, pokI _, dec_t (hs d h) w⟩)
  | diff e he ne hb =>
    refine ⟨fun z => (by cases z), fun _ => ⟨fun z => (by cases z), fun _ => ⟨fun _ => ⟨fun z => (by cases z), fun _ => ?_⟩, fun z => by cases z⟩⟩⟩
    refine ⟨e, rfl, isdir_ok he ⟨fun _ => ⟨e, rfl, tworounds_ok p p2 he (wLet_to ⟨pokI _, pokI _, fun z => absurd (of_decide_eq_true z) ne, fun _ => ⟨_, rfl, ?_⟩⟩)⟩, fun z => by cases z⟩⟩
    unfold w_law_is_lists
    have l1 := LL_len p e
    have l2 := LL_len p2 e
    refine ⟨fun _ => ⟨fun z => by simp at z, fun _ => isrow_t (Nat.le_trans l1 (by omega)) ⟨fun _ => isrow_t (Nat.le_trans l2 (by omega)) ⟨fun _ => ⟨e, rfl, before_ok h he ⟨fun y => ?_, fun _ => w⟩⟩, fun z => by cases z⟩, fun z => by cases z⟩⟩, fun z => by cases z⟩
    exact tworounds_ok p p2 h (tworounds_ok p p2 h ⟨pokI _, pokI _, dec_t (hb d h y) w⟩)
theorem lplan_dr {one two three : Int} (h2 : one % 4 ≠ 2) {P : List (List Int) → Prop} (h : ∀ (n : Nat) (r a : List Int), Dr n r a → P [r, a]) : w_law_plan one two three P := by
  unfold w_law_plan
  refine wLet_to (wLet_to ⟨fun _ => wLet_to ?_, fun _ => ?_⟩)
  · obtain ⟨n, hn, n1, n2⟩ := size_of (c := one / 4) (m := 6) (lo := 1) (by decide) (by decide)
    rw [hn]
    have ro : ∀ (c : Int) (k : List Int → Prop), k (rot n c) → wComp (fun (room : Int) (N : Int → Prop) => (0 < (n : Int) ∧ (N ((room + c) % (n : Int))))) (rangeI 0 (n : Int)) [] k := fun c k hk =>
      wComp_ok (α := Int) (β := Int) (fun x => (x + c) % (n : Int)) (rangeI 0 (n : Int)) [] _ (fun x _ N hN => ⟨by omega, hN⟩) (by rw [List.nil_append]; exact hk)
    refine ⟨⟨by omega, by omega⟩, by rw [rangeI_len]; omega, ro _ _ ⟨⟨by omega, by omega⟩, by rw [rangeI_len]; omega, ro _ _ ⟨by show 2 ≤ 1000; omega, h n _ _ (Dr.ro (by omega) (by omega) two three)⟩⟩⟩
  · obtain ⟨n, hn, n1, n2⟩ := size_of (c := one / 4) (m := 3) (lo := 1) (by decide) (by decide)
    rw [hn]
    refine order_ok (by omega) fun r hr => order_ok (by omega) fun a ha => ⟨by show 2 ≤ 1000; omega, wLet_to ?_⟩
    refine wJoin_ok (fun l : List (List Int) => l = [r, a]) (fun l e => by rw [e]; exact h n r a (Dr.ao (by omega) (by omega) hr ha)) fun J hJ => ⟨fun z => absurd (of_decide_eq_true z) h2, fun _ => hJ _ rfl⟩
theorem kind_ne (k : Int) : (k + (if (decide ((k % (4 : Int)) = (2 : Int))) then (1 : Int) else 0)) % 4 ≠ 2 := by
  by_cases z : k % 4 = 2
  · rw [if_pos (decide_eq_true z)]
    omega
  · rw [if_neg (by rw [decide_eq_false z]; decide)]
    omega
theorem second_dr {script : List Int} {n : Nat} {r a : List Int} (d : Dr n r a) {P : List (List Int) → Prop} (h : ∀ (n : Nat) (r a : List Int), Dr n r a → P [r, a]) : w_law_second script [r, a] P := by
  unfold w_law_second
  have n2 := d.p.n2
  refine cell_ok (by decide) fun c => wLet_to ⟨fun _ => cell_ok (by decide) fun c7 => ⟨r, rfl, ?_⟩, fun _ => ⟨fun _ => ⟨a, rfl, r, rfl, by show 2 ≤ 1000; omega, h _ _ _ d.sw⟩, fun _ => cell_ok (by decide) fun c3 => wLet_to (cell_ok (by decide) fun c4 => cell_ok (by decide) fun c5 => lplan_dr (kind_ne c3) h)⟩⟩
  rw [perm_len d.p.r]
  exact order_ok (by omega) fun o ho => moved_ok (by omega) d.p.r d.p.a ho fun r' a' m1 m2 => h _ _ _ (d.mv ho m1 m2)
theorem wide_ok {n : Nat} {r a : List Int} (p : Pm n r a) (h : n < 3) {P : List Int × List Int → Prop} (w : P (tl n 50 r, tl n 50 a)) : w_law_wide [r, a] P := by
  unfold w_law_wide
  have n1 := p.n1
  refine ⟨r, rfl, wLet_to ⟨by show 2 < 1000000; omega, ?_⟩⟩
  rw [perm_len p.r]
  have e50 : (50 : Int) * n = ((50 * n : Nat) : Int) := by push_cast; rfl
  rw [e50]
  have step : ∀ {x : List Int} {k : List Int → Prop}, x.Perm (rangeI 0 n) → k (tl n 50 x) → wComp (fun (k_73 : Int) (N75 : Int → Prop) => (JDiv (n : Int) ∧ (JMul (n : Int) (k_73 / n) ∧ (0 < (n : Int) ∧ (∃ x74, ixI x (k_73 % n) = some x74 ∧ (N75 (((n : Int) * (k_73 / n)) + x74))))))) (rangeI 0 ((50 * n : Nat) : Int)) [] k := fun {x k} hx hk => by
    refine wComp_ok (α := Int) (β := Int) (fun i => (n : Int) * (i / n) + gI x (i % n)) (rangeI 0 ((50 * n : Nat) : Int)) [] _ (fun i hi N hN => ?_) ?_
    · obtain ⟨i0, i1⟩ := mem_rangeI.mp hi
      have q0 : 0 ≤ i / n := Int.ediv_nonneg i0 (by omega)
      have q1 : i / n ≤ i := Int.ediv_le_self _ i0
      have m0 := Int.emod_nonneg i (show (n : Int) ≠ 0 by omega)
      have m1 := Int.emod_lt_of_pos i (show (0 : Int) < n by omega)
      exact ⟨div_ok (by omega) (big_lit (by omega)), mul_ok (big_lit (by omega)) (big_lit (by omega)), by omega, _, gI_ix m0 (by rw [hx.length_eq, rangeI_len]; exact m1), hN⟩
    · rw [List.nil_append]
      exact hk
  refine wComp_ok (α := List Int) (β := List Int) (tl n 50) [r, a] [] _ (fun x hx N hN => ?_) ?_
  · have hx' : x.Perm (rangeI 0 n) := by
      simp only [List.mem_cons, List.not_mem_nil, or_false] at hx
      rcases hx with rfl | rfl
      · exact p.r
      · exact p.a
    exact ⟨⟨by omega, by omega⟩, by rw [rangeI_len]; omega, step hx' hN⟩
  · refine wLet_to ⟨tl n 50 r, rfl, tl n 50 a, rfl, init_pl (n := 50 * n) (by omega) (by omega) (tl_perm (by omega) p.r) (tl_perm (by omega) p.a) w⟩
theorem Pm.tile {n : Nat} {r a : List Int} (p : Pm n r a) (h : n < 3) : Pm (50 * n) (tl n 50 r) (tl n 50 a) :=
  ⟨by have := p.n1; omega, by omega, tl_perm p.n1 p.r, tl_perm p.n1 p.a⟩
theorem LL_tl {n m : Nat} {r a r2 a2 : List Int} (p : Pm n r a) (p2 : Pm m r2 a2) (d : Int × Int) : LL (50 * n) (tl n 50 r) (tl n 50 a) d = LL (50 * m) (tl m 50 r2) (tl m 50 a2) d ↔ LL n r a d = LL m r2 a2 d := by
  unfold LL
  rw [en_tl p.n1 p.r p.a, en_tl p2.n1 p2.r p2.a]
  exact tl_so (by decide) p.n1 p2.n1 (en_perm p.r p.a _ _) (en_perm p2.r p2.a _ _)
/-- two answers to questions that are alike -/
theorem Cmp.both {L M L' M' : Int × Int → List Int} (e : ∀ d, L d = M d ↔ L' d = M' d) {f f' : Cm} (h : Cmp L M f) (h' : Cmp L' M' f') : f.2.1 = f'.2.1 := by
  cases h with
  | same rows hs =>
    cases h' with
    | same => rfl
    | diff d hd ne hb => exact absurd ((e d).mp (hs d hd)) ne
  | diff d hd ne hb =>
    cases h' with
    | same rows hs => exact absurd ((e d).mpr (hs d hd)) ne
    | diff d' hd' ne' hb' =>
      show some d = some d'
      congr 1
      refine bef_total hd hd' ?_ ?_
      · cases z : bef d d' with
        | false => rfl
        | true => exact absurd ((e d).mpr (hb' d hd z)) ne
      · cases z : bef d' d with
        | false => rfl
        | true => exact absurd ((e d').mp (hb d' hd' z)) ne'
theorem Cmp.self {L : Int × Int → List Int} {f : Cm} (h : Cmp L L f) : f.2.1 = none := by
  cases h with
  | same => rfl
  | diff d hd ne => exact absurd rfl ne
theorem pokO (o : Option (Int × Int)) : POk.pok o := fun _ _ => ⟨trivial, trivial⟩
theorem law_math : ∀ ns : List Int, ns.length ≤ 63 → w_law ns (fun b => b = true) := by
  intro script _
  unfold w_law
  refine cell_ok (by decide) fun c0 => wLet_to (cell_ok (by decide) fun c1 => cell_ok (by decide) fun c2 => lplan_dr (kind_ne c0) fun n r a D => wLet_to (second_dr D fun m r2 a2 E => wLet_to ?_))
  refine cell_ok (by decide) fun c8 => wLet_to (cell_ok (by decide) fun c9 => wLet_to (wJoin_ok (fun _ => True) (fun s _ => ?_) fun J hJ => cell_ok (by decide) fun c10 => ⟨fun _ => wLet_to (wLet_to (hJ _ trivial)), fun _ => hJ _ trivial⟩))
  have p1 := D.p
  have p2 := E.p
  obtain ⟨G, g, hr, ha⟩ := D.g
  obtain ⟨H, h, hr2, ha2⟩ := E.g
  refine dir_ok (by decide) (by decide) fun p q hp hq hp9 hq9 hg => wLet_to ?_
  have e39 : (10 : Int) ^ 39 = 1000000000000000000000000000000000000000 := by decide
  rw [e39] at hp9 hq9
  have hd : Dir (p, q) := ⟨hp, hq, hg, big_lit (by show p.natAbs ≤ _; omega), big_lit (by show q.natAbs ≤ _; omega)⟩
  refine ⟨r, rfl, a, rfl, init_pl p1.n1 p1.n2 p1.r p1.a (wLet_to ⟨r2, rfl, a2, rfl, init_pl p2.n1 p2.n2 p2.r p2.a (wLet_to ?_)⟩)⟩
  refine compare_ok p1 p2 g h hr ha hr2 ha2 fun f hf => wLet_to (compare_ok p2 p1 h g hr2 ha2 hr ha fun f' hf' => wLet_to ?_)
  refine fits_ok p1 p2 hd hf ⟨fun _ => fits_ok p2 p1 hd hf' ⟨fun _ => ?_, fun z => by cases z⟩, fun z => by cases z⟩
  have e1 : f.2.1 = f'.2.1 := hf.both (fun d => eq_comm) hf'
  unfold w_Comparison_alike w_Comparison_direction
  rw [← e1]
  refine ⟨fun z => by simp at z, fun _ => ⟨pokO _, pokO _, fun z => by simp at z, fun _ => ?_⟩⟩
  refine wJoin_ok (fun _ => True) (fun _ _ => ?_) fun J hJ => ⟨r, rfl, r2, rfl, fun z => ?_, fun _ => hJ _ trivial⟩
  · refine compare_ok p1 p1 g g hr ha hr ha fun k hk => ?_
    rw [hk.self]
    refine ⟨fun _ => ⟨r2, rfl, a2, rfl, init_pl p2.n1 p2.n2 p2.r p2.a (compare_ok p2 p2 h h hr2 ha2 hr2 ha2 fun k' hk' => ?_)⟩, fun z => by cases z⟩
    rw [hk'.self]
    rfl
  · have z := of_decide_eq_true z
    rw [perm_len p1.r, perm_len p2.r] at z
    have n3 : n < 3 ∧ m < 3 := by
      split at z <;> omega
    refine wide_ok p1 n3.1 (wide_ok p2 n3.2 (compare_ok (p1.tile n3.1) (p2.tile n3.2) (g.tile p1.n1) (h.tile p2.n1) (List.mem_map_of_mem hr) (List.mem_map_of_mem ha) (List.mem_map_of_mem hr2) (List.mem_map_of_mem ha2) fun k hk => wLet_to ?_))
    have e2 : k.2.1 = f.2.1 := hk.both (LL_tl p1 p2) hf
    rw [e2]
    exact ⟨fun z => by simp at z, fun _ => ⟨pokO _, pokO _, fun z => by simp at z, fun _ => hJ _ trivial⟩⟩
end Slw
namespace Slw
open PySem L2 J
def top (i : Nat) : Stmt := PySem.Challenge.pw_slantwalk_k47_whole_comparison.main.body.getD i (.Pass ⟨0, 0, 0, 0⟩)
abbrev s_law_cell : Stmt := top 42
theorem sc_law_cell : FnScope ["_law_script", "_law_k"] ["_law_script", "_law_k"] (defScope s_law_cell) := ⟨rfl, rfl, rfl, by decide +kernel, rfl, by decide +kernel, by decide +kernel⟩
abbrev s_law_row : Stmt := top 43
theorem sc_law_row : FnScope ["_law_cell_here", "_law_count", "_law_row_here", "_law_rest", "_law_k", "_law_mixed"] ["_law_cell_here", "_law_count"] (defScope s_law_row) := ⟨rfl, rfl, rfl, by decide +kernel, rfl, by decide +kernel, by decide +kernel⟩
abbrev s_law_order : Stmt := top 44
theorem sc_law_order : FnScope ["_law_cell_here", "_law_size", "_law_pool", "_law_order_here", "_law_digit"] ["_law_cell_here", "_law_size"] (defScope s_law_order) := ⟨rfl, rfl, rfl, by decide +kernel, rfl, by decide +kernel, by decide +kernel⟩
abbrev s_law_moved : Stmt := top 56
theorem sc_law_moved : FnScope ["_law_lists", "_law_numbers", "_law_moved_here", "_law_k", "_law_room"] ["_law_lists", "_law_numbers"] (defScope s_law_moved) := ⟨rfl, rfl, rfl, by decide +kernel, rfl, by decide +kernel, by decide +kernel⟩
abbrev s_law_plan : Stmt := top 57
theorem sc_law_plan : FnScope ["_law_one", "_law_two", "_law_three", "_law_kind", "_law_size", "_law_lists", "_law_many", "_law_side", "_law_room", "_law_k"] ["_law_one", "_law_two", "_law_three"] (defScope s_law_plan) := ⟨rfl, rfl, rfl, by decide +kernel, rfl, by decide +kernel, by decide +kernel⟩
abbrev s_law_second : Stmt := top 60
theorem sc_law_second : FnScope ["_law_script", "_law_lists", "_law_choice", "_law_kind"] ["_law_script", "_law_lists"] (defScope s_law_second) := ⟨rfl, rfl, rfl, by decide +kernel, rfl, by decide +kernel, by decide +kernel⟩
abbrev s_law_direction : Stmt := top 45
theorem sc_law_direction : FnScope ["_law_one", "_law_two", "_law_least", "_law_p", "_law_q", "_law_common", "_law_rest"] ["_law_one", "_law_two", "_law_least"] (defScope s_law_direction) := ⟨rfl, rfl, rfl, by decide +kernel, rfl, by decide +kernel, by decide +kernel⟩
abbrev s_is_order : Stmt := top 21
theorem sc_is_order : FnScope ["rooms", "size"] ["rooms", "size"] (defScope s_is_order) := ⟨rfl, rfl, rfl, by decide +kernel, rfl, by decide +kernel, by decide +kernel⟩
abbrev s_Plan___init__ : Stmt := inClass (top 23) 1
theorem sc_Plan___init__ : FnScope ["self", "right", "above", "size"] ["self", "right", "above"] (defScope s_Plan___init__) := ⟨rfl, rfl, rfl, by decide +kernel, rfl, by decide +kernel, by decide +kernel⟩
abbrev s_PairSearch__number_of : Stmt := inClass (top 30) 4
theorem sc_PairSearch__number_of : FnScope ["self", "pair", "beside", "number"] ["self", "pair", "beside"] (defScope s_PairSearch__number_of) := ⟨rfl, rfl, rfl, by decide +kernel, rfl, by decide +kernel, by decide +kernel⟩
abbrev s_WalkTable_form : Stmt := inClass (top 26) 5
theorem sc_WalkTable_form : FnScope ["self"] ["self"] (defScope s_WalkTable_form) := ⟨rfl, rfl, rfl, by decide +kernel, rfl, by decide +kernel, by decide +kernel⟩
abbrev s_PairSearch__table_number : Stmt := inClass (top 30) 3
theorem sc_PairSearch__table_number : FnScope ["self", "table", "number"] ["self", "table"] (defScope s_PairSearch__table_number) := ⟨rfl, rfl, rfl, by decide +kernel, rfl, by decide +kernel, by decide +kernel⟩
abbrev s_neighbors_after : Stmt := top 19
theorem sc_neighbors_after : FnScope ["runs", "a", "b", "c", "d", "kind", "count"] ["runs"] (defScope s_neighbors_after) := ⟨rfl, rfl, rfl, by decide +kernel, rfl, by decide +kernel, by decide +kernel⟩
abbrev s_check_direction : Stmt := top 15
theorem sc_check_direction : FnScope ["p", "q"] ["p", "q"] (defScope s_check_direction) := ⟨rfl, rfl, rfl, by decide +kernel, rfl, by decide +kernel, by decide +kernel⟩
abbrev s_check_in_tree : Stmt := top 16
theorem sc_check_in_tree : FnScope ["p", "q"] ["p", "q"] (defScope s_check_in_tree) := ⟨rfl, rfl, rfl, by decide +kernel, rfl, by decide +kernel, by decide +kernel⟩
abbrev s_steps : Stmt := top 17
theorem sc_steps : FnScope ["p", "q", "runs", "count"] ["p", "q"] (defScope s_steps) := ⟨rfl, rfl, rfl, by decide +kernel, rfl, by decide +kernel, by decide +kernel⟩
abbrev s_neighbors : Stmt := top 18
theorem sc_neighbors : FnScope ["p", "q"] ["p", "q"] (defScope s_neighbors) := ⟨rfl, rfl, rfl, by decide +kernel, rfl, by decide +kernel, by decide +kernel⟩
abbrev s_PairSearch___init__ : Stmt := inClass (top 30) 0
theorem sc_PairSearch___init__ : FnScope ["self", "pair", "under", "p", "q", "first", "second"] ["self", "pair", "under"] (defScope s_PairSearch___init__) := ⟨rfl, rfl, rfl, by decide +kernel, rfl, by decide +kernel, by decide +kernel⟩
abbrev s_side_by_side : Stmt := top 22
theorem sc_side_by_side : FnScope ["one", "two", "shift", "shifted", "room"] ["one", "two"] (defScope s_side_by_side) := ⟨rfl, rfl, rfl, by decide +kernel, rfl, by decide +kernel, by decide +kernel⟩
abbrev s_Plan_right : Stmt := inClass (top 23) 3
theorem sc_Plan_right : FnScope ["self"] ["self"] (defScope s_Plan_right) := ⟨rfl, rfl, rfl, by decide +kernel, rfl, by decide +kernel, by decide +kernel⟩
abbrev s_Plan_above : Stmt := inClass (top 23) 4
theorem sc_Plan_above : FnScope ["self"] ["self"] (defScope s_Plan_above) := ⟨rfl, rfl, rfl, by decide +kernel, rfl, by decide +kernel, by decide +kernel⟩
abbrev s_WalkTable___init__ : Stmt := inClass (top 26) 0
theorem sc_WalkTable___init__ : FnScope ["self", "ends", "marks"] ["self", "ends", "marks"] (defScope s_WalkTable___init__) := ⟨rfl, rfl, rfl, by decide +kernel, rfl, by decide +kernel, by decide +kernel⟩
abbrev s_without_marks : Stmt := top 38
theorem sc_without_marks : FnScope ["ends"] ["ends"] (defScope s_without_marks) := ⟨rfl, rfl, rfl, by decide +kernel, rfl, by decide +kernel, by decide +kernel⟩
abbrev s_side_tables : Stmt := top 37
theorem sc_side_tables : FnScope ["plan", "other", "right", "above"] ["plan", "other"] (defScope s_side_tables) := ⟨rfl, rfl, rfl, by decide +kernel, rfl, by decide +kernel, by decide +kernel⟩
abbrev s_PairSearch__first_direction : Stmt := inClass (top 30) 5
theorem sc_PairSearch__first_direction : FnScope ["self", "number", "a", "b", "c", "d"] ["self", "number"] (defScope s_PairSearch__first_direction) := ⟨rfl, rfl, rfl, by decide +kernel, rfl, by decide +kernel, by decide +kernel⟩
abbrev s_WalkTable_size : Stmt := inClass (top 26) 2
theorem sc_WalkTable_size : FnScope ["self"] ["self"] (defScope s_WalkTable_size) := ⟨rfl, rfl, rfl, by decide +kernel, rfl, by decide +kernel, by decide +kernel⟩
abbrev s_WalkTable___mul__ : Stmt := inClass (top 26) 7
theorem sc_WalkTable___mul__ : FnScope ["self", "other", "ends", "marks", "there", "mark"] ["self", "other"] (defScope s_WalkTable___mul__) := ⟨rfl, rfl, rfl, by decide +kernel, rfl, by decide +kernel, by decide +kernel⟩
abbrev s_PairSearch__visit : Stmt := inClass (top 30) 6
theorem sc_PairSearch__visit : FnScope ["self", "number", "first", "second", "table", "joined", "flat_neighbor", "steep_neighbor", "direction", "flat", "steep"] ["self", "number"] (defScope s_PairSearch__visit) := ⟨rfl, rfl, rfl, by decide +kernel, rfl, by decide +kernel, by decide +kernel⟩
abbrev s_PairSearch_asked : Stmt := inClass (top 30) 1
theorem sc_PairSearch_asked : GScope ["self", "limit", "first", "second", "number"] ["self", "limit"] (defScope s_PairSearch_asked) := ⟨rfl, rfl, rfl, by decide +kernel, rfl, by decide +kernel, by decide +kernel⟩
abbrev s_ring_from : Stmt := top 33
theorem sc_ring_from : FnScope ["start", "ends", "members", "room"] ["start", "ends"] (defScope s_ring_from) := ⟨rfl, rfl, rfl, by decide +kernel, rfl, by decide +kernel, by decide +kernel⟩
abbrev s_rooms_in : Stmt := top 25
theorem sc_rooms_in : FnScope ["mark", "room"] ["mark"] (defScope s_rooms_in) := ⟨rfl, rfl, rfl, by decide +kernel, rfl, by decide +kernel, by decide +kernel⟩
abbrev s_rings_of : Stmt := top 32
theorem sc_rings_of : FnScope ["table", "ends", "marks", "placed", "rings", "start", "members", "mark", "room"] ["table"] (defScope s_rings_of) := ⟨rfl, rfl, rfl, by decide +kernel, rfl, by decide +kernel, by decide +kernel⟩
abbrev s_rounds_of : Stmt := top 39
theorem sc_rounds_of : FnScope ["rings", "start", "rounds", "passed"] ["rings"] (defScope s_rounds_of) := ⟨rfl, rfl, rfl, by decide +kernel, rfl, by decide +kernel, by decide +kernel⟩
abbrev s_two_lists : Stmt := top 40
theorem sc_two_lists : FnScope ["table", "size", "rings", "first", "second", "ring"] ["table", "size"] (defScope s_two_lists) := ⟨rfl, rfl, rfl, by decide +kernel, rfl, by decide +kernel, by decide +kernel⟩
abbrev s_Plan_size : Stmt := inClass (top 23) 2
theorem sc_Plan_size : FnScope ["self"] ["self"] (defScope s_Plan_size) := ⟨rfl, rfl, rfl, by decide +kernel, rfl, by decide +kernel, by decide +kernel⟩
abbrev s_copied : Stmt := top 29
theorem sc_copied : FnScope ["entries"] ["entries"] (defScope s_copied) := ⟨rfl, rfl, rfl, by decide +kernel, rfl, by decide +kernel, by decide +kernel⟩
abbrev s_Comparison___init__ : Stmt := inClass (top 35) 0
theorem sc_Comparison___init__ : FnScope ["self", "certificate", "direction", "lists"] ["self", "certificate", "direction", "lists"] (defScope s_Comparison___init__) := ⟨rfl, rfl, rfl, by decide +kernel, rfl, by decide +kernel, by decide +kernel⟩
abbrev s_PairSearch_rows : Stmt := inClass (top 30) 2
theorem sc_PairSearch_rows : FnScope ["self", "forms", "table", "first", "second", "flat", "steep"] ["self"] (defScope s_PairSearch_rows) := ⟨rfl, rfl, rfl, by decide +kernel, rfl, by decide +kernel, by decide +kernel⟩
abbrev s_compare : Stmt := top 36
theorem sc_compare : FnScope ["plan", "other", "limit", "search", "direction", "table", "one", "two"] ["plan", "other", "limit"] (defScope s_compare) := ⟨rfl, rfl, rfl, by decide +kernel, rfl, by decide +kernel, by decide +kernel⟩
abbrev s_Comparison_alike : Stmt := inClass (top 35) 1
theorem sc_Comparison_alike : FnScope ["self"] ["self"] (defScope s_Comparison_alike) := ⟨rfl, rfl, rfl, by decide +kernel, rfl, by decide +kernel, by decide +kernel⟩
abbrev s_Comparison_direction : Stmt := inClass (top 35) 3
theorem sc_Comparison_direction : FnScope ["self"] ["self"] (defScope s_Comparison_direction) := ⟨rfl, rfl, rfl, by decide +kernel, rfl, by decide +kernel, by decide +kernel⟩
abbrev s_Comparison_lists : Stmt := inClass (top 35) 4
theorem sc_Comparison_lists : FnScope ["self"] ["self"] (defScope s_Comparison_lists) := ⟨rfl, rfl, rfl, by decide +kernel, rfl, by decide +kernel, by decide +kernel⟩
abbrev s_law_rings : Stmt := top 53
theorem sc_law_rings : FnScope ["_law_table", "_law_rings_here", "_law_done", "_law_size", "_law_first", "_law_room", "_law_rounds_here", "_law_mark", "_law_k"] ["_law_table"] (defScope s_law_rings) := ⟨rfl, rfl, rfl, by decide +kernel, rfl, by decide +kernel, by decide +kernel⟩
abbrev s_law_rounds : Stmt := top 58
theorem sc_law_rounds : FnScope ["_law_table", "_law_ring"] ["_law_table"] (defScope s_law_rounds) := ⟨rfl, rfl, rfl, by decide +kernel, rfl, by decide +kernel, by decide +kernel⟩
abbrev s_law_sides : Stmt := top 51
theorem sc_law_sides : FnScope ["_law_right", "_law_above", "_law_marks", "_law_room"] ["_law_right", "_law_above"] (defScope s_law_sides) := ⟨rfl, rfl, rfl, by decide +kernel, rfl, by decide +kernel, by decide +kernel⟩
abbrev s_law_join : Stmt := top 49
theorem sc_law_join : FnScope ["_law_one", "_law_two", "_law_ends", "_law_marks", "_law_room", "_law_k"] ["_law_one", "_law_two"] (defScope s_law_join) := ⟨rfl, rfl, rfl, by decide +kernel, rfl, by decide +kernel, by decide +kernel⟩
abbrev s_law_power : Stmt := top 50
theorem sc_law_power : FnScope ["_law_table", "_law_count", "_law_result", "_law_room"] ["_law_table", "_law_count"] (defScope s_law_power) := ⟨rfl, rfl, rfl, by decide +kernel, rfl, by decide +kernel, by decide +kernel⟩
abbrev s_law_round : Stmt := top 52
theorem sc_law_round : FnScope ["_law_right", "_law_above", "_law_p", "_law_q", "_law_first", "_law_second_here", "_law_count"] ["_law_right", "_law_above", "_law_p", "_law_q"] (defScope s_law_round) := ⟨rfl, rfl, rfl, by decide +kernel, rfl, by decide +kernel, by decide +kernel⟩
abbrev s_law_two_rounds : Stmt := top 59
theorem sc_law_two_rounds : FnScope ["_law_one", "_law_two", "_law_pair"] ["_law_one", "_law_two", "_law_pair"] (defScope s_law_two_rounds) := ⟨rfl, rfl, rfl, by decide +kernel, rfl, by decide +kernel, by decide +kernel⟩
abbrev s_Comparison_certificate : Stmt := inClass (top 35) 2
theorem sc_Comparison_certificate : FnScope ["self"] ["self"] (defScope s_Comparison_certificate) := ⟨rfl, rfl, rfl, by decide +kernel, rfl, by decide +kernel, by decide +kernel⟩
abbrev s_law_is_number : Stmt := top 46
theorem sc_law_is_number : FnScope ["_law_value"] ["_law_value"] (defScope s_law_is_number) := ⟨rfl, rfl, rfl, by decide +kernel, rfl, by decide +kernel, by decide +kernel⟩
abbrev s_law_is_direction : Stmt := top 48
theorem sc_law_is_direction : FnScope ["_law_found", "_law_number", "_law_common", "_law_rest"] ["_law_found"] (defScope s_law_is_direction) := ⟨rfl, rfl, rfl, by decide +kernel, rfl, by decide +kernel, by decide +kernel⟩
abbrev s_law_is_row : Stmt := top 47
theorem sc_law_is_row : FnScope ["_law_actual", "_law_expected", "_law_k"] ["_law_actual", "_law_expected"] (defScope s_law_is_row) := ⟨rfl, rfl, rfl, by decide +kernel, rfl, by decide +kernel, by decide +kernel⟩
abbrev s_law_is_lists : Stmt := top 61
theorem sc_law_is_lists : FnScope ["_law_found", "_law_expected"] ["_law_found", "_law_expected"] (defScope s_law_is_lists) := ⟨rfl, rfl, rfl, by decide +kernel, rfl, by decide +kernel, by decide +kernel⟩
abbrev s_law_level : Stmt := top 54
theorem sc_law_level : FnScope ["_law_p", "_law_q", "_law_total", "_law_count"] ["_law_p", "_law_q"] (defScope s_law_level) := ⟨rfl, rfl, rfl, by decide +kernel, rfl, by decide +kernel, by decide +kernel⟩
abbrev s_law_before : Stmt := top 55
theorem sc_law_before : FnScope ["_law_one", "_law_two", "_law_first", "_law_second_here"] ["_law_one", "_law_two"] (defScope s_law_before) := ⟨rfl, rfl, rfl, by decide +kernel, rfl, by decide +kernel, by decide +kernel⟩
abbrev s_law_fits : Stmt := top 62
theorem sc_law_fits : FnScope ["_law_one", "_law_two", "_law_found", "_law_pair", "_law_there"] ["_law_one", "_law_two", "_law_found", "_law_pair"] (defScope s_law_fits) := ⟨rfl, rfl, rfl, by decide +kernel, rfl, by decide +kernel, by decide +kernel⟩
abbrev s_law_wide : Stmt := top 63
theorem sc_law_wide : FnScope ["_law_lists", "_law_size", "_law_sides_here", "_law_side", "_law_k"] ["_law_lists"] (defScope s_law_wide) := ⟨rfl, rfl, rfl, by decide +kernel, rfl, by decide +kernel, by decide +kernel⟩
abbrev s_law : Stmt := top 64
theorem sc_law : FnScope ["_law_script", "_law_kind", "_law_one", "_law_two", "_law_p", "_law_q", "_law_pair", "_law_plan_here", "_law_other", "_law_found", "_law_back", "_law_wide_here"] ["_law_script"] (defScope s_law) := ⟨rfl, rfl, rfl, by decide +kernel, rfl, by decide +kernel, by decide +kernel⟩
set_option genInjectivity false in
set_option genSizeOf false in
set_option genSizeOfSpec false in
structure Txt (K : PySem.W.Frag) (mg : Str → Option Value) where
  a_Plan : Addr
  cl_Plan : Cls K a_Plan
  g_Plan : mg "Plan" = some (.ref a_Plan)
  a_PairSearch : Addr
  cl_PairSearch : Cls K a_PairSearch
  g_PairSearch : mg "PairSearch" = some (.ref a_PairSearch)
  a_WalkTable : Addr
  cl_WalkTable : Cls K a_WalkTable
  g_WalkTable : mg "WalkTable" = some (.ref a_WalkTable)
  a_Comparison : Addr
  cl_Comparison : Cls K a_Comparison
  g_Comparison : mg "Comparison" = some (.ref a_Comparison)
  nf_Plan__right : NoAttr K a_Plan "_right"
  nf_Plan__above : NoAttr K a_Plan "_above"
  nf_PairSearch__tables : NoAttr K a_PairSearch "_tables"
  nf_PairSearch__table_numbers : NoAttr K a_PairSearch "_table_numbers"
  nf_PairSearch__pairs : NoAttr K a_PairSearch "_pairs"
  nf_PairSearch__pair_numbers : NoAttr K a_PairSearch "_pair_numbers"
  nf_PairSearch__neighbors : NoAttr K a_PairSearch "_neighbors"
  nf_PairSearch__children : NoAttr K a_PairSearch "_children"
  nf_PairSearch__from_the_sides : NoAttr K a_PairSearch "_from_the_sides"
  nf_WalkTable__ends : NoAttr K a_WalkTable "_ends"
  nf_WalkTable__marks : NoAttr K a_WalkTable "_marks"
  nf_Comparison__certificate : NoAttr K a_Comparison "_certificate"
  nf_Comparison__direction : NoAttr K a_Comparison "_direction"
  nf_Comparison__lists : NoAttr K a_Comparison "_lists"
  rd_Plan : ClX.CRead K a_Plan (.type "type")
  sf_WalkTable : PySem.W.selfFirst K a_WalkTable = true
  tv_Plan_MOST_ROOMS : Tok
  cv_Plan_MOST_ROOMS : ClX.CVal K a_Plan (.type "type") "MOST_ROOMS" (.int (100)) (.int (100) tv_Plan_MOST_ROOMS)
  a_law_cell : Addr
  d_law_cell : FuncData
  F_law_cell : Fun K "_law_cell" "_law_cell" s_law_cell a_law_cell d_law_cell
  b_law_cell : Binds K d_law_cell ["_law_script", "_law_k"] []
  g_law_cell : mg "_law_cell" = some (.ref a_law_cell)
  a_law_row : Addr
  d_law_row : FuncData
  F_law_row : Fun K "_law_row" "_law_row" s_law_row a_law_row d_law_row
  b_law_row : Binds K d_law_row ["_law_cell_here", "_law_count"] []
  g_law_row : mg "_law_row" = some (.ref a_law_row)
  a_law_order : Addr
  d_law_order : FuncData
  F_law_order : Fun K "_law_order" "_law_order" s_law_order a_law_order d_law_order
  b_law_order : Binds K d_law_order ["_law_cell_here", "_law_size"] []
  g_law_order : mg "_law_order" = some (.ref a_law_order)
  a_law_moved : Addr
  d_law_moved : FuncData
  F_law_moved : Fun K "_law_moved" "_law_moved" s_law_moved a_law_moved d_law_moved
  b_law_moved : Binds K d_law_moved ["_law_lists", "_law_numbers"] []
  g_law_moved : mg "_law_moved" = some (.ref a_law_moved)
  a_law_plan : Addr
  d_law_plan : FuncData
  F_law_plan : Fun K "_law_plan" "_law_plan" s_law_plan a_law_plan d_law_plan
  b_law_plan : Binds K d_law_plan ["_law_one", "_law_two", "_law_three"] []
  g_law_plan : mg "_law_plan" = some (.ref a_law_plan)
  a_law_second : Addr
  d_law_second : FuncData
  F_law_second : Fun K "_law_second" "_law_second" s_law_second a_law_second d_law_second
  b_law_second : Binds K d_law_second ["_law_script", "_law_lists"] []
  g_law_second : mg "_law_second" = some (.ref a_law_second)
  a_law_direction : Addr
  d_law_direction : FuncData
  F_law_direction : Fun K "_law_direction" "_law_direction" s_law_direction a_law_direction d_law_direction
  b_law_direction : Binds K d_law_direction ["_law_one", "_law_two", "_law_least"] []
  g_law_direction : mg "_law_direction" = some (.ref a_law_direction)
  a_is_order : Addr
  d_is_order : FuncData
  F_is_order : Fun K "is_order" "is_order" s_is_order a_is_order d_is_order
  b_is_order : Binds K d_is_order ["rooms", "size"] []
  g_is_order : mg "is_order" = some (.ref a_is_order)
  a_Plan___init__ : Addr
  d_Plan___init__ : FuncData
  F_Plan___init__ : Fun K "__init__" "Plan.__init__" s_Plan___init__ a_Plan___init__ d_Plan___init__
  b_Plan___init__ : Binds K d_Plan___init__ ["self", "right", "above"] []
  M_Plan___init__ : Mk K a_Plan a_Plan___init__
  a_PairSearch__number_of : Addr
  d_PairSearch__number_of : FuncData
  F_PairSearch__number_of : Fun K "_number_of" "PairSearch._number_of" s_PairSearch__number_of a_PairSearch__number_of d_PairSearch__number_of
  b_PairSearch__number_of : Binds K d_PairSearch__number_of ["self", "pair", "beside"] []
  M_PairSearch__number_of : Meth K a_PairSearch "_number_of" a_PairSearch__number_of
  a_WalkTable_form : Addr
  d_WalkTable_form : FuncData
  F_WalkTable_form : Fun K "form" "WalkTable.form" s_WalkTable_form a_WalkTable_form d_WalkTable_form
  b_WalkTable_form : Binds K d_WalkTable_form ["self"] []
  p_WalkTable_form : Addr
  M_WalkTable_form : PropOf K a_WalkTable "form" p_WalkTable_form a_WalkTable_form
  a_PairSearch__table_number : Addr
  d_PairSearch__table_number : FuncData
  F_PairSearch__table_number : Fun K "_table_number" "PairSearch._table_number" s_PairSearch__table_number a_PairSearch__table_number d_PairSearch__table_number
  b_PairSearch__table_number : Binds K d_PairSearch__table_number ["self", "table"] []
  M_PairSearch__table_number : Meth K a_PairSearch "_table_number" a_PairSearch__table_number
  a_neighbors_after : Addr
  d_neighbors_after : FuncData
  F_neighbors_after : Fun K "_neighbors_after" "_neighbors_after" s_neighbors_after a_neighbors_after d_neighbors_after
  b_neighbors_after : Binds K d_neighbors_after ["runs"] []
  g_neighbors_after : mg "_neighbors_after" = some (.ref a_neighbors_after)
  a_check_direction : Addr
  d_check_direction : FuncData
  F_check_direction : Fun K "check_direction" "check_direction" s_check_direction a_check_direction d_check_direction
  b_check_direction : Binds K d_check_direction ["p", "q"] []
  g_check_direction : mg "check_direction" = some (.ref a_check_direction)
  a_check_in_tree : Addr
  d_check_in_tree : FuncData
  F_check_in_tree : Fun K "check_in_tree" "check_in_tree" s_check_in_tree a_check_in_tree d_check_in_tree
  b_check_in_tree : Binds K d_check_in_tree ["p", "q"] []
  g_check_in_tree : mg "check_in_tree" = some (.ref a_check_in_tree)
  a_steps : Addr
  d_steps : FuncData
  F_steps : Fun K "steps" "steps" s_steps a_steps d_steps
  b_steps : Binds K d_steps ["p", "q"] []
  g_steps : mg "steps" = some (.ref a_steps)
  a_neighbors : Addr
  d_neighbors : FuncData
  F_neighbors : Fun K "neighbors" "neighbors" s_neighbors a_neighbors d_neighbors
  b_neighbors : Binds K d_neighbors ["p", "q"] []
  g_neighbors : mg "neighbors" = some (.ref a_neighbors)
  a_PairSearch___init__ : Addr
  d_PairSearch___init__ : FuncData
  F_PairSearch___init__ : Fun K "__init__" "PairSearch.__init__" s_PairSearch___init__ a_PairSearch___init__ d_PairSearch___init__
  b_PairSearch___init__ : Binds K d_PairSearch___init__ ["self", "pair", "under"] []
  M_PairSearch___init__ : Mk K a_PairSearch a_PairSearch___init__
  a_side_by_side : Addr
  d_side_by_side : FuncData
  F_side_by_side : Fun K "side_by_side" "side_by_side" s_side_by_side a_side_by_side d_side_by_side
  b_side_by_side : Binds K d_side_by_side ["one", "two"] []
  g_side_by_side : mg "side_by_side" = some (.ref a_side_by_side)
  a_Plan_right : Addr
  d_Plan_right : FuncData
  F_Plan_right : Fun K "right" "Plan.right" s_Plan_right a_Plan_right d_Plan_right
  b_Plan_right : Binds K d_Plan_right ["self"] []
  p_Plan_right : Addr
  M_Plan_right : PropOf K a_Plan "right" p_Plan_right a_Plan_right
  a_Plan_above : Addr
  d_Plan_above : FuncData
  F_Plan_above : Fun K "above" "Plan.above" s_Plan_above a_Plan_above d_Plan_above
  b_Plan_above : Binds K d_Plan_above ["self"] []
  p_Plan_above : Addr
  M_Plan_above : PropOf K a_Plan "above" p_Plan_above a_Plan_above
  a_WalkTable___init__ : Addr
  d_WalkTable___init__ : FuncData
  F_WalkTable___init__ : Fun K "__init__" "WalkTable.__init__" s_WalkTable___init__ a_WalkTable___init__ d_WalkTable___init__
  b_WalkTable___init__ : Binds K d_WalkTable___init__ ["self", "ends", "marks"] []
  M_WalkTable___init__ : Mk K a_WalkTable a_WalkTable___init__
  a_without_marks : Addr
  d_without_marks : FuncData
  F_without_marks : Fun K "_without_marks" "_without_marks" s_without_marks a_without_marks d_without_marks
  b_without_marks : Binds K d_without_marks ["ends"] []
  g_without_marks : mg "_without_marks" = some (.ref a_without_marks)
  a_side_tables : Addr
  d_side_tables : FuncData
  F_side_tables : Fun K "_side_tables" "_side_tables" s_side_tables a_side_tables d_side_tables
  b_side_tables : Binds K d_side_tables ["plan", "other"] []
  g_side_tables : mg "_side_tables" = some (.ref a_side_tables)
  a_PairSearch__first_direction : Addr
  d_PairSearch__first_direction : FuncData
  F_PairSearch__first_direction : Fun K "_first_direction" "PairSearch._first_direction" s_PairSearch__first_direction a_PairSearch__first_direction d_PairSearch__first_direction
  b_PairSearch__first_direction : Binds K d_PairSearch__first_direction ["self", "number"] []
  M_PairSearch__first_direction : Meth K a_PairSearch "_first_direction" a_PairSearch__first_direction
  a_WalkTable_size : Addr
  d_WalkTable_size : FuncData
  F_WalkTable_size : Fun K "size" "WalkTable.size" s_WalkTable_size a_WalkTable_size d_WalkTable_size
  b_WalkTable_size : Binds K d_WalkTable_size ["self"] []
  p_WalkTable_size : Addr
  M_WalkTable_size : PropOf K a_WalkTable "size" p_WalkTable_size a_WalkTable_size
  a_WalkTable___mul__ : Addr
  d_WalkTable___mul__ : FuncData
  F_WalkTable___mul__ : Fun K "__mul__" "WalkTable.__mul__" s_WalkTable___mul__ a_WalkTable___mul__ d_WalkTable___mul__
  b_WalkTable___mul__ : Binds K d_WalkTable___mul__ ["self", "other"] []
  M_WalkTable___mul__ : Meth K a_WalkTable "__mul__" a_WalkTable___mul__
  a_PairSearch__visit : Addr
  d_PairSearch__visit : FuncData
  F_PairSearch__visit : Fun K "_visit" "PairSearch._visit" s_PairSearch__visit a_PairSearch__visit d_PairSearch__visit
  b_PairSearch__visit : Binds K d_PairSearch__visit ["self", "number"] []
  M_PairSearch__visit : Meth K a_PairSearch "_visit" a_PairSearch__visit
  a_PairSearch_asked : Addr
  d_PairSearch_asked : FuncData
  F_PairSearch_asked : Fun K "asked" "PairSearch.asked" s_PairSearch_asked a_PairSearch_asked d_PairSearch_asked
  b_PairSearch_asked : Binds K d_PairSearch_asked ["self", "limit"] []
  M_PairSearch_asked : Meth K a_PairSearch "asked" a_PairSearch_asked
  a_ring_from : Addr
  d_ring_from : FuncData
  F_ring_from : Fun K "_ring_from" "_ring_from" s_ring_from a_ring_from d_ring_from
  b_ring_from : Binds K d_ring_from ["start", "ends"] []
  g_ring_from : mg "_ring_from" = some (.ref a_ring_from)
  a_rooms_in : Addr
  d_rooms_in : FuncData
  F_rooms_in : Fun K "rooms_in" "rooms_in" s_rooms_in a_rooms_in d_rooms_in
  b_rooms_in : Binds K d_rooms_in ["mark"] []
  g_rooms_in : mg "rooms_in" = some (.ref a_rooms_in)
  a_rings_of : Addr
  d_rings_of : FuncData
  F_rings_of : Fun K "rings_of" "rings_of" s_rings_of a_rings_of d_rings_of
  b_rings_of : Binds K d_rings_of ["table"] []
  g_rings_of : mg "rings_of" = some (.ref a_rings_of)
  a_rounds_of : Addr
  d_rounds_of : FuncData
  F_rounds_of : Fun K "_rounds_of" "_rounds_of" s_rounds_of a_rounds_of d_rounds_of
  b_rounds_of : Binds K d_rounds_of ["rings"] []
  g_rounds_of : mg "_rounds_of" = some (.ref a_rounds_of)
  a_two_lists : Addr
  d_two_lists : FuncData
  F_two_lists : Fun K "_two_lists" "_two_lists" s_two_lists a_two_lists d_two_lists
  b_two_lists : Binds K d_two_lists ["table", "size"] []
  g_two_lists : mg "_two_lists" = some (.ref a_two_lists)
  a_Plan_size : Addr
  d_Plan_size : FuncData
  F_Plan_size : Fun K "size" "Plan.size" s_Plan_size a_Plan_size d_Plan_size
  b_Plan_size : Binds K d_Plan_size ["self"] []
  p_Plan_size : Addr
  M_Plan_size : PropOf K a_Plan "size" p_Plan_size a_Plan_size
  a_copied : Addr
  d_copied : FuncData
  F_copied : Fun K "copied" "copied" s_copied a_copied d_copied
  b_copied : Binds K d_copied ["entries"] []
  g_copied : mg "copied" = some (.ref a_copied)
  a_Comparison___init__ : Addr
  d_Comparison___init__ : FuncData
  F_Comparison___init__ : Fun K "__init__" "Comparison.__init__" s_Comparison___init__ a_Comparison___init__ d_Comparison___init__
  b_Comparison___init__ : Binds K d_Comparison___init__ ["self", "certificate", "direction", "lists"] []
  M_Comparison___init__ : Mk K a_Comparison a_Comparison___init__
  a_PairSearch_rows : Addr
  d_PairSearch_rows : FuncData
  F_PairSearch_rows : Fun K "rows" "PairSearch.rows" s_PairSearch_rows a_PairSearch_rows d_PairSearch_rows
  b_PairSearch_rows : Binds K d_PairSearch_rows ["self"] []
  M_PairSearch_rows : Meth K a_PairSearch "rows" a_PairSearch_rows
  a_compare : Addr
  d_compare : FuncData
  F_compare : FunD K "compare" "compare" (defArgs s_compare) (defBody s_compare) (defScope s_compare) [] [("limit", .int 200000)] a_compare d_compare
  b_compare : ∃ ds, Vals [.int 200000] ds ∧ Binds K d_compare ["plan", "other", "limit"] ds
  g_compare : mg "compare" = some (.ref a_compare)
  a_Comparison_alike : Addr
  d_Comparison_alike : FuncData
  F_Comparison_alike : Fun K "alike" "Comparison.alike" s_Comparison_alike a_Comparison_alike d_Comparison_alike
  b_Comparison_alike : Binds K d_Comparison_alike ["self"] []
  p_Comparison_alike : Addr
  M_Comparison_alike : PropOf K a_Comparison "alike" p_Comparison_alike a_Comparison_alike
  a_Comparison_direction : Addr
  d_Comparison_direction : FuncData
  F_Comparison_direction : Fun K "direction" "Comparison.direction" s_Comparison_direction a_Comparison_direction d_Comparison_direction
  b_Comparison_direction : Binds K d_Comparison_direction ["self"] []
  p_Comparison_direction : Addr
  M_Comparison_direction : PropOf K a_Comparison "direction" p_Comparison_direction a_Comparison_direction
  a_Comparison_lists : Addr
  d_Comparison_lists : FuncData
  F_Comparison_lists : Fun K "lists" "Comparison.lists" s_Comparison_lists a_Comparison_lists d_Comparison_lists
  b_Comparison_lists : Binds K d_Comparison_lists ["self"] []
  p_Comparison_lists : Addr
  M_Comparison_lists : PropOf K a_Comparison "lists" p_Comparison_lists a_Comparison_lists
  a_law_rings : Addr
  d_law_rings : FuncData
  F_law_rings : Fun K "_law_rings" "_law_rings" s_law_rings a_law_rings d_law_rings
  b_law_rings : Binds K d_law_rings ["_law_table"] []
  g_law_rings : mg "_law_rings" = some (.ref a_law_rings)
  a_law_rounds : Addr
  d_law_rounds : FuncData
  F_law_rounds : Fun K "_law_rounds" "_law_rounds" s_law_rounds a_law_rounds d_law_rounds
  b_law_rounds : Binds K d_law_rounds ["_law_table"] []
  g_law_rounds : mg "_law_rounds" = some (.ref a_law_rounds)
  a_law_sides : Addr
  d_law_sides : FuncData
  F_law_sides : Fun K "_law_sides" "_law_sides" s_law_sides a_law_sides d_law_sides
  b_law_sides : Binds K d_law_sides ["_law_right", "_law_above"] []
  g_law_sides : mg "_law_sides" = some (.ref a_law_sides)
  a_law_join : Addr
  d_law_join : FuncData
  F_law_join : Fun K "_law_join" "_law_join" s_law_join a_law_join d_law_join
  b_law_join : Binds K d_law_join ["_law_one", "_law_two"] []
  g_law_join : mg "_law_join" = some (.ref a_law_join)
  a_law_power : Addr
  d_law_power : FuncData
  F_law_power : Fun K "_law_power" "_law_power" s_law_power a_law_power d_law_power
  b_law_power : Binds K d_law_power ["_law_table", "_law_count"] []
  g_law_power : mg "_law_power" = some (.ref a_law_power)
  a_law_round : Addr
  d_law_round : FuncData
  F_law_round : Fun K "_law_round" "_law_round" s_law_round a_law_round d_law_round
  b_law_round : Binds K d_law_round ["_law_right", "_law_above", "_law_p", "_law_q"] []
  g_law_round : mg "_law_round" = some (.ref a_law_round)
  a_law_two_rounds : Addr
  d_law_two_rounds : FuncData
  F_law_two_rounds : Fun K "_law_two_rounds" "_law_two_rounds" s_law_two_rounds a_law_two_rounds d_law_two_rounds
  b_law_two_rounds : Binds K d_law_two_rounds ["_law_one", "_law_two", "_law_pair"] []
  g_law_two_rounds : mg "_law_two_rounds" = some (.ref a_law_two_rounds)
  a_Comparison_certificate : Addr
  d_Comparison_certificate : FuncData
  F_Comparison_certificate : Fun K "certificate" "Comparison.certificate" s_Comparison_certificate a_Comparison_certificate d_Comparison_certificate
  b_Comparison_certificate : Binds K d_Comparison_certificate ["self"] []
  p_Comparison_certificate : Addr
  M_Comparison_certificate : PropOf K a_Comparison "certificate" p_Comparison_certificate a_Comparison_certificate
  a_law_is_number : Addr
  d_law_is_number : FuncData
  F_law_is_number : Fun K "_law_is_number" "_law_is_number" s_law_is_number a_law_is_number d_law_is_number
  b_law_is_number : Binds K d_law_is_number ["_law_value"] []
  g_law_is_number : mg "_law_is_number" = some (.ref a_law_is_number)
  a_law_is_direction : Addr
  d_law_is_direction : FuncData
  F_law_is_direction : Fun K "_law_is_direction" "_law_is_direction" s_law_is_direction a_law_is_direction d_law_is_direction
  b_law_is_direction : Binds K d_law_is_direction ["_law_found"] []
  g_law_is_direction : mg "_law_is_direction" = some (.ref a_law_is_direction)
  a_law_is_row : Addr
  d_law_is_row : FuncData
  F_law_is_row : Fun K "_law_is_row" "_law_is_row" s_law_is_row a_law_is_row d_law_is_row
  b_law_is_row : Binds K d_law_is_row ["_law_actual", "_law_expected"] []
  g_law_is_row : mg "_law_is_row" = some (.ref a_law_is_row)
  a_law_is_lists : Addr
  d_law_is_lists : FuncData
  F_law_is_lists : Fun K "_law_is_lists" "_law_is_lists" s_law_is_lists a_law_is_lists d_law_is_lists
  b_law_is_lists : Binds K d_law_is_lists ["_law_found", "_law_expected"] []
  g_law_is_lists : mg "_law_is_lists" = some (.ref a_law_is_lists)
  a_law_level : Addr
  d_law_level : FuncData
  F_law_level : Fun K "_law_level" "_law_level" s_law_level a_law_level d_law_level
  b_law_level : Binds K d_law_level ["_law_p", "_law_q"] []
  g_law_level : mg "_law_level" = some (.ref a_law_level)
  a_law_before : Addr
  d_law_before : FuncData
  F_law_before : Fun K "_law_before" "_law_before" s_law_before a_law_before d_law_before
  b_law_before : Binds K d_law_before ["_law_one", "_law_two"] []
  g_law_before : mg "_law_before" = some (.ref a_law_before)
  a_law_fits : Addr
  d_law_fits : FuncData
  F_law_fits : Fun K "_law_fits" "_law_fits" s_law_fits a_law_fits d_law_fits
  b_law_fits : Binds K d_law_fits ["_law_one", "_law_two", "_law_found", "_law_pair"] []
  g_law_fits : mg "_law_fits" = some (.ref a_law_fits)
  a_law_wide : Addr
  d_law_wide : FuncData
  F_law_wide : Fun K "_law_wide" "_law_wide" s_law_wide a_law_wide d_law_wide
  b_law_wide : Binds K d_law_wide ["_law_lists"] []
  g_law_wide : mg "_law_wide" = some (.ref a_law_wide)
  a_law : Addr
  d_law : FuncData
  F_law : Fun K "law" "law" s_law a_law d_law
  b_law : Binds K d_law ["_law_script"] []
  g_law : mg "law" = some (.ref a_law)
  m_bool : mg "bool" = none
  m_gcd : mg "gcd" = some (.builtin "math.gcd")
  m_int : mg "int" = none
  m_isinstance : mg "isinstance" = none
  m_len : mg "len" = none
  m_list : mg "list" = none
  m_max : mg "max" = none
  m_range : mg "range" = none
  m_set : mg "set" = none
  m_sorted : mg "sorted" = none
  m_tuple : mg "tuple" = none
  m_zip : mg "zip" = none
  t_FLAT : Tok
  c_FLAT : mg "FLAT" = some (.str "flat" t_FLAT)
  t_STEEP : Tok
  c_STEEP : mg "STEEP" = some (.str "steep" t_STEEP)
section
variable {Pg : Program} {w : World} {K : PySem.W.Frag} {mg : Str → Option Value} {base : Heap}
abbrev Idx_PairSearch := Addr × Addr × Addr × Addr × Addr × Addr × Addr × Addr
abbrev E_PairSearch (Pg : Program) (w : World) (T : Txt K mg) (i : Idx_PairSearch) (z : St_PairSearch) : List Cell :=
  [.ins i.1 i.2.1 T.a_PairSearch ["_tables", "_table_numbers", "_pairs", "_pair_numbers", "_neighbors", "_children", "_from_the_sides"] (aSnoc (aSnoc (aSnoc (aSnoc (aSnoc (aSnoc (aSnoc aN (tAt i.2.2.1)) (tAt i.2.2.2.1)) (tAt i.2.2.2.2.1)) (tAt i.2.2.2.2.2.1)) (tAt i.2.2.2.2.2.2.1)) (tAt i.2.2.2.2.2.2.2)) tB) ((((((((), ()), ()), ()), ()), ()), ()), z.2.2.2.2.2.2), .lst i.2.2.1 (tC T.a_WalkTable ["_ends", "_marks"] (a2 (tT K (aV tI)) (tT K (aV tI)))) z.1, .gen i.2.2.2.1 (dctR Pg w K (tT K (a2 (tT K (aV tI)) (tT K (aV tI)))) i.2.2.2.1 z.2.1), .lst i.2.2.2.2.1 (tT K (a2 tI tI)) z.2.2.1, .gen i.2.2.2.2.2.1 (dctR Pg w K (tT K (a2 tI tI)) i.2.2.2.2.2.1 z.2.2.2.1), .lst i.2.2.2.2.2.2.1 (tT K (a2 (tT K (a2 tI tI)) (tT K (a2 tI tI)))) z.2.2.2.2.1, .lst i.2.2.2.2.2.2.2 (tT K (a2 tI tI)) z.2.2.2.2.2.1]
theorem ok_law_cell (T : Txt K mg) : FnOk Pg w K mg base CX0 1 T.a_law_cell T.d_law_cell ["_law_script", "_law_k"] (spJ (aC (tL K tI) (aC tI aN)) (rO tI) fun t => w_law_cell t.1 t.2.1) := by
  refine T.F_law_cell.ok sc_law_cell (fun vs H Q E h => ?_) (fun cdv A outer s H vs Q E hr h => ?_)
  · obtain ⟨t, P, F, rfl, ⟨v0, _, rfl, r0, v1, _, rfl, r1, e0⟩, _⟩ := h
    have e1 := (e0 : _ = [])
    subst e1
    rfl
  · obtain ⟨⟨x0, x1, _⟩, P, F, rfl, ⟨v0, _, rfl, r0, v1, _, rfl, r1, e0⟩, hw, hrt⟩ := h
    have e1 := (e0 : _ = [])
    subst e1
    have sc := sc_law_cell
    exact ⟨_, (show JSs _ F ⟨[sv (tL K tI) x0, sv tI x1], []⟩ _ ⟨fun _ H' => Q .non H', Q, fun _ _ => False, fun _ _ => False⟩ _ from
      (js_ifX (jt_lt (je_var (i := 1) (A := tI) (a := x1) rfl) (je_lenL (by rfl) T.m_len (je_ebL (je_eL (je_var (i := 0) (A := (tL K tI)) (a := x0) rfl))))) (js_ret hrt (je_ixL (je_eL (je_var (i := 0) (A := (tL K tI)) (a := x0) rfl)) (je_var (i := 1) (A := tI) (a := x1) rfl))) (js_ret hrt je_int))), ⟨Le.refl _, ⟨Same.refl _, (Par.cons ⟨v0, rfl, J.fr_in r0⟩ (Par.cons ⟨v1, rfl, J.fr_in r1⟩ Par.nil)), List.nodup_nil, fun c hc => by cases hc⟩, hw⟩⟩
theorem ok_law_row (T : Txt K mg) : FnOk Pg w K mg base CX0 1 T.a_law_row T.d_law_row ["_law_cell_here", "_law_count"] (spJ (aC tI (aC tI aN)) (rN tI) fun t => w_law_row t.1 t.2.1) := by
  refine T.F_law_row.ok sc_law_row (fun vs H Q E h => ?_) (fun cdv A outer s H vs Q E hr h => ?_)
  · obtain ⟨t, P, F, rfl, ⟨v0, _, rfl, r0, v1, _, rfl, r1, e0⟩, _⟩ := h
    have e1 := (e0 : _ = [])
    subst e1
    rfl
  · obtain ⟨⟨x0, x1, _⟩, P, F, rfl, ⟨v0, _, rfl, r0, v1, _, rfl, r1, e0⟩, hw, hrt⟩ := h
    have e1 := (e0 : _ = [])
    subst e1
    have sc := sc_law_row
    exact ⟨_, (show JSs _ F ⟨[sv tI x0, sv tI x1, .any, .any, .any, .any], []⟩ _ ⟨fun _ H' => Q .non H', Q, fun _ _ => False, fun _ _ => False⟩ _ from
      (js_stN (i := 2) (ps_set (i := 2) sc.nd rfl (by first | exact Or.inl rfl | exact Or.inr rfl) (je_lst0 (A := tI)) rfl (by first | exact .inl rfl | exact .inr rfl)) (fun p33 row_here_32 => (js_asg (i := 3) (je_sub (je_var (i := 0) (A := tI) (a := x0) rfl) je_powL) (fun rest_34 => (js_forR (S := fun (s35 : Int × (List Int)) => ⟨[sv tI x0, sv tI x1, .at p33, sv tI s35.1, .any, .any], [.lst p33 tI s35.2]⟩) (s0 := (rest_34, row_here_32)) (by rfl) T.m_range (je_var (i := 1) (A := tI) (a := x1) rfl) ⟨(.same (.same (.same (.same (.any (.any .nil)))))), (.cons₂ _ .slnil)⟩ (pg_name (i := 4) sc.nd rfl (Or.inl rfl)) (tg_name) (fun nxt37 brk38 k_36 s35 => (js_if (jt_ge (je_var (i := 0) (A := tI) (a := x0) rfl) je_powL) (js_app (i := 2) (j := 0) (pe_bm PySem.F.plainAttrs_list PySem.F.slot_list_append PySem.F.type_list_append mt_append (pv 2) (pa_cons (je_modL (je_int1 (by rfl) T.m_int (je_var (i := 3) (A := tI) (a := s35.1) rfl))) pa_nil)) (fun y41 => (js_asg (i := 3) (je_fdivL (je_var (i := 3) (A := tI) (a := s35.1) rfl)) (fun rest_42 => (js_end (rest_42, (s35.2 ++ [y41])) ⟨(.same (.same (.same (.same (.any (.any .nil)))))), (.cons₂ _ .slnil)⟩)) sc.nd)) rfl rfl) (js_asg (i := 5) (je_modL (je_int1 (by rfl) T.m_int (je_add (je_mulL (je_var (i := 0) (A := tI) (a := x0) rfl)) (je_mulL (je_add (je_var (i := 4) (A := tI) (a := k_36) rfl) je_int))))) (fun mixed_44 => (js_asg (i := 5) (je_modL (je_int1 (by rfl) T.m_int (je_mul (je_var (i := 5) (A := tI) (a := mixed_44) rfl) (je_add (je_add (je_fdivL (je_var (i := 5) (A := tI) (a := mixed_44) rfl)) (je_mulR (je_var (i := 4) (A := tI) (a := k_36) rfl))) je_int)))) (fun mixed_45 => (js_app (i := 2) (j := 0) (pe_bm PySem.F.plainAttrs_list PySem.F.slot_list_append PySem.F.type_list_append mt_append (pv 2) (pa_cons (je_modL (je_fdivL (je_var (i := 5) (A := tI) (a := mixed_45) rfl))) pa_nil)) (fun y46 => (js_end (s35.1, (s35.2 ++ [y46])) ⟨(.same (.same (.same (.same (.any (.any .nil)))))), (.cons₂ _ .slnil)⟩)) rfl rfl)) sc.nd)) sc.nd))) (fun s35 => (js_retC (i := 2) (j := 0) hrt rfl rfl)) PassesOwn.never)) sc.nd)))), ⟨Le.refl _, ⟨Same.refl _, (Par.cons ⟨v0, rfl, J.fr_in r0⟩ (Par.cons ⟨v1, rfl, J.fr_in r1⟩ (Par.cons trivial (Par.cons trivial (Par.cons trivial (Par.cons trivial Par.nil)))))), List.nodup_nil, fun c hc => by cases hc⟩, hw⟩⟩
theorem ok_law_order (T : Txt K mg) : FnOk Pg w K mg base CX0 2 T.a_law_order T.d_law_order ["_law_cell_here", "_law_size"] (spJ (aC tI (aC tI aN)) (rN tI) fun t => w_law_order t.1 t.2.1) := by
  refine T.F_law_order.ok sc_law_order (fun vs H Q E h => ?_) (fun cdv A outer s H vs Q E hr h => ?_)
  · obtain ⟨t, P, F, rfl, ⟨v0, _, rfl, r0, v1, _, rfl, r1, e0⟩, _⟩ := h
    have e1 := (e0 : _ = [])
    subst e1
    rfl
  · obtain ⟨⟨x0, x1, _⟩, P, F, rfl, ⟨v0, _, rfl, r0, v1, _, rfl, r1, e0⟩, hw, hrt⟩ := h
    have e1 := (e0 : _ = [])
    subst e1
    have sc := sc_law_order
    exact ⟨_, (show JSs _ F ⟨[sv tI x0, sv tI x1, .any, .any, .any], []⟩ _ ⟨fun _ H' => Q .non H', Q, fun _ _ => False, fun _ _ => False⟩ _ from
      (js_stN (i := 2) (ps_set (i := 2) sc.nd rfl (by first | exact Or.inl rfl | exact Or.inr rfl) (je_listR (by rfl) T.m_list (by rfl) T.m_range (je_var (i := 1) (A := tI) (a := x1) rfl)) rfl (by first | exact .inl rfl | exact .inr rfl)) (fun p27 pool_26 => (js_stN (i := 3) (ps_set (i := 3) sc.nd rfl (by first | exact Or.inl rfl | exact Or.inr rfl) (je_lst0 (A := tI)) rfl (by first | exact .inl rfl | exact .inr rfl)) (fun p29 order_here_28 => (js_forL (A := tI) (S := fun v47 xs48 => fun (s49 : (List Int) × (List Int)) => ⟨[sv tI x0, sv tI x1, .at p27, .at p29, .any], [.fix (tK tI) v47 xs48, .lst p29 tI s49.1, .lst p27 tI s49.2]⟩) (s0 := (order_here_28, pool_26)) (j := 0) (je_new (je_call (ok_law_row T) (hr.mono (by decide)) (by rfl) T.g_law_row T.F_law_row.kp T.b_law_row (ja_cons (je_var (i := 0) (A := tI) (a := x0) rfl) (ja_cons (je_var (i := 1) (A := tI) (a := x1) rfl) ja_nil)))) (fun v47 xs48 => ⟨(.same (.same (.same (.same (.any .nil))))), (.cons₂ _ (.cons₂ _ (.cons₂ _ .slnil)))⟩) (fun v47 xs48 _ => rfl) (pg_name (i := 4) sc.nd rfl (Or.inl rfl)) (tg_name) (fun v47 xs48 nxt51 brk52 digit_50 s49 => (js_appPop (i := 3) (j := 1) (i2 := 2) (j2 := 2) (pe_bm PySem.F.plainAttrs_list PySem.F.slot_list_append PySem.F.type_list_append mt_append (pv 3) (pa_cons (pe_bm PySem.F.plainAttrs_list PySem.F.slot_list_pop PySem.F.type_list_pop mt_popAt (pv 2) (pa_cons (je_mod (je_int1 (by rfl) T.m_int (je_var (i := 4) (A := tI) (a := digit_50) rfl)) (je_lenL (by rfl) T.m_len (je_ebL (je_e (je_cell (i := 2) (j := 2) (p := p27) (A := tI) (xs := s49.2) rfl rfl))))) pa_nil)) pa_nil)) (fun y54 pool_55 => (js_end ((s49.1 ++ [y54]), pool_55) ⟨(.same (.same (.same (.same (.any .nil))))), (.cons₂ _ (.cons₂ _ (.cons₂ _ .slnil)))⟩)) rfl rfl rfl rfl (by decide))) (fun v47 xs48 s49 => (js_retC (i := 3) (j := 1) hrt rfl rfl)) PassesOwn.never)))))), ⟨Le.refl _, ⟨Same.refl _, (Par.cons ⟨v0, rfl, J.fr_in r0⟩ (Par.cons ⟨v1, rfl, J.fr_in r1⟩ (Par.cons trivial (Par.cons trivial (Par.cons trivial Par.nil))))), List.nodup_nil, fun c hc => by cases hc⟩, hw⟩⟩
theorem ok_law_moved (T : Txt K mg) : FnOk Pg w K mg base CX0 1 T.a_law_moved T.d_law_moved ["_law_lists", "_law_numbers"] (spJ (aC (tK (tK tI)) (aC (tK tI) aN)) (rN (tK tI)) fun t => w_law_moved t.1 t.2.1) := by
  refine T.F_law_moved.ok sc_law_moved (fun vs H Q E h => ?_) (fun cdv A outer s H vs Q E hr h => ?_)
  · obtain ⟨t, P, F, rfl, ⟨v0, _, rfl, r0, v1, _, rfl, r1, e0⟩, _⟩ := h
    have e1 := (e0 : _ = [])
    subst e1
    rfl
  · obtain ⟨⟨x0, x1, _⟩, P, F, rfl, ⟨v0, _, rfl, r0, v1, _, rfl, r1, e0⟩, hw, hrt⟩ := h
    have e1 := (e0 : _ = [])
    subst e1
    have sc := sc_law_moved
    exact ⟨_, (show JSs _ F ⟨[sv (tK (tK tI)) x0, sv (tK tI) x1, .any, .any, .any], []⟩ _ ⟨fun _ H' => Q .non H', Q, fun _ _ => False, fun _ _ => False⟩ _ from
      (js_mk2 (i := 2) (ps_set (i := 2) sc.nd rfl (by first | exact Or.inl rfl | exact Or.inr rfl) (pe_lst (pa_cons (je_comp (own := [("_law_room", 4)]) (B := tI) (ji_L (je_var (i := 1) (A := (tK tI)) (a := x1) rfl)) sc.nd (blkOk_by (N := ["_law_lists", "_law_numbers", "_law_moved_here", "_law_k", "_law_room"]) (sc := defScope s_law_moved) (by decide +kernel)) (tgw_name) (fun _ _ _ _ _ => (pg_name (i := 4) sc.nd rfl (Or.inl rfl))) (fun D74 acc75 room_76 _ _ _ _ _ => je_int)) (pa_cons (je_comp (own := [("_law_room", 4)]) (B := tI) (ji_L (je_var (i := 1) (A := (tK tI)) (a := x1) rfl)) sc.nd (blkOk_by (N := ["_law_lists", "_law_numbers", "_law_moved_here", "_law_k", "_law_room"]) (sc := defScope s_law_moved) (by decide +kernel)) (tgw_name) (fun _ _ _ _ _ => (pg_name (i := 4) sc.nd rfl (Or.inl rfl))) (fun D79 acc80 room_81 _ _ _ _ _ => je_int)) pa_nil))) rfl (by first | exact .inl rfl | exact .inr rfl)) (fun p84 p85 p86 moved_here_87 moved_here_88 => (js_forR (S := fun (s89 : (List Int) × (List Int)) => ⟨[sv (tK (tK tI)) x0, sv (tK tI) x1, .at p84, .any, .any], [.raw p84 (.lst [.ref p85, .ref p86]), .lst p86 tI s89.1, .lst p85 tI s89.2]⟩) (s0 := (moved_here_88, moved_here_87)) (by rfl) T.m_range (je_lenL (by rfl) T.m_len (je_ebL (je_e (je_eK (je_var (i := 1) (A := (tK tI)) (a := x1) rfl))))) ⟨(.same (.same (.same (.any (.any .nil))))), (.cons₂ _ (.cons₂ _ (.cons₂ _ .slnil)))⟩ (pg_name (i := 3) sc.nd rfl (Or.inl rfl)) (tg_name) (fun nxt91 brk92 k_90 s89 => (js_setOwn (p1 := p85) (j1 := 2) (ps_asg (je_ixL (je_e (je_eK (je_var (i := 1) (A := (tK tI)) (a := x1) rfl))) (je_ixL (je_e (je_eK (je_ixL (je_e (je_eK (je_var (i := 0) (A := (tK (tK tI))) (a := x0) rfl))) je_int))) (je_var (i := 3) (A := tI) (a := k_90) rfl))) (pg_sub (pe_own (i := 2) (j := 0) (m := 0) rfl rfl rfl) (je_ixL (je_e (je_eK (je_var (i := 1) (A := (tK tI)) (a := x1) rfl))) (je_var (i := 3) (A := tI) (a := k_90) rfl)) set_list)) (fun moved_here_98 => (js_setOwn (p1 := p86) (j1 := 1) (ps_asg (je_ixL (je_e (je_eK (je_var (i := 1) (A := (tK tI)) (a := x1) rfl))) (je_ixL (je_e (je_eK (je_ixL (je_e (je_eK (je_var (i := 0) (A := (tK (tK tI))) (a := x0) rfl))) je_int))) (je_var (i := 3) (A := tI) (a := k_90) rfl))) (pg_sub (pe_own (i := 2) (j := 0) (m := 1) rfl rfl rfl) (je_ixL (je_e (je_eK (je_var (i := 1) (A := (tK tI)) (a := x1) rfl))) (je_var (i := 3) (A := tI) (a := k_90) rfl)) set_list)) (fun moved_here_104 => (js_end (moved_here_104, moved_here_98) ⟨(.same (.same (.same (.any (.any .nil))))), (.cons₂ _ (.cons₂ _ (.cons₂ _ .slnil)))⟩)) rfl)) rfl)) (fun s89 => (js_ret2 (i := 2) (j := 0) (j1 := 2) (j2 := 1) hrt rfl rfl rfl rfl (by decide) (by decide))) PassesOwn.never)))), ⟨Le.refl _, ⟨Same.refl _, (Par.cons ⟨v0, rfl, J.fr_in r0⟩ (Par.cons ⟨v1, rfl, J.fr_in r1⟩ (Par.cons trivial (Par.cons trivial (Par.cons trivial Par.nil))))), List.nodup_nil, fun c hc => by cases hc⟩, hw⟩⟩
theorem ok_law_plan (T : Txt K mg) : FnOk Pg w K mg base CX0 3 T.a_law_plan T.d_law_plan ["_law_one", "_law_two", "_law_three"] (spJ (aC tI (aC tI (aC tI aN))) (rO (tK (tK tI))) fun t => w_law_plan t.1 t.2.1 t.2.2.1) := by
  refine T.F_law_plan.ok sc_law_plan (fun vs H Q E h => ?_) (fun cdv A outer s H vs Q E hr h => ?_)
  · obtain ⟨t, P, F, rfl, ⟨v0, _, rfl, r0, v1, _, rfl, r1, v2, _, rfl, r2, e0⟩, _⟩ := h
    have e1 := (e0 : _ = [])
    subst e1
    rfl
  · obtain ⟨⟨x0, x1, x2, _⟩, P, F, rfl, ⟨v0, _, rfl, r0, v1, _, rfl, r1, v2, _, rfl, r2, e0⟩, hw, hrt⟩ := h
    have e1 := (e0 : _ = [])
    subst e1
    have sc := sc_law_plan
    exact ⟨_, (show JSs _ F ⟨[sv tI x0, sv tI x1, sv tI x2, .any, .any, .any, .any, .any, .any, .any], []⟩ _ ⟨fun _ H' => Q .non H', Q, fun _ _ => False, fun _ _ => False⟩ _ from
      (js_asg (i := 3) (je_modL (je_int1 (by rfl) T.m_int (je_var (i := 0) (A := tI) (a := x0) rfl))) (fun kind_10 => (js_asg (i := 4) (je_add je_int (je_modL (je_fdivL (je_int1 (by rfl) T.m_int (je_var (i := 0) (A := tI) (a := x0) rfl))))) (fun size_11 => (js_ifX (jt_eqI (je_var (i := 3) (A := tI) (a := kind_10) rfl) je_int) (js_asg (i := 4) (je_add je_int (je_modL (je_fdivL (je_int1 (by rfl) T.m_int (je_var (i := 0) (A := tI) (a := x0) rfl))))) (fun size_13 => (js_ret hrt (je_new (je_lst (ja_consV (je_new (je_comp (own := [("_law_room", 8)]) (B := tI) (ji_R (by rfl) T.m_range (je_var (i := 4) (A := tI) (a := size_13) rfl)) sc.nd (blkOk_by (N := ["_law_one", "_law_two", "_law_three", "_law_kind", "_law_size", "_law_lists", "_law_many", "_law_side", "_law_room", "_law_k"]) (sc := defScope s_law_plan) (by decide +kernel)) (tgw_name) (fun _ _ _ _ _ => (pg_name (i := 8) sc.nd rfl (Or.inl rfl))) (fun D14 acc15 room_16 _ _ _ _ _ => (je_mod (je_int1 (by rfl) T.m_int (je_add (je_var (i := 8) (A := tI) (a := room_16) rfl) (je_var (i := 1) (A := tI) (a := x1) rfl))) (je_var (i := 4) (A := tI) (a := size_13) rfl))))) (ja_consV (je_new (je_comp (own := [("_law_room", 8)]) (B := tI) (ji_R (by rfl) T.m_range (je_var (i := 4) (A := tI) (a := size_13) rfl)) sc.nd (blkOk_by (N := ["_law_one", "_law_two", "_law_three", "_law_kind", "_law_size", "_law_lists", "_law_many", "_law_side", "_law_room", "_law_k"]) (sc := defScope s_law_plan) (by decide +kernel)) (tgw_name) (fun _ _ _ _ _ => (pg_name (i := 8) sc.nd rfl (Or.inl rfl))) (fun D19 acc20 room_21 _ _ _ _ _ => (je_mod (je_int1 (by rfl) T.m_int (je_add (je_var (i := 8) (A := tI) (a := room_21) rfl) (je_var (i := 2) (A := tI) (a := x2) rfl))) (je_var (i := 4) (A := tI) (a := size_13) rfl))))) (ja_nilV (A := (tK tI))))))))) sc.nd) (js_stF (i := 5) (ps_set (i := 5) sc.nd rfl (by first | exact Or.inl rfl | exact Or.inr rfl) (je_lst (ja_consV (je_new (je_call (ok_law_order T) (hr.mono (by decide)) (by rfl) T.g_law_order T.F_law_order.kp T.b_law_order (ja_cons (je_var (i := 1) (A := tI) (a := x1) rfl) (ja_cons (je_var (i := 4) (A := tI) (a := size_11) rfl) ja_nil)))) (ja_consV (je_new (je_call (ok_law_order T) (hr.mono (by decide)) (by rfl) T.g_law_order T.F_law_order.kp T.b_law_order (ja_cons (je_var (i := 2) (A := tI) (a := x2) rfl) (ja_cons (je_var (i := 4) (A := tI) (a := size_11) rfl) ja_nil)))) (ja_nilV (A := (tK tI)))))) rfl (by first | exact .inl rfl | exact .inr rfl)) (fun lists_57 => (js_ifJ (S := fun (s58 : (List (List Int))) => ⟨[sv tI x0, sv tI x1, sv tI x2, sv tI kind_10, sv tI size_11, sv (tK (tK tI)) s58, .any, .any, .any, .any], []⟩) (jt_eqI (je_var (i := 3) (A := tI) (a := kind_10) rfl) je_int) (fun (J59 : (List (List Int)) → Prop) => (js_asg (i := 6) (je_mul (je_var (i := 4) (A := tI) (a := size_11) rfl) (je_add je_int (je_modL (je_fdivL (je_int1 (by rfl) T.m_int (je_var (i := 0) (A := tI) (a := x0) rfl)))))) (fun many_61 => (js_stF (i := 5) (ps_lc (i := 5) (own := [("_law_side", 7)]) (B := (tK tI)) (ji_L (je_var (i := 5) (A := (tK (tK tI))) (a := lists_57) rfl)) sc.nd (blkOk_by (N := ["_law_one", "_law_two", "_law_three", "_law_kind", "_law_size", "_law_lists", "_law_many", "_law_side", "_law_room", "_law_k"]) (sc := defScope s_law_plan) (by decide +kernel)) (tgw_name) (fun _ _ _ _ _ => (pg_name (i := 7) sc.nd rfl (Or.inr rfl))) (fun D62 acc63 side_64 _ _ _ _ _ => (je_new (je_comp (own := [("_law_k", 9)]) (B := tI) (ji_R (by rfl) T.m_range (je_var (i := 6) (A := tI) (a := many_61) rfl)) sc.nd (blkOk_by (by kernel_rfl)) (tgw_name) (fun _ _ _ _ _ => (pg_name (i := 9) sc.nd rfl (Or.inl rfl))) (fun D65 acc66 k_67 _ _ _ _ _ => (je_add (je_mul (je_var (i := 4) (A := tI) (a := size_11) rfl) (je_fdiv (je_var (i := 9) (A := tI) (a := k_67) rfl) (je_var (i := 4) (A := tI) (a := size_11) rfl))) (je_ixL (je_e (je_eK (je_var (i := 7) (A := (tK tI)) (a := side_64) rfl))) (je_mod (je_var (i := 9) (A := tI) (a := k_67) rfl) (je_var (i := 4) (A := tI) (a := size_11) rfl)))))))) (sw_true rfl rfl rfl (by decide +kernel))) (fun lists_73 => (js_stF (i := 5) (ps_set (i := 5) sc.nd rfl (by first | exact Or.inl rfl | exact Or.inr rfl) (je_call (ok_law_moved T) (hr.mono (by decide)) (by rfl) T.g_law_moved T.F_law_moved.kp T.b_law_moved (ja_cons (je_var (i := 5) (A := (tK (tK tI))) (a := lists_73) rfl) (ja_cons (je_new (je_call (ok_law_order T) (hr.mono (by decide)) (by rfl) T.g_law_order T.F_law_order.kp T.b_law_order (ja_cons (je_fdivL (je_int1 (by rfl) T.m_int (je_var (i := 0) (A := tI) (a := x0) rfl))) (ja_cons (je_var (i := 6) (A := tI) (a := many_61) rfl) ja_nil)))) ja_nil))) rfl (by first | exact .inl rfl | exact .inr rfl)) (fun lists_74 => (js_end lists_74 ⟨(.same (.same (.same (.same (.same (.same (.any (.any (.any (.any .nil)))))))))), .slnil⟩)))))) sc.nd)) (fun (J59 : (List (List Int)) → Prop) => (js_end lists_57 ⟨(.same (.same (.same (.same (.same (.same (.any (.any (.any (.any .nil)))))))))), .slnil⟩)) (fun s58 => (js_ret hrt (je_var (i := 5) (A := (tK (tK tI))) (a := s58) rfl)))))))) sc.nd)) sc.nd)), ⟨Le.refl _, ⟨Same.refl _, (Par.cons ⟨v0, rfl, J.fr_in r0⟩ (Par.cons ⟨v1, rfl, J.fr_in r1⟩ (Par.cons ⟨v2, rfl, J.fr_in r2⟩ (Par.cons trivial (Par.cons trivial (Par.cons trivial (Par.cons trivial (Par.cons trivial (Par.cons trivial (Par.cons trivial Par.nil)))))))))), List.nodup_nil, fun c hc => by cases hc⟩, hw⟩⟩
theorem ok_law_second (T : Txt K mg) : FnOk Pg w K mg base CX0 4 T.a_law_second T.d_law_second ["_law_script", "_law_lists"] (spJ (aC (tL K tI) (aC (tK (tK tI)) aN)) (rO (tK (tK tI))) fun t => w_law_second t.1 t.2.1) := by
  refine T.F_law_second.ok sc_law_second (fun vs H Q E h => ?_) (fun cdv A outer s H vs Q E hr h => ?_)
  · obtain ⟨t, P, F, rfl, ⟨v0, _, rfl, r0, v1, _, rfl, r1, e0⟩, _⟩ := h
    have e1 := (e0 : _ = [])
    subst e1
    rfl
  · obtain ⟨⟨x0, x1, _⟩, P, F, rfl, ⟨v0, _, rfl, r0, v1, _, rfl, r1, e0⟩, hw, hrt⟩ := h
    have e1 := (e0 : _ = [])
    subst e1
    have sc := sc_law_second
    exact ⟨_, (show JSs _ F ⟨[sv (tL K tI) x0, sv (tK (tK tI)) x1, .any, .any], []⟩ _ ⟨fun _ H' => Q .non H', Q, fun _ _ => False, fun _ _ => False⟩ _ from
      (js_asg (i := 2) (je_modL (je_int1 (by rfl) T.m_int (je_call (ok_law_cell T) (hr.mono (by decide)) (by rfl) T.g_law_cell T.F_law_cell.kp T.b_law_cell (ja_cons (je_var (i := 0) (A := (tL K tI)) (a := x0) rfl) (ja_cons je_int ja_nil))))) (fun choice_83 => (js_ifX (jt_eqI (je_var (i := 2) (A := tI) (a := choice_83) rfl) je_int) (js_ret hrt (je_new (je_call (ok_law_moved T) (hr.mono (by decide)) (by rfl) T.g_law_moved T.F_law_moved.kp T.b_law_moved (ja_cons (je_var (i := 1) (A := (tK (tK tI))) (a := x1) rfl) (ja_cons (je_new (je_call (ok_law_order T) (hr.mono (by decide)) (by rfl) T.g_law_order T.F_law_order.kp T.b_law_order (ja_cons (je_call (ok_law_cell T) (hr.mono (by decide)) (by rfl) T.g_law_cell T.F_law_cell.kp T.b_law_cell (ja_cons (je_var (i := 0) (A := (tL K tI)) (a := x0) rfl) (ja_cons je_int ja_nil))) (ja_cons (je_lenL (by rfl) T.m_len (je_ebL (je_e (je_eK (je_ixL (je_e (je_eK (je_var (i := 1) (A := (tK (tK tI))) (a := x1) rfl))) je_int))))) ja_nil)))) ja_nil))))) (js_ifX (jt_eqI (je_var (i := 2) (A := tI) (a := choice_83) rfl) je_int) (js_ret hrt (je_new (je_lst (ja_consV (je_ixL (je_e (je_eK (je_var (i := 1) (A := (tK (tK tI))) (a := x1) rfl))) je_int) (ja_consV (je_ixL (je_e (je_eK (je_var (i := 1) (A := (tK (tK tI))) (a := x1) rfl))) je_int) (ja_nilV (A := (tK tI)))))))) (js_asg (i := 3) (je_call (ok_law_cell T) (hr.mono (by decide)) (by rfl) T.g_law_cell T.F_law_cell.kp T.b_law_cell (ja_cons (je_var (i := 0) (A := (tL K tI)) (a := x0) rfl) (ja_cons je_int ja_nil))) (fun kind_92 => (js_ret hrt (je_call (ok_law_plan T) (hr.mono (by decide)) (by rfl) T.g_law_plan T.F_law_plan.kp T.b_law_plan (ja_cons (je_add (je_var (i := 3) (A := tI) (a := kind_92) rfl) (je_intB (by rfl) T.m_int (je_eqI (je_modL (je_int1 (by rfl) T.m_int (je_var (i := 3) (A := tI) (a := kind_92) rfl))) je_int))) (ja_cons (je_call (ok_law_cell T) (hr.mono (by decide)) (by rfl) T.g_law_cell T.F_law_cell.kp T.b_law_cell (ja_cons (je_var (i := 0) (A := (tL K tI)) (a := x0) rfl) (ja_cons je_int ja_nil))) (ja_cons (je_call (ok_law_cell T) (hr.mono (by decide)) (by rfl) T.g_law_cell T.F_law_cell.kp T.b_law_cell (ja_cons (je_var (i := 0) (A := (tL K tI)) (a := x0) rfl) (ja_cons je_int ja_nil))) ja_nil)))))) sc.nd)))) sc.nd)), ⟨Le.refl _, ⟨Same.refl _, (Par.cons ⟨v0, rfl, J.fr_in r0⟩ (Par.cons ⟨v1, rfl, J.fr_in r1⟩ (Par.cons trivial (Par.cons trivial Par.nil)))), List.nodup_nil, fun c hc => by cases hc⟩, hw⟩⟩
theorem ok_law_direction (T : Txt K mg) : FnOk Pg w K mg base CX0 1 T.a_law_direction T.d_law_direction ["_law_one", "_law_two", "_law_least"] (spJ (aC tI (aC tI (aC tI aN))) (rO (tT K (a2 tI tI))) fun t => w_law_direction t.1 t.2.1 t.2.2.1) := by
  refine T.F_law_direction.ok sc_law_direction (fun vs H Q E h => ?_) (fun cdv A outer s H vs Q E hr h => ?_)
  · obtain ⟨t, P, F, rfl, ⟨v0, _, rfl, r0, v1, _, rfl, r1, v2, _, rfl, r2, e0⟩, _⟩ := h
    have e1 := (e0 : _ = [])
    subst e1
    rfl
  · obtain ⟨⟨x0, x1, x2, _⟩, P, F, rfl, ⟨v0, _, rfl, r0, v1, _, rfl, r1, v2, _, rfl, r2, e0⟩, hw, hrt⟩ := h
    have e1 := (e0 : _ = [])
    subst e1
    have sc := sc_law_direction
    exact ⟨_, (show JSs _ F ⟨[sv tI x0, sv tI x1, sv tI x2, .any, .any, .any, .any], []⟩ _ ⟨fun _ H' => Q .non H', Q, fun _ _ => False, fun _ _ => False⟩ _ from
      (js_asg (i := 3) (je_add (je_var (i := 2) (A := tI) (a := x2) rfl) (je_mod (je_int1 (by rfl) T.m_int (je_var (i := 0) (A := tI) (a := x0) rfl)) je_powL)) (fun p_110 => (js_asg (i := 4) (je_add (je_var (i := 2) (A := tI) (a := x2) rfl) (je_mod (je_int1 (by rfl) T.m_int (je_var (i := 1) (A := tI) (a := x1) rfl)) je_powL)) (fun q_111 => (js_asg (i := 5) (je_var (i := 3) (A := tI) (a := p_110) rfl) (fun common_112 => (js_asg (i := 6) (je_var (i := 4) (A := tI) (a := q_111) rfl) (fun rest_113 => (js_while (S := fun (s114 : Int × Int) => ⟨[sv tI x0, sv tI x1, sv tI x2, sv tI p_110, sv tI q_111, sv tI s114.1, sv tI s114.2], []⟩) (s0 := (common_112, rest_113)) ⟨(.same (.same (.same (.same (.same (.same (.same .nil))))))), .slnil⟩ (fun s114 => (jt_gt (je_var (i := 6) (A := tI) (a := s114.2) rfl) je_int)) (fun nxt115 brk116 s114 => (js_par (i := 5) (j := 6) (je_var (i := 6) (A := tI) (a := s114.2) rfl) (je_mod (je_int1 (by rfl) T.m_int (je_var (i := 5) (A := tI) (a := s114.1) rfl)) (je_var (i := 6) (A := tI) (a := s114.2) rfl)) (fun common_118 rest_119 => (js_end (common_118, rest_119) ⟨(.same (.same (.same (.same (.same (.same (.same .nil))))))), .slnil⟩)) sc.nd)) (fun s114 => (js_ifX (jt_eqI (je_var (i := 5) (A := tI) (a := s114.1) rfl) je_int) (js_ret hrt (je_tup2 je_int je_int)) (js_ret hrt (je_tup2 (je_fdiv (je_var (i := 3) (A := tI) (a := p_110) rfl) (je_var (i := 5) (A := tI) (a := s114.1) rfl)) (je_fdiv (je_var (i := 4) (A := tI) (a := q_111) rfl) (je_var (i := 5) (A := tI) (a := s114.1) rfl)))))) PassesOwn.never)) sc.nd)) sc.nd)) sc.nd)) sc.nd)), ⟨Le.refl _, ⟨Same.refl _, (Par.cons ⟨v0, rfl, J.fr_in r0⟩ (Par.cons ⟨v1, rfl, J.fr_in r1⟩ (Par.cons ⟨v2, rfl, J.fr_in r2⟩ (Par.cons trivial (Par.cons trivial (Par.cons trivial (Par.cons trivial Par.nil))))))), List.nodup_nil, fun c hc => by cases hc⟩, hw⟩⟩
theorem ok_is_order (T : Txt K mg) : FnOk Pg w K mg base CX0 1 T.a_is_order T.d_is_order ["rooms", "size"] (spJ (aC (tK tI) (aC tI aN)) (rO tB) fun t => w_is_order t.1 t.2.1) := by
  refine T.F_is_order.ok sc_is_order (fun vs H Q E h => ?_) (fun cdv A outer s H vs Q E hr h => ?_)
  · obtain ⟨t, P, F, rfl, ⟨v0, _, rfl, r0, v1, _, rfl, r1, e0⟩, _⟩ := h
    have e1 := (e0 : _ = [])
    subst e1
    rfl
  · obtain ⟨⟨x0, x1, _⟩, P, F, rfl, ⟨v0, _, rfl, r0, v1, _, rfl, r1, e0⟩, hw, hrt⟩ := h
    have e1 := (e0 : _ = [])
    subst e1
    have sc := sc_is_order
    exact ⟨_, (show JSs _ F ⟨[sv (tK tI) x0, sv tI x1], []⟩ _ ⟨fun _ H' => Q .non H', Q, fun _ _ => False, fun _ _ => False⟩ _ from
      (js_ret hrt (je_eqD (K := K) (A := (tK tI)) hr.units (je_b (je_new (je_sorted (by rfl) T.m_sorted (je_ebL (je_e (je_eK (je_var (i := 0) (A := (tK tI)) (a := x0) rfl))))))) (je_b (je_new (je_listR (by rfl) T.m_list (by rfl) T.m_range (je_var (i := 1) (A := tI) (a := x1) rfl))))))), ⟨Le.refl _, ⟨Same.refl _, (Par.cons ⟨v0, rfl, J.fr_in r0⟩ (Par.cons ⟨v1, rfl, J.fr_in r1⟩ Par.nil)), List.nodup_nil, fun c hc => by cases hc⟩, hw⟩⟩
theorem ok_Plan___init__ (T : Txt K mg) : FnOk Pg w K mg base CX0 2 T.a_Plan___init__ T.d_Plan___init__ ["self", "right", "above"] (spI T.a_Plan ["_right", "_above"] (aC (tK tI) (aC (tK tI) aN)) (a2 (tT K (aV tI)) (tT K (aV tI))) fun t => w_Plan___init__ t.1 t.2.1) := by
  refine T.F_Plan___init__.ok sc_Plan___init__ (fun vs H Q E h => ?_) (fun cdv A outer s H vs Q E hr h => ?_)
  · obtain ⟨x, dx, ws, t, P, F, rfl, hx, hdx, hne, rfl, ⟨v0, _, rfl, r0, v1, _, rfl, r1, e0⟩, _⟩ := h
    have e1 := (e0 : _ = [])
    subst e1
    rfl
  · obtain ⟨x, dx, ws, ⟨x0, x1, _⟩, P, F, rfl, hx, hdx, hne, rfl, ⟨v0, _, rfl, r0, v1, _, rfl, r1, e0⟩, hw, hq⟩ := h
    have e1 := (e0 : _ = [])
    subst e1
    have sc := sc_Plan___init__
    exact ⟨_, (show JSs _ F ⟨[.at x, sv (tK tI) x0, sv (tK tI) x1, .any], [.ins x dx T.a_Plan [] aN ()]⟩ _ ⟨fun _ H' => Q .non H', Q, fun _ _ => False, fun _ _ => False⟩ _ from
      (js_asg (i := 3) (je_lenL (by rfl) T.m_len (je_ebL (je_e (je_eK (je_var (i := 1) (A := (tK tI)) (a := x0) rfl))))) (fun size_126 => (js_ifX (jt_not (jt_leLe je_int (je_var (i := 3) (A := tI) (a := size_126) rfl) (je_cval (A := tI) (by rfl) T.g_Plan T.rd_Plan T.cv_Plan_MOST_ROOMS (fun _ => rfl)))) js_never (js_ifX (jt_not (jt_val (je_call (ok_is_order T) (hr.mono (by decide)) (by rfl) T.g_is_order T.F_is_order.kp T.b_is_order (ja_cons (je_var (i := 1) (A := (tK tI)) (a := x0) rfl) (ja_cons (je_var (i := 3) (A := tI) (a := size_126) rfl) ja_nil))))) js_never (js_ifX (jt_not (jt_val (je_call (ok_is_order T) (hr.mono (by decide)) (by rfl) T.g_is_order T.F_is_order.kp T.b_is_order (ja_cons (je_var (i := 2) (A := (tK tI)) (a := x1) rfl) (ja_cons (je_var (i := 3) (A := tI) (a := size_126) rfl) ja_nil))))) js_never (js_fld (i := 0) (j := 0) T.cl_Plan T.nf_Plan__right (je_tupleL (by rfl) T.m_tuple (je_e (je_eK (je_var (i := 1) (A := (tK tI)) (a := x0) rfl)))) (fun f133 => (js_fld (i := 0) (j := 0) T.cl_Plan T.nf_Plan__above (je_tupleL (by rfl) T.m_tuple (je_e (je_eK (je_var (i := 2) (A := (tK tI)) (a := x1) rfl)))) (fun f134 => (js_endI (κ := ((List Int) × (List Int))) (u := (f133, f134)) (fun σ H k p => hq _ H p k.same (J.init_end (j := 0) k rfl sn2)))) rfl rfl)) rfl rfl))))) sc.nd)), ⟨Le.refl _, J.init_ok hx hdx hne (Par.cons rfl (Par.cons ⟨v0, rfl, r0⟩ (Par.cons ⟨v1, rfl, r1⟩ (Par.cons trivial Par.nil)))), hw⟩⟩
theorem ok_PairSearch__number_of (T : Txt K mg) : FnOk Pg w K mg base CX0 1 T.a_PairSearch__number_of T.d_PairSearch__number_of ["self", "pair", "beside"] (spJM (fun (i : Idx_PairSearch) us => .ref i.1 :: us) (aC (tT K (a2 tI tI)) (aC (tT K (a2 (tT K (a2 tI tI)) (tT K (a2 tI tI)))) aN)) (E_PairSearch Pg w T) tI (fun t z P => w_PairSearch__number_of t.1 t.2.1 z P)) := by
  refine T.F_PairSearch__number_of.ok sc_PairSearch__number_of (fun vs H Q E h => ?_) (fun cdv A outer s H vs Q E hr h => ?_)
  · obtain ⟨t, i, z, us, F, P, rfl, kE, ⟨v0, _, rfl, r0, v1, _, rfl, r1, e0⟩, _⟩ := h
    have e1 := (e0 : _ = [])
    subst e1
    rfl
  · obtain ⟨⟨x0, x1, _⟩, oi162, oz163, us, F, P, rfl, kE, ⟨v0, _, rfl, r0, v1, _, rfl, r1, e0⟩, hw, hrt⟩ := h
    have e1 := (e0 : _ = [])
    subst e1
    have sc := sc_PairSearch__number_of
    exact ⟨_, (show JSs _ F ⟨[.at oi162.1, sv (tT K (a2 tI tI)) x0, sv (tT K (a2 (tT K (a2 tI tI)) (tT K (a2 tI tI)))) x1, .any], [.ins oi162.1 oi162.2.1 T.a_PairSearch ["_tables", "_table_numbers", "_pairs", "_pair_numbers", "_neighbors", "_children", "_from_the_sides"] (aSnoc (aSnoc (aSnoc (aSnoc (aSnoc (aSnoc (aSnoc aN (tAt oi162.2.2.1)) (tAt oi162.2.2.2.1)) (tAt oi162.2.2.2.2.1)) (tAt oi162.2.2.2.2.2.1)) (tAt oi162.2.2.2.2.2.2.1)) (tAt oi162.2.2.2.2.2.2.2)) tB) ((((((((), ()), ()), ()), ()), ()), ()), oz163.2.2.2.2.2.2), .lst oi162.2.2.1 (tC T.a_WalkTable ["_ends", "_marks"] (a2 (tT K (aV tI)) (tT K (aV tI)))) oz163.1, .gen oi162.2.2.2.1 (dctR Pg w K (tT K (a2 (tT K (aV tI)) (tT K (aV tI)))) oi162.2.2.2.1 oz163.2.1), .lst oi162.2.2.2.2.1 (tT K (a2 tI tI)) oz163.2.2.1, .gen oi162.2.2.2.2.2.1 (dctR Pg w K (tT K (a2 tI tI)) oi162.2.2.2.2.2.1 oz163.2.2.2.1), .lst oi162.2.2.2.2.2.2.1 (tT K (a2 (tT K (a2 tI tI)) (tT K (a2 tI tI)))) oz163.2.2.2.2.1, .lst oi162.2.2.2.2.2.2.2 (tT K (a2 tI tI)) oz163.2.2.2.2.2.1]⟩ _ ⟨fun _ H' => Q .non H', Q, fun _ _ => False, fun _ _ => False⟩ _ from
      (js_asgM (S := fun (z167 : List ((Int × Int) × Int)) => ⟨[.at oi162.1, sv (tT K (a2 tI tI)) x0, sv (tT K (a2 (tT K (a2 tI tI)) (tT K (a2 tI tI)))) x1, .any], [.ins oi162.1 oi162.2.1 T.a_PairSearch ["_tables", "_table_numbers", "_pairs", "_pair_numbers", "_neighbors", "_children", "_from_the_sides"] (aSnoc (aSnoc (aSnoc (aSnoc (aSnoc (aSnoc (aSnoc aN (tAt oi162.2.2.1)) (tAt oi162.2.2.2.1)) (tAt oi162.2.2.2.2.1)) (tAt oi162.2.2.2.2.2.1)) (tAt oi162.2.2.2.2.2.2.1)) (tAt oi162.2.2.2.2.2.2.2)) tB) ((((((((), ()), ()), ()), ()), ()), ()), oz163.2.2.2.2.2.2), .lst oi162.2.2.1 (tC T.a_WalkTable ["_ends", "_marks"] (a2 (tT K (aV tI)) (tT K (aV tI)))) oz163.1, .gen oi162.2.2.2.1 (dctR Pg w K (tT K (a2 (tT K (aV tI)) (tT K (aV tI)))) oi162.2.2.2.1 oz163.2.1), .lst oi162.2.2.2.2.1 (tT K (a2 tI tI)) oz163.2.2.1, .gen oi162.2.2.2.2.2.1 (dctR Pg w K (tT K (a2 tI tI)) oi162.2.2.2.2.2.1 z167), .lst oi162.2.2.2.2.2.2.1 (tT K (a2 (tT K (a2 tI tI)) (tT K (a2 tI tI)))) oz163.2.2.2.2.1, .lst oi162.2.2.2.2.2.2.2 (tT K (a2 tI tI)) oz163.2.2.2.2.2.1]⟩) (i := 3) (je_setd (K := K) (A := (tT K (a2 tI tI))) (p := oi162.2.2.2.2.2.1) (j := 4) (kvs := oz163.2.2.2.1) rfl hr.units (pe_ownF (p := oi162.2.2.2.2.2.1) (i := 0) (j := 0) T.cl_PairSearch T.nf_PairSearch__pair_numbers rfl rfl (fun H vs h => by obtain ⟨u7, v7, e7, ⟨u6, v6, e6, ⟨u5, v5, e5, ⟨u4, v4, e4, ⟨u3, v3, e3, ⟨u2, v2, e2, ⟨u1, v1, e1, e0, r1⟩, r2⟩, r3⟩, r4⟩, r5⟩, r6⟩, r7⟩ := h; have q0 := (e0 : _ = []); subst q0; subst e1; subst e2; subst e3; subst e4; subst e5; subst e6; subst e7; exact ⟨v4, rfl, r4⟩)) rfl (je_var (i := 1) (A := (tT K (a2 tI tI))) (a := x0) rfl) (je_lenL (by rfl) T.m_len (je_ebL (je_e (je_ownA (A := (tT K (a2 tI tI))) (p1 := oi162.2.2.2.2.1) (j1 := 3) (xs := oz163.2.2.1) (pe_ownF (p := oi162.2.2.2.2.1) (i := 0) (j := 0) T.cl_PairSearch T.nf_PairSearch__pairs rfl rfl (fun H vs h => by obtain ⟨u7, v7, e7, ⟨u6, v6, e6, ⟨u5, v5, e5, ⟨u4, v4, e4, ⟨u3, v3, e3, ⟨u2, v2, e2, ⟨u1, v1, e1, e0, r1⟩, r2⟩, r3⟩, r4⟩, r5⟩, r6⟩, r7⟩ := h; have q0 := (e0 : _ = []); subst q0; subst e1; subst e2; subst e3; subst e4; subst e5; subst e6; subst e7; exact ⟨v3, rfl, r3⟩)) rfl)))) ⟨by rfl, by rfl, by rfl, by rfl⟩) (fun number_166 z167 => (js_ifJ (S := fun (s168 : (List (Int × Int)) × (List ((Int × Int) × (Int × Int)))) => ⟨[.at oi162.1, sv (tT K (a2 tI tI)) x0, sv (tT K (a2 (tT K (a2 tI tI)) (tT K (a2 tI tI)))) x1, sv tI number_166], [.ins oi162.1 oi162.2.1 T.a_PairSearch ["_tables", "_table_numbers", "_pairs", "_pair_numbers", "_neighbors", "_children", "_from_the_sides"] (aSnoc (aSnoc (aSnoc (aSnoc (aSnoc (aSnoc (aSnoc aN (tAt oi162.2.2.1)) (tAt oi162.2.2.2.1)) (tAt oi162.2.2.2.2.1)) (tAt oi162.2.2.2.2.2.1)) (tAt oi162.2.2.2.2.2.2.1)) (tAt oi162.2.2.2.2.2.2.2)) tB) ((((((((), ()), ()), ()), ()), ()), ()), oz163.2.2.2.2.2.2), .lst oi162.2.2.1 (tC T.a_WalkTable ["_ends", "_marks"] (a2 (tT K (aV tI)) (tT K (aV tI)))) oz163.1, .gen oi162.2.2.2.1 (dctR Pg w K (tT K (a2 (tT K (aV tI)) (tT K (aV tI)))) oi162.2.2.2.1 oz163.2.1), .lst oi162.2.2.2.2.1 (tT K (a2 tI tI)) s168.1, .gen oi162.2.2.2.2.2.1 (dctR Pg w K (tT K (a2 tI tI)) oi162.2.2.2.2.2.1 z167), .lst oi162.2.2.2.2.2.2.1 (tT K (a2 (tT K (a2 tI tI)) (tT K (a2 tI tI)))) s168.2, .lst oi162.2.2.2.2.2.2.2 (tT K (a2 tI tI)) oz163.2.2.2.2.2.1]⟩) (jt_eqI (je_var (i := 3) (A := tI) (a := number_166) rfl) (je_lenL (by rfl) T.m_len (je_ebL (je_e (je_ownA (A := (tT K (a2 tI tI))) (p1 := oi162.2.2.2.2.1) (j1 := 3) (xs := oz163.2.2.1) (pe_ownF (p := oi162.2.2.2.2.1) (i := 0) (j := 0) T.cl_PairSearch T.nf_PairSearch__pairs rfl rfl (fun H vs h => by obtain ⟨u7, v7, e7, ⟨u6, v6, e6, ⟨u5, v5, e5, ⟨u4, v4, e4, ⟨u3, v3, e3, ⟨u2, v2, e2, ⟨u1, v1, e1, e0, r1⟩, r2⟩, r3⟩, r4⟩, r5⟩, r6⟩, r7⟩ := h; have q0 := (e0 : _ = []); subst q0; subst e1; subst e2; subst e3; subst e4; subst e5; subst e6; subst e7; exact ⟨v3, rfl, r3⟩)) rfl))))) (fun (J169 : ((List (Int × Int)) × (List ((Int × Int) × (Int × Int)))) → Prop) => (js_appA (j := 3) (pe_bm PySem.F.plainAttrs_list PySem.F.slot_list_append PySem.F.type_list_append mt_append (pe_ownF (p := oi162.2.2.2.2.1) (i := 0) (j := 0) T.cl_PairSearch T.nf_PairSearch__pairs rfl rfl (fun H vs h => by obtain ⟨u7, v7, e7, ⟨u6, v6, e6, ⟨u5, v5, e5, ⟨u4, v4, e4, ⟨u3, v3, e3, ⟨u2, v2, e2, ⟨u1, v1, e1, e0, r1⟩, r2⟩, r3⟩, r4⟩, r5⟩, r6⟩, r7⟩ := h; have q0 := (e0 : _ = []); subst q0; subst e1; subst e2; subst e3; subst e4; subst e5; subst e6; subst e7; exact ⟨v3, rfl, r3⟩)) (pa_cons (je_var (i := 1) (A := (tT K (a2 tI tI))) (a := x0) rfl) pa_nil)) (fun y171 => (js_appA (j := 5) (pe_bm PySem.F.plainAttrs_list PySem.F.slot_list_append PySem.F.type_list_append mt_append (pe_ownF (p := oi162.2.2.2.2.2.2.1) (i := 0) (j := 0) T.cl_PairSearch T.nf_PairSearch__neighbors rfl rfl (fun H vs h => by obtain ⟨u7, v7, e7, ⟨u6, v6, e6, ⟨u5, v5, e5, ⟨u4, v4, e4, ⟨u3, v3, e3, ⟨u2, v2, e2, ⟨u1, v1, e1, e0, r1⟩, r2⟩, r3⟩, r4⟩, r5⟩, r6⟩, r7⟩ := h; have q0 := (e0 : _ = []); subst q0; subst e1; subst e2; subst e3; subst e4; subst e5; subst e6; subst e7; exact ⟨v5, rfl, r5⟩)) (pa_cons (je_var (i := 2) (A := (tT K (a2 (tT K (a2 tI tI)) (tT K (a2 tI tI))))) (a := x1) rfl) pa_nil)) (fun y172 => (js_end ((oz163.2.2.1 ++ [y171]), (oz163.2.2.2.2.1 ++ [y172])) ⟨(.same (.same (.same (.same .nil)))), (.cons₂ _ (.cons₂ _ (.cons₂ _ (.cons₂ _ (.cons₂ _ (.cons₂ _ (.cons₂ _ .slnil)))))))⟩)) rfl)) rfl)) (fun (J169 : ((List (Int × Int)) × (List ((Int × Int) × (Int × Int)))) → Prop) => (js_end (oz163.2.2.1, oz163.2.2.2.2.1) ⟨(.same (.same (.same (.same .nil)))), (.cons₂ _ (.cons₂ _ (.cons₂ _ (.cons₂ _ (.cons₂ _ (.cons₂ _ (.cons₂ _ .slnil)))))))⟩)) (fun s168 => (js_retM (E := (E_PairSearch Pg w T)) (i := oi162) hrt (oz163.1, oz163.2.1, s168.1, z167, s168.2, oz163.2.2.2.2.2.1, oz163.2.2.2.2.2.2) (.cons₂ _ (.cons₂ _ (.cons₂ _ (.cons₂ _ (.cons₂ _ (.cons₂ _ (.cons₂ _ .slnil))))))) (je_var (i := 3) (A := tI) (a := number_166) rfl))))) sc.nd)), ⟨Le.refl _, ⟨kE.same, (Par.cons rfl (Par.cons ⟨v0, rfl, r0⟩ (Par.cons ⟨v1, rfl, r1⟩ (Par.cons trivial Par.nil)))), kE.nd, kE.cells⟩, hw⟩⟩
theorem ok_WalkTable_form (T : Txt K mg) : FnOk Pg w K mg base CX0 1 T.a_WalkTable_form T.d_WalkTable_form ["self"] (spJ (aC (tC T.a_WalkTable ["_ends", "_marks"] (a2 (tT K (aV tI)) (tT K (aV tI)))) aN) (rO (tT K (a2 (tT K (aV tI)) (tT K (aV tI))))) fun t => w_WalkTable_form t.1) := by
  refine T.F_WalkTable_form.ok sc_WalkTable_form (fun vs H Q E h => ?_) (fun cdv A outer s H vs Q E hr h => ?_)
  · obtain ⟨t, P, F, rfl, ⟨v0, _, rfl, r0, e0⟩, _⟩ := h
    have e1 := (e0 : _ = [])
    subst e1
    rfl
  · obtain ⟨⟨x0, _⟩, P, F, rfl, ⟨v0, _, rfl, r0, e0⟩, hw, hrt⟩ := h
    have e1 := (e0 : _ = [])
    subst e1
    have sc := sc_WalkTable_form
    exact ⟨_, (show JSs _ F ⟨[sv (tC T.a_WalkTable ["_ends", "_marks"] (a2 (tT K (aV tI)) (tT K (aV tI)))) x0], []⟩ _ ⟨fun _ H' => Q .non H', Q, fun _ _ => False, fun _ _ => False⟩ _ from
      (js_ret hrt (je_tup2 (je_fld (A := (tT K (aV tI))) (h := fun (t : ((List Int) × (List Int))) => t.1) (je_var (i := 0) (A := (tC T.a_WalkTable ["_ends", "_marks"] (a2 (tT K (aV tI)) (tT K (aV tI))))) (a := x0) rfl) T.cl_WalkTable T.nf_WalkTable__ends (fun _ _ _ ⟨y0, y1, e0, h0, h1⟩ => ⟨y0, by rw [e0]; rfl, h0⟩)) (je_fld (A := (tT K (aV tI))) (h := fun (t : ((List Int) × (List Int))) => t.2) (je_var (i := 0) (A := (tC T.a_WalkTable ["_ends", "_marks"] (a2 (tT K (aV tI)) (tT K (aV tI))))) (a := x0) rfl) T.cl_WalkTable T.nf_WalkTable__marks (fun _ _ _ ⟨y0, y1, e0, h0, h1⟩ => ⟨y1, by rw [e0]; rfl, h1⟩))))), ⟨Le.refl _, ⟨Same.refl _, (Par.cons ⟨v0, rfl, J.fr_in r0⟩ Par.nil), List.nodup_nil, fun c hc => by cases hc⟩, hw⟩⟩
theorem ok_PairSearch__table_number (T : Txt K mg) : FnOk Pg w K mg base CX0 3 T.a_PairSearch__table_number T.d_PairSearch__table_number ["self", "table"] (spJM (fun (i : Idx_PairSearch) us => .ref i.1 :: us) (aC (tC T.a_WalkTable ["_ends", "_marks"] (a2 (tT K (aV tI)) (tT K (aV tI)))) aN) (E_PairSearch Pg w T) tI (fun t z P => w_PairSearch__table_number t.1 z P)) := by
  refine T.F_PairSearch__table_number.ok sc_PairSearch__table_number (fun vs H Q E h => ?_) (fun cdv A outer s H vs Q E hr h => ?_)
  · obtain ⟨t, i, z, us, F, P, rfl, kE, ⟨v0, _, rfl, r0, e0⟩, _⟩ := h
    have e1 := (e0 : _ = [])
    subst e1
    rfl
  · obtain ⟨⟨x0, _⟩, oi176, oz177, us, F, P, rfl, kE, ⟨v0, _, rfl, r0, e0⟩, hw, hrt⟩ := h
    have e1 := (e0 : _ = [])
    subst e1
    have sc := sc_PairSearch__table_number
    exact ⟨_, (show JSs _ F ⟨[.at oi176.1, sv (tC T.a_WalkTable ["_ends", "_marks"] (a2 (tT K (aV tI)) (tT K (aV tI)))) x0, .any], [.ins oi176.1 oi176.2.1 T.a_PairSearch ["_tables", "_table_numbers", "_pairs", "_pair_numbers", "_neighbors", "_children", "_from_the_sides"] (aSnoc (aSnoc (aSnoc (aSnoc (aSnoc (aSnoc (aSnoc aN (tAt oi176.2.2.1)) (tAt oi176.2.2.2.1)) (tAt oi176.2.2.2.2.1)) (tAt oi176.2.2.2.2.2.1)) (tAt oi176.2.2.2.2.2.2.1)) (tAt oi176.2.2.2.2.2.2.2)) tB) ((((((((), ()), ()), ()), ()), ()), ()), oz177.2.2.2.2.2.2), .lst oi176.2.2.1 (tC T.a_WalkTable ["_ends", "_marks"] (a2 (tT K (aV tI)) (tT K (aV tI)))) oz177.1, .gen oi176.2.2.2.1 (dctR Pg w K (tT K (a2 (tT K (aV tI)) (tT K (aV tI)))) oi176.2.2.2.1 oz177.2.1), .lst oi176.2.2.2.2.1 (tT K (a2 tI tI)) oz177.2.2.1, .gen oi176.2.2.2.2.2.1 (dctR Pg w K (tT K (a2 tI tI)) oi176.2.2.2.2.2.1 oz177.2.2.2.1), .lst oi176.2.2.2.2.2.2.1 (tT K (a2 (tT K (a2 tI tI)) (tT K (a2 tI tI)))) oz177.2.2.2.2.1, .lst oi176.2.2.2.2.2.2.2 (tT K (a2 tI tI)) oz177.2.2.2.2.2.1]⟩ _ ⟨fun _ H' => Q .non H', Q, fun _ _ => False, fun _ _ => False⟩ _ from
      (js_asgM (S := fun (z181 : List (((List Int) × (List Int)) × Int)) => ⟨[.at oi176.1, sv (tC T.a_WalkTable ["_ends", "_marks"] (a2 (tT K (aV tI)) (tT K (aV tI)))) x0, .any], [.ins oi176.1 oi176.2.1 T.a_PairSearch ["_tables", "_table_numbers", "_pairs", "_pair_numbers", "_neighbors", "_children", "_from_the_sides"] (aSnoc (aSnoc (aSnoc (aSnoc (aSnoc (aSnoc (aSnoc aN (tAt oi176.2.2.1)) (tAt oi176.2.2.2.1)) (tAt oi176.2.2.2.2.1)) (tAt oi176.2.2.2.2.2.1)) (tAt oi176.2.2.2.2.2.2.1)) (tAt oi176.2.2.2.2.2.2.2)) tB) ((((((((), ()), ()), ()), ()), ()), ()), oz177.2.2.2.2.2.2), .lst oi176.2.2.1 (tC T.a_WalkTable ["_ends", "_marks"] (a2 (tT K (aV tI)) (tT K (aV tI)))) oz177.1, .gen oi176.2.2.2.1 (dctR Pg w K (tT K (a2 (tT K (aV tI)) (tT K (aV tI)))) oi176.2.2.2.1 z181), .lst oi176.2.2.2.2.1 (tT K (a2 tI tI)) oz177.2.2.1, .gen oi176.2.2.2.2.2.1 (dctR Pg w K (tT K (a2 tI tI)) oi176.2.2.2.2.2.1 oz177.2.2.2.1), .lst oi176.2.2.2.2.2.2.1 (tT K (a2 (tT K (a2 tI tI)) (tT K (a2 tI tI)))) oz177.2.2.2.2.1, .lst oi176.2.2.2.2.2.2.2 (tT K (a2 tI tI)) oz177.2.2.2.2.2.1]⟩) (i := 2) (je_setd (K := K) (A := (tT K (a2 (tT K (aV tI)) (tT K (aV tI))))) (p := oi176.2.2.2.1) (j := 2) (kvs := oz177.2.1) rfl hr.units (pe_ownF (p := oi176.2.2.2.1) (i := 0) (j := 0) T.cl_PairSearch T.nf_PairSearch__table_numbers rfl rfl (fun H vs h => by obtain ⟨u7, v7, e7, ⟨u6, v6, e6, ⟨u5, v5, e5, ⟨u4, v4, e4, ⟨u3, v3, e3, ⟨u2, v2, e2, ⟨u1, v1, e1, e0, r1⟩, r2⟩, r3⟩, r4⟩, r5⟩, r6⟩, r7⟩ := h; have q0 := (e0 : _ = []); subst q0; subst e1; subst e2; subst e3; subst e4; subst e5; subst e6; subst e7; exact ⟨v2, rfl, r2⟩)) rfl (je_prop (je_var (i := 1) (A := (tC T.a_WalkTable ["_ends", "_marks"] (a2 (tT K (aV tI)) (tT K (aV tI))))) (a := x0) rfl) T.cl_WalkTable T.M_WalkTable_form (ok_WalkTable_form T) (hr.mono (by decide)) T.b_WalkTable_form) (je_lenL (by rfl) T.m_len (je_ebL (je_e (je_ownA (A := (tC T.a_WalkTable ["_ends", "_marks"] (a2 (tT K (aV tI)) (tT K (aV tI))))) (p1 := oi176.2.2.1) (j1 := 1) (xs := oz177.1) (pe_ownF (p := oi176.2.2.1) (i := 0) (j := 0) T.cl_PairSearch T.nf_PairSearch__tables rfl rfl (fun H vs h => by obtain ⟨u7, v7, e7, ⟨u6, v6, e6, ⟨u5, v5, e5, ⟨u4, v4, e4, ⟨u3, v3, e3, ⟨u2, v2, e2, ⟨u1, v1, e1, e0, r1⟩, r2⟩, r3⟩, r4⟩, r5⟩, r6⟩, r7⟩ := h; have q0 := (e0 : _ = []); subst q0; subst e1; subst e2; subst e3; subst e4; subst e5; subst e6; subst e7; exact ⟨v1, rfl, r1⟩)) rfl)))) ⟨by rfl, by rfl, by rfl, by rfl⟩) (fun number_180 z181 => (js_ifJ (S := fun (s182 : (List ((List Int) × (List Int)))) => ⟨[.at oi176.1, sv (tC T.a_WalkTable ["_ends", "_marks"] (a2 (tT K (aV tI)) (tT K (aV tI)))) x0, sv tI number_180], [.ins oi176.1 oi176.2.1 T.a_PairSearch ["_tables", "_table_numbers", "_pairs", "_pair_numbers", "_neighbors", "_children", "_from_the_sides"] (aSnoc (aSnoc (aSnoc (aSnoc (aSnoc (aSnoc (aSnoc aN (tAt oi176.2.2.1)) (tAt oi176.2.2.2.1)) (tAt oi176.2.2.2.2.1)) (tAt oi176.2.2.2.2.2.1)) (tAt oi176.2.2.2.2.2.2.1)) (tAt oi176.2.2.2.2.2.2.2)) tB) ((((((((), ()), ()), ()), ()), ()), ()), oz177.2.2.2.2.2.2), .lst oi176.2.2.1 (tC T.a_WalkTable ["_ends", "_marks"] (a2 (tT K (aV tI)) (tT K (aV tI)))) s182, .gen oi176.2.2.2.1 (dctR Pg w K (tT K (a2 (tT K (aV tI)) (tT K (aV tI)))) oi176.2.2.2.1 z181), .lst oi176.2.2.2.2.1 (tT K (a2 tI tI)) oz177.2.2.1, .gen oi176.2.2.2.2.2.1 (dctR Pg w K (tT K (a2 tI tI)) oi176.2.2.2.2.2.1 oz177.2.2.2.1), .lst oi176.2.2.2.2.2.2.1 (tT K (a2 (tT K (a2 tI tI)) (tT K (a2 tI tI)))) oz177.2.2.2.2.1, .lst oi176.2.2.2.2.2.2.2 (tT K (a2 tI tI)) oz177.2.2.2.2.2.1]⟩) (jt_eqI (je_var (i := 2) (A := tI) (a := number_180) rfl) (je_lenL (by rfl) T.m_len (je_ebL (je_e (je_ownA (A := (tC T.a_WalkTable ["_ends", "_marks"] (a2 (tT K (aV tI)) (tT K (aV tI))))) (p1 := oi176.2.2.1) (j1 := 1) (xs := oz177.1) (pe_ownF (p := oi176.2.2.1) (i := 0) (j := 0) T.cl_PairSearch T.nf_PairSearch__tables rfl rfl (fun H vs h => by obtain ⟨u7, v7, e7, ⟨u6, v6, e6, ⟨u5, v5, e5, ⟨u4, v4, e4, ⟨u3, v3, e3, ⟨u2, v2, e2, ⟨u1, v1, e1, e0, r1⟩, r2⟩, r3⟩, r4⟩, r5⟩, r6⟩, r7⟩ := h; have q0 := (e0 : _ = []); subst q0; subst e1; subst e2; subst e3; subst e4; subst e5; subst e6; subst e7; exact ⟨v1, rfl, r1⟩)) rfl))))) (fun (J183 : (List ((List Int) × (List Int))) → Prop) => (js_appA (j := 1) (pe_bm PySem.F.plainAttrs_list PySem.F.slot_list_append PySem.F.type_list_append mt_append (pe_ownF (p := oi176.2.2.1) (i := 0) (j := 0) T.cl_PairSearch T.nf_PairSearch__tables rfl rfl (fun H vs h => by obtain ⟨u7, v7, e7, ⟨u6, v6, e6, ⟨u5, v5, e5, ⟨u4, v4, e4, ⟨u3, v3, e3, ⟨u2, v2, e2, ⟨u1, v1, e1, e0, r1⟩, r2⟩, r3⟩, r4⟩, r5⟩, r6⟩, r7⟩ := h; have q0 := (e0 : _ = []); subst q0; subst e1; subst e2; subst e3; subst e4; subst e5; subst e6; subst e7; exact ⟨v1, rfl, r1⟩)) (pa_cons (je_var (i := 1) (A := (tC T.a_WalkTable ["_ends", "_marks"] (a2 (tT K (aV tI)) (tT K (aV tI))))) (a := x0) rfl) pa_nil)) (fun y185 => (js_end (oz177.1 ++ [y185]) ⟨(.same (.same (.same .nil))), (.cons₂ _ (.cons₂ _ (.cons₂ _ (.cons₂ _ (.cons₂ _ (.cons₂ _ (.cons₂ _ .slnil)))))))⟩)) rfl)) (fun (J183 : (List ((List Int) × (List Int))) → Prop) => (js_end oz177.1 ⟨(.same (.same (.same .nil))), (.cons₂ _ (.cons₂ _ (.cons₂ _ (.cons₂ _ (.cons₂ _ (.cons₂ _ (.cons₂ _ .slnil)))))))⟩)) (fun s182 => (js_retM (E := (E_PairSearch Pg w T)) (i := oi176) hrt (s182, z181, oz177.2.2.1, oz177.2.2.2.1, oz177.2.2.2.2.1, oz177.2.2.2.2.2.1, oz177.2.2.2.2.2.2) (.cons₂ _ (.cons₂ _ (.cons₂ _ (.cons₂ _ (.cons₂ _ (.cons₂ _ (.cons₂ _ .slnil))))))) (je_var (i := 2) (A := tI) (a := number_180) rfl))))) sc.nd)), ⟨Le.refl _, ⟨kE.same, (Par.cons rfl (Par.cons ⟨v0, rfl, r0⟩ (Par.cons trivial Par.nil))), kE.nd, kE.cells⟩, hw⟩⟩
theorem ok_neighbors_after (T : Txt K mg) : FnOk Pg w K mg base CX0 1 T.a_neighbors_after T.d_neighbors_after ["runs"] (spJ (aC (tK (tT K (a2 tS tI))) aN) (rO (tT K (a2 (tT K (a2 tI tI)) (tT K (a2 tI tI))))) fun t => w_neighbors_after t.1) := by
  refine T.F_neighbors_after.ok sc_neighbors_after (fun vs H Q E h => ?_) (fun cdv A outer s H vs Q E hr h => ?_)
  · obtain ⟨t, P, F, rfl, ⟨v0, _, rfl, r0, e0⟩, _⟩ := h
    have e1 := (e0 : _ = [])
    subst e1
    rfl
  · obtain ⟨⟨x0, _⟩, P, F, rfl, ⟨v0, _, rfl, r0, e0⟩, hw, hrt⟩ := h
    have e1 := (e0 : _ = [])
    subst e1
    have sc := sc_neighbors_after
    exact ⟨_, (show JSs _ F ⟨[sv (tK (tT K (a2 tS tI))) x0, .any, .any, .any, .any, .any, .any], []⟩ _ ⟨fun _ H' => Q .non H', Q, fun _ _ => False, fun _ _ => False⟩ _ from
      (js_asgT (je_tup2 je_int je_int) (pg_tup rfl (pgs_cons (pg_name (i := 1) sc.nd rfl (Or.inl rfl)) (pgs_cons (pg_name (i := 2) sc.nd rfl (Or.inl rfl)) pgs_nil))) (tg_pair (tg_name) (tg_name)) (fun t197 => (js_asgT (je_tup2 je_int je_int) (pg_tup rfl (pgs_cons (pg_name (i := 3) sc.nd rfl (Or.inl rfl)) (pgs_cons (pg_name (i := 4) sc.nd rfl (Or.inl rfl)) pgs_nil))) (tg_pair (tg_name) (tg_name)) (fun t198 => (js_forL (A := (tT K (a2 tS tI))) (S := fun v199 xs200 => fun (s201 : Int × Int × Int × Int) => ⟨[sv (tK (tT K (a2 tS tI))) x0, sv tI s201.1, sv tI s201.2.1, sv tI s201.2.2.1, sv tI s201.2.2.2, .any, .any], [.fix (tK (tT K (a2 tS tI))) v199 xs200]⟩) (s0 := (t197.1, t197.2, t198.1, t198.2)) (j := 0) (je_var (i := 0) (A := (tK (tT K (a2 tS tI)))) (a := x0) rfl) (fun v199 xs200 => ⟨(.same (.same (.same (.same (.same (.any (.any .nil))))))), (.cons₂ _ .slnil)⟩) (fun v199 xs200 _ => rfl) (pg_tup rfl (pgs_cons (pg_name (i := 5) sc.nd rfl (Or.inl rfl)) (pgs_cons (pg_name (i := 6) sc.nd rfl (Or.inl rfl)) pgs_nil))) (tg_pair (tg_name) (tg_name)) (fun v199 xs200 nxt203 brk204 x202 s201 => (js_if (jt_eqS (je_var (i := 5) (A := tS) (a := x202.1) rfl) (je_globS (by rfl) T.c_FLAT ⟨_, rfl⟩)) (js_par (i := 3) (j := 4) (je_add (je_var (i := 3) (A := tI) (a := s201.2.2.1) rfl) (je_mul (je_var (i := 6) (A := tI) (a := x202.2) rfl) (je_var (i := 1) (A := tI) (a := s201.1) rfl))) (je_add (je_var (i := 4) (A := tI) (a := s201.2.2.2) rfl) (je_mul (je_var (i := 6) (A := tI) (a := x202.2) rfl) (je_var (i := 2) (A := tI) (a := s201.2.1) rfl))) (fun c_207 d_208 => (js_end (s201.1, s201.2.1, c_207, d_208) ⟨(.same (.same (.same (.same (.same (.any (.any .nil))))))), (.cons₂ _ .slnil)⟩)) sc.nd) (js_par (i := 1) (j := 2) (je_add (je_var (i := 1) (A := tI) (a := s201.1) rfl) (je_mul (je_var (i := 6) (A := tI) (a := x202.2) rfl) (je_var (i := 3) (A := tI) (a := s201.2.2.1) rfl))) (je_add (je_var (i := 2) (A := tI) (a := s201.2.1) rfl) (je_mul (je_var (i := 6) (A := tI) (a := x202.2) rfl) (je_var (i := 4) (A := tI) (a := s201.2.2.2) rfl))) (fun a_210 b_211 => (js_end (a_210, b_211, s201.2.2.1, s201.2.2.2) ⟨(.same (.same (.same (.same (.same (.any (.any .nil))))))), (.cons₂ _ .slnil)⟩)) sc.nd))) (fun v199 xs200 s201 => (js_ret hrt (je_tup2 (je_tup2 (je_var (i := 1) (A := tI) (a := s201.1) rfl) (je_var (i := 2) (A := tI) (a := s201.2.1) rfl)) (je_tup2 (je_var (i := 3) (A := tI) (a := s201.2.2.1) rfl) (je_var (i := 4) (A := tI) (a := s201.2.2.2) rfl))))) PassesOwn.never)))))), ⟨Le.refl _, ⟨Same.refl _, (Par.cons ⟨v0, rfl, J.fr_in r0⟩ (Par.cons trivial (Par.cons trivial (Par.cons trivial (Par.cons trivial (Par.cons trivial (Par.cons trivial Par.nil))))))), List.nodup_nil, fun c hc => by cases hc⟩, hw⟩⟩
theorem ok_check_direction (T : Txt K mg) : FnOk Pg w K mg base CX0 1 T.a_check_direction T.d_check_direction ["p", "q"] (spJ (aC tI (aC tI aN)) (rO tN) fun t => w_check_direction t.1 t.2.1) := by
  refine T.F_check_direction.ok sc_check_direction (fun vs H Q E h => ?_) (fun cdv A outer s H vs Q E hr h => ?_)
  · obtain ⟨t, P, F, rfl, ⟨v0, _, rfl, r0, v1, _, rfl, r1, e0⟩, _⟩ := h
    have e1 := (e0 : _ = [])
    subst e1
    rfl
  · obtain ⟨⟨x0, x1, _⟩, P, F, rfl, ⟨v0, _, rfl, r0, v1, _, rfl, r1, e0⟩, hw, hrt⟩ := h
    have e1 := (e0 : _ = [])
    subst e1
    have sc := sc_check_direction
    have hnx : ∀ (σ : L2.St) (H' : Hp), Same F.H H' → P () → Q .non H' := fun _ H' s p => hrt () .non H' p s rfl
    exact ⟨_, (show JSs _ F ⟨[sv tI x0, sv tI x1], []⟩ _ ⟨fun _ H' => Q .non H', Q, fun _ _ => False, fun _ _ => False⟩ _ from
      (js_if (jt_w (jw_or (jt_lt (je_var (i := 0) (A := tI) (a := x0) rfl) je_int) (jw_or (jt_lt (je_var (i := 1) (A := tI) (a := x1) rfl) je_int) (jw_oneO (jt_neI (je_gcd (by rfl) T.m_gcd (je_var (i := 0) (A := tI) (a := x0) rfl) (je_var (i := 1) (A := tI) (a := x1) rfl)) je_int))))) js_never (js_endN hnx))), ⟨Le.refl _, ⟨Same.refl _, (Par.cons ⟨v0, rfl, J.fr_in r0⟩ (Par.cons ⟨v1, rfl, J.fr_in r1⟩ Par.nil)), List.nodup_nil, fun c hc => by cases hc⟩, hw⟩⟩
theorem ok_check_in_tree (T : Txt K mg) : FnOk Pg w K mg base CX0 2 T.a_check_in_tree T.d_check_in_tree ["p", "q"] (spJ (aC tI (aC tI aN)) (rO tN) fun t => w_check_in_tree t.1 t.2.1) := by
  refine T.F_check_in_tree.ok sc_check_in_tree (fun vs H Q E h => ?_) (fun cdv A outer s H vs Q E hr h => ?_)
  · obtain ⟨t, P, F, rfl, ⟨v0, _, rfl, r0, v1, _, rfl, r1, e0⟩, _⟩ := h
    have e1 := (e0 : _ = [])
    subst e1
    rfl
  · obtain ⟨⟨x0, x1, _⟩, P, F, rfl, ⟨v0, _, rfl, r0, v1, _, rfl, r1, e0⟩, hw, hrt⟩ := h
    have e1 := (e0 : _ = [])
    subst e1
    have sc := sc_check_in_tree
    have hnx : ∀ (σ : L2.St) (H' : Hp), Same F.H H' → P () → Q .non H' := fun _ H' s p => hrt () .non H' p s rfl
    exact ⟨_, (show JSs _ F ⟨[sv tI x0, sv tI x1], []⟩ _ ⟨fun _ H' => Q .non H', Q, fun _ _ => False, fun _ _ => False⟩ _ from
      (js_expr (je_call (ok_check_direction T) (hr.mono (by decide)) (by rfl) T.g_check_direction T.F_check_direction.kp T.b_check_direction (ja_cons (je_var (i := 0) (A := tI) (a := x0) rfl) (ja_cons (je_var (i := 1) (A := tI) (a := x1) rfl) ja_nil))) (js_if (jt_w (jw_or (jt_eqI (je_var (i := 0) (A := tI) (a := x0) rfl) je_int) (jw_oneO (jt_eqI (je_var (i := 1) (A := tI) (a := x1) rfl) je_int)))) js_never (js_endN hnx)))), ⟨Le.refl _, ⟨Same.refl _, (Par.cons ⟨v0, rfl, J.fr_in r0⟩ (Par.cons ⟨v1, rfl, J.fr_in r1⟩ Par.nil)), List.nodup_nil, fun c hc => by cases hc⟩, hw⟩⟩
theorem ok_steps (T : Txt K mg) : FnOk Pg w K mg base CX0 3 T.a_steps T.d_steps ["p", "q"] (spJ (aC tI (aC tI aN)) (rN (tT K (a2 tS tI))) fun t => w_steps t.1 t.2.1) := by
  refine T.F_steps.ok sc_steps (fun vs H Q E h => ?_) (fun cdv A outer s H vs Q E hr h => ?_)
  · obtain ⟨t, P, F, rfl, ⟨v0, _, rfl, r0, v1, _, rfl, r1, e0⟩, _⟩ := h
    have e1 := (e0 : _ = [])
    subst e1
    rfl
  · obtain ⟨⟨x0, x1, _⟩, P, F, rfl, ⟨v0, _, rfl, r0, v1, _, rfl, r1, e0⟩, hw, hrt⟩ := h
    have e1 := (e0 : _ = [])
    subst e1
    have sc := sc_steps
    exact ⟨_, (show JSs _ F ⟨[sv tI x0, sv tI x1, .any, .any], []⟩ _ ⟨fun _ H' => Q .non H', Q, fun _ _ => False, fun _ _ => False⟩ _ from
      (js_expr (je_call (ok_check_in_tree T) (hr.mono (by decide)) (by rfl) T.g_check_in_tree T.F_check_in_tree.kp T.b_check_in_tree (ja_cons (je_var (i := 0) (A := tI) (a := x0) rfl) (ja_cons (je_var (i := 1) (A := tI) (a := x1) rfl) ja_nil))) (js_stN (i := 2) (ps_set (i := 2) sc.nd rfl (by first | exact Or.inl rfl | exact Or.inr rfl) (je_lst0 (A := (tT K (a2 tS tI)))) rfl (by first | exact .inl rfl | exact .inr rfl)) (fun p224 runs_223 => (js_while (S := fun (s225 : Int × Int × (List (Str × Int))) => ⟨[sv tI s225.1, sv tI s225.2.1, .at p224, .any], [.lst p224 (tT K (a2 tS tI)) s225.2.2]⟩) (s0 := (x0, x1, runs_223)) ⟨(.same (.same (.same (.any .nil)))), (.cons₂ _ .slnil)⟩ (fun s225 => (jt_neI (je_var (i := 0) (A := tI) (a := s225.1) rfl) (je_var (i := 1) (A := tI) (a := s225.2.1) rfl))) (fun nxt226 brk227 s225 => (js_if (jt_gt (je_var (i := 0) (A := tI) (a := s225.1) rfl) (je_var (i := 1) (A := tI) (a := s225.2.1) rfl)) (js_asg (i := 3) (je_fdiv (je_sub (je_var (i := 0) (A := tI) (a := s225.1) rfl) je_int) (je_var (i := 1) (A := tI) (a := s225.2.1) rfl)) (fun count_230 => (js_app (i := 2) (j := 0) (pe_bm PySem.F.plainAttrs_list PySem.F.slot_list_append PySem.F.type_list_append mt_append (pv 2) (pa_cons (je_tup2 (je_globS (by rfl) T.c_FLAT ⟨_, rfl⟩) (je_var (i := 3) (A := tI) (a := count_230) rfl)) pa_nil)) (fun y231 => (js_asg (i := 0) (je_sub (je_var (i := 0) (A := tI) (a := s225.1) rfl) (je_mul (je_var (i := 3) (A := tI) (a := count_230) rfl) (je_var (i := 1) (A := tI) (a := s225.2.1) rfl))) (fun p_232 => (js_end (p_232, s225.2.1, (s225.2.2 ++ [y231])) ⟨(.same (.same (.same (.any .nil)))), (.cons₂ _ .slnil)⟩)) sc.nd)) rfl rfl)) sc.nd) (js_asg (i := 3) (je_fdiv (je_sub (je_var (i := 1) (A := tI) (a := s225.2.1) rfl) je_int) (je_var (i := 0) (A := tI) (a := s225.1) rfl)) (fun count_234 => (js_app (i := 2) (j := 0) (pe_bm PySem.F.plainAttrs_list PySem.F.slot_list_append PySem.F.type_list_append mt_append (pv 2) (pa_cons (je_tup2 (je_globS (by rfl) T.c_STEEP ⟨_, rfl⟩) (je_var (i := 3) (A := tI) (a := count_234) rfl)) pa_nil)) (fun y235 => (js_asg (i := 1) (je_sub (je_var (i := 1) (A := tI) (a := s225.2.1) rfl) (je_mul (je_var (i := 3) (A := tI) (a := count_234) rfl) (je_var (i := 0) (A := tI) (a := s225.1) rfl))) (fun q_236 => (js_end (s225.1, q_236, (s225.2.2 ++ [y235])) ⟨(.same (.same (.same (.any .nil)))), (.cons₂ _ .slnil)⟩)) sc.nd)) rfl rfl)) sc.nd))) (fun s225 => (js_retC (i := 2) (j := 0) hrt rfl rfl)) PassesOwn.never))))), ⟨Le.refl _, ⟨Same.refl _, (Par.cons ⟨v0, rfl, J.fr_in r0⟩ (Par.cons ⟨v1, rfl, J.fr_in r1⟩ (Par.cons trivial (Par.cons trivial Par.nil)))), List.nodup_nil, fun c hc => by cases hc⟩, hw⟩⟩
theorem ok_neighbors (T : Txt K mg) : FnOk Pg w K mg base CX0 4 T.a_neighbors T.d_neighbors ["p", "q"] (spJ (aC tI (aC tI aN)) (rO (tT K (a2 (tT K (a2 tI tI)) (tT K (a2 tI tI))))) fun t => w_neighbors t.1 t.2.1) := by
  refine T.F_neighbors.ok sc_neighbors (fun vs H Q E h => ?_) (fun cdv A outer s H vs Q E hr h => ?_)
  · obtain ⟨t, P, F, rfl, ⟨v0, _, rfl, r0, v1, _, rfl, r1, e0⟩, _⟩ := h
    have e1 := (e0 : _ = [])
    subst e1
    rfl
  · obtain ⟨⟨x0, x1, _⟩, P, F, rfl, ⟨v0, _, rfl, r0, v1, _, rfl, r1, e0⟩, hw, hrt⟩ := h
    have e1 := (e0 : _ = [])
    subst e1
    have sc := sc_neighbors
    exact ⟨_, (show JSs _ F ⟨[sv tI x0, sv tI x1], []⟩ _ ⟨fun _ H' => Q .non H', Q, fun _ _ => False, fun _ _ => False⟩ _ from
      (js_ret hrt (je_call (ok_neighbors_after T) (hr.mono (by decide)) (by rfl) T.g_neighbors_after T.F_neighbors_after.kp T.b_neighbors_after (ja_cons (je_new (je_call (ok_steps T) (hr.mono (by decide)) (by rfl) T.g_steps T.F_steps.kp T.b_steps (ja_cons (je_var (i := 0) (A := tI) (a := x0) rfl) (ja_cons (je_var (i := 1) (A := tI) (a := x1) rfl) ja_nil)))) ja_nil)))), ⟨Le.refl _, ⟨Same.refl _, (Par.cons ⟨v0, rfl, J.fr_in r0⟩ (Par.cons ⟨v1, rfl, J.fr_in r1⟩ Par.nil)), List.nodup_nil, fun c hc => by cases hc⟩, hw⟩⟩
theorem ok_PairSearch___init__ (T : Txt K mg) : FnOk Pg w K mg base CX0 5 T.a_PairSearch___init__ T.d_PairSearch___init__ ["self", "pair", "under"] (spIO T.a_PairSearch (fun (i : Idx_PairSearch) => i.1) (aC (tT K (a2 (tC T.a_WalkTable ["_ends", "_marks"] (a2 (tT K (aV tI)) (tT K (aV tI)))) (tC T.a_WalkTable ["_ends", "_marks"] (a2 (tT K (aV tI)) (tT K (aV tI)))))) (aC (tO (tT K (a2 tI tI))) aN)) (E_PairSearch Pg w T) fun t => w_PairSearch___init__ t.1 t.2.1) := by
  refine T.F_PairSearch___init__.ok sc_PairSearch___init__ (fun vs H Q E h => ?_) (fun cdv A outer s H vs Q E hr h => ?_)
  · obtain ⟨x, dx, ws, t, P, F, rfl, hx, hdx, hne, rfl, ⟨v0, _, rfl, r0, v1, _, rfl, r1, e0⟩, _⟩ := h
    have e1 := (e0 : _ = [])
    subst e1
    rfl
  · obtain ⟨x, dx, ws, ⟨x0, x1, _⟩, P, F, rfl, hx, hdx, hne, rfl, ⟨v0, _, rfl, r0, v1, _, rfl, r1, e0⟩, hw, hq⟩ := h
    have e1 := (e0 : _ = [])
    subst e1
    have sc := sc_PairSearch___init__
    exact ⟨_, (show JSs _ F ⟨[.at x, sv (tT K (a2 (tC T.a_WalkTable ["_ends", "_marks"] (a2 (tT K (aV tI)) (tT K (aV tI)))) (tC T.a_WalkTable ["_ends", "_marks"] (a2 (tT K (aV tI)) (tT K (aV tI)))))) x0, sv (tO (tT K (a2 tI tI))) x1, .any, .any, .any, .any], [.ins x dx T.a_PairSearch [] aN ()]⟩ _ ⟨fun _ H' => Q .non H', Q, fun _ _ => False, fun _ _ => False⟩ _ from
      (js_fldL (A := (tC T.a_WalkTable ["_ends", "_marks"] (a2 (tT K (aV tI)) (tT K (aV tI))))) (i := 0) (j := 0) T.cl_PairSearch T.nf_PairSearch__tables (je_lst0 (A := (tC T.a_WalkTable ["_ends", "_marks"] (a2 (tT K (aV tI)) (tT K (aV tI)))))) (fun p148 f149 => (js_fldD (K := K) (A := (tT K (a2 (tT K (aV tI)) (tT K (aV tI))))) (i := 0) (j := 0) rfl T.cl_PairSearch T.nf_PairSearch__table_numbers (fun p150 => (js_fldL (A := (tT K (a2 tI tI))) (i := 0) (j := 0) T.cl_PairSearch T.nf_PairSearch__pairs (je_lst0 (A := (tT K (a2 tI tI)))) (fun p151 f152 => (js_fldD (K := K) (A := (tT K (a2 tI tI))) (i := 0) (j := 0) rfl T.cl_PairSearch T.nf_PairSearch__pair_numbers (fun p153 => (js_fldL (A := (tT K (a2 (tT K (a2 tI tI)) (tT K (a2 tI tI))))) (i := 0) (j := 0) T.cl_PairSearch T.nf_PairSearch__neighbors (je_lst0 (A := (tT K (a2 (tT K (a2 tI tI)) (tT K (a2 tI tI)))))) (fun p154 f155 => (js_fldL (A := (tT K (a2 tI tI))) (i := 0) (j := 0) T.cl_PairSearch T.nf_PairSearch__children (je_lst0 (A := (tT K (a2 tI tI)))) (fun p156 f157 => (js_fld (i := 0) (j := 0) T.cl_PairSearch T.nf_PairSearch__from_the_sides (je_isN (je_var (i := 2) (A := (tO (tT K (a2 tI tI)))) (a := x1) rfl)) (fun f158 => (js_asgT (je_if (jt_isN (je_var (i := 2) (A := (tO (tT K (a2 tI tI)))) (a := x1) rfl)) (je_tup2 je_int je_int) (je_get (je_var (i := 2) (A := (tO (tT K (a2 tI tI)))) (a := x1) rfl))) (pg_tup rfl (pgs_cons (pg_name (i := 3) sc.nd rfl (Or.inl rfl)) (pgs_cons (pg_name (i := 4) sc.nd rfl (Or.inl rfl)) pgs_nil))) (tg_pair (tg_name) (tg_name)) (fun t160 => (js_asgT (je_var (i := 1) (A := (tT K (a2 (tC T.a_WalkTable ["_ends", "_marks"] (a2 (tT K (aV tI)) (tT K (aV tI)))) (tC T.a_WalkTable ["_ends", "_marks"] (a2 (tT K (aV tI)) (tT K (aV tI))))))) (a := x0) rfl) (pg_tup rfl (pgs_cons (pg_name (i := 5) sc.nd rfl (Or.inl rfl)) (pgs_cons (pg_name (i := 6) sc.nd rfl (Or.inl rfl)) pgs_nil))) (tg_pair (tg_name) (tg_name)) (fun t161 => (js_exprM (S := fun (z242 : St_PairSearch) => ⟨[.at x, sv (tT K (a2 (tC T.a_WalkTable ["_ends", "_marks"] (a2 (tT K (aV tI)) (tT K (aV tI)))) (tC T.a_WalkTable ["_ends", "_marks"] (a2 (tT K (aV tI)) (tT K (aV tI)))))) x0, sv (tO (tT K (a2 tI tI))) x1, sv tI t160.1, sv tI t160.2, sv (tC T.a_WalkTable ["_ends", "_marks"] (a2 (tT K (aV tI)) (tT K (aV tI)))) t161.1, sv (tC T.a_WalkTable ["_ends", "_marks"] (a2 (tT K (aV tI)) (tT K (aV tI)))) t161.2], [.ins x dx T.a_PairSearch ["_tables", "_table_numbers", "_pairs", "_pair_numbers", "_neighbors", "_children", "_from_the_sides"] (aSnoc (aSnoc (aSnoc (aSnoc (aSnoc (aSnoc (aSnoc aN (tAt p148)) (tAt p150)) (tAt p151)) (tAt p153)) (tAt p154)) (tAt p156)) tB) ((((((((), ()), ()), ()), ()), ()), ()), z242.2.2.2.2.2.2), .lst p148 (tC T.a_WalkTable ["_ends", "_marks"] (a2 (tT K (aV tI)) (tT K (aV tI)))) z242.1, .gen p150 (dctR Pg w K (tT K (a2 (tT K (aV tI)) (tT K (aV tI)))) p150 z242.2.1), .lst p151 (tT K (a2 tI tI)) z242.2.2.1, .gen p153 (dctR Pg w K (tT K (a2 tI tI)) p153 z242.2.2.2.1), .lst p154 (tT K (a2 (tT K (a2 tI tI)) (tT K (a2 tI tI)))) z242.2.2.2.2.1, .lst p156 (tT K (a2 tI tI)) z242.2.2.2.2.2.1]⟩) (je_methMc (g0 := ⟨[.at x, sv (tT K (a2 (tC T.a_WalkTable ["_ends", "_marks"] (a2 (tT K (aV tI)) (tT K (aV tI)))) (tC T.a_WalkTable ["_ends", "_marks"] (a2 (tT K (aV tI)) (tT K (aV tI)))))) x0, sv (tO (tT K (a2 tI tI))) x1, sv tI t160.1, sv tI t160.2, sv (tC T.a_WalkTable ["_ends", "_marks"] (a2 (tT K (aV tI)) (tT K (aV tI)))) t161.1, sv (tC T.a_WalkTable ["_ends", "_marks"] (a2 (tT K (aV tI)) (tT K (aV tI)))) t161.2], []⟩) (E := (E_PairSearch Pg w T)) (self := fun (i : Idx_PairSearch) => i.1) (i := (x, dx, p148, p150, p151, p153, p154, p156)) (z := (f149, [], f152, [], f155, f157, f158)) (i0 := 0) T.cl_PairSearch T.M_PairSearch__number_of (ok_PairSearch__number_of T) (hr.mono (by decide)) T.b_PairSearch__number_of rfl (fun _ => rfl) (fun vs h => match vs, h with | [_, _, _, _, _, _, _], _ => rfl) (je_tup2M (S := fun (z190 : St_PairSearch) => ⟨[.at x, sv (tT K (a2 (tC T.a_WalkTable ["_ends", "_marks"] (a2 (tT K (aV tI)) (tT K (aV tI)))) (tC T.a_WalkTable ["_ends", "_marks"] (a2 (tT K (aV tI)) (tT K (aV tI)))))) x0, sv (tO (tT K (a2 tI tI))) x1, sv tI t160.1, sv tI t160.2, sv (tC T.a_WalkTable ["_ends", "_marks"] (a2 (tT K (aV tI)) (tT K (aV tI)))) t161.1, sv (tC T.a_WalkTable ["_ends", "_marks"] (a2 (tT K (aV tI)) (tT K (aV tI)))) t161.2], [.ins x dx T.a_PairSearch ["_tables", "_table_numbers", "_pairs", "_pair_numbers", "_neighbors", "_children", "_from_the_sides"] (aSnoc (aSnoc (aSnoc (aSnoc (aSnoc (aSnoc (aSnoc aN (tAt p148)) (tAt p150)) (tAt p151)) (tAt p153)) (tAt p154)) (tAt p156)) tB) ((((((((), ()), ()), ()), ()), ()), ()), z190.2.2.2.2.2.2), .lst p148 (tC T.a_WalkTable ["_ends", "_marks"] (a2 (tT K (aV tI)) (tT K (aV tI)))) z190.1, .gen p150 (dctR Pg w K (tT K (a2 (tT K (aV tI)) (tT K (aV tI)))) p150 z190.2.1), .lst p151 (tT K (a2 tI tI)) z190.2.2.1, .gen p153 (dctR Pg w K (tT K (a2 tI tI)) p153 z190.2.2.2.1), .lst p154 (tT K (a2 (tT K (a2 tI tI)) (tT K (a2 tI tI)))) z190.2.2.2.2.1, .lst p156 (tT K (a2 tI tI)) z190.2.2.2.2.2.1]⟩) (je_methM (g0 := ⟨[.at x, sv (tT K (a2 (tC T.a_WalkTable ["_ends", "_marks"] (a2 (tT K (aV tI)) (tT K (aV tI)))) (tC T.a_WalkTable ["_ends", "_marks"] (a2 (tT K (aV tI)) (tT K (aV tI)))))) x0, sv (tO (tT K (a2 tI tI))) x1, sv tI t160.1, sv tI t160.2, sv (tC T.a_WalkTable ["_ends", "_marks"] (a2 (tT K (aV tI)) (tT K (aV tI)))) t161.1, sv (tC T.a_WalkTable ["_ends", "_marks"] (a2 (tT K (aV tI)) (tT K (aV tI)))) t161.2], []⟩) (E := (E_PairSearch Pg w T)) (self := fun (i : Idx_PairSearch) => i.1) (i := (x, dx, p148, p150, p151, p153, p154, p156)) (z := (f149, [], f152, [], f155, f157, f158)) (i0 := 0) T.cl_PairSearch T.M_PairSearch__table_number (ok_PairSearch__table_number T) (hr.mono (by decide)) T.b_PairSearch__table_number rfl rfl (fun vs h => match vs, h with | [_, _, _, _, _, _, _], _ => rfl) (jam_of (f149, [], f152, [], f155, f157, f158) rfl (ja_cons (je_var (i := 5) (A := (tC T.a_WalkTable ["_ends", "_marks"] (a2 (tT K (aV tI)) (tT K (aV tI))))) (a := t161.1) rfl) ja_nil))) (fun z190 => (je_methM (g0 := ⟨[.at x, sv (tT K (a2 (tC T.a_WalkTable ["_ends", "_marks"] (a2 (tT K (aV tI)) (tT K (aV tI)))) (tC T.a_WalkTable ["_ends", "_marks"] (a2 (tT K (aV tI)) (tT K (aV tI)))))) x0, sv (tO (tT K (a2 tI tI))) x1, sv tI t160.1, sv tI t160.2, sv (tC T.a_WalkTable ["_ends", "_marks"] (a2 (tT K (aV tI)) (tT K (aV tI)))) t161.1, sv (tC T.a_WalkTable ["_ends", "_marks"] (a2 (tT K (aV tI)) (tT K (aV tI)))) t161.2], []⟩) (E := (E_PairSearch Pg w T)) (self := fun (i : Idx_PairSearch) => i.1) (i := (x, dx, p148, p150, p151, p153, p154, p156)) (z := z190) (i0 := 0) T.cl_PairSearch T.M_PairSearch__table_number (ok_PairSearch__table_number T) (hr.mono (by decide)) T.b_PairSearch__table_number rfl rfl (fun vs h => match vs, h with | [_, _, _, _, _, _, _], _ => rfl) (jam_of z190 rfl (ja_cons (je_var (i := 6) (A := (tC T.a_WalkTable ["_ends", "_marks"] (a2 (tT K (aV tI)) (tT K (aV tI))))) (a := t161.2) rfl) ja_nil))))) (fun z193 => (ja_cons (je_call (ok_neighbors T) (hr.mono (by decide)) (by rfl) T.g_neighbors T.F_neighbors.kp T.b_neighbors (ja_cons (je_var (i := 3) (A := tI) (a := t160.1) rfl) (ja_cons (je_var (i := 4) (A := tI) (a := t160.2) rfl) ja_nil))) ja_nil))) (fun z242 => (js_endIO (E := (E_PairSearch Pg w T)) (self := fun (i : Idx_PairSearch) => i.1) hq (x, dx, p148, p150, p151, p153, p154, p156) z242 rfl (.cons₂ _ (.cons₂ _ (.cons₂ _ (.cons₂ _ (.cons₂ _ (.cons₂ _ (.cons₂ _ .slnil))))))))))))))) rfl rfl)) rfl rfl)) rfl rfl)) rfl rfl)) rfl rfl)) rfl rfl)) rfl rfl)), ⟨Le.refl _, J.init_ok hx hdx hne (Par.cons rfl (Par.cons ⟨v0, rfl, r0⟩ (Par.cons ⟨v1, rfl, r1⟩ (Par.cons trivial (Par.cons trivial (Par.cons trivial (Par.cons trivial Par.nil))))))), by exact hw⟩⟩
theorem ok_side_by_side (T : Txt K mg) : FnOk Pg w K mg base CX0 1 T.a_side_by_side T.d_side_by_side ["one", "two"] (spJ (aC (tT K (aV tI)) (aC (tT K (aV tI)) aN)) (rN tI) fun t => w_side_by_side t.1 t.2.1) := by
  refine T.F_side_by_side.ok sc_side_by_side (fun vs H Q E h => ?_) (fun cdv A outer s H vs Q E hr h => ?_)
  · obtain ⟨t, P, F, rfl, ⟨v0, _, rfl, r0, v1, _, rfl, r1, e0⟩, _⟩ := h
    have e1 := (e0 : _ = [])
    subst e1
    rfl
  · obtain ⟨⟨x0, x1, _⟩, P, F, rfl, ⟨v0, _, rfl, r0, v1, _, rfl, r1, e0⟩, hw, hrt⟩ := h
    have e1 := (e0 : _ = [])
    subst e1
    have sc := sc_side_by_side
    exact ⟨_, (show JSs _ F ⟨[sv (tT K (aV tI)) x0, sv (tT K (aV tI)) x1, .any, .any, .any], []⟩ _ ⟨fun _ H' => Q .non H', Q, fun _ _ => False, fun _ _ => False⟩ _ from
      (js_asg (i := 2) (je_lenT (by rfl) T.m_len (je_var (i := 0) (A := (tT K (aV tI))) (a := x0) rfl) len_aV) (fun shift_248 => (js_stF (i := 3) (ps_lc (i := 3) (own := [("room", 4)]) (B := tI) (ji_T (je_var (i := 1) (A := (tT K (aV tI))) (a := x1) rfl)) sc.nd (blkOk_by (N := ["one", "two", "shift", "shifted", "room"]) (sc := defScope s_side_by_side) (by decide +kernel)) (tgw_name) (fun _ _ _ _ _ => (pg_name (i := 4) sc.nd rfl (Or.inl rfl))) (fun D249 acc250 room_251 _ _ _ _ _ => (je_add (je_var (i := 4) (A := tI) (a := room_251) rfl) (je_var (i := 2) (A := tI) (a := shift_248) rfl))) (sw_true rfl rfl rfl (by decide +kernel))) (fun shifted_254 => (js_ret hrt (je_lstS (ja_starT (je_var (i := 0) (A := (tT K (aV tI))) (a := x0) rfl) (ja_starL (je_e (je_eK (je_var (i := 3) (A := (tK tI)) (a := shifted_254) rfl))) ja_nilV))))))) sc.nd)), ⟨Le.refl _, ⟨Same.refl _, (Par.cons ⟨v0, rfl, J.fr_in r0⟩ (Par.cons ⟨v1, rfl, J.fr_in r1⟩ (Par.cons trivial (Par.cons trivial (Par.cons trivial Par.nil))))), List.nodup_nil, fun c hc => by cases hc⟩, hw⟩⟩
theorem ok_Plan_right (T : Txt K mg) : FnOk Pg w K mg base CX0 1 T.a_Plan_right T.d_Plan_right ["self"] (spJ (aC (tC T.a_Plan ["_right", "_above"] (a2 (tT K (aV tI)) (tT K (aV tI)))) aN) (rO (tT K (aV tI))) fun t => w_Plan_right t.1) := by
  refine T.F_Plan_right.ok sc_Plan_right (fun vs H Q E h => ?_) (fun cdv A outer s H vs Q E hr h => ?_)
  · obtain ⟨t, P, F, rfl, ⟨v0, _, rfl, r0, e0⟩, _⟩ := h
    have e1 := (e0 : _ = [])
    subst e1
    rfl
  · obtain ⟨⟨x0, _⟩, P, F, rfl, ⟨v0, _, rfl, r0, e0⟩, hw, hrt⟩ := h
    have e1 := (e0 : _ = [])
    subst e1
    have sc := sc_Plan_right
    exact ⟨_, (show JSs _ F ⟨[sv (tC T.a_Plan ["_right", "_above"] (a2 (tT K (aV tI)) (tT K (aV tI)))) x0], []⟩ _ ⟨fun _ H' => Q .non H', Q, fun _ _ => False, fun _ _ => False⟩ _ from
      (js_ret hrt (je_fld (A := (tT K (aV tI))) (h := fun (t : ((List Int) × (List Int))) => t.1) (je_var (i := 0) (A := (tC T.a_Plan ["_right", "_above"] (a2 (tT K (aV tI)) (tT K (aV tI))))) (a := x0) rfl) T.cl_Plan T.nf_Plan__right (fun _ _ _ ⟨y0, y1, e0, h0, h1⟩ => ⟨y0, by rw [e0]; rfl, h0⟩)))), ⟨Le.refl _, ⟨Same.refl _, (Par.cons ⟨v0, rfl, J.fr_in r0⟩ Par.nil), List.nodup_nil, fun c hc => by cases hc⟩, hw⟩⟩
theorem ok_Plan_above (T : Txt K mg) : FnOk Pg w K mg base CX0 1 T.a_Plan_above T.d_Plan_above ["self"] (spJ (aC (tC T.a_Plan ["_right", "_above"] (a2 (tT K (aV tI)) (tT K (aV tI)))) aN) (rO (tT K (aV tI))) fun t => w_Plan_above t.1) := by
  refine T.F_Plan_above.ok sc_Plan_above (fun vs H Q E h => ?_) (fun cdv A outer s H vs Q E hr h => ?_)
  · obtain ⟨t, P, F, rfl, ⟨v0, _, rfl, r0, e0⟩, _⟩ := h
    have e1 := (e0 : _ = [])
    subst e1
    rfl
  · obtain ⟨⟨x0, _⟩, P, F, rfl, ⟨v0, _, rfl, r0, e0⟩, hw, hrt⟩ := h
    have e1 := (e0 : _ = [])
    subst e1
    have sc := sc_Plan_above
    exact ⟨_, (show JSs _ F ⟨[sv (tC T.a_Plan ["_right", "_above"] (a2 (tT K (aV tI)) (tT K (aV tI)))) x0], []⟩ _ ⟨fun _ H' => Q .non H', Q, fun _ _ => False, fun _ _ => False⟩ _ from
      (js_ret hrt (je_fld (A := (tT K (aV tI))) (h := fun (t : ((List Int) × (List Int))) => t.2) (je_var (i := 0) (A := (tC T.a_Plan ["_right", "_above"] (a2 (tT K (aV tI)) (tT K (aV tI))))) (a := x0) rfl) T.cl_Plan T.nf_Plan__above (fun _ _ _ ⟨y0, y1, e0, h0, h1⟩ => ⟨y1, by rw [e0]; rfl, h1⟩)))), ⟨Le.refl _, ⟨Same.refl _, (Par.cons ⟨v0, rfl, J.fr_in r0⟩ Par.nil), List.nodup_nil, fun c hc => by cases hc⟩, hw⟩⟩
theorem ok_WalkTable___init__ (T : Txt K mg) : FnOk Pg w K mg base CX0 1 T.a_WalkTable___init__ T.d_WalkTable___init__ ["self", "ends", "marks"] (spI T.a_WalkTable ["_ends", "_marks"] (aC (tK tI) (aC (tK tI) aN)) (a2 (tT K (aV tI)) (tT K (aV tI))) fun t => w_WalkTable___init__ t.1 t.2.1) := by
  refine T.F_WalkTable___init__.ok sc_WalkTable___init__ (fun vs H Q E h => ?_) (fun cdv A outer s H vs Q E hr h => ?_)
  · obtain ⟨x, dx, ws, t, P, F, rfl, hx, hdx, hne, rfl, ⟨v0, _, rfl, r0, v1, _, rfl, r1, e0⟩, _⟩ := h
    have e1 := (e0 : _ = [])
    subst e1
    rfl
  · obtain ⟨x, dx, ws, ⟨x0, x1, _⟩, P, F, rfl, hx, hdx, hne, rfl, ⟨v0, _, rfl, r0, v1, _, rfl, r1, e0⟩, hw, hq⟩ := h
    have e1 := (e0 : _ = [])
    subst e1
    have sc := sc_WalkTable___init__
    exact ⟨_, (show JSs _ F ⟨[.at x, sv (tK tI) x0, sv (tK tI) x1], [.ins x dx T.a_WalkTable [] aN ()]⟩ _ ⟨fun _ H' => Q .non H', Q, fun _ _ => False, fun _ _ => False⟩ _ from
      (js_fld (i := 0) (j := 0) T.cl_WalkTable T.nf_WalkTable__ends (je_tupleL (by rfl) T.m_tuple (je_e (je_eK (je_var (i := 1) (A := (tK tI)) (a := x0) rfl)))) (fun f262 => (js_fld (i := 0) (j := 0) T.cl_WalkTable T.nf_WalkTable__marks (je_tupleL (by rfl) T.m_tuple (je_e (je_eK (je_var (i := 2) (A := (tK tI)) (a := x1) rfl)))) (fun f263 => (js_endI (κ := ((List Int) × (List Int))) (u := (f262, f263)) (fun σ H k p => hq _ H p k.same (J.init_end (j := 0) k rfl sn2)))) rfl rfl)) rfl rfl)), ⟨Le.refl _, J.init_ok hx hdx hne (Par.cons rfl (Par.cons ⟨v0, rfl, r0⟩ (Par.cons ⟨v1, rfl, r1⟩ Par.nil))), hw⟩⟩
theorem ok_without_marks (T : Txt K mg) : FnOk Pg w K mg base CX0 3 T.a_without_marks T.d_without_marks ["ends"] (spJ (aC (tK tI) aN) (rO (tC T.a_WalkTable ["_ends", "_marks"] (a2 (tT K (aV tI)) (tT K (aV tI))))) fun t => w_without_marks t.1) := by
  refine T.F_without_marks.ok sc_without_marks (fun vs H Q E h => ?_) (fun cdv A outer s H vs Q E hr h => ?_)
  · obtain ⟨t, P, F, rfl, ⟨v0, _, rfl, r0, e0⟩, _⟩ := h
    have e1 := (e0 : _ = [])
    subst e1
    rfl
  · obtain ⟨⟨x0, _⟩, P, F, rfl, ⟨v0, _, rfl, r0, e0⟩, hw, hrt⟩ := h
    have e1 := (e0 : _ = [])
    subst e1
    have sc := sc_without_marks
    exact ⟨_, (show JSs _ F ⟨[sv (tK tI) x0], []⟩ _ ⟨fun _ H' => Q .non H', Q, fun _ _ => False, fun _ _ => False⟩ _ from
      (js_ret hrt (je_make (T := (aC (tK tI) (aC (tK tI) aN))) (U := (a2 (tT K (aV tI)) (tT K (aV tI)))) (w := fun t => w_WalkTable___init__ t.1 t.2.1) T.M_WalkTable___init__ (ok_WalkTable___init__ T) (hr.mono (by decide)) (by rfl) T.g_WalkTable T.b_WalkTable___init__ (ja_cons (je_var (i := 0) (A := (tK tI)) (a := x0) rfl) (ja_cons (je_new (je_rep (je_eN (je_lst (ja_consV je_int (ja_nilV (A := tI))))) (je_lenL (by rfl) T.m_len (je_ebL (je_e (je_eK (je_var (i := 0) (A := (tK tI)) (a := x0) rfl))))))) ja_nil))))), ⟨Le.refl _, ⟨Same.refl _, (Par.cons ⟨v0, rfl, J.fr_in r0⟩ Par.nil), List.nodup_nil, fun c hc => by cases hc⟩, hw⟩⟩
theorem ok_side_tables (T : Txt K mg) : FnOk Pg w K mg base CX0 4 T.a_side_tables T.d_side_tables ["plan", "other"] (spJ (aC (tC T.a_Plan ["_right", "_above"] (a2 (tT K (aV tI)) (tT K (aV tI)))) (aC (tC T.a_Plan ["_right", "_above"] (a2 (tT K (aV tI)) (tT K (aV tI)))) aN)) (rO (tT K (a2 (tC T.a_WalkTable ["_ends", "_marks"] (a2 (tT K (aV tI)) (tT K (aV tI)))) (tC T.a_WalkTable ["_ends", "_marks"] (a2 (tT K (aV tI)) (tT K (aV tI))))))) fun t => w_side_tables t.1 t.2.1) := by
  refine T.F_side_tables.ok sc_side_tables (fun vs H Q E h => ?_) (fun cdv A outer s H vs Q E hr h => ?_)
  · obtain ⟨t, P, F, rfl, ⟨v0, _, rfl, r0, v1, _, rfl, r1, e0⟩, _⟩ := h
    have e1 := (e0 : _ = [])
    subst e1
    rfl
  · obtain ⟨⟨x0, x1, _⟩, P, F, rfl, ⟨v0, _, rfl, r0, v1, _, rfl, r1, e0⟩, hw, hrt⟩ := h
    have e1 := (e0 : _ = [])
    subst e1
    have sc := sc_side_tables
    exact ⟨_, (show JSs _ F ⟨[sv (tC T.a_Plan ["_right", "_above"] (a2 (tT K (aV tI)) (tT K (aV tI)))) x0, sv (tC T.a_Plan ["_right", "_above"] (a2 (tT K (aV tI)) (tT K (aV tI)))) x1, .any, .any], []⟩ _ ⟨fun _ H' => Q .non H', Q, fun _ _ => False, fun _ _ => False⟩ _ from
      (js_stF (i := 2) (ps_set (i := 2) sc.nd rfl (by first | exact Or.inl rfl | exact Or.inr rfl) (je_call (ok_side_by_side T) (hr.mono (by decide)) (by rfl) T.g_side_by_side T.F_side_by_side.kp T.b_side_by_side (ja_cons (je_prop (je_var (i := 0) (A := (tC T.a_Plan ["_right", "_above"] (a2 (tT K (aV tI)) (tT K (aV tI))))) (a := x0) rfl) T.cl_Plan T.M_Plan_right (ok_Plan_right T) (hr.mono (by decide)) T.b_Plan_right) (ja_cons (je_prop (je_var (i := 1) (A := (tC T.a_Plan ["_right", "_above"] (a2 (tT K (aV tI)) (tT K (aV tI))))) (a := x1) rfl) T.cl_Plan T.M_Plan_right (ok_Plan_right T) (hr.mono (by decide)) T.b_Plan_right) ja_nil))) rfl (by first | exact .inl rfl | exact .inr rfl)) (fun right_256 => (js_stF (i := 3) (ps_set (i := 3) sc.nd rfl (by first | exact Or.inl rfl | exact Or.inr rfl) (je_call (ok_side_by_side T) (hr.mono (by decide)) (by rfl) T.g_side_by_side T.F_side_by_side.kp T.b_side_by_side (ja_cons (je_prop (je_var (i := 0) (A := (tC T.a_Plan ["_right", "_above"] (a2 (tT K (aV tI)) (tT K (aV tI))))) (a := x0) rfl) T.cl_Plan T.M_Plan_above (ok_Plan_above T) (hr.mono (by decide)) T.b_Plan_above) (ja_cons (je_prop (je_var (i := 1) (A := (tC T.a_Plan ["_right", "_above"] (a2 (tT K (aV tI)) (tT K (aV tI))))) (a := x1) rfl) T.cl_Plan T.M_Plan_above (ok_Plan_above T) (hr.mono (by decide)) T.b_Plan_above) ja_nil))) rfl (by first | exact .inl rfl | exact .inr rfl)) (fun above_258 => (js_ret hrt (je_tup2 (je_call (ok_without_marks T) (hr.mono (by decide)) (by rfl) T.g_without_marks T.F_without_marks.kp T.b_without_marks (ja_cons (je_var (i := 2) (A := (tK tI)) (a := right_256) rfl) ja_nil)) (je_call (ok_without_marks T) (hr.mono (by decide)) (by rfl) T.g_without_marks T.F_without_marks.kp T.b_without_marks (ja_cons (je_var (i := 3) (A := (tK tI)) (a := above_258) rfl) ja_nil))))))))), ⟨Le.refl _, ⟨Same.refl _, (Par.cons ⟨v0, rfl, J.fr_in r0⟩ (Par.cons ⟨v1, rfl, J.fr_in r1⟩ (Par.cons trivial (Par.cons trivial Par.nil)))), List.nodup_nil, fun c hc => by cases hc⟩, hw⟩⟩
theorem ok_PairSearch__first_direction (T : Txt K mg) : FnOk Pg w K mg base CX0 1 T.a_PairSearch__first_direction T.d_PairSearch__first_direction ["self", "number"] (spJM (fun (i : Idx_PairSearch) us => .ref i.1 :: us) (aC tI aN) (E_PairSearch Pg w T) (tT K (a2 tI tI)) (fun t z P => w_PairSearch__first_direction t.1 z P)) := by
  refine T.F_PairSearch__first_direction.ok sc_PairSearch__first_direction (fun vs H Q E h => ?_) (fun cdv A outer s H vs Q E hr h => ?_)
  · obtain ⟨t, i, z, us, F, P, rfl, kE, ⟨v0, _, rfl, r0, e0⟩, _⟩ := h
    have e1 := (e0 : _ = [])
    subst e1
    rfl
  · obtain ⟨⟨x0, _⟩, oi310, oz311, us, F, P, rfl, kE, ⟨v0, _, rfl, r0, e0⟩, hw, hrt⟩ := h
    have e1 := (e0 : _ = [])
    subst e1
    have sc := sc_PairSearch__first_direction
    exact ⟨_, (show JSs _ F ⟨[.at oi310.1, sv tI x0, .any, .any, .any, .any], [.ins oi310.1 oi310.2.1 T.a_PairSearch ["_tables", "_table_numbers", "_pairs", "_pair_numbers", "_neighbors", "_children", "_from_the_sides"] (aSnoc (aSnoc (aSnoc (aSnoc (aSnoc (aSnoc (aSnoc aN (tAt oi310.2.2.1)) (tAt oi310.2.2.2.1)) (tAt oi310.2.2.2.2.1)) (tAt oi310.2.2.2.2.2.1)) (tAt oi310.2.2.2.2.2.2.1)) (tAt oi310.2.2.2.2.2.2.2)) tB) ((((((((), ()), ()), ()), ()), ()), ()), oz311.2.2.2.2.2.2), .lst oi310.2.2.1 (tC T.a_WalkTable ["_ends", "_marks"] (a2 (tT K (aV tI)) (tT K (aV tI)))) oz311.1, .gen oi310.2.2.2.1 (dctR Pg w K (tT K (a2 (tT K (aV tI)) (tT K (aV tI)))) oi310.2.2.2.1 oz311.2.1), .lst oi310.2.2.2.2.1 (tT K (a2 tI tI)) oz311.2.2.1, .gen oi310.2.2.2.2.2.1 (dctR Pg w K (tT K (a2 tI tI)) oi310.2.2.2.2.2.1 oz311.2.2.2.1), .lst oi310.2.2.2.2.2.2.1 (tT K (a2 (tT K (a2 tI tI)) (tT K (a2 tI tI)))) oz311.2.2.2.2.1, .lst oi310.2.2.2.2.2.2.2 (tT K (a2 tI tI)) oz311.2.2.2.2.2.1]⟩ _ ⟨fun _ H' => Q .non H', Q, fun _ _ => False, fun _ _ => False⟩ _ from
      (js_asgT (je_ixL (je_e (je_ownA (A := (tT K (a2 (tT K (a2 tI tI)) (tT K (a2 tI tI))))) (p1 := oi310.2.2.2.2.2.2.1) (j1 := 5) (xs := oz311.2.2.2.2.1) (pe_ownF (p := oi310.2.2.2.2.2.2.1) (i := 0) (j := 0) T.cl_PairSearch T.nf_PairSearch__neighbors rfl rfl (fun H vs h => by obtain ⟨u7, v7, e7, ⟨u6, v6, e6, ⟨u5, v5, e5, ⟨u4, v4, e4, ⟨u3, v3, e3, ⟨u2, v2, e2, ⟨u1, v1, e1, e0, r1⟩, r2⟩, r3⟩, r4⟩, r5⟩, r6⟩, r7⟩ := h; have q0 := (e0 : _ = []); subst q0; subst e1; subst e2; subst e3; subst e4; subst e5; subst e6; subst e7; exact ⟨v5, rfl, r5⟩)) rfl)) (je_var (i := 1) (A := tI) (a := x0) rfl)) (pg_tup rfl (pgs_cons (pg_tup rfl (pgs_cons (pg_name (i := 2) sc.nd rfl (Or.inl rfl)) (pgs_cons (pg_name (i := 3) sc.nd rfl (Or.inl rfl)) pgs_nil))) (pgs_cons (pg_tup rfl (pgs_cons (pg_name (i := 4) sc.nd rfl (Or.inl rfl)) (pgs_cons (pg_name (i := 5) sc.nd rfl (Or.inl rfl)) pgs_nil))) pgs_nil))) (tg_pair (tg_pair (tg_name) (tg_name)) (tg_pair (tg_name) (tg_name))) (fun t314 => (js_retM (E := (E_PairSearch Pg w T)) (i := oi310) hrt oz311 (.cons₂ _ (.cons₂ _ (.cons₂ _ (.cons₂ _ (.cons₂ _ (.cons₂ _ (.cons₂ _ .slnil))))))) (je_tup2 (je_add (je_var (i := 2) (A := tI) (a := t314.1.1) rfl) (je_var (i := 4) (A := tI) (a := t314.2.1) rfl)) (je_add (je_var (i := 3) (A := tI) (a := t314.1.2) rfl) (je_var (i := 5) (A := tI) (a := t314.2.2) rfl))))))), ⟨Le.refl _, ⟨kE.same, (Par.cons rfl (Par.cons ⟨v0, rfl, r0⟩ (Par.cons trivial (Par.cons trivial (Par.cons trivial (Par.cons trivial Par.nil)))))), kE.nd, kE.cells⟩, hw⟩⟩
theorem ok_WalkTable_size (T : Txt K mg) : FnOk Pg w K mg base CX0 1 T.a_WalkTable_size T.d_WalkTable_size ["self"] (spJ (aC (tC T.a_WalkTable ["_ends", "_marks"] (a2 (tT K (aV tI)) (tT K (aV tI)))) aN) (rO tI) fun t => w_WalkTable_size t.1) := by
  refine T.F_WalkTable_size.ok sc_WalkTable_size (fun vs H Q E h => ?_) (fun cdv A outer s H vs Q E hr h => ?_)
  · obtain ⟨t, P, F, rfl, ⟨v0, _, rfl, r0, e0⟩, _⟩ := h
    have e1 := (e0 : _ = [])
    subst e1
    rfl
  · obtain ⟨⟨x0, _⟩, P, F, rfl, ⟨v0, _, rfl, r0, e0⟩, hw, hrt⟩ := h
    have e1 := (e0 : _ = [])
    subst e1
    have sc := sc_WalkTable_size
    exact ⟨_, (show JSs _ F ⟨[sv (tC T.a_WalkTable ["_ends", "_marks"] (a2 (tT K (aV tI)) (tT K (aV tI)))) x0], []⟩ _ ⟨fun _ H' => Q .non H', Q, fun _ _ => False, fun _ _ => False⟩ _ from
      (js_ret hrt (je_lenT (by rfl) T.m_len (je_fld (A := (tT K (aV tI))) (h := fun (t : ((List Int) × (List Int))) => t.1) (je_var (i := 0) (A := (tC T.a_WalkTable ["_ends", "_marks"] (a2 (tT K (aV tI)) (tT K (aV tI))))) (a := x0) rfl) T.cl_WalkTable T.nf_WalkTable__ends (fun _ _ _ ⟨y0, y1, e0, h0, h1⟩ => ⟨y0, by rw [e0]; rfl, h0⟩)) len_aV))), ⟨Le.refl _, ⟨Same.refl _, (Par.cons ⟨v0, rfl, J.fr_in r0⟩ Par.nil), List.nodup_nil, fun c hc => by cases hc⟩, hw⟩⟩
theorem ok_WalkTable___mul__ (T : Txt K mg) : FnOk Pg w K mg base CX0 3 T.a_WalkTable___mul__ T.d_WalkTable___mul__ ["self", "other"] (spJ (aC (tC T.a_WalkTable ["_ends", "_marks"] (a2 (tT K (aV tI)) (tT K (aV tI)))) (aC (tC T.a_WalkTable ["_ends", "_marks"] (a2 (tT K (aV tI)) (tT K (aV tI)))) aN)) (rO (tC T.a_WalkTable ["_ends", "_marks"] (a2 (tT K (aV tI)) (tT K (aV tI))))) fun t => w_WalkTable___mul__ t.1 t.2.1) := by
  refine T.F_WalkTable___mul__.ok sc_WalkTable___mul__ (fun vs H Q E h => ?_) (fun cdv A outer s H vs Q E hr h => ?_)
  · obtain ⟨t, P, F, rfl, ⟨v0, _, rfl, r0, v1, _, rfl, r1, e0⟩, _⟩ := h
    have e1 := (e0 : _ = [])
    subst e1
    rfl
  · obtain ⟨⟨x0, x1, _⟩, P, F, rfl, ⟨v0, _, rfl, r0, v1, _, rfl, r1, e0⟩, hw, hrt⟩ := h
    have e1 := (e0 : _ = [])
    subst e1
    have sc := sc_WalkTable___mul__
    exact ⟨_, (show JSs _ F ⟨[sv (tC T.a_WalkTable ["_ends", "_marks"] (a2 (tT K (aV tI)) (tT K (aV tI)))) x0, sv (tC T.a_WalkTable ["_ends", "_marks"] (a2 (tT K (aV tI)) (tT K (aV tI)))) x1, .any, .any, .any, .any], []⟩ _ ⟨fun _ H' => Q .non H', Q, fun _ _ => False, fun _ _ => False⟩ _ from
      (js_ifX (jt_neI (je_prop (je_var (i := 0) (A := (tC T.a_WalkTable ["_ends", "_marks"] (a2 (tT K (aV tI)) (tT K (aV tI))))) (a := x0) rfl) T.cl_WalkTable T.M_WalkTable_size (ok_WalkTable_size T) (hr.mono (by decide)) T.b_WalkTable_size) (je_prop (je_var (i := 1) (A := (tC T.a_WalkTable ["_ends", "_marks"] (a2 (tT K (aV tI)) (tT K (aV tI))))) (a := x1) rfl) T.cl_WalkTable T.M_WalkTable_size (ok_WalkTable_size T) (hr.mono (by decide)) T.b_WalkTable_size)) js_never (js_stF (i := 2) (ps_lc (i := 2) (own := [("there", 4)]) (B := tI) (ji_T (je_fld (A := (tT K (aV tI))) (h := fun (t : ((List Int) × (List Int))) => t.1) (je_var (i := 0) (A := (tC T.a_WalkTable ["_ends", "_marks"] (a2 (tT K (aV tI)) (tT K (aV tI))))) (a := x0) rfl) T.cl_WalkTable T.nf_WalkTable__ends (fun _ _ _ ⟨y0, y1, e0, h0, h1⟩ => ⟨y0, by rw [e0]; rfl, h0⟩))) sc.nd (blkOk_by (N := ["self", "other", "ends", "marks", "there", "mark"]) (sc := defScope s_WalkTable___mul__) (by decide +kernel)) (tgw_name) (fun _ _ _ _ _ => (pg_name (i := 4) sc.nd rfl (Or.inl rfl))) (fun D329 acc330 there_331 _ _ _ _ _ => (je_ixV (je_fld (A := (tT K (aV tI))) (h := fun (t : ((List Int) × (List Int))) => t.1) (je_var (i := 1) (A := (tC T.a_WalkTable ["_ends", "_marks"] (a2 (tT K (aV tI)) (tT K (aV tI))))) (a := x1) rfl) T.cl_WalkTable T.nf_WalkTable__ends (fun _ _ _ ⟨y0, y1, e0, h0, h1⟩ => ⟨y0, by rw [e0]; rfl, h0⟩)) (je_var (i := 4) (A := tI) (a := there_331) rfl))) (sw_true rfl rfl rfl (by decide +kernel))) (fun ends_335 => (js_stF (i := 3) (ps_lc (i := 3) (own := [("there", 4), ("mark", 5)]) (B := tI) (ji_zipT (by rfl) T.m_zip (je_fld (A := (tT K (aV tI))) (h := fun (t : ((List Int) × (List Int))) => t.1) (je_var (i := 0) (A := (tC T.a_WalkTable ["_ends", "_marks"] (a2 (tT K (aV tI)) (tT K (aV tI))))) (a := x0) rfl) T.cl_WalkTable T.nf_WalkTable__ends (fun _ _ _ ⟨y0, y1, e0, h0, h1⟩ => ⟨y0, by rw [e0]; rfl, h0⟩)) (je_fld (A := (tT K (aV tI))) (h := fun (t : ((List Int) × (List Int))) => t.2) (je_var (i := 0) (A := (tC T.a_WalkTable ["_ends", "_marks"] (a2 (tT K (aV tI)) (tT K (aV tI))))) (a := x0) rfl) T.cl_WalkTable T.nf_WalkTable__marks (fun _ _ _ ⟨y0, y1, e0, h0, h1⟩ => ⟨y1, by rw [e0]; rfl, h1⟩))) sc.nd (blkOk_by (N := ["self", "other", "ends", "marks", "there", "mark"]) (sc := defScope s_WalkTable___mul__) (by decide +kernel)) (tgw_pair) (fun _ _ _ _ _ => (pg_tup rfl (pgs_cons (pg_name (i := 4) sc.nd rfl (Or.inl rfl)) (pgs_cons (pg_name (i := 5) sc.nd rfl (Or.inl rfl)) pgs_nil)))) (fun D336 acc337 x338 _ _ _ _ _ => (je_or2 (je_var (i := 5) (A := tI) (a := x338.2) rfl) (je_ixV (je_fld (A := (tT K (aV tI))) (h := fun (t : ((List Int) × (List Int))) => t.2) (je_var (i := 1) (A := (tC T.a_WalkTable ["_ends", "_marks"] (a2 (tT K (aV tI)) (tT K (aV tI))))) (a := x1) rfl) T.cl_WalkTable T.nf_WalkTable__marks (fun _ _ _ ⟨y0, y1, e0, h0, h1⟩ => ⟨y1, by rw [e0]; rfl, h1⟩)) (je_var (i := 4) (A := tI) (a := x338.1) rfl)))) (sw_true rfl rfl rfl (by decide +kernel))) (fun marks_342 => (js_ret hrt (je_make (T := (aC (tK tI) (aC (tK tI) aN))) (U := (a2 (tT K (aV tI)) (tT K (aV tI)))) (w := fun t => w_WalkTable___init__ t.1 t.2.1) T.M_WalkTable___init__ (ok_WalkTable___init__ T) (hr.mono (by decide)) (by rfl) T.g_WalkTable T.b_WalkTable___init__ (ja_cons (je_var (i := 2) (A := (tK tI)) (a := ends_335) rfl) (ja_cons (je_var (i := 3) (A := (tK tI)) (a := marks_342) rfl) ja_nil)))))))))), ⟨Le.refl _, ⟨Same.refl _, (Par.cons ⟨v0, rfl, J.fr_in r0⟩ (Par.cons ⟨v1, rfl, J.fr_in r1⟩ (Par.cons trivial (Par.cons trivial (Par.cons trivial (Par.cons trivial Par.nil)))))), List.nodup_nil, fun c hc => by cases hc⟩, hw⟩⟩
theorem ok_PairSearch__visit (T : Txt K mg) : FnOk Pg w K mg base CX0 4 T.a_PairSearch__visit T.d_PairSearch__visit ["self", "number"] (spJM (fun (i : Idx_PairSearch) us => .ref i.1 :: us) (aC tI aN) (E_PairSearch Pg w T) (tC T.a_WalkTable ["_ends", "_marks"] (a2 (tT K (aV tI)) (tT K (aV tI)))) (fun t z P => w_PairSearch__visit t.1 z P)) := by
  refine T.F_PairSearch__visit.ok sc_PairSearch__visit (fun vs H Q E h => ?_) (fun cdv A outer s H vs Q E hr h => ?_)
  · obtain ⟨t, i, z, us, F, P, rfl, kE, ⟨v0, _, rfl, r0, e0⟩, _⟩ := h
    have e1 := (e0 : _ = [])
    subst e1
    rfl
  · obtain ⟨⟨x0, _⟩, oi318, oz319, us, F, P, rfl, kE, ⟨v0, _, rfl, r0, e0⟩, hw, hrt⟩ := h
    have e1 := (e0 : _ = [])
    subst e1
    have sc := sc_PairSearch__visit
    exact ⟨_, (show JSs _ F ⟨[.at oi318.1, sv tI x0, .any, .any, .any, .any, .any, .any, .any, .any, .any], [.ins oi318.1 oi318.2.1 T.a_PairSearch ["_tables", "_table_numbers", "_pairs", "_pair_numbers", "_neighbors", "_children", "_from_the_sides"] (aSnoc (aSnoc (aSnoc (aSnoc (aSnoc (aSnoc (aSnoc aN (tAt oi318.2.2.1)) (tAt oi318.2.2.2.1)) (tAt oi318.2.2.2.2.1)) (tAt oi318.2.2.2.2.2.1)) (tAt oi318.2.2.2.2.2.2.1)) (tAt oi318.2.2.2.2.2.2.2)) tB) ((((((((), ()), ()), ()), ()), ()), ()), oz319.2.2.2.2.2.2), .lst oi318.2.2.1 (tC T.a_WalkTable ["_ends", "_marks"] (a2 (tT K (aV tI)) (tT K (aV tI)))) oz319.1, .gen oi318.2.2.2.1 (dctR Pg w K (tT K (a2 (tT K (aV tI)) (tT K (aV tI)))) oi318.2.2.2.1 oz319.2.1), .lst oi318.2.2.2.2.1 (tT K (a2 tI tI)) oz319.2.2.1, .gen oi318.2.2.2.2.2.1 (dctR Pg w K (tT K (a2 tI tI)) oi318.2.2.2.2.2.1 oz319.2.2.2.1), .lst oi318.2.2.2.2.2.2.1 (tT K (a2 (tT K (a2 tI tI)) (tT K (a2 tI tI)))) oz319.2.2.2.2.1, .lst oi318.2.2.2.2.2.2.2 (tT K (a2 tI tI)) oz319.2.2.2.2.2.1]⟩ _ ⟨fun _ H' => Q .non H', Q, fun _ _ => False, fun _ _ => False⟩ _ from
      (js_asgT (je_ixL (je_e (je_ownA (A := (tT K (a2 tI tI))) (p1 := oi318.2.2.2.2.1) (j1 := 3) (xs := oz319.2.2.1) (pe_ownF (p := oi318.2.2.2.2.1) (i := 0) (j := 0) T.cl_PairSearch T.nf_PairSearch__pairs rfl rfl (fun H vs h => by obtain ⟨u7, v7, e7, ⟨u6, v6, e6, ⟨u5, v5, e5, ⟨u4, v4, e4, ⟨u3, v3, e3, ⟨u2, v2, e2, ⟨u1, v1, e1, e0, r1⟩, r2⟩, r3⟩, r4⟩, r5⟩, r6⟩, r7⟩ := h; have q0 := (e0 : _ = []); subst q0; subst e1; subst e2; subst e3; subst e4; subst e5; subst e6; subst e7; exact ⟨v3, rfl, r3⟩)) rfl)) (je_var (i := 1) (A := tI) (a := x0) rfl)) (pg_tup rfl (pgs_cons (pg_name (i := 2) sc.nd rfl (Or.inl rfl)) (pgs_cons (pg_name (i := 3) sc.nd rfl (Or.inl rfl)) pgs_nil))) (tg_pair (tg_name) (tg_name)) (fun t322 => (js_asg (i := 4) (je_binO (je_ixL (je_e (je_ownA (A := (tC T.a_WalkTable ["_ends", "_marks"] (a2 (tT K (aV tI)) (tT K (aV tI))))) (p1 := oi318.2.2.1) (j1 := 1) (xs := oz319.1) (pe_ownF (p := oi318.2.2.1) (i := 0) (j := 0) T.cl_PairSearch T.nf_PairSearch__tables rfl rfl (fun H vs h => by obtain ⟨u7, v7, e7, ⟨u6, v6, e6, ⟨u5, v5, e5, ⟨u4, v4, e4, ⟨u3, v3, e3, ⟨u2, v2, e2, ⟨u1, v1, e1, e0, r1⟩, r2⟩, r3⟩, r4⟩, r5⟩, r6⟩, r7⟩ := h; have q0 := (e0 : _ = []); subst q0; subst e1; subst e2; subst e3; subst e4; subst e5; subst e6; subst e7; exact ⟨v1, rfl, r1⟩)) rfl)) (je_var (i := 2) (A := tI) (a := t322.1) rfl)) (je_ixL (je_e (je_ownA (A := (tC T.a_WalkTable ["_ends", "_marks"] (a2 (tT K (aV tI)) (tT K (aV tI))))) (p1 := oi318.2.2.1) (j1 := 1) (xs := oz319.1) (pe_ownF (p := oi318.2.2.1) (i := 0) (j := 0) T.cl_PairSearch T.nf_PairSearch__tables rfl rfl (fun H vs h => by obtain ⟨u7, v7, e7, ⟨u6, v6, e6, ⟨u5, v5, e5, ⟨u4, v4, e4, ⟨u3, v3, e3, ⟨u2, v2, e2, ⟨u1, v1, e1, e0, r1⟩, r2⟩, r3⟩, r4⟩, r5⟩, r6⟩, r7⟩ := h; have q0 := (e0 : _ = []); subst q0; subst e1; subst e2; subst e3; subst e4; subst e5; subst e6; subst e7; exact ⟨v1, rfl, r1⟩)) rfl)) (je_var (i := 3) (A := tI) (a := t322.2) rfl)) T.M_WalkTable___mul__ T.sf_WalkTable (ok_WalkTable___mul__ T) (hr.mono (by decide)) T.b_WalkTable___mul__) (fun table_346 => (js_asgM (S := fun (z350 : St_PairSearch) => ⟨[.at oi318.1, sv tI x0, sv tI t322.1, sv tI t322.2, sv (tC T.a_WalkTable ["_ends", "_marks"] (a2 (tT K (aV tI)) (tT K (aV tI)))) table_346, .any, .any, .any, .any, .any, .any], [.ins oi318.1 oi318.2.1 T.a_PairSearch ["_tables", "_table_numbers", "_pairs", "_pair_numbers", "_neighbors", "_children", "_from_the_sides"] (aSnoc (aSnoc (aSnoc (aSnoc (aSnoc (aSnoc (aSnoc aN (tAt oi318.2.2.1)) (tAt oi318.2.2.2.1)) (tAt oi318.2.2.2.2.1)) (tAt oi318.2.2.2.2.2.1)) (tAt oi318.2.2.2.2.2.2.1)) (tAt oi318.2.2.2.2.2.2.2)) tB) ((((((((), ()), ()), ()), ()), ()), ()), z350.2.2.2.2.2.2), .lst oi318.2.2.1 (tC T.a_WalkTable ["_ends", "_marks"] (a2 (tT K (aV tI)) (tT K (aV tI)))) z350.1, .gen oi318.2.2.2.1 (dctR Pg w K (tT K (a2 (tT K (aV tI)) (tT K (aV tI)))) oi318.2.2.2.1 z350.2.1), .lst oi318.2.2.2.2.1 (tT K (a2 tI tI)) z350.2.2.1, .gen oi318.2.2.2.2.2.1 (dctR Pg w K (tT K (a2 tI tI)) oi318.2.2.2.2.2.1 z350.2.2.2.1), .lst oi318.2.2.2.2.2.2.1 (tT K (a2 (tT K (a2 tI tI)) (tT K (a2 tI tI)))) z350.2.2.2.2.1, .lst oi318.2.2.2.2.2.2.2 (tT K (a2 tI tI)) z350.2.2.2.2.2.1]⟩) (i := 5) (je_methM (g0 := ⟨[.at oi318.1, sv tI x0, sv tI t322.1, sv tI t322.2, sv (tC T.a_WalkTable ["_ends", "_marks"] (a2 (tT K (aV tI)) (tT K (aV tI)))) table_346, .any, .any, .any, .any, .any, .any], []⟩) (E := (E_PairSearch Pg w T)) (self := fun (i : Idx_PairSearch) => i.1) (i := oi318) (z := oz319) (i0 := 0) T.cl_PairSearch T.M_PairSearch__table_number (ok_PairSearch__table_number T) (hr.mono (by decide)) T.b_PairSearch__table_number rfl rfl (fun vs h => match vs, h with | [_, _, _, _, _, _, _], _ => rfl) (jam_of oz319 rfl (ja_cons (je_var (i := 4) (A := (tC T.a_WalkTable ["_ends", "_marks"] (a2 (tT K (aV tI)) (tT K (aV tI))))) (a := table_346) rfl) ja_nil))) (fun joined_349 z350 => (js_asgT (je_ixL (je_e (je_ownA (A := (tT K (a2 (tT K (a2 tI tI)) (tT K (a2 tI tI))))) (p1 := oi318.2.2.2.2.2.2.1) (j1 := 5) (xs := z350.2.2.2.2.1) (pe_ownF (p := oi318.2.2.2.2.2.2.1) (i := 0) (j := 0) T.cl_PairSearch T.nf_PairSearch__neighbors rfl rfl (fun H vs h => by obtain ⟨u7, v7, e7, ⟨u6, v6, e6, ⟨u5, v5, e5, ⟨u4, v4, e4, ⟨u3, v3, e3, ⟨u2, v2, e2, ⟨u1, v1, e1, e0, r1⟩, r2⟩, r3⟩, r4⟩, r5⟩, r6⟩, r7⟩ := h; have q0 := (e0 : _ = []); subst q0; subst e1; subst e2; subst e3; subst e4; subst e5; subst e6; subst e7; exact ⟨v5, rfl, r5⟩)) rfl)) (je_var (i := 1) (A := tI) (a := x0) rfl)) (pg_tup rfl (pgs_cons (pg_name (i := 6) sc.nd rfl (Or.inl rfl)) (pgs_cons (pg_name (i := 7) sc.nd rfl (Or.inl rfl)) pgs_nil))) (tg_pair (tg_name) (tg_name)) (fun t352 => (js_asgM (S := fun (z356 : St_PairSearch) => ⟨[.at oi318.1, sv tI x0, sv tI t322.1, sv tI t322.2, sv (tC T.a_WalkTable ["_ends", "_marks"] (a2 (tT K (aV tI)) (tT K (aV tI)))) table_346, sv tI joined_349, sv (tT K (a2 tI tI)) t352.1, sv (tT K (a2 tI tI)) t352.2, .any, .any, .any], [.ins oi318.1 oi318.2.1 T.a_PairSearch ["_tables", "_table_numbers", "_pairs", "_pair_numbers", "_neighbors", "_children", "_from_the_sides"] (aSnoc (aSnoc (aSnoc (aSnoc (aSnoc (aSnoc (aSnoc aN (tAt oi318.2.2.1)) (tAt oi318.2.2.2.1)) (tAt oi318.2.2.2.2.1)) (tAt oi318.2.2.2.2.2.1)) (tAt oi318.2.2.2.2.2.2.1)) (tAt oi318.2.2.2.2.2.2.2)) tB) ((((((((), ()), ()), ()), ()), ()), ()), z356.2.2.2.2.2.2), .lst oi318.2.2.1 (tC T.a_WalkTable ["_ends", "_marks"] (a2 (tT K (aV tI)) (tT K (aV tI)))) z356.1, .gen oi318.2.2.2.1 (dctR Pg w K (tT K (a2 (tT K (aV tI)) (tT K (aV tI)))) oi318.2.2.2.1 z356.2.1), .lst oi318.2.2.2.2.1 (tT K (a2 tI tI)) z356.2.2.1, .gen oi318.2.2.2.2.2.1 (dctR Pg w K (tT K (a2 tI tI)) oi318.2.2.2.2.2.1 z356.2.2.2.1), .lst oi318.2.2.2.2.2.2.1 (tT K (a2 (tT K (a2 tI tI)) (tT K (a2 tI tI)))) z356.2.2.2.2.1, .lst oi318.2.2.2.2.2.2.2 (tT K (a2 tI tI)) z356.2.2.2.2.2.1]⟩) (i := 8) (je_methM (g0 := ⟨[.at oi318.1, sv tI x0, sv tI t322.1, sv tI t322.2, sv (tC T.a_WalkTable ["_ends", "_marks"] (a2 (tT K (aV tI)) (tT K (aV tI)))) table_346, sv tI joined_349, sv (tT K (a2 tI tI)) t352.1, sv (tT K (a2 tI tI)) t352.2, .any, .any, .any], []⟩) (E := (E_PairSearch Pg w T)) (self := fun (i : Idx_PairSearch) => i.1) (i := oi318) (z := z350) (i0 := 0) T.cl_PairSearch T.M_PairSearch__first_direction (ok_PairSearch__first_direction T) (hr.mono (by decide)) T.b_PairSearch__first_direction rfl rfl (fun vs h => match vs, h with | [_, _, _, _, _, _, _], _ => rfl) (jam_of z350 rfl (ja_cons (je_var (i := 1) (A := tI) (a := x0) rfl) ja_nil))) (fun direction_355 z356 => (js_asgM (S := fun (z360 : St_PairSearch) => ⟨[.at oi318.1, sv tI x0, sv tI t322.1, sv tI t322.2, sv (tC T.a_WalkTable ["_ends", "_marks"] (a2 (tT K (aV tI)) (tT K (aV tI)))) table_346, sv tI joined_349, sv (tT K (a2 tI tI)) t352.1, sv (tT K (a2 tI tI)) t352.2, sv (tT K (a2 tI tI)) direction_355, .any, .any], [.ins oi318.1 oi318.2.1 T.a_PairSearch ["_tables", "_table_numbers", "_pairs", "_pair_numbers", "_neighbors", "_children", "_from_the_sides"] (aSnoc (aSnoc (aSnoc (aSnoc (aSnoc (aSnoc (aSnoc aN (tAt oi318.2.2.1)) (tAt oi318.2.2.2.1)) (tAt oi318.2.2.2.2.1)) (tAt oi318.2.2.2.2.2.1)) (tAt oi318.2.2.2.2.2.2.1)) (tAt oi318.2.2.2.2.2.2.2)) tB) ((((((((), ()), ()), ()), ()), ()), ()), z360.2.2.2.2.2.2), .lst oi318.2.2.1 (tC T.a_WalkTable ["_ends", "_marks"] (a2 (tT K (aV tI)) (tT K (aV tI)))) z360.1, .gen oi318.2.2.2.1 (dctR Pg w K (tT K (a2 (tT K (aV tI)) (tT K (aV tI)))) oi318.2.2.2.1 z360.2.1), .lst oi318.2.2.2.2.1 (tT K (a2 tI tI)) z360.2.2.1, .gen oi318.2.2.2.2.2.1 (dctR Pg w K (tT K (a2 tI tI)) oi318.2.2.2.2.2.1 z360.2.2.2.1), .lst oi318.2.2.2.2.2.2.1 (tT K (a2 (tT K (a2 tI tI)) (tT K (a2 tI tI)))) z360.2.2.2.2.1, .lst oi318.2.2.2.2.2.2.2 (tT K (a2 tI tI)) z360.2.2.2.2.2.1]⟩) (i := 9) (je_methM (g0 := ⟨[.at oi318.1, sv tI x0, sv tI t322.1, sv tI t322.2, sv (tC T.a_WalkTable ["_ends", "_marks"] (a2 (tT K (aV tI)) (tT K (aV tI)))) table_346, sv tI joined_349, sv (tT K (a2 tI tI)) t352.1, sv (tT K (a2 tI tI)) t352.2, sv (tT K (a2 tI tI)) direction_355, .any, .any], []⟩) (E := (E_PairSearch Pg w T)) (self := fun (i : Idx_PairSearch) => i.1) (i := oi318) (z := z356) (i0 := 0) T.cl_PairSearch T.M_PairSearch__number_of (ok_PairSearch__number_of T) (hr.mono (by decide)) T.b_PairSearch__number_of rfl rfl (fun vs h => match vs, h with | [_, _, _, _, _, _, _], _ => rfl) (jam_of z356 rfl (ja_cons (je_tup2 (je_var (i := 2) (A := tI) (a := t322.1) rfl) (je_var (i := 5) (A := tI) (a := joined_349) rfl)) (ja_cons (je_tup2 (je_var (i := 6) (A := (tT K (a2 tI tI))) (a := t352.1) rfl) (je_var (i := 8) (A := (tT K (a2 tI tI))) (a := direction_355) rfl)) ja_nil)))) (fun flat_359 z360 => (js_asgM (S := fun (z364 : St_PairSearch) => ⟨[.at oi318.1, sv tI x0, sv tI t322.1, sv tI t322.2, sv (tC T.a_WalkTable ["_ends", "_marks"] (a2 (tT K (aV tI)) (tT K (aV tI)))) table_346, sv tI joined_349, sv (tT K (a2 tI tI)) t352.1, sv (tT K (a2 tI tI)) t352.2, sv (tT K (a2 tI tI)) direction_355, sv tI flat_359, .any], [.ins oi318.1 oi318.2.1 T.a_PairSearch ["_tables", "_table_numbers", "_pairs", "_pair_numbers", "_neighbors", "_children", "_from_the_sides"] (aSnoc (aSnoc (aSnoc (aSnoc (aSnoc (aSnoc (aSnoc aN (tAt oi318.2.2.1)) (tAt oi318.2.2.2.1)) (tAt oi318.2.2.2.2.1)) (tAt oi318.2.2.2.2.2.1)) (tAt oi318.2.2.2.2.2.2.1)) (tAt oi318.2.2.2.2.2.2.2)) tB) ((((((((), ()), ()), ()), ()), ()), ()), z364.2.2.2.2.2.2), .lst oi318.2.2.1 (tC T.a_WalkTable ["_ends", "_marks"] (a2 (tT K (aV tI)) (tT K (aV tI)))) z364.1, .gen oi318.2.2.2.1 (dctR Pg w K (tT K (a2 (tT K (aV tI)) (tT K (aV tI)))) oi318.2.2.2.1 z364.2.1), .lst oi318.2.2.2.2.1 (tT K (a2 tI tI)) z364.2.2.1, .gen oi318.2.2.2.2.2.1 (dctR Pg w K (tT K (a2 tI tI)) oi318.2.2.2.2.2.1 z364.2.2.2.1), .lst oi318.2.2.2.2.2.2.1 (tT K (a2 (tT K (a2 tI tI)) (tT K (a2 tI tI)))) z364.2.2.2.2.1, .lst oi318.2.2.2.2.2.2.2 (tT K (a2 tI tI)) z364.2.2.2.2.2.1]⟩) (i := 10) (je_methM (g0 := ⟨[.at oi318.1, sv tI x0, sv tI t322.1, sv tI t322.2, sv (tC T.a_WalkTable ["_ends", "_marks"] (a2 (tT K (aV tI)) (tT K (aV tI)))) table_346, sv tI joined_349, sv (tT K (a2 tI tI)) t352.1, sv (tT K (a2 tI tI)) t352.2, sv (tT K (a2 tI tI)) direction_355, sv tI flat_359, .any], []⟩) (E := (E_PairSearch Pg w T)) (self := fun (i : Idx_PairSearch) => i.1) (i := oi318) (z := z360) (i0 := 0) T.cl_PairSearch T.M_PairSearch__number_of (ok_PairSearch__number_of T) (hr.mono (by decide)) T.b_PairSearch__number_of rfl rfl (fun vs h => match vs, h with | [_, _, _, _, _, _, _], _ => rfl) (jam_of z360 rfl (ja_cons (je_tup2 (je_var (i := 5) (A := tI) (a := joined_349) rfl) (je_var (i := 3) (A := tI) (a := t322.2) rfl)) (ja_cons (je_tup2 (je_var (i := 8) (A := (tT K (a2 tI tI))) (a := direction_355) rfl) (je_var (i := 7) (A := (tT K (a2 tI tI))) (a := t352.2) rfl)) ja_nil)))) (fun steep_363 z364 => (js_appA (j := 6) (pe_bm PySem.F.plainAttrs_list PySem.F.slot_list_append PySem.F.type_list_append mt_append (pe_ownF (p := oi318.2.2.2.2.2.2.2) (i := 0) (j := 0) T.cl_PairSearch T.nf_PairSearch__children rfl rfl (fun H vs h => by obtain ⟨u7, v7, e7, ⟨u6, v6, e6, ⟨u5, v5, e5, ⟨u4, v4, e4, ⟨u3, v3, e3, ⟨u2, v2, e2, ⟨u1, v1, e1, e0, r1⟩, r2⟩, r3⟩, r4⟩, r5⟩, r6⟩, r7⟩ := h; have q0 := (e0 : _ = []); subst q0; subst e1; subst e2; subst e3; subst e4; subst e5; subst e6; subst e7; exact ⟨v6, rfl, r6⟩)) (pa_cons (je_tup2 (je_var (i := 9) (A := tI) (a := flat_359) rfl) (je_var (i := 10) (A := tI) (a := steep_363) rfl)) pa_nil)) (fun y365 => (js_retM (E := (E_PairSearch Pg w T)) (i := oi318) hrt (z364.1, z364.2.1, z364.2.2.1, z364.2.2.2.1, z364.2.2.2.2.1, (z364.2.2.2.2.2.1 ++ [y365]), z364.2.2.2.2.2.2) (.cons₂ _ (.cons₂ _ (.cons₂ _ (.cons₂ _ (.cons₂ _ (.cons₂ _ (.cons₂ _ .slnil))))))) (je_var (i := 4) (A := (tC T.a_WalkTable ["_ends", "_marks"] (a2 (tT K (aV tI)) (tT K (aV tI))))) (a := table_346) rfl))) rfl)) sc.nd)) sc.nd)) sc.nd)))) sc.nd)) sc.nd)))), ⟨Le.refl _, ⟨kE.same, (Par.cons rfl (Par.cons ⟨v0, rfl, r0⟩ (Par.cons trivial (Par.cons trivial (Par.cons trivial (Par.cons trivial (Par.cons trivial (Par.cons trivial (Par.cons trivial (Par.cons trivial (Par.cons trivial Par.nil))))))))))), kE.nd, kE.cells⟩, hw⟩⟩
theorem ok_PairSearch_asked (T : Txt K mg) : GenF.GFn2 Pg w K mg base 5 T.a_PairSearch_asked T.d_PairSearch_asked ["self", "limit"] (spJG (fun (i : Idx_PairSearch) => [.ref i.1]) (aC tI aN) (E_PairSearch Pg w T) (tT K (a2 (tT K (a2 tI tI)) (tC T.a_WalkTable ["_ends", "_marks"] (a2 (tT K (aV tI)) (tT K (aV tI)))))) (fun τ t z n s Y Kp => w_PairSearch_asked τ t.1 z n s Y Kp)) := by
  refine T.F_PairSearch_asked.gok sc_PairSearch_asked (by decide +kernel) (fun γ c vs H Yd Kd h => ?_) (fun cdv A outer L a go vs H γ c Yd Kd hnc hm hr h => ?_)
  · obtain ⟨t, i, z, us, F, τ, s, Fp, Y, Kp, n, rfl, kE, ⟨v0, _, rfl, r0, e0⟩, _⟩ := h
    have e1 := (e0 : _ = [])
    subst e1
    rfl
  · obtain ⟨⟨x0, _⟩, oi275, oz276, us, F, τ, s, Fp, Y, Kp, n, rfl, kE, ⟨v0, _, rfl, r0, e0⟩, hF, hY, hE, hw⟩ := h
    have e1 := (e0 : _ = [])
    subst e1
    have sc := sc_PairSearch_asked
    exact ⟨_, n, (show JG _ A Yd Fp ⟨[.at oi275.1, sv tI x0, .any, .any, .any], [.ins oi275.1 oi275.2.1 T.a_PairSearch ["_tables", "_table_numbers", "_pairs", "_pair_numbers", "_neighbors", "_children", "_from_the_sides"] (aSnoc (aSnoc (aSnoc (aSnoc (aSnoc (aSnoc (aSnoc aN (tAt oi275.2.2.1)) (tAt oi275.2.2.2.1)) (tAt oi275.2.2.2.2.1)) (tAt oi275.2.2.2.2.2.1)) (tAt oi275.2.2.2.2.2.2.1)) (tAt oi275.2.2.2.2.2.2.2)) tB) ((((((((), ()), ()), ()), ()), ()), ()), oz276.2.2.2.2.2.2), .lst oi275.2.2.1 (tC T.a_WalkTable ["_ends", "_marks"] (a2 (tT K (aV tI)) (tT K (aV tI)))) oz276.1, .gen oi275.2.2.2.1 (dctR Pg w K (tT K (a2 (tT K (aV tI)) (tT K (aV tI)))) oi275.2.2.2.1 oz276.2.1), .lst oi275.2.2.2.2.1 (tT K (a2 tI tI)) oz276.2.2.1, .gen oi275.2.2.2.2.2.1 (dctR Pg w K (tT K (a2 tI tI)) oi275.2.2.2.2.2.1 oz276.2.2.2.1), .lst oi275.2.2.2.2.2.2.1 (tT K (a2 (tT K (a2 tI tI)) (tT K (a2 tI tI)))) oz276.2.2.2.2.1, .lst oi275.2.2.2.2.2.2.2 (tT K (a2 tI tI)) oz276.2.2.2.2.2.1]⟩ _ ⟨fun _ c _ H' => Kd c H', fun _ c v H' => v = .non ∧ Kd c H', fun _ _ _ _ => False, fun _ _ _ _ => False⟩ _ from
      (jg_ifJ (S := fun (s280 : Unit) => ⟨[.at oi275.1, sv tI x0, .any, .any, .any], [.ins oi275.1 oi275.2.1 T.a_PairSearch ["_tables", "_table_numbers", "_pairs", "_pair_numbers", "_neighbors", "_children", "_from_the_sides"] (aSnoc (aSnoc (aSnoc (aSnoc (aSnoc (aSnoc (aSnoc aN (tAt oi275.2.2.1)) (tAt oi275.2.2.2.1)) (tAt oi275.2.2.2.2.1)) (tAt oi275.2.2.2.2.2.1)) (tAt oi275.2.2.2.2.2.2.1)) (tAt oi275.2.2.2.2.2.2.2)) tB) ((((((((), ()), ()), ()), ()), ()), ()), oz276.2.2.2.2.2.2), .lst oi275.2.2.1 (tC T.a_WalkTable ["_ends", "_marks"] (a2 (tT K (aV tI)) (tT K (aV tI)))) oz276.1, .gen oi275.2.2.2.1 (dctR Pg w K (tT K (a2 (tT K (aV tI)) (tT K (aV tI)))) oi275.2.2.2.1 oz276.2.1), .lst oi275.2.2.2.2.1 (tT K (a2 tI tI)) oz276.2.2.1, .gen oi275.2.2.2.2.2.1 (dctR Pg w K (tT K (a2 tI tI)) oi275.2.2.2.2.2.1 oz276.2.2.2.1), .lst oi275.2.2.2.2.2.2.1 (tT K (a2 (tT K (a2 tI tI)) (tT K (a2 tI tI)))) oz276.2.2.2.2.1, .lst oi275.2.2.2.2.2.2.2 (tT K (a2 tI tI)) oz276.2.2.2.2.2.1]⟩) (fun sb Hb F => (jt_val (je_ownF (A := tB) (a := oz276.2.2.2.2.2.2) (i := 0) (j := 0) T.cl_PairSearch T.nf_PairSearch__from_the_sides rfl rfl (fun H vs h => by obtain ⟨u7, v7, e7, ⟨u6, v6, e6, ⟨u5, v5, e5, ⟨u4, v4, e4, ⟨u3, v3, e3, ⟨u2, v2, e2, ⟨u1, v1, e1, e0, r1⟩, r2⟩, r3⟩, r4⟩, r5⟩, r6⟩, r7⟩ := h; have q0 := (e0 : _ = []); subst q0; subst e1; subst e2; subst e3; subst e4; subst e5; subst e6; subst e7; exact ⟨v7, rfl, r7⟩)))) (fun J281 => (jg_plain1 (S := fun (s285 : Int × Int) => ⟨[.at oi275.1, sv tI x0, sv tI s285.1, sv tI s285.2, .any], [.ins oi275.1 oi275.2.1 T.a_PairSearch ["_tables", "_table_numbers", "_pairs", "_pair_numbers", "_neighbors", "_children", "_from_the_sides"] (aSnoc (aSnoc (aSnoc (aSnoc (aSnoc (aSnoc (aSnoc aN (tAt oi275.2.2.1)) (tAt oi275.2.2.2.1)) (tAt oi275.2.2.2.2.1)) (tAt oi275.2.2.2.2.2.1)) (tAt oi275.2.2.2.2.2.2.1)) (tAt oi275.2.2.2.2.2.2.2)) tB) ((((((((), ()), ()), ()), ()), ()), ()), oz276.2.2.2.2.2.2), .lst oi275.2.2.1 (tC T.a_WalkTable ["_ends", "_marks"] (a2 (tT K (aV tI)) (tT K (aV tI)))) oz276.1, .gen oi275.2.2.2.1 (dctR Pg w K (tT K (a2 (tT K (aV tI)) (tT K (aV tI)))) oi275.2.2.2.1 oz276.2.1), .lst oi275.2.2.2.2.1 (tT K (a2 tI tI)) oz276.2.2.1, .gen oi275.2.2.2.2.2.1 (dctR Pg w K (tT K (a2 tI tI)) oi275.2.2.2.2.2.1 oz276.2.2.2.1), .lst oi275.2.2.2.2.2.2.1 (tT K (a2 (tT K (a2 tI tI)) (tT K (a2 tI tI)))) oz276.2.2.2.2.1, .lst oi275.2.2.2.2.2.2.2 (tT K (a2 tI tI)) oz276.2.2.2.2.2.1]⟩) (fun sb Hb F J286 => (js_asgT (je_ixL (je_e (je_ownA (A := (tT K (a2 tI tI))) (p1 := oi275.2.2.2.2.1) (j1 := 3) (xs := oz276.2.2.1) (pe_ownF (p := oi275.2.2.2.2.1) (i := 0) (j := 0) T.cl_PairSearch T.nf_PairSearch__pairs rfl rfl (fun H vs h => by obtain ⟨u7, v7, e7, ⟨u6, v6, e6, ⟨u5, v5, e5, ⟨u4, v4, e4, ⟨u3, v3, e3, ⟨u2, v2, e2, ⟨u1, v1, e1, e0, r1⟩, r2⟩, r3⟩, r4⟩, r5⟩, r6⟩, r7⟩ := h; have q0 := (e0 : _ = []); subst q0; subst e1; subst e2; subst e3; subst e4; subst e5; subst e6; subst e7; exact ⟨v3, rfl, r3⟩)) rfl)) je_int) (pg_tup rfl (pgs_cons (pg_name (i := 2) sc.nd rfl (Or.inl rfl)) (pgs_cons (pg_name (i := 3) sc.nd rfl (Or.inl rfl)) pgs_nil))) (tg_pair (tg_name) (tg_name)) (fun t289 => (js_end (t289.1, t289.2) ⟨(.same (.same (.same (.same (.any .nil))))), (.cons₂ _ (.cons₂ _ (.cons₂ _ (.cons₂ _ (.cons₂ _ (.cons₂ _ (.cons₂ _ .slnil)))))))⟩)))) (fun s285 => (jg_yield hY hm hnc (fun sb Hb F => (je_tup2 (je_tup2 je_int je_int) (je_ixL (je_e (je_ownA (A := (tC T.a_WalkTable ["_ends", "_marks"] (a2 (tT K (aV tI)) (tT K (aV tI))))) (p1 := oi275.2.2.1) (j1 := 1) (xs := oz276.1) (pe_ownF (p := oi275.2.2.1) (i := 0) (j := 0) T.cl_PairSearch T.nf_PairSearch__tables rfl rfl (fun H vs h => by obtain ⟨u7, v7, e7, ⟨u6, v6, e6, ⟨u5, v5, e5, ⟨u4, v4, e4, ⟨u3, v3, e3, ⟨u2, v2, e2, ⟨u1, v1, e1, e0, r1⟩, r2⟩, r3⟩, r4⟩, r5⟩, r6⟩, r7⟩ := h; have q0 := (e0 : _ = []); subst q0; subst e1; subst e2; subst e3; subst e4; subst e5; subst e6; subst e7; exact ⟨v1, rfl, r1⟩)) rfl)) (je_var (i := 2) (A := tI) (a := s285.1) rfl)))) (jg_yield hY hm hnc (fun sb Hb F => (je_tup2 (je_tup2 je_int je_int) (je_ixL (je_e (je_ownA (A := (tC T.a_WalkTable ["_ends", "_marks"] (a2 (tT K (aV tI)) (tT K (aV tI))))) (p1 := oi275.2.2.1) (j1 := 1) (xs := oz276.1) (pe_ownF (p := oi275.2.2.1) (i := 0) (j := 0) T.cl_PairSearch T.nf_PairSearch__tables rfl rfl (fun H vs h => by obtain ⟨u7, v7, e7, ⟨u6, v6, e6, ⟨u5, v5, e5, ⟨u4, v4, e4, ⟨u3, v3, e3, ⟨u2, v2, e2, ⟨u1, v1, e1, e0, r1⟩, r2⟩, r3⟩, r4⟩, r5⟩, r6⟩, r7⟩ := h; have q0 := (e0 : _ = []); subst q0; subst e1; subst e2; subst e3; subst e4; subst e5; subst e6; subst e7; exact ⟨v1, rfl, r1⟩)) rfl)) (je_var (i := 3) (A := tI) (a := s285.2) rfl)))) (jg_end () ⟨(.same (.same (.any (.any (.any .nil))))), (.cons₂ _ (.cons₂ _ (.cons₂ _ (.cons₂ _ (.cons₂ _ (.cons₂ _ (.cons₂ _ .slnil)))))))⟩)))))) (fun J281 => (jg_end () ⟨(.same (.same (.any (.any (.any .nil))))), (.cons₂ _ (.cons₂ _ (.cons₂ _ (.cons₂ _ (.cons₂ _ (.cons₂ _ (.cons₂ _ .slnil)))))))⟩)) (fun s280 => (jg_plain1 (S := fun (s297 : Int) => ⟨[.at oi275.1, sv tI x0, .any, .any, sv tI s297], [.ins oi275.1 oi275.2.1 T.a_PairSearch ["_tables", "_table_numbers", "_pairs", "_pair_numbers", "_neighbors", "_children", "_from_the_sides"] (aSnoc (aSnoc (aSnoc (aSnoc (aSnoc (aSnoc (aSnoc aN (tAt oi275.2.2.1)) (tAt oi275.2.2.2.1)) (tAt oi275.2.2.2.2.1)) (tAt oi275.2.2.2.2.2.1)) (tAt oi275.2.2.2.2.2.2.1)) (tAt oi275.2.2.2.2.2.2.2)) tB) ((((((((), ()), ()), ()), ()), ()), ()), oz276.2.2.2.2.2.2), .lst oi275.2.2.1 (tC T.a_WalkTable ["_ends", "_marks"] (a2 (tT K (aV tI)) (tT K (aV tI)))) oz276.1, .gen oi275.2.2.2.1 (dctR Pg w K (tT K (a2 (tT K (aV tI)) (tT K (aV tI)))) oi275.2.2.2.1 oz276.2.1), .lst oi275.2.2.2.2.1 (tT K (a2 tI tI)) oz276.2.2.1, .gen oi275.2.2.2.2.2.1 (dctR Pg w K (tT K (a2 tI tI)) oi275.2.2.2.2.2.1 oz276.2.2.2.1), .lst oi275.2.2.2.2.2.2.1 (tT K (a2 (tT K (a2 tI tI)) (tT K (a2 tI tI)))) oz276.2.2.2.2.1, .lst oi275.2.2.2.2.2.2.2 (tT K (a2 tI tI)) oz276.2.2.2.2.2.1]⟩) (fun sb Hb F J298 => (js_asg (i := 4) je_int (fun number_300 => (js_end number_300 ⟨(.same (.same (.any (.any (.same .nil))))), (.cons₂ _ (.cons₂ _ (.cons₂ _ (.cons₂ _ (.cons₂ _ (.cons₂ _ (.cons₂ _ .slnil)))))))⟩)) sc.nd)) (fun s297 => (jg_while (S := fun (s301 : St_PairSearch × Int) => ⟨[.at oi275.1, sv tI x0, .any, .any, sv tI s301.2], [.ins oi275.1 oi275.2.1 T.a_PairSearch ["_tables", "_table_numbers", "_pairs", "_pair_numbers", "_neighbors", "_children", "_from_the_sides"] (aSnoc (aSnoc (aSnoc (aSnoc (aSnoc (aSnoc (aSnoc aN (tAt oi275.2.2.1)) (tAt oi275.2.2.2.1)) (tAt oi275.2.2.2.2.1)) (tAt oi275.2.2.2.2.2.1)) (tAt oi275.2.2.2.2.2.2.1)) (tAt oi275.2.2.2.2.2.2.2)) tB) ((((((((), ()), ()), ()), ()), ()), ()), s301.1.2.2.2.2.2.2), .lst oi275.2.2.1 (tC T.a_WalkTable ["_ends", "_marks"] (a2 (tT K (aV tI)) (tT K (aV tI)))) s301.1.1, .gen oi275.2.2.2.1 (dctR Pg w K (tT K (a2 (tT K (aV tI)) (tT K (aV tI)))) oi275.2.2.2.1 s301.1.2.1), .lst oi275.2.2.2.2.1 (tT K (a2 tI tI)) s301.1.2.2.1, .gen oi275.2.2.2.2.2.1 (dctR Pg w K (tT K (a2 tI tI)) oi275.2.2.2.2.2.1 s301.1.2.2.2.1), .lst oi275.2.2.2.2.2.2.1 (tT K (a2 (tT K (a2 tI tI)) (tT K (a2 tI tI)))) s301.1.2.2.2.2.1, .lst oi275.2.2.2.2.2.2.2 (tT K (a2 tI tI)) s301.1.2.2.2.2.2.1]⟩) (z0 := (oz276, s297)) ⟨(.same (.same (.any (.any (.same .nil))))), (.cons₂ _ (.cons₂ _ (.cons₂ _ (.cons₂ _ (.cons₂ _ (.cons₂ _ (.cons₂ _ .slnil)))))))⟩ (fun s301 sb Hb F => (jt_lt (je_var (i := 4) (A := tI) (a := s301.2) rfl) (je_lenL (by rfl) T.m_len (je_ebL (je_e (je_ownA (A := (tT K (a2 tI tI))) (p1 := oi275.2.2.2.2.1) (j1 := 3) (xs := s301.1.2.2.1) (pe_ownF (p := oi275.2.2.2.2.1) (i := 0) (j := 0) T.cl_PairSearch T.nf_PairSearch__pairs rfl rfl (fun H vs h => by obtain ⟨u7, v7, e7, ⟨u6, v6, e6, ⟨u5, v5, e5, ⟨u4, v4, e4, ⟨u3, v3, e3, ⟨u2, v2, e2, ⟨u1, v1, e1, e0, r1⟩, r2⟩, r3⟩, r4⟩, r5⟩, r6⟩, r7⟩ := h; have q0 := (e0 : _ = []); subst q0; subst e1; subst e2; subst e3; subst e4; subst e5; subst e6; subst e7; exact ⟨v3, rfl, r3⟩)) rfl)))))) (fun s301 nxt302 brk303 => (jg_ifX (fun sb Hb F => (jt_eqI (je_var (i := 4) (A := tI) (a := s301.2) rfl) (je_var (i := 1) (A := tI) (a := x0) rfl))) jg_never (jg_yieldM (S := fun (z369 : St_PairSearch) => ⟨[.at oi275.1, sv tI x0, .any, .any, sv tI s301.2], [.ins oi275.1 oi275.2.1 T.a_PairSearch ["_tables", "_table_numbers", "_pairs", "_pair_numbers", "_neighbors", "_children", "_from_the_sides"] (aSnoc (aSnoc (aSnoc (aSnoc (aSnoc (aSnoc (aSnoc aN (tAt oi275.2.2.1)) (tAt oi275.2.2.2.1)) (tAt oi275.2.2.2.2.1)) (tAt oi275.2.2.2.2.2.1)) (tAt oi275.2.2.2.2.2.2.1)) (tAt oi275.2.2.2.2.2.2.2)) tB) ((((((((), ()), ()), ()), ()), ()), ()), z369.2.2.2.2.2.2), .lst oi275.2.2.1 (tC T.a_WalkTable ["_ends", "_marks"] (a2 (tT K (aV tI)) (tT K (aV tI)))) z369.1, .gen oi275.2.2.2.1 (dctR Pg w K (tT K (a2 (tT K (aV tI)) (tT K (aV tI)))) oi275.2.2.2.1 z369.2.1), .lst oi275.2.2.2.2.1 (tT K (a2 tI tI)) z369.2.2.1, .gen oi275.2.2.2.2.2.1 (dctR Pg w K (tT K (a2 tI tI)) oi275.2.2.2.2.2.1 z369.2.2.2.1), .lst oi275.2.2.2.2.2.2.1 (tT K (a2 (tT K (a2 tI tI)) (tT K (a2 tI tI)))) z369.2.2.2.2.1, .lst oi275.2.2.2.2.2.2.2 (tT K (a2 tI tI)) z369.2.2.2.2.2.1]⟩) hY hm hnc (fun sb Hb F => (je_tup2M (S := fun (z317 : St_PairSearch) => ⟨[.at oi275.1, sv tI x0, .any, .any, sv tI s301.2], [.ins oi275.1 oi275.2.1 T.a_PairSearch ["_tables", "_table_numbers", "_pairs", "_pair_numbers", "_neighbors", "_children", "_from_the_sides"] (aSnoc (aSnoc (aSnoc (aSnoc (aSnoc (aSnoc (aSnoc aN (tAt oi275.2.2.1)) (tAt oi275.2.2.2.1)) (tAt oi275.2.2.2.2.1)) (tAt oi275.2.2.2.2.2.1)) (tAt oi275.2.2.2.2.2.2.1)) (tAt oi275.2.2.2.2.2.2.2)) tB) ((((((((), ()), ()), ()), ()), ()), ()), z317.2.2.2.2.2.2), .lst oi275.2.2.1 (tC T.a_WalkTable ["_ends", "_marks"] (a2 (tT K (aV tI)) (tT K (aV tI)))) z317.1, .gen oi275.2.2.2.1 (dctR Pg w K (tT K (a2 (tT K (aV tI)) (tT K (aV tI)))) oi275.2.2.2.1 z317.2.1), .lst oi275.2.2.2.2.1 (tT K (a2 tI tI)) z317.2.2.1, .gen oi275.2.2.2.2.2.1 (dctR Pg w K (tT K (a2 tI tI)) oi275.2.2.2.2.2.1 z317.2.2.2.1), .lst oi275.2.2.2.2.2.2.1 (tT K (a2 (tT K (a2 tI tI)) (tT K (a2 tI tI)))) z317.2.2.2.2.1, .lst oi275.2.2.2.2.2.2.2 (tT K (a2 tI tI)) z317.2.2.2.2.2.1]⟩) (je_methM (g0 := ⟨[.at oi275.1, sv tI x0, .any, .any, sv tI s301.2], []⟩) (E := (E_PairSearch Pg w T)) (self := fun (i : Idx_PairSearch) => i.1) (i := oi275) (z := s301.1) (i0 := 0) T.cl_PairSearch T.M_PairSearch__first_direction (ok_PairSearch__first_direction T) (hr.mono (by decide)) T.b_PairSearch__first_direction rfl rfl (fun vs h => match vs, h with | [_, _, _, _, _, _, _], _ => rfl) (jam_of s301.1 rfl (ja_cons (je_var (i := 4) (A := tI) (a := s301.2) rfl) ja_nil))) (fun z317 => (je_methM (g0 := ⟨[.at oi275.1, sv tI x0, .any, .any, sv tI s301.2], []⟩) (E := (E_PairSearch Pg w T)) (self := fun (i : Idx_PairSearch) => i.1) (i := oi275) (z := z317) (i0 := 0) T.cl_PairSearch T.M_PairSearch__visit (ok_PairSearch__visit T) (hr.mono (by decide)) T.b_PairSearch__visit rfl rfl (fun vs h => match vs, h with | [_, _, _, _, _, _, _], _ => rfl) (jam_of z317 rfl (ja_cons (je_var (i := 4) (A := tI) (a := s301.2) rfl) ja_nil)))))) (fun z369 => (jg_plain1 (S := fun (s372 : Int) => ⟨[.at oi275.1, sv tI x0, .any, .any, sv tI s372], [.ins oi275.1 oi275.2.1 T.a_PairSearch ["_tables", "_table_numbers", "_pairs", "_pair_numbers", "_neighbors", "_children", "_from_the_sides"] (aSnoc (aSnoc (aSnoc (aSnoc (aSnoc (aSnoc (aSnoc aN (tAt oi275.2.2.1)) (tAt oi275.2.2.2.1)) (tAt oi275.2.2.2.2.1)) (tAt oi275.2.2.2.2.2.1)) (tAt oi275.2.2.2.2.2.2.1)) (tAt oi275.2.2.2.2.2.2.2)) tB) ((((((((), ()), ()), ()), ()), ()), ()), z369.2.2.2.2.2.2), .lst oi275.2.2.1 (tC T.a_WalkTable ["_ends", "_marks"] (a2 (tT K (aV tI)) (tT K (aV tI)))) z369.1, .gen oi275.2.2.2.1 (dctR Pg w K (tT K (a2 (tT K (aV tI)) (tT K (aV tI)))) oi275.2.2.2.1 z369.2.1), .lst oi275.2.2.2.2.1 (tT K (a2 tI tI)) z369.2.2.1, .gen oi275.2.2.2.2.2.1 (dctR Pg w K (tT K (a2 tI tI)) oi275.2.2.2.2.2.1 z369.2.2.2.1), .lst oi275.2.2.2.2.2.2.1 (tT K (a2 (tT K (a2 tI tI)) (tT K (a2 tI tI)))) z369.2.2.2.2.1, .lst oi275.2.2.2.2.2.2.2 (tT K (a2 tI tI)) z369.2.2.2.2.2.1]⟩) (fun sb Hb F J373 => (js_augI (i := 4) rfl je_int (fun number_375 => (js_end number_375 ⟨(.same (.same (.any (.any (.same .nil))))), (.cons₂ _ (.cons₂ _ (.cons₂ _ (.cons₂ _ (.cons₂ _ (.cons₂ _ (.cons₂ _ .slnil)))))))⟩)) sc.nd)) (fun s372 => (jg_end (z369, s372) ⟨(.same (.same (.any (.any (.same .nil))))), (.cons₂ _ (.cons₂ _ (.cons₂ _ (.cons₂ _ (.cons₂ _ (.cons₂ _ (.cons₂ _ .slnil)))))))⟩))))))) (fun s301 => (jg_endK hE s301.1 (.cons₂ _ (.cons₂ _ (.cons₂ _ (.cons₂ _ (.cons₂ _ (.cons₂ _ (.cons₂ _ .slnil))))))))))))))), ⟨GLe.refl _, F, s, hF, ⟨kE.same, (Par.cons rfl (Par.cons ⟨v0, rfl, r0⟩ (Par.cons trivial (Par.cons trivial (Par.cons trivial Par.nil))))), kE.nd, kE.cells⟩, hw⟩⟩
theorem ok_ring_from (T : Txt K mg) : FnOk Pg w K mg base CX0 1 T.a_ring_from T.d_ring_from ["start", "ends"] (spJ (aC tI (aC (tT K (aV tI)) aN)) (rN tI) fun t => w_ring_from t.1 t.2.1) := by
  refine T.F_ring_from.ok sc_ring_from (fun vs H Q E h => ?_) (fun cdv A outer s H vs Q E hr h => ?_)
  · obtain ⟨t, P, F, rfl, ⟨v0, _, rfl, r0, v1, _, rfl, r1, e0⟩, _⟩ := h
    have e1 := (e0 : _ = [])
    subst e1
    rfl
  · obtain ⟨⟨x0, x1, _⟩, P, F, rfl, ⟨v0, _, rfl, r0, v1, _, rfl, r1, e0⟩, hw, hrt⟩ := h
    have e1 := (e0 : _ = [])
    subst e1
    have sc := sc_ring_from
    exact ⟨_, (show JSs _ F ⟨[sv tI x0, sv (tT K (aV tI)) x1, .any, .any], []⟩ _ ⟨fun _ H' => Q .non H', Q, fun _ _ => False, fun _ _ => False⟩ _ from
      (js_stN (i := 2) (ps_set (i := 2) sc.nd rfl (by first | exact Or.inl rfl | exact Or.inr rfl) (je_lst (ja_consV (je_var (i := 0) (A := tI) (a := x0) rfl) (ja_nilV (A := tI)))) rfl (by first | exact .inl rfl | exact .inr rfl)) (fun p404 members_403 => (js_asg (i := 3) (je_ixV (je_var (i := 1) (A := (tT K (aV tI))) (a := x1) rfl) (je_var (i := 0) (A := tI) (a := x0) rfl)) (fun room_406 => (js_while (S := fun (s407 : Int × (List Int)) => ⟨[sv tI x0, sv (tT K (aV tI)) x1, .at p404, sv tI s407.1], [.lst p404 tI s407.2]⟩) (s0 := (room_406, members_403)) ⟨(.same (.same (.same (.same .nil)))), (.cons₂ _ .slnil)⟩ (fun s407 => (jt_neI (je_var (i := 3) (A := tI) (a := s407.1) rfl) (je_var (i := 0) (A := tI) (a := x0) rfl))) (fun nxt408 brk409 s407 => (js_app (i := 2) (j := 0) (pe_bm PySem.F.plainAttrs_list PySem.F.slot_list_append PySem.F.type_list_append mt_append (pv 2) (pa_cons (je_var (i := 3) (A := tI) (a := s407.1) rfl) pa_nil)) (fun y411 => (js_asg (i := 3) (je_ixV (je_var (i := 1) (A := (tT K (aV tI))) (a := x1) rfl) (je_var (i := 3) (A := tI) (a := s407.1) rfl)) (fun room_413 => (js_end (room_413, (s407.2 ++ [y411])) ⟨(.same (.same (.same (.same .nil)))), (.cons₂ _ .slnil)⟩)) sc.nd)) rfl rfl)) (fun s407 => (js_retC (i := 2) (j := 0) hrt rfl rfl)) PassesOwn.never)) sc.nd)))), ⟨Le.refl _, ⟨Same.refl _, (Par.cons ⟨v0, rfl, J.fr_in r0⟩ (Par.cons ⟨v1, rfl, J.fr_in r1⟩ (Par.cons trivial (Par.cons trivial Par.nil)))), List.nodup_nil, fun c hc => by cases hc⟩, hw⟩⟩
theorem ok_rooms_in (T : Txt K mg) : FnOk Pg w K mg base CX0 1 T.a_rooms_in T.d_rooms_in ["mark"] (spJ (aC tI aN) (rO (tT K (aV tI))) fun t => w_rooms_in t.1) := by
  refine T.F_rooms_in.ok sc_rooms_in (fun vs H Q E h => ?_) (fun cdv A outer s H vs Q E hr h => ?_)
  · obtain ⟨t, P, F, rfl, ⟨v0, _, rfl, r0, e0⟩, _⟩ := h
    have e1 := (e0 : _ = [])
    subst e1
    rfl
  · obtain ⟨⟨x0, _⟩, P, F, rfl, ⟨v0, _, rfl, r0, e0⟩, hw, hrt⟩ := h
    have e1 := (e0 : _ = [])
    subst e1
    have sc := sc_rooms_in
    exact ⟨_, (show JSs _ F ⟨[sv tI x0, .any], []⟩ _ ⟨fun _ H' => Q .non H', Q, fun _ _ => False, fun _ _ => False⟩ _ from
      (js_ret hrt (je_tupleL (by rfl) T.m_tuple (je_e (je_eN (je_compF (own := [("room", 1)]) (B := tI) (ji_R (by rfl) T.m_range (je_bits (je_var (i := 0) (A := tI) (a := x0) rfl))) sc.nd (blkOk_by (N := ["mark", "room"]) (sc := defScope s_rooms_in) (by decide +kernel)) (tgw_name) (fun _ _ _ _ _ => (pg_name (i := 1) sc.nd rfl (Or.inl rfl))) (fun D429 acc430 room_431 _ _ _ _ _ => (jt_eqI (je_and2 (je_shr (je_var (i := 0) (A := tI) (a := x0) rfl) (je_var (i := 1) (A := tI) (a := room_431) rfl)) je_int) je_int)) (fun D429 acc430 room_431 _ _ _ _ _ => (je_var (i := 1) (A := tI) (a := room_431) rfl)))))))), ⟨Le.refl _, ⟨Same.refl _, (Par.cons ⟨v0, rfl, J.fr_in r0⟩ (Par.cons trivial Par.nil)), List.nodup_nil, fun c hc => by cases hc⟩, hw⟩⟩
theorem ok_rings_of (T : Txt K mg) : FnOk Pg w K mg base CX0 3 T.a_rings_of T.d_rings_of ["table"] (spJ (aC (tC T.a_WalkTable ["_ends", "_marks"] (a2 (tT K (aV tI)) (tT K (aV tI)))) aN) (rN (tT K (a3 tI tI (tT K (aV tI))))) fun t => w_rings_of t.1) := by
  refine T.F_rings_of.ok sc_rings_of (fun vs H Q E h => ?_) (fun cdv A outer s H vs Q E hr h => ?_)
  · obtain ⟨t, P, F, rfl, ⟨v0, _, rfl, r0, e0⟩, _⟩ := h
    have e1 := (e0 : _ = [])
    subst e1
    rfl
  · obtain ⟨⟨x0, _⟩, P, F, rfl, ⟨v0, _, rfl, r0, e0⟩, hw, hrt⟩ := h
    have e1 := (e0 : _ = [])
    subst e1
    have sc := sc_rings_of
    exact ⟨_, (show JSs _ F ⟨[sv (tC T.a_WalkTable ["_ends", "_marks"] (a2 (tT K (aV tI)) (tT K (aV tI)))) x0, .any, .any, .any, .any, .any, .any, .any, .any], []⟩ _ ⟨fun _ H' => Q .non H', Q, fun _ _ => False, fun _ _ => False⟩ _ from
      (js_asgT (je_prop (je_var (i := 0) (A := (tC T.a_WalkTable ["_ends", "_marks"] (a2 (tT K (aV tI)) (tT K (aV tI))))) (a := x0) rfl) T.cl_WalkTable T.M_WalkTable_form (ok_WalkTable_form T) (hr.mono (by decide)) T.b_WalkTable_form) (pg_tup rfl (pgs_cons (pg_name (i := 1) sc.nd rfl (Or.inl rfl)) (pgs_cons (pg_name (i := 2) sc.nd rfl (Or.inl rfl)) pgs_nil))) (tg_pair (tg_name) (tg_name)) (fun t391 => (js_asgSet (i := 3) (by rfl) T.m_set (fun p392 => (js_stN (i := 4) (ps_set (i := 4) sc.nd rfl (by first | exact Or.inl rfl | exact Or.inr rfl) (je_lst0 (A := (tT K (a3 tI tI (tT K (aV tI)))))) rfl (by first | exact .inl rfl | exact .inr rfl)) (fun p394 rings_393 => (js_forR (S := fun (s395 : (List (Int × Int × (List Int))) × (List Int)) => ⟨[sv (tC T.a_WalkTable ["_ends", "_marks"] (a2 (tT K (aV tI)) (tT K (aV tI)))) x0, sv (tT K (aV tI)) t391.1, sv (tT K (aV tI)) t391.2, .at p392, .at p394, .any, .any, .any, .any], [.lst p394 (tT K (a3 tI tI (tT K (aV tI)))) s395.1, .raw p392 (setJ w p392 s395.2)]⟩) (s0 := (rings_393, [])) (by rfl) T.m_range (je_prop (je_var (i := 0) (A := (tC T.a_WalkTable ["_ends", "_marks"] (a2 (tT K (aV tI)) (tT K (aV tI))))) (a := x0) rfl) T.cl_WalkTable T.M_WalkTable_size (ok_WalkTable_size T) (hr.mono (by decide)) T.b_WalkTable_size) ⟨(.same (.same (.same (.same (.same (.any (.any (.any (.any .nil))))))))), (.cons₂ _ (.cons₂ _ .slnil))⟩ (pg_name (i := 5) sc.nd rfl (Or.inl rfl)) (tg_name) (fun nxt397 brk398 start_396 s395 => (js_if (jt_niS (je_var (i := 5) (A := tI) (a := start_396) rfl) (je_cellS (i := 3) (j := 1) (p := p392) (xs := s395.2) rfl rfl)) (js_stF (i := 6) (ps_set (i := 6) sc.nd rfl (by first | exact Or.inl rfl | exact Or.inr rfl) (je_call (ok_ring_from T) (hr.mono (by decide)) (by rfl) T.g_ring_from T.F_ring_from.kp T.b_ring_from (ja_cons (je_var (i := 5) (A := tI) (a := start_396) rfl) (ja_cons (je_var (i := 1) (A := (tT K (aV tI))) (a := t391.1) rfl) ja_nil))) rfl (by first | exact .inl rfl | exact .inr rfl)) (fun members_416 => (js_asg (i := 7) je_int (fun mark_417 => (js_forL (A := tI) (S := fun v418 xs419 => fun (s420 : Int × (List Int)) => ⟨[sv (tC T.a_WalkTable ["_ends", "_marks"] (a2 (tT K (aV tI)) (tT K (aV tI)))) x0, sv (tT K (aV tI)) t391.1, sv (tT K (aV tI)) t391.2, .at p392, .at p394, sv tI start_396, sv (tK tI) members_416, sv tI s420.1, .any], [.fix (tK tI) v418 xs419, .lst p394 (tT K (a3 tI tI (tT K (aV tI)))) s395.1, .raw p392 (setJ w p392 s420.2)]⟩) (s0 := (mark_417, s395.2)) (j := 0) (je_var (i := 6) (A := (tK tI)) (a := members_416) rfl) (fun v418 xs419 => ⟨(.same (.same (.same (.same (.same (.same (.same (.same (.any .nil))))))))), (.cons₂ _ (.cons₂ _ (.cons₂ _ .slnil)))⟩) (fun v418 xs419 _ => rfl) (pg_name (i := 8) sc.nd rfl (Or.inl rfl)) (tg_name) (fun v418 xs419 nxt422 brk423 room_421 s420 => (js_setAdd (i := 3) (j := 2) (xs := s420.2) (pe_sadd (pv 3) (pa_cons (je_var (i := 8) (A := tI) (a := room_421) rfl) pa_nil)) (fun placed_425 => (js_asg (i := 7) (je_or2 (je_var (i := 7) (A := tI) (a := s420.1) rfl) (je_ixV (je_var (i := 2) (A := (tT K (aV tI))) (a := t391.2) rfl) (je_var (i := 8) (A := tI) (a := room_421) rfl))) (fun mark_427 => (js_end (mark_427, placed_425) ⟨(.same (.same (.same (.same (.same (.same (.same (.same (.any .nil))))))))), (.cons₂ _ (.cons₂ _ (.cons₂ _ .slnil)))⟩)) sc.nd)) rfl rfl)) (fun v418 xs419 s420 => (js_app (i := 4) (j := 1) (pe_bm PySem.F.plainAttrs_list PySem.F.slot_list_append PySem.F.type_list_append mt_append (pv 4) (pa_cons (je_tup3 (je_var (i := 5) (A := tI) (a := start_396) rfl) (je_lenL (by rfl) T.m_len (je_ebL (je_e (je_eK (je_var (i := 6) (A := (tK tI)) (a := members_416) rfl))))) (je_call (ok_rooms_in T) (hr.mono (by decide)) (by rfl) T.g_rooms_in T.F_rooms_in.kp T.b_rooms_in (ja_cons (je_var (i := 7) (A := tI) (a := s420.1) rfl) ja_nil))) pa_nil)) (fun y436 => (js_end ((s395.1 ++ [y436]), s420.2) ⟨(.same (.same (.same (.same (.same (.any (.any (.any (.any .nil))))))))), (.cons _ (.cons₂ _ (.cons₂ _ .slnil)))⟩)) rfl rfl)) PassesOwn.never)) sc.nd))) (js_end (s395.1, s395.2) ⟨(.same (.same (.same (.same (.same (.any (.any (.any (.any .nil))))))))), (.cons₂ _ (.cons₂ _ .slnil))⟩))) (fun s395 => (js_retC (i := 4) (j := 0) hrt rfl rfl)) PassesOwn.never)))) sc.nd)))), ⟨Le.refl _, ⟨Same.refl _, (Par.cons ⟨v0, rfl, J.fr_in r0⟩ (Par.cons trivial (Par.cons trivial (Par.cons trivial (Par.cons trivial (Par.cons trivial (Par.cons trivial (Par.cons trivial (Par.cons trivial Par.nil))))))))), List.nodup_nil, fun c hc => by cases hc⟩, hw⟩⟩
theorem ok_rounds_of (T : Txt K mg) : FnOk Pg w K mg base CX0 1 T.a_rounds_of T.d_rounds_of ["rings"] (spJ (aC (tK (tT K (a3 tI tI (tT K (aV tI))))) aN) (rO (tT K (aV tI))) fun t => w_rounds_of t.1) := by
  refine T.F_rounds_of.ok sc_rounds_of (fun vs H Q E h => ?_) (fun cdv A outer s H vs Q E hr h => ?_)
  · obtain ⟨t, P, F, rfl, ⟨v0, _, rfl, r0, e0⟩, _⟩ := h
    have e1 := (e0 : _ = [])
    subst e1
    rfl
  · obtain ⟨⟨x0, _⟩, P, F, rfl, ⟨v0, _, rfl, r0, e0⟩, hw, hrt⟩ := h
    have e1 := (e0 : _ = [])
    subst e1
    have sc := sc_rounds_of
    exact ⟨_, (show JSs _ F ⟨[sv (tK (tT K (a3 tI tI (tT K (aV tI))))) x0, .any, .any, .any], []⟩ _ ⟨fun _ H' => Q .non H', Q, fun _ _ => False, fun _ _ => False⟩ _ from
      (js_ret hrt (je_tupleL (by rfl) T.m_tuple (je_e (je_eN (je_sorted (by rfl) T.m_sorted (je_ebL (je_e (je_eN (je_comp (own := [("start", 1), ("rounds", 2), ("passed", 3)]) (B := tI) (ji_L (je_var (i := 0) (A := (tK (tT K (a3 tI tI (tT K (aV tI)))))) (a := x0) rfl)) sc.nd (blkOk_by (N := ["rings", "start", "rounds", "passed"]) (sc := defScope s_rounds_of) (by decide +kernel)) (tgw_tri) (fun _ _ _ _ _ => (pg_tup rfl (pgs_cons (pg_name (i := 1) sc.nd rfl (Or.inl rfl)) (pgs_cons (pg_name (i := 2) sc.nd rfl (Or.inl rfl)) (pgs_cons (pg_name (i := 3) sc.nd rfl (Or.inl rfl)) pgs_nil))))) (fun D460 acc461 x462 _ _ _ _ _ => (je_var (i := 2) (A := tI) (a := x462.2.1) rfl)))))))))))), ⟨Le.refl _, ⟨Same.refl _, (Par.cons ⟨v0, rfl, J.fr_in r0⟩ (Par.cons trivial (Par.cons trivial (Par.cons trivial Par.nil)))), List.nodup_nil, fun c hc => by cases hc⟩, hw⟩⟩
theorem ok_two_lists (T : Txt K mg) : FnOk Pg w K mg base CX0 4 T.a_two_lists T.d_two_lists ["table", "size"] (spJ (aC (tC T.a_WalkTable ["_ends", "_marks"] (a2 (tT K (aV tI)) (tT K (aV tI)))) (aC tI aN)) (rO (tT K (a2 (tT K (aV tI)) (tT K (aV tI))))) fun t => w_two_lists t.1 t.2.1) := by
  refine T.F_two_lists.ok sc_two_lists (fun vs H Q E h => ?_) (fun cdv A outer s H vs Q E hr h => ?_)
  · obtain ⟨t, P, F, rfl, ⟨v0, _, rfl, r0, v1, _, rfl, r1, e0⟩, _⟩ := h
    have e1 := (e0 : _ = [])
    subst e1
    rfl
  · obtain ⟨⟨x0, x1, _⟩, P, F, rfl, ⟨v0, _, rfl, r0, v1, _, rfl, r1, e0⟩, hw, hrt⟩ := h
    have e1 := (e0 : _ = [])
    subst e1
    have sc := sc_two_lists
    exact ⟨_, (show JSs _ F ⟨[sv (tC T.a_WalkTable ["_ends", "_marks"] (a2 (tT K (aV tI)) (tT K (aV tI)))) x0, sv tI x1, .any, .any, .any, .any], []⟩ _ ⟨fun _ H' => Q .non H', Q, fun _ _ => False, fun _ _ => False⟩ _ from
      (js_stF (i := 2) (ps_set (i := 2) sc.nd rfl (by first | exact Or.inl rfl | exact Or.inr rfl) (je_call (ok_rings_of T) (hr.mono (by decide)) (by rfl) T.g_rings_of T.F_rings_of.kp T.b_rings_of (ja_cons (je_var (i := 0) (A := (tC T.a_WalkTable ["_ends", "_marks"] (a2 (tT K (aV tI)) (tT K (aV tI))))) (a := x0) rfl) ja_nil)) rfl (by first | exact .inl rfl | exact .inr rfl)) (fun rings_442 => (js_stF (i := 3) (ps_lcF (i := 3) (own := [("ring", 5)]) (B := (tT K (a3 tI tI (tT K (aV tI))))) (ji_L (je_var (i := 2) (A := (tK (tT K (a3 tI tI (tT K (aV tI)))))) (a := rings_442) rfl)) sc.nd (blkOk_by (N := ["table", "size", "rings", "first", "second", "ring"]) (sc := defScope s_two_lists) (by decide +kernel)) (tgw_name) (fun _ _ _ _ _ => (pg_name (i := 5) sc.nd rfl (Or.inl rfl))) (fun D443 acc444 ring_445 _ _ _ _ _ => (jt_lt (je_3a (je_var (i := 5) (A := (tT K (a3 tI tI (tT K (aV tI))))) (a := ring_445) rfl)) (je_var (i := 1) (A := tI) (a := x1) rfl))) (fun D443 acc444 ring_445 _ _ _ _ _ => (je_var (i := 5) (A := (tT K (a3 tI tI (tT K (aV tI))))) (a := ring_445) rfl)) (sw_true rfl rfl rfl (by decide +kernel))) (fun first_450 => (js_stF (i := 4) (ps_lcF (i := 4) (own := [("ring", 5)]) (B := (tT K (a3 tI tI (tT K (aV tI))))) (ji_L (je_var (i := 2) (A := (tK (tT K (a3 tI tI (tT K (aV tI)))))) (a := rings_442) rfl)) sc.nd (blkOk_by (N := ["table", "size", "rings", "first", "second", "ring"]) (sc := defScope s_two_lists) (by decide +kernel)) (tgw_name) (fun _ _ _ _ _ => (pg_name (i := 5) sc.nd rfl (Or.inl rfl))) (fun D451 acc452 ring_453 _ _ _ _ _ => (jt_ge (je_3a (je_var (i := 5) (A := (tT K (a3 tI tI (tT K (aV tI))))) (a := ring_453) rfl)) (je_var (i := 1) (A := tI) (a := x1) rfl))) (fun D451 acc452 ring_453 _ _ _ _ _ => (je_var (i := 5) (A := (tT K (a3 tI tI (tT K (aV tI))))) (a := ring_453) rfl)) (sw_true rfl rfl rfl (by decide +kernel))) (fun second_458 => (js_ret hrt (je_tup2 (je_call (ok_rounds_of T) (hr.mono (by decide)) (by rfl) T.g_rounds_of T.F_rounds_of.kp T.b_rounds_of (ja_cons (je_var (i := 3) (A := (tK (tT K (a3 tI tI (tT K (aV tI)))))) (a := first_450) rfl) ja_nil)) (je_call (ok_rounds_of T) (hr.mono (by decide)) (by rfl) T.g_rounds_of T.F_rounds_of.kp T.b_rounds_of (ja_cons (je_var (i := 4) (A := (tK (tT K (a3 tI tI (tT K (aV tI)))))) (a := second_458) rfl) ja_nil))))))))))), ⟨Le.refl _, ⟨Same.refl _, (Par.cons ⟨v0, rfl, J.fr_in r0⟩ (Par.cons ⟨v1, rfl, J.fr_in r1⟩ (Par.cons trivial (Par.cons trivial (Par.cons trivial (Par.cons trivial Par.nil)))))), List.nodup_nil, fun c hc => by cases hc⟩, hw⟩⟩
theorem ok_Plan_size (T : Txt K mg) : FnOk Pg w K mg base CX0 1 T.a_Plan_size T.d_Plan_size ["self"] (spJ (aC (tC T.a_Plan ["_right", "_above"] (a2 (tT K (aV tI)) (tT K (aV tI)))) aN) (rO tI) fun t => w_Plan_size t.1) := by
  refine T.F_Plan_size.ok sc_Plan_size (fun vs H Q E h => ?_) (fun cdv A outer s H vs Q E hr h => ?_)
  · obtain ⟨t, P, F, rfl, ⟨v0, _, rfl, r0, e0⟩, _⟩ := h
    have e1 := (e0 : _ = [])
    subst e1
    rfl
  · obtain ⟨⟨x0, _⟩, P, F, rfl, ⟨v0, _, rfl, r0, e0⟩, hw, hrt⟩ := h
    have e1 := (e0 : _ = [])
    subst e1
    have sc := sc_Plan_size
    exact ⟨_, (show JSs _ F ⟨[sv (tC T.a_Plan ["_right", "_above"] (a2 (tT K (aV tI)) (tT K (aV tI)))) x0], []⟩ _ ⟨fun _ H' => Q .non H', Q, fun _ _ => False, fun _ _ => False⟩ _ from
      (js_ret hrt (je_lenT (by rfl) T.m_len (je_fld (A := (tT K (aV tI))) (h := fun (t : ((List Int) × (List Int))) => t.1) (je_var (i := 0) (A := (tC T.a_Plan ["_right", "_above"] (a2 (tT K (aV tI)) (tT K (aV tI))))) (a := x0) rfl) T.cl_Plan T.nf_Plan__right (fun _ _ _ ⟨y0, y1, e0, h0, h1⟩ => ⟨y0, by rw [e0]; rfl, h0⟩)) len_aV))), ⟨Le.refl _, ⟨Same.refl _, (Par.cons ⟨v0, rfl, J.fr_in r0⟩ Par.nil), List.nodup_nil, fun c hc => by cases hc⟩, hw⟩⟩
theorem ok_copied_r (T : Txt K mg) : FnOk Pg w K mg base CX0 1 T.a_copied T.d_copied ["entries"] (spJ (aC (tO (tK (tT K (a4 (tT K (a2 (tT K (aV tI)) (tT K (aV tI)))) (tT K (a2 (tT K (aV tI)) (tT K (aV tI)))) tI tI)))) aN) (rO (tO (tK (tT K (a4 (tT K (a2 (tT K (aV tI)) (tT K (aV tI)))) (tT K (a2 (tT K (aV tI)) (tT K (aV tI)))) tI tI))))) fun t => w_copied_r t.1) := by
  refine T.F_copied.ok sc_copied (fun vs H Q E h => ?_) (fun cdv A outer s H vs Q E hr h => ?_)
  · obtain ⟨t, P, F, rfl, ⟨v0, _, rfl, r0, e0⟩, _⟩ := h
    have e1 := (e0 : _ = [])
    subst e1
    rfl
  · obtain ⟨⟨x0, _⟩, P, F, rfl, ⟨v0, _, rfl, r0, e0⟩, hw, hrt⟩ := h
    have e1 := (e0 : _ = [])
    subst e1
    have sc := sc_copied
    exact ⟨_, (show JSs _ F ⟨[sv (tO (tK (tT K (a4 (tT K (a2 (tT K (aV tI)) (tT K (aV tI)))) (tT K (a2 (tT K (aV tI)) (tT K (aV tI)))) tI tI)))) x0], []⟩ _ ⟨fun _ H' => Q .non H', Q, fun _ _ => False, fun _ _ => False⟩ _ from
      (js_ret hrt (je_if (jt_isN (je_var (i := 0) (A := (tO (tK (tT K (a4 (tT K (a2 (tT K (aV tI)) (tT K (aV tI)))) (tT K (a2 (tT K (aV tI)) (tT K (aV tI)))) tI tI))))) (a := x0) rfl)) je_nonO (je_some (je_new (je_listL (by rfl) T.m_list (je_e (je_eK (je_get (je_var (i := 0) (A := (tO (tK (tT K (a4 (tT K (a2 (tT K (aV tI)) (tT K (aV tI)))) (tT K (a2 (tT K (aV tI)) (tT K (aV tI)))) tI tI))))) (a := x0) rfl)))))) nn_K)))), ⟨Le.refl _, ⟨Same.refl _, (Par.cons ⟨v0, rfl, J.fr_in r0⟩ Par.nil), List.nodup_nil, fun c hc => by cases hc⟩, hw⟩⟩
theorem ok_Comparison___init__ (T : Txt K mg) : FnOk Pg w K mg base CX0 2 T.a_Comparison___init__ T.d_Comparison___init__ ["self", "certificate", "direction", "lists"] (spI T.a_Comparison ["_certificate", "_direction", "_lists"] (aC (tO (tK (tT K (a4 (tT K (a2 (tT K (aV tI)) (tT K (aV tI)))) (tT K (a2 (tT K (aV tI)) (tT K (aV tI)))) tI tI)))) (aC (tO (tT K (a2 tI tI))) (aC (tO (tT K (a2 (tT K (aV tI)) (tT K (aV tI))))) aN))) (a3 (tO (tK (tT K (a4 (tT K (a2 (tT K (aV tI)) (tT K (aV tI)))) (tT K (a2 (tT K (aV tI)) (tT K (aV tI)))) tI tI)))) (tO (tT K (a2 tI tI))) (tO (tT K (a2 (tT K (aV tI)) (tT K (aV tI)))))) fun t => w_Comparison___init__ t.1 t.2.1 t.2.2.1) := by
  refine T.F_Comparison___init__.ok sc_Comparison___init__ (fun vs H Q E h => ?_) (fun cdv A outer s H vs Q E hr h => ?_)
  · obtain ⟨x, dx, ws, t, P, F, rfl, hx, hdx, hne, rfl, ⟨v0, _, rfl, r0, v1, _, rfl, r1, v2, _, rfl, r2, e0⟩, _⟩ := h
    have e1 := (e0 : _ = [])
    subst e1
    rfl
  · obtain ⟨x, dx, ws, ⟨x0, x1, x2, _⟩, P, F, rfl, hx, hdx, hne, rfl, ⟨v0, _, rfl, r0, v1, _, rfl, r1, v2, _, rfl, r2, e0⟩, hw, hq⟩ := h
    have e1 := (e0 : _ = [])
    subst e1
    have sc := sc_Comparison___init__
    exact ⟨_, (show JSs _ F ⟨[.at x, sv (tO (tK (tT K (a4 (tT K (a2 (tT K (aV tI)) (tT K (aV tI)))) (tT K (a2 (tT K (aV tI)) (tT K (aV tI)))) tI tI)))) x0, sv (tO (tT K (a2 tI tI))) x1, sv (tO (tT K (a2 (tT K (aV tI)) (tT K (aV tI))))) x2], [.ins x dx T.a_Comparison [] aN ()]⟩ _ ⟨fun _ H' => Q .non H', Q, fun _ _ => False, fun _ _ => False⟩ _ from
      (js_fld (i := 0) (j := 0) T.cl_Comparison T.nf_Comparison__certificate (je_call (ok_copied_r T) (hr.mono (by decide)) (by rfl) T.g_copied T.F_copied.kp T.b_copied (ja_cons (je_var (i := 1) (A := (tO (tK (tT K (a4 (tT K (a2 (tT K (aV tI)) (tT K (aV tI)))) (tT K (a2 (tT K (aV tI)) (tT K (aV tI)))) tI tI))))) (a := x0) rfl) ja_nil)) (fun f477 => (js_fld (i := 0) (j := 0) T.cl_Comparison T.nf_Comparison__direction (je_var (i := 2) (A := (tO (tT K (a2 tI tI)))) (a := x1) rfl) (fun f478 => (js_fld (i := 0) (j := 0) T.cl_Comparison T.nf_Comparison__lists (je_var (i := 3) (A := (tO (tT K (a2 (tT K (aV tI)) (tT K (aV tI)))))) (a := x2) rfl) (fun f479 => (js_endI (κ := ((Option (List (((List Int) × (List Int)) × ((List Int) × (List Int)) × Int × Int))) × (Option (Int × Int)) × (Option ((List Int) × (List Int))))) (u := (f477, f478, f479)) (fun σ H k p => hq _ H p k.same (J.init_end (j := 0) k rfl sn3)))) rfl rfl)) rfl rfl)) rfl rfl)), ⟨Le.refl _, J.init_ok hx hdx hne (Par.cons rfl (Par.cons ⟨v0, rfl, r0⟩ (Par.cons ⟨v1, rfl, r1⟩ (Par.cons ⟨v2, rfl, r2⟩ Par.nil)))), hw⟩⟩
theorem ok_PairSearch_rows (T : Txt K mg) : FnOk Pg w K mg base CX0 3 T.a_PairSearch_rows T.d_PairSearch_rows ["self"] (spJM (fun (i : Idx_PairSearch) us => .ref i.1 :: us) aN (E_PairSearch Pg w T) (tK (tT K (a4 (tT K (a2 (tT K (aV tI)) (tT K (aV tI)))) (tT K (a2 (tT K (aV tI)) (tT K (aV tI)))) tI tI))) (fun t z P => w_PairSearch_rows  z P)) := by
  refine T.F_PairSearch_rows.ok sc_PairSearch_rows (fun vs H Q E h => ?_) (fun cdv A outer s H vs Q E hr h => ?_)
  · obtain ⟨t, i, z, us, F, P, rfl, kE, e0, _⟩ := h
    have e1 := (e0 : _ = [])
    subst e1
    rfl
  · obtain ⟨_, oi485, oz486, us, F, P, rfl, kE, e0, hw, hrt⟩ := h
    have e1 := (e0 : _ = [])
    subst e1
    have sc := sc_PairSearch_rows
    exact ⟨_, (show JSs _ F ⟨[.at oi485.1, .any, .any, .any, .any, .any, .any], [.ins oi485.1 oi485.2.1 T.a_PairSearch ["_tables", "_table_numbers", "_pairs", "_pair_numbers", "_neighbors", "_children", "_from_the_sides"] (aSnoc (aSnoc (aSnoc (aSnoc (aSnoc (aSnoc (aSnoc aN (tAt oi485.2.2.1)) (tAt oi485.2.2.2.1)) (tAt oi485.2.2.2.2.1)) (tAt oi485.2.2.2.2.2.1)) (tAt oi485.2.2.2.2.2.2.1)) (tAt oi485.2.2.2.2.2.2.2)) tB) ((((((((), ()), ()), ()), ()), ()), ()), oz486.2.2.2.2.2.2), .lst oi485.2.2.1 (tC T.a_WalkTable ["_ends", "_marks"] (a2 (tT K (aV tI)) (tT K (aV tI)))) oz486.1, .gen oi485.2.2.2.1 (dctR Pg w K (tT K (a2 (tT K (aV tI)) (tT K (aV tI)))) oi485.2.2.2.1 oz486.2.1), .lst oi485.2.2.2.2.1 (tT K (a2 tI tI)) oz486.2.2.1, .gen oi485.2.2.2.2.2.1 (dctR Pg w K (tT K (a2 tI tI)) oi485.2.2.2.2.2.1 oz486.2.2.2.1), .lst oi485.2.2.2.2.2.2.1 (tT K (a2 (tT K (a2 tI tI)) (tT K (a2 tI tI)))) oz486.2.2.2.2.1, .lst oi485.2.2.2.2.2.2.2 (tT K (a2 tI tI)) oz486.2.2.2.2.2.1]⟩ _ ⟨fun _ H' => Q .non H', Q, fun _ _ => False, fun _ _ => False⟩ _ from
      (js_stF (i := 1) (ps_set (i := 1) sc.nd rfl (by first | exact Or.inl rfl | exact Or.inr rfl) (je_comp (own := [("table", 2)]) (B := (tT K (a2 (tT K (aV tI)) (tT K (aV tI))))) (ji_own (A := (tC T.a_WalkTable ["_ends", "_marks"] (a2 (tT K (aV tI)) (tT K (aV tI))))) (j := 1) (xs := oz486.1) (pe_ownF (p := oi485.2.2.1) (i := 0) (j := 0) T.cl_PairSearch T.nf_PairSearch__tables rfl rfl (fun H vs h => by obtain ⟨u7, v7, e7, ⟨u6, v6, e6, ⟨u5, v5, e5, ⟨u4, v4, e4, ⟨u3, v3, e3, ⟨u2, v2, e2, ⟨u1, v1, e1, e0, r1⟩, r2⟩, r3⟩, r4⟩, r5⟩, r6⟩, r7⟩ := h; have q0 := (e0 : _ = []); subst q0; subst e1; subst e2; subst e3; subst e4; subst e5; subst e6; subst e7; exact ⟨v1, rfl, r1⟩)) rfl) sc.nd (blkOk_by (N := ["self", "forms", "table", "first", "second", "flat", "steep"]) (sc := defScope s_PairSearch_rows) (by decide +kernel)) (tgw_name) (fun _ _ _ _ _ => (pg_name (i := 2) sc.nd rfl (Or.inl rfl))) (fun D487 acc488 table_489 _ _ _ _ _ => (je_prop (je_var (i := 2) (A := (tC T.a_WalkTable ["_ends", "_marks"] (a2 (tT K (aV tI)) (tT K (aV tI))))) (a := table_489) rfl) T.cl_WalkTable T.M_WalkTable_form (ok_WalkTable_form T) (hr.mono (by decide)) T.b_WalkTable_form))) rfl (by first | exact .inl rfl | exact .inr rfl)) (fun forms_493 => (js_retM (E := (E_PairSearch Pg w T)) (i := oi485) hrt oz486 (.cons₂ _ (.cons₂ _ (.cons₂ _ (.cons₂ _ (.cons₂ _ (.cons₂ _ (.cons₂ _ .slnil))))))) (je_new (je_comp (own := [("first", 3), ("second", 4), ("flat", 5), ("steep", 6)]) (B := (tT K (a4 (tT K (a2 (tT K (aV tI)) (tT K (aV tI)))) (tT K (a2 (tT K (aV tI)) (tT K (aV tI)))) tI tI))) (ji_zipOwn (A := (tT K (a2 tI tI))) (B := (tT K (a2 tI tI))) (j := 3) (j2 := 6) (xs := oz486.2.2.1) (ys := oz486.2.2.2.2.2.1) (by rfl) T.m_zip (pe_ownF (p := oi485.2.2.2.2.1) (i := 0) (j := 0) T.cl_PairSearch T.nf_PairSearch__pairs rfl rfl (fun H vs h => by obtain ⟨u7, v7, e7, ⟨u6, v6, e6, ⟨u5, v5, e5, ⟨u4, v4, e4, ⟨u3, v3, e3, ⟨u2, v2, e2, ⟨u1, v1, e1, e0, r1⟩, r2⟩, r3⟩, r4⟩, r5⟩, r6⟩, r7⟩ := h; have q0 := (e0 : _ = []); subst q0; subst e1; subst e2; subst e3; subst e4; subst e5; subst e6; subst e7; exact ⟨v3, rfl, r3⟩)) (pe_ownF (p := oi485.2.2.2.2.2.2.2) (i := 0) (j := 0) T.cl_PairSearch T.nf_PairSearch__children rfl rfl (fun H vs h => by obtain ⟨u7, v7, e7, ⟨u6, v6, e6, ⟨u5, v5, e5, ⟨u4, v4, e4, ⟨u3, v3, e3, ⟨u2, v2, e2, ⟨u1, v1, e1, e0, r1⟩, r2⟩, r3⟩, r4⟩, r5⟩, r6⟩, r7⟩ := h; have q0 := (e0 : _ = []); subst q0; subst e1; subst e2; subst e3; subst e4; subst e5; subst e6; subst e7; exact ⟨v6, rfl, r6⟩)) rfl rfl) sc.nd (blkOk_by (N := ["self", "forms", "table", "first", "second", "flat", "steep"]) (sc := defScope s_PairSearch_rows) (by decide +kernel)) (tgw_pp) (fun _ _ _ _ _ => (pg_tup rfl (pgs_cons (pg_tup rfl (pgs_cons (pg_name (i := 3) sc.nd rfl (Or.inl rfl)) (pgs_cons (pg_name (i := 4) sc.nd rfl (Or.inl rfl)) pgs_nil))) (pgs_cons (pg_tup rfl (pgs_cons (pg_name (i := 5) sc.nd rfl (Or.inl rfl)) (pgs_cons (pg_name (i := 6) sc.nd rfl (Or.inl rfl)) pgs_nil))) pgs_nil)))) (fun D494 acc495 x496 _ _ _ _ _ => (je_tup4 (je_ixL (je_e (je_eK (je_var (i := 1) (A := (tK (tT K (a2 (tT K (aV tI)) (tT K (aV tI)))))) (a := forms_493) rfl))) (je_var (i := 3) (A := tI) (a := x496.1.1) rfl)) (je_ixL (je_e (je_eK (je_var (i := 1) (A := (tK (tT K (a2 (tT K (aV tI)) (tT K (aV tI)))))) (a := forms_493) rfl))) (je_var (i := 4) (A := tI) (a := x496.1.2) rfl)) (je_var (i := 5) (A := tI) (a := x496.2.1) rfl) (je_var (i := 6) (A := tI) (a := x496.2.2) rfl))))))))), ⟨Le.refl _, ⟨kE.same, (Par.cons rfl (Par.cons trivial (Par.cons trivial (Par.cons trivial (Par.cons trivial (Par.cons trivial (Par.cons trivial Par.nil))))))), kE.nd, kE.cells⟩, hw⟩⟩
theorem ok_compare (T : Txt K mg) : FnOk Pg w K mg base CX0 7 T.a_compare T.d_compare ["plan", "other", "limit"] (spJ (aC (tC T.a_Plan ["_right", "_above"] (a2 (tT K (aV tI)) (tT K (aV tI)))) (aC (tC T.a_Plan ["_right", "_above"] (a2 (tT K (aV tI)) (tT K (aV tI)))) (aC tI aN))) (rO (tC T.a_Comparison ["_certificate", "_direction", "_lists"] (a3 (tO (tK (tT K (a4 (tT K (a2 (tT K (aV tI)) (tT K (aV tI)))) (tT K (a2 (tT K (aV tI)) (tT K (aV tI)))) tI tI)))) (tO (tT K (a2 tI tI))) (tO (tT K (a2 (tT K (aV tI)) (tT K (aV tI)))))))) fun t => w_compare t.1 t.2.1 t.2.2.1) := by
  refine T.F_compare.ok0 sc_compare (fun vs H Q E h => ?_) (fun cdv A outer s H vs Q E hr h => ?_)
  · obtain ⟨t, P, F, rfl, ⟨v0, _, rfl, r0, v1, _, rfl, r1, v2, _, rfl, r2, e0⟩, _⟩ := h
    have e1 := (e0 : _ = [])
    subst e1
    rfl
  · obtain ⟨⟨x0, x1, x2, _⟩, P, F, rfl, ⟨v0, _, rfl, r0, v1, _, rfl, r1, v2, _, rfl, r2, e0⟩, hw, hrt⟩ := h
    have e1 := (e0 : _ = [])
    subst e1
    have sc := sc_compare
    exact ⟨_, (show JSs _ F ⟨[sv (tC T.a_Plan ["_right", "_above"] (a2 (tT K (aV tI)) (tT K (aV tI)))) x0, sv (tC T.a_Plan ["_right", "_above"] (a2 (tT K (aV tI)) (tT K (aV tI)))) x1, sv tI x2, .any, .any, .any, .any, .any], []⟩ _ ⟨fun _ H' => Q .non H', Q, fun _ _ => False, fun _ _ => False⟩ _ from
      (js_makeO (i0 := 3) (E := (E_PairSearch Pg w T)) (self := fun (i : Idx_PairSearch) => i.1) T.M_PairSearch___init__ (ok_PairSearch___init__ T) (hr.mono (by decide)) (by rfl) T.g_PairSearch T.b_PairSearch___init__ (ja_cons (je_call (ok_side_tables T) (hr.mono (by decide)) (by rfl) T.g_side_tables T.F_side_tables.kp T.b_side_tables (ja_cons (je_var (i := 0) (A := (tC T.a_Plan ["_right", "_above"] (a2 (tT K (aV tI)) (tT K (aV tI))))) (a := x0) rfl) (ja_cons (je_var (i := 1) (A := (tC T.a_Plan ["_right", "_above"] (a2 (tT K (aV tI)) (tT K (aV tI))))) (a := x1) rfl) ja_nil))) (ja_cons je_nonO ja_nil)) (fun oi273 oz274 => (js_forGM (S := fun (s382 : Unit) => ⟨[sv (tC T.a_Plan ["_right", "_above"] (a2 (tT K (aV tI)) (tT K (aV tI)))) x0, sv (tC T.a_Plan ["_right", "_above"] (a2 (tT K (aV tI)) (tT K (aV tI)))) x1, sv tI x2, .at oi273.1, .any, .any, .any, .any], []⟩) (s0 := ()) (E := (E_PairSearch Pg w T)) (self := fun (i : Idx_PairSearch) => i.1) (i := oi273) (z := oz274) (i0 := 3) T.cl_PairSearch T.M_PairSearch_asked (ok_PairSearch_asked T) (hr.mono (by decide)) T.b_PairSearch_asked rfl rfl (fun vs h => match vs, h with | [_, _, _, _, _, _, _], _ => rfl) (ja_cons (je_var (i := 2) (A := tI) (a := x2) rfl) ja_nil) ⟨(.same (.same (.same (.same (.any (.any (.any (.any .nil)))))))), (.cons₂ _ (.cons₂ _ (.cons₂ _ (.cons₂ _ (.cons₂ _ (.cons₂ _ (.cons₂ _ .slnil)))))))⟩ (pg_tup rfl (pgs_cons (pg_name (i := 4) sc.nd rfl (Or.inl rfl)) (pgs_cons (pg_name (i := 5) sc.nd rfl (Or.inl rfl)) pgs_nil))) (tg_pair (tg_name) (tg_name)) (tgm_tup (tgm_cons tgm_name (tgm_cons tgm_name tgm_nil))) (fun hs385 nxt384 x383 s382 => (js_asgT (je_call (ok_two_lists T) (hr.mono (by decide)) (by rfl) T.g_two_lists T.F_two_lists.kp T.b_two_lists (ja_cons (je_var (i := 5) (A := (tC T.a_WalkTable ["_ends", "_marks"] (a2 (tT K (aV tI)) (tT K (aV tI))))) (a := x383.2) rfl) (ja_cons (je_prop (je_var (i := 0) (A := (tC T.a_Plan ["_right", "_above"] (a2 (tT K (aV tI)) (tT K (aV tI))))) (a := x0) rfl) T.cl_Plan T.M_Plan_size (ok_Plan_size T) (hr.mono (by decide)) T.b_Plan_size) ja_nil))) (pg_tup rfl (pgs_cons (pg_name (i := 6) sc.nd rfl (Or.inl rfl)) (pgs_cons (pg_name (i := 7) sc.nd rfl (Or.inl rfl)) pgs_nil))) (tg_pair (tg_name) (tg_name)) (fun t470 => (js_if (jt_neD (K := K) (A := (tT K (aV tI))) hr.units (je_b (je_var (i := 6) (A := (tT K (aV tI))) (a := t470.1) rfl)) (je_b (je_var (i := 7) (A := (tT K (aV tI))) (a := t470.2) rfl))) (js_ret hrt (je_make (T := (aC (tO (tK (tT K (a4 (tT K (a2 (tT K (aV tI)) (tT K (aV tI)))) (tT K (a2 (tT K (aV tI)) (tT K (aV tI)))) tI tI)))) (aC (tO (tT K (a2 tI tI))) (aC (tO (tT K (a2 (tT K (aV tI)) (tT K (aV tI))))) aN)))) (U := (a3 (tO (tK (tT K (a4 (tT K (a2 (tT K (aV tI)) (tT K (aV tI)))) (tT K (a2 (tT K (aV tI)) (tT K (aV tI)))) tI tI)))) (tO (tT K (a2 tI tI))) (tO (tT K (a2 (tT K (aV tI)) (tT K (aV tI))))))) (w := fun t => w_Comparison___init__ t.1 t.2.1 t.2.2.1) T.M_Comparison___init__ (ok_Comparison___init__ T) (hr.mono (by decide)) (by rfl) T.g_Comparison T.b_Comparison___init__ (ja_cons je_nonO (ja_cons (je_some (je_var (i := 4) (A := (tT K (a2 tI tI))) (a := x383.1) rfl) nn_T) (ja_cons (je_some (je_tup2 (je_var (i := 6) (A := (tT K (aV tI))) (a := t470.1) rfl) (je_var (i := 7) (A := (tT K (aV tI))) (a := t470.2) rfl)) nn_T) ja_nil))))) (js_end () ⟨(.same (.same (.same (.same (.any (.any (.any (.any .nil)))))))), (List.Sublist.refl _)⟩))))) (fun oz386 s382 => (js_retX (P := P) (S := fun (z503 : St_PairSearch) => ⟨[sv (tC T.a_Plan ["_right", "_above"] (a2 (tT K (aV tI)) (tT K (aV tI)))) x0, sv (tC T.a_Plan ["_right", "_above"] (a2 (tT K (aV tI)) (tT K (aV tI)))) x1, sv tI x2, .at oi273.1, .any, .any, .any, .any], [.ins oi273.1 oi273.2.1 T.a_PairSearch ["_tables", "_table_numbers", "_pairs", "_pair_numbers", "_neighbors", "_children", "_from_the_sides"] (aSnoc (aSnoc (aSnoc (aSnoc (aSnoc (aSnoc (aSnoc aN (tAt oi273.2.2.1)) (tAt oi273.2.2.2.1)) (tAt oi273.2.2.2.2.1)) (tAt oi273.2.2.2.2.2.1)) (tAt oi273.2.2.2.2.2.2.1)) (tAt oi273.2.2.2.2.2.2.2)) tB) ((((((((), ()), ()), ()), ()), ()), ()), z503.2.2.2.2.2.2), .lst oi273.2.2.1 (tC T.a_WalkTable ["_ends", "_marks"] (a2 (tT K (aV tI)) (tT K (aV tI)))) z503.1, .gen oi273.2.2.2.1 (dctR Pg w K (tT K (a2 (tT K (aV tI)) (tT K (aV tI)))) oi273.2.2.2.1 z503.2.1), .lst oi273.2.2.2.2.1 (tT K (a2 tI tI)) z503.2.2.1, .gen oi273.2.2.2.2.2.1 (dctR Pg w K (tT K (a2 tI tI)) oi273.2.2.2.2.2.1 z503.2.2.2.1), .lst oi273.2.2.2.2.2.2.1 (tT K (a2 (tT K (a2 tI tI)) (tT K (a2 tI tI)))) z503.2.2.2.2.1, .lst oi273.2.2.2.2.2.2.2 (tT K (a2 tI tI)) z503.2.2.2.2.2.1]⟩) hrt (je_makeM (T := (aC (tO (tK (tT K (a4 (tT K (a2 (tT K (aV tI)) (tT K (aV tI)))) (tT K (a2 (tT K (aV tI)) (tT K (aV tI)))) tI tI)))) (aC (tO (tT K (a2 tI tI))) (aC (tO (tT K (a2 (tT K (aV tI)) (tT K (aV tI))))) aN)))) (U := (a3 (tO (tK (tT K (a4 (tT K (a2 (tT K (aV tI)) (tT K (aV tI)))) (tT K (a2 (tT K (aV tI)) (tT K (aV tI)))) tI tI)))) (tO (tT K (a2 tI tI))) (tO (tT K (a2 (tT K (aV tI)) (tT K (aV tI))))))) (w := fun t => w_Comparison___init__ t.1 t.2.1 t.2.2.1) T.M_Comparison___init__ (ok_Comparison___init__ T) (hr.mono (by decide)) (by rfl) T.g_Comparison T.b_Comparison___init__ (jam_cons (jem_some (je_methM0 (g0 := ⟨[sv (tC T.a_Plan ["_right", "_above"] (a2 (tT K (aV tI)) (tT K (aV tI)))) x0, sv (tC T.a_Plan ["_right", "_above"] (a2 (tT K (aV tI)) (tT K (aV tI)))) x1, sv tI x2, .at oi273.1, .any, .any, .any, .any], []⟩) (E := (E_PairSearch Pg w T)) (self := fun (i : Idx_PairSearch) => i.1) (i := oi273) (z := oz386) (i0 := 3) T.cl_PairSearch T.M_PairSearch_rows (ok_PairSearch_rows T) (hr.mono (by decide)) T.b_PairSearch_rows rfl rfl (fun vs h => match vs, h with | [_, _, _, _, _, _, _], _ => rfl)) nn_K) (fun z503 => (ja_cons je_nonO (ja_cons je_nonO ja_nil))))))) PassesOwn.never (xesim_false rfl))) sc.nd)), ⟨Le.refl _, ⟨Same.refl _, (Par.cons ⟨v0, rfl, J.fr_in r0⟩ (Par.cons ⟨v1, rfl, J.fr_in r1⟩ (Par.cons ⟨v2, rfl, J.fr_in r2⟩ (Par.cons trivial (Par.cons trivial (Par.cons trivial (Par.cons trivial (Par.cons trivial Par.nil)))))))), List.nodup_nil, fun c hc => by cases hc⟩, hw⟩⟩
theorem kb_compare_ (T : Txt K mg) : ∃ g, KBn K T.d_compare ["plan", "other", "limit"] 2 [] g (fun vs zs => vs ++ (zs ++ [.int 200000])) := by
  obtain ⟨mv, h⟩ := T.F_compare.kbinds0 (ps := ["plan", "other", "limit"]) 2 [] [("limit", .int 200000)] (fun vs mz zs => vs ++ (zs ++ mz)) (by simp) (by simp) (fun r1 r2 r3 => r1.append (r3.append r2)) (fun D doc pm an cdv ct us mv ws h1 h2 h3 => match us, mv, ws, h1, h2, h3 with | [_, _], [_], [], _, _, _ => ⟨_, _, _, _, _, _, rfl, rfl, rfl⟩)
  exact ⟨_, h⟩
theorem ok_Comparison_alike (T : Txt K mg) : FnOk Pg w K mg base CX0 1 T.a_Comparison_alike T.d_Comparison_alike ["self"] (spJ (aC (tC T.a_Comparison ["_certificate", "_direction", "_lists"] (a3 (tO (tK (tT K (a4 (tT K (a2 (tT K (aV tI)) (tT K (aV tI)))) (tT K (a2 (tT K (aV tI)) (tT K (aV tI)))) tI tI)))) (tO (tT K (a2 tI tI))) (tO (tT K (a2 (tT K (aV tI)) (tT K (aV tI))))))) aN) (rO tB) fun t => w_Comparison_alike t.1) := by
  refine T.F_Comparison_alike.ok sc_Comparison_alike (fun vs H Q E h => ?_) (fun cdv A outer s H vs Q E hr h => ?_)
  · obtain ⟨t, P, F, rfl, ⟨v0, _, rfl, r0, e0⟩, _⟩ := h
    have e1 := (e0 : _ = [])
    subst e1
    rfl
  · obtain ⟨⟨x0, _⟩, P, F, rfl, ⟨v0, _, rfl, r0, e0⟩, hw, hrt⟩ := h
    have e1 := (e0 : _ = [])
    subst e1
    have sc := sc_Comparison_alike
    exact ⟨_, (show JSs _ F ⟨[sv (tC T.a_Comparison ["_certificate", "_direction", "_lists"] (a3 (tO (tK (tT K (a4 (tT K (a2 (tT K (aV tI)) (tT K (aV tI)))) (tT K (a2 (tT K (aV tI)) (tT K (aV tI)))) tI tI)))) (tO (tT K (a2 tI tI))) (tO (tT K (a2 (tT K (aV tI)) (tT K (aV tI))))))) x0], []⟩ _ ⟨fun _ H' => Q .non H', Q, fun _ _ => False, fun _ _ => False⟩ _ from
      (js_ret hrt (je_isN (je_fld (A := (tO (tT K (a2 tI tI)))) (h := fun (t : ((Option (List (((List Int) × (List Int)) × ((List Int) × (List Int)) × Int × Int))) × (Option (Int × Int)) × (Option ((List Int) × (List Int))))) => t.2.1) (je_var (i := 0) (A := (tC T.a_Comparison ["_certificate", "_direction", "_lists"] (a3 (tO (tK (tT K (a4 (tT K (a2 (tT K (aV tI)) (tT K (aV tI)))) (tT K (a2 (tT K (aV tI)) (tT K (aV tI)))) tI tI)))) (tO (tT K (a2 tI tI))) (tO (tT K (a2 (tT K (aV tI)) (tT K (aV tI)))))))) (a := x0) rfl) T.cl_Comparison T.nf_Comparison__direction (fun _ _ _ ⟨y0, y1, y2, e0, h0, h1, h2⟩ => ⟨y1, by rw [e0]; rfl, h1⟩))))), ⟨Le.refl _, ⟨Same.refl _, (Par.cons ⟨v0, rfl, J.fr_in r0⟩ Par.nil), List.nodup_nil, fun c hc => by cases hc⟩, hw⟩⟩
theorem ok_Comparison_direction (T : Txt K mg) : FnOk Pg w K mg base CX0 1 T.a_Comparison_direction T.d_Comparison_direction ["self"] (spJ (aC (tC T.a_Comparison ["_certificate", "_direction", "_lists"] (a3 (tO (tK (tT K (a4 (tT K (a2 (tT K (aV tI)) (tT K (aV tI)))) (tT K (a2 (tT K (aV tI)) (tT K (aV tI)))) tI tI)))) (tO (tT K (a2 tI tI))) (tO (tT K (a2 (tT K (aV tI)) (tT K (aV tI))))))) aN) (rO (tO (tT K (a2 tI tI)))) fun t => w_Comparison_direction t.1) := by
  refine T.F_Comparison_direction.ok sc_Comparison_direction (fun vs H Q E h => ?_) (fun cdv A outer s H vs Q E hr h => ?_)
  · obtain ⟨t, P, F, rfl, ⟨v0, _, rfl, r0, e0⟩, _⟩ := h
    have e1 := (e0 : _ = [])
    subst e1
    rfl
  · obtain ⟨⟨x0, _⟩, P, F, rfl, ⟨v0, _, rfl, r0, e0⟩, hw, hrt⟩ := h
    have e1 := (e0 : _ = [])
    subst e1
    have sc := sc_Comparison_direction
    exact ⟨_, (show JSs _ F ⟨[sv (tC T.a_Comparison ["_certificate", "_direction", "_lists"] (a3 (tO (tK (tT K (a4 (tT K (a2 (tT K (aV tI)) (tT K (aV tI)))) (tT K (a2 (tT K (aV tI)) (tT K (aV tI)))) tI tI)))) (tO (tT K (a2 tI tI))) (tO (tT K (a2 (tT K (aV tI)) (tT K (aV tI))))))) x0], []⟩ _ ⟨fun _ H' => Q .non H', Q, fun _ _ => False, fun _ _ => False⟩ _ from
      (js_ret hrt (je_fld (A := (tO (tT K (a2 tI tI)))) (h := fun (t : ((Option (List (((List Int) × (List Int)) × ((List Int) × (List Int)) × Int × Int))) × (Option (Int × Int)) × (Option ((List Int) × (List Int))))) => t.2.1) (je_var (i := 0) (A := (tC T.a_Comparison ["_certificate", "_direction", "_lists"] (a3 (tO (tK (tT K (a4 (tT K (a2 (tT K (aV tI)) (tT K (aV tI)))) (tT K (a2 (tT K (aV tI)) (tT K (aV tI)))) tI tI)))) (tO (tT K (a2 tI tI))) (tO (tT K (a2 (tT K (aV tI)) (tT K (aV tI)))))))) (a := x0) rfl) T.cl_Comparison T.nf_Comparison__direction (fun _ _ _ ⟨y0, y1, y2, e0, h0, h1, h2⟩ => ⟨y1, by rw [e0]; rfl, h1⟩)))), ⟨Le.refl _, ⟨Same.refl _, (Par.cons ⟨v0, rfl, J.fr_in r0⟩ Par.nil), List.nodup_nil, fun c hc => by cases hc⟩, hw⟩⟩
theorem ok_Comparison_lists (T : Txt K mg) : FnOk Pg w K mg base CX0 1 T.a_Comparison_lists T.d_Comparison_lists ["self"] (spJ (aC (tC T.a_Comparison ["_certificate", "_direction", "_lists"] (a3 (tO (tK (tT K (a4 (tT K (a2 (tT K (aV tI)) (tT K (aV tI)))) (tT K (a2 (tT K (aV tI)) (tT K (aV tI)))) tI tI)))) (tO (tT K (a2 tI tI))) (tO (tT K (a2 (tT K (aV tI)) (tT K (aV tI))))))) aN) (rO (tO (tT K (a2 (tT K (aV tI)) (tT K (aV tI)))))) fun t => w_Comparison_lists t.1) := by
  refine T.F_Comparison_lists.ok sc_Comparison_lists (fun vs H Q E h => ?_) (fun cdv A outer s H vs Q E hr h => ?_)
  · obtain ⟨t, P, F, rfl, ⟨v0, _, rfl, r0, e0⟩, _⟩ := h
    have e1 := (e0 : _ = [])
    subst e1
    rfl
  · obtain ⟨⟨x0, _⟩, P, F, rfl, ⟨v0, _, rfl, r0, e0⟩, hw, hrt⟩ := h
    have e1 := (e0 : _ = [])
    subst e1
    have sc := sc_Comparison_lists
    exact ⟨_, (show JSs _ F ⟨[sv (tC T.a_Comparison ["_certificate", "_direction", "_lists"] (a3 (tO (tK (tT K (a4 (tT K (a2 (tT K (aV tI)) (tT K (aV tI)))) (tT K (a2 (tT K (aV tI)) (tT K (aV tI)))) tI tI)))) (tO (tT K (a2 tI tI))) (tO (tT K (a2 (tT K (aV tI)) (tT K (aV tI))))))) x0], []⟩ _ ⟨fun _ H' => Q .non H', Q, fun _ _ => False, fun _ _ => False⟩ _ from
      (js_ret hrt (je_fld (A := (tO (tT K (a2 (tT K (aV tI)) (tT K (aV tI)))))) (h := fun (t : ((Option (List (((List Int) × (List Int)) × ((List Int) × (List Int)) × Int × Int))) × (Option (Int × Int)) × (Option ((List Int) × (List Int))))) => t.2.2) (je_var (i := 0) (A := (tC T.a_Comparison ["_certificate", "_direction", "_lists"] (a3 (tO (tK (tT K (a4 (tT K (a2 (tT K (aV tI)) (tT K (aV tI)))) (tT K (a2 (tT K (aV tI)) (tT K (aV tI)))) tI tI)))) (tO (tT K (a2 tI tI))) (tO (tT K (a2 (tT K (aV tI)) (tT K (aV tI)))))))) (a := x0) rfl) T.cl_Comparison T.nf_Comparison__lists (fun _ _ _ ⟨y0, y1, y2, e0, h0, h1, h2⟩ => ⟨y2, by rw [e0]; rfl, h2⟩)))), ⟨Le.refl _, ⟨Same.refl _, (Par.cons ⟨v0, rfl, J.fr_in r0⟩ Par.nil), List.nodup_nil, fun c hc => by cases hc⟩, hw⟩⟩
theorem ok_law_rings (T : Txt K mg) : FnOk Pg w K mg base CX0 1 T.a_law_rings T.d_law_rings ["_law_table"] (spJ (aC (tK (tK tI)) aN) (rN (tT K (a3 tI tI (tT K (aV tI))))) fun t => w_law_rings t.1) := by
  refine T.F_law_rings.ok sc_law_rings (fun vs H Q E h => ?_) (fun cdv A outer s H vs Q E hr h => ?_)
  · obtain ⟨t, P, F, rfl, ⟨v0, _, rfl, r0, e0⟩, _⟩ := h
    have e1 := (e0 : _ = [])
    subst e1
    rfl
  · obtain ⟨⟨x0, _⟩, P, F, rfl, ⟨v0, _, rfl, r0, e0⟩, hw, hrt⟩ := h
    have e1 := (e0 : _ = [])
    subst e1
    have sc := sc_law_rings
    exact ⟨_, (show JSs _ F ⟨[sv (tK (tK tI)) x0, .any, .any, .any, .any, .any, .any, .any, .any], []⟩ _ ⟨fun _ H' => Q .non H', Q, fun _ _ => False, fun _ _ => False⟩ _ from
      (js_stN (i := 1) (ps_set (i := 1) sc.nd rfl (by first | exact Or.inl rfl | exact Or.inr rfl) (je_lst0 (A := (tT K (a3 tI tI (tT K (aV tI)))))) rfl (by first | exact .inl rfl | exact .inr rfl)) (fun p523 rings_here_522 => (js_stN (i := 2) (ps_set (i := 2) sc.nd rfl (by first | exact Or.inl rfl | exact Or.inr rfl) (je_lst0 (A := tI)) rfl (by first | exact .inl rfl | exact .inr rfl)) (fun p525 done_524 => (js_asg (i := 3) (je_lenL (by rfl) T.m_len (je_ebL (je_e (je_eK (je_ixL (je_e (je_eK (je_var (i := 0) (A := (tK (tK tI))) (a := x0) rfl))) je_int))))) (fun size_527 => (js_forR (S := fun (s528 : (List Int) × (List (Int × Int × (List Int)))) => ⟨[sv (tK (tK tI)) x0, .at p523, .at p525, sv tI size_527, .any, .any, .any, .any, .any], [.lst p525 tI s528.1, .lst p523 (tT K (a3 tI tI (tT K (aV tI)))) s528.2]⟩) (s0 := (done_524, rings_here_522)) (by rfl) T.m_range (je_var (i := 3) (A := tI) (a := size_527) rfl) ⟨(.same (.same (.same (.same (.any (.any (.any (.any (.any .nil))))))))), (.cons₂ _ (.cons₂ _ .slnil))⟩ (pg_name (i := 4) sc.nd rfl (Or.inl rfl)) (tg_name) (fun nxt530 brk531 first_529 s528 => (js_if (jt_niL (je_var (i := 4) (A := tI) (a := first_529) rfl) (je_ebL (je_e (je_cell (i := 2) (j := 0) (p := p525) (A := tI) (xs := s528.1) rfl rfl)))) (js_asg (i := 5) (je_var (i := 4) (A := tI) (a := first_529) rfl) (fun room_534 => (js_asg (i := 6) je_int (fun rounds_here_535 => (js_asg (i := 7) je_int (fun mark_536 => (js_forR (S := fun (s537 : Int × Int × Int × (List Int)) => ⟨[sv (tK (tK tI)) x0, .at p523, .at p525, sv tI size_527, sv tI first_529, sv tI s537.1, sv tI s537.2.1, sv tI s537.2.2.1, .any], [.lst p525 tI s537.2.2.2, .lst p523 (tT K (a3 tI tI (tT K (aV tI)))) s528.2]⟩) (s0 := (room_534, rounds_here_535, mark_536, s528.1)) (by rfl) T.m_range (je_var (i := 3) (A := tI) (a := size_527) rfl) ⟨(.same (.same (.same (.same (.same (.same (.same (.same (.any .nil))))))))), (.cons₂ _ (.cons₂ _ .slnil))⟩ (pg_name (i := 8) sc.nd rfl (Or.inl rfl)) (tg_name) (fun nxt539 brk540 k_538 s537 => (js_if (jt_niL (je_var (i := 5) (A := tI) (a := s537.1) rfl) (je_ebL (je_e (je_cell (i := 2) (j := 0) (p := p525) (A := tI) (xs := s537.2.2.2) rfl rfl)))) (js_app (i := 2) (j := 0) (pe_bm PySem.F.plainAttrs_list PySem.F.slot_list_append PySem.F.type_list_append mt_append (pv 2) (pa_cons (je_var (i := 5) (A := tI) (a := s537.1) rfl) pa_nil)) (fun y543 => (js_asg (i := 6) (je_add (je_var (i := 6) (A := tI) (a := s537.2.1) rfl) je_int) (fun rounds_here_544 => (js_asg (i := 7) (je_or2 (je_var (i := 7) (A := tI) (a := s537.2.2.1) rfl) (je_ixL (je_e (je_eK (je_ixL (je_e (je_eK (je_var (i := 0) (A := (tK (tK tI))) (a := x0) rfl))) je_int))) (je_var (i := 5) (A := tI) (a := s537.1) rfl))) (fun mark_547 => (js_asg (i := 5) (je_ixL (je_e (je_eK (je_ixL (je_e (je_eK (je_var (i := 0) (A := (tK (tK tI))) (a := x0) rfl))) je_int))) (je_var (i := 5) (A := tI) (a := s537.1) rfl)) (fun room_550 => (js_end (room_550, rounds_here_544, mark_547, (s537.2.2.2 ++ [y543])) ⟨(.same (.same (.same (.same (.same (.same (.same (.same (.any .nil))))))))), (.cons₂ _ (.cons₂ _ .slnil))⟩)) sc.nd)) sc.nd)) sc.nd)) rfl rfl) (js_end (s537.1, s537.2.1, s537.2.2.1, s537.2.2.2) ⟨(.same (.same (.same (.same (.same (.same (.same (.same (.any .nil))))))))), (.cons₂ _ (.cons₂ _ .slnil))⟩))) (fun s537 => (js_app (i := 1) (j := 1) (pe_bm PySem.F.plainAttrs_list PySem.F.slot_list_append PySem.F.type_list_append mt_append (pv 1) (pa_cons (je_tup3 (je_var (i := 4) (A := tI) (a := first_529) rfl) (je_var (i := 6) (A := tI) (a := s537.2.1) rfl) (je_tupleL (by rfl) T.m_tuple (je_e (je_eN (je_compF (own := [("_law_k", 8)]) (B := tI) (ji_R (by rfl) T.m_range (je_var (i := 3) (A := tI) (a := size_527) rfl)) sc.nd (blkOk_by (N := ["_law_table", "_law_rings_here", "_law_done", "_law_size", "_law_first", "_law_room", "_law_rounds_here", "_law_mark", "_law_k"]) (sc := defScope s_law_rings) (by decide +kernel)) (tgw_name) (fun _ _ _ _ _ => (pg_name (i := 8) sc.nd rfl (Or.inl rfl))) (fun D552 acc553 k_554 _ _ _ _ _ => (jt_eqI (je_and2 (je_shr (je_var (i := 7) (A := tI) (a := s537.2.2.1) rfl) (je_var (i := 8) (A := tI) (a := k_554) rfl)) je_int) je_int)) (fun D552 acc553 k_554 _ _ _ _ _ => (je_var (i := 8) (A := tI) (a := k_554) rfl))))))) pa_nil)) (fun y559 => (js_end (s537.2.2.2, (s528.2 ++ [y559])) ⟨(.same (.same (.same (.same (.any (.any (.any (.any (.any .nil))))))))), (.cons₂ _ (.cons₂ _ .slnil))⟩)) rfl rfl)) PassesOwn.never)) sc.nd)) sc.nd)) sc.nd) (js_end (s528.1, s528.2) ⟨(.same (.same (.same (.same (.any (.any (.any (.any (.any .nil))))))))), (.cons₂ _ (.cons₂ _ .slnil))⟩))) (fun s528 => (js_retC (i := 1) (j := 1) hrt rfl rfl)) PassesOwn.never)) sc.nd)))))), ⟨Le.refl _, ⟨Same.refl _, (Par.cons ⟨v0, rfl, J.fr_in r0⟩ (Par.cons trivial (Par.cons trivial (Par.cons trivial (Par.cons trivial (Par.cons trivial (Par.cons trivial (Par.cons trivial (Par.cons trivial Par.nil))))))))), List.nodup_nil, fun c hc => by cases hc⟩, hw⟩⟩
theorem ok_law_rounds (T : Txt K mg) : FnOk Pg w K mg base CX0 2 T.a_law_rounds T.d_law_rounds ["_law_table"] (spJ (aC (tK (tK tI)) aN) (rO (tT K (aV tI))) fun t => w_law_rounds t.1) := by
  refine T.F_law_rounds.ok sc_law_rounds (fun vs H Q E h => ?_) (fun cdv A outer s H vs Q E hr h => ?_)
  · obtain ⟨t, P, F, rfl, ⟨v0, _, rfl, r0, e0⟩, _⟩ := h
    have e1 := (e0 : _ = [])
    subst e1
    rfl
  · obtain ⟨⟨x0, _⟩, P, F, rfl, ⟨v0, _, rfl, r0, e0⟩, hw, hrt⟩ := h
    have e1 := (e0 : _ = [])
    subst e1
    have sc := sc_law_rounds
    exact ⟨_, (show JSs _ F ⟨[sv (tK (tK tI)) x0, .any], []⟩ _ ⟨fun _ H' => Q .non H', Q, fun _ _ => False, fun _ _ => False⟩ _ from
      (js_ret hrt (je_tupleL (by rfl) T.m_tuple (je_e (je_eN (je_sorted (by rfl) T.m_sorted (je_ebL (je_e (je_eN (je_comp (own := [("_law_ring", 1)]) (B := tI) (ji_L (je_new (je_call (ok_law_rings T) (hr.mono (by decide)) (by rfl) T.g_law_rings T.F_law_rings.kp T.b_law_rings (ja_cons (je_var (i := 0) (A := (tK (tK tI))) (a := x0) rfl) ja_nil)))) sc.nd (blkOk_by (N := ["_law_table", "_law_ring"]) (sc := defScope s_law_rounds) (by decide +kernel)) (tgw_name) (fun _ _ _ _ _ => (pg_name (i := 1) sc.nd rfl (Or.inl rfl))) (fun D561 acc562 ring_563 _ _ _ _ _ => (je_3b (je_var (i := 1) (A := (tT K (a3 tI tI (tT K (aV tI))))) (a := ring_563) rfl))))))))))))), ⟨Le.refl _, ⟨Same.refl _, (Par.cons ⟨v0, rfl, J.fr_in r0⟩ (Par.cons trivial Par.nil)), List.nodup_nil, fun c hc => by cases hc⟩, hw⟩⟩
theorem ok_law_sides (T : Txt K mg) : FnOk Pg w K mg base CX0 1 T.a_law_sides T.d_law_sides ["_law_right", "_law_above"] (spJ (aC (tK tI) (aC (tK tI) aN)) (rN (tK (tK tI))) fun t => w_law_sides t.1 t.2.1) := by
  refine T.F_law_sides.ok sc_law_sides (fun vs H Q E h => ?_) (fun cdv A outer s H vs Q E hr h => ?_)
  · obtain ⟨t, P, F, rfl, ⟨v0, _, rfl, r0, v1, _, rfl, r1, e0⟩, _⟩ := h
    have e1 := (e0 : _ = [])
    subst e1
    rfl
  · obtain ⟨⟨x0, x1, _⟩, P, F, rfl, ⟨v0, _, rfl, r0, v1, _, rfl, r1, e0⟩, hw, hrt⟩ := h
    have e1 := (e0 : _ = [])
    subst e1
    have sc := sc_law_sides
    exact ⟨_, (show JSs _ F ⟨[sv (tK tI) x0, sv (tK tI) x1, .any, .any], []⟩ _ ⟨fun _ H' => Q .non H', Q, fun _ _ => False, fun _ _ => False⟩ _ from
      (js_stF (i := 2) (ps_lc (i := 2) (own := [("_law_room", 3)]) (B := tI) (ji_R (by rfl) T.m_range (je_lenL (by rfl) T.m_len (je_ebL (je_e (je_eK (je_var (i := 0) (A := (tK tI)) (a := x0) rfl)))))) sc.nd (blkOk_by (N := ["_law_right", "_law_above", "_law_marks", "_law_room"]) (sc := defScope s_law_sides) (by decide +kernel)) (tgw_name) (fun _ _ _ _ _ => (pg_name (i := 3) sc.nd rfl (Or.inl rfl))) (fun D574 acc575 room_576 _ _ _ _ _ => (je_shl je_int (je_var (i := 3) (A := tI) (a := room_576) rfl))) (sw_true rfl rfl rfl (by decide +kernel))) (fun marks_579 => (js_ret hrt (je_lst (ja_consV (je_new (je_lst (ja_consV (je_new (je_listL (by rfl) T.m_list (je_e (je_eK (je_var (i := 0) (A := (tK tI)) (a := x0) rfl))))) (ja_consV (je_new (je_listL (by rfl) T.m_list (je_e (je_eK (je_var (i := 2) (A := (tK tI)) (a := marks_579) rfl))))) (ja_nilV (A := (tK tI))))))) (ja_consV (je_new (je_lst (ja_consV (je_new (je_listL (by rfl) T.m_list (je_e (je_eK (je_var (i := 1) (A := (tK tI)) (a := x1) rfl))))) (ja_consV (je_new (je_listL (by rfl) T.m_list (je_e (je_eK (je_var (i := 2) (A := (tK tI)) (a := marks_579) rfl))))) (ja_nilV (A := (tK tI))))))) (ja_nilV (A := (tK (tK tI))))))))))), ⟨Le.refl _, ⟨Same.refl _, (Par.cons ⟨v0, rfl, J.fr_in r0⟩ (Par.cons ⟨v1, rfl, J.fr_in r1⟩ (Par.cons trivial (Par.cons trivial Par.nil)))), List.nodup_nil, fun c hc => by cases hc⟩, hw⟩⟩
theorem ok_law_join (T : Txt K mg) : FnOk Pg w K mg base CX0 1 T.a_law_join T.d_law_join ["_law_one", "_law_two"] (spJ (aC (tK (tK tI)) (aC (tK (tK tI)) aN)) (rN (tK tI)) fun t => w_law_join t.1 t.2.1) := by
  refine T.F_law_join.ok sc_law_join (fun vs H Q E h => ?_) (fun cdv A outer s H vs Q E hr h => ?_)
  · obtain ⟨t, P, F, rfl, ⟨v0, _, rfl, r0, v1, _, rfl, r1, e0⟩, _⟩ := h
    have e1 := (e0 : _ = [])
    subst e1
    rfl
  · obtain ⟨⟨x0, x1, _⟩, P, F, rfl, ⟨v0, _, rfl, r0, v1, _, rfl, r1, e0⟩, hw, hrt⟩ := h
    have e1 := (e0 : _ = [])
    subst e1
    have sc := sc_law_join
    exact ⟨_, (show JSs _ F ⟨[sv (tK (tK tI)) x0, sv (tK (tK tI)) x1, .any, .any, .any, .any], []⟩ _ ⟨fun _ H' => Q .non H', Q, fun _ _ => False, fun _ _ => False⟩ _ from
      (js_stF (i := 2) (ps_lc (i := 2) (own := [("_law_room", 4)]) (B := tI) (ji_L (je_ixL (je_e (je_eK (je_var (i := 0) (A := (tK (tK tI))) (a := x0) rfl))) je_int)) sc.nd (blkOk_by (N := ["_law_one", "_law_two", "_law_ends", "_law_marks", "_law_room", "_law_k"]) (sc := defScope s_law_join) (by decide +kernel)) (tgw_name) (fun _ _ _ _ _ => (pg_name (i := 4) sc.nd rfl (Or.inl rfl))) (fun D594 acc595 room_596 _ _ _ _ _ => (je_ixL (je_e (je_eK (je_ixL (je_e (je_eK (je_var (i := 1) (A := (tK (tK tI))) (a := x1) rfl))) je_int))) (je_var (i := 4) (A := tI) (a := room_596) rfl))) (sw_true rfl rfl rfl (by decide +kernel))) (fun ends_601 => (js_stF (i := 3) (ps_lc (i := 3) (own := [("_law_k", 5)]) (B := tI) (ji_R (by rfl) T.m_range (je_lenL (by rfl) T.m_len (je_ebL (je_e (je_eK (je_var (i := 2) (A := (tK tI)) (a := ends_601) rfl)))))) sc.nd (blkOk_by (N := ["_law_one", "_law_two", "_law_ends", "_law_marks", "_law_room", "_law_k"]) (sc := defScope s_law_join) (by decide +kernel)) (tgw_name) (fun _ _ _ _ _ => (pg_name (i := 5) sc.nd rfl (Or.inl rfl))) (fun D602 acc603 k_604 _ _ _ _ _ => (je_or2 (je_ixL (je_e (je_eK (je_ixL (je_e (je_eK (je_var (i := 0) (A := (tK (tK tI))) (a := x0) rfl))) je_int))) (je_var (i := 5) (A := tI) (a := k_604) rfl)) (je_ixL (je_e (je_eK (je_ixL (je_e (je_eK (je_var (i := 1) (A := (tK (tK tI))) (a := x1) rfl))) je_int))) (je_ixL (je_e (je_eK (je_ixL (je_e (je_eK (je_var (i := 0) (A := (tK (tK tI))) (a := x0) rfl))) je_int))) (je_var (i := 5) (A := tI) (a := k_604) rfl))))) (sw_true rfl rfl rfl (by decide +kernel))) (fun marks_613 => (js_ret hrt (je_lst (ja_consV (je_var (i := 2) (A := (tK tI)) (a := ends_601) rfl) (ja_consV (je_var (i := 3) (A := (tK tI)) (a := marks_613) rfl) (ja_nilV (A := (tK tI)))))))))))), ⟨Le.refl _, ⟨Same.refl _, (Par.cons ⟨v0, rfl, J.fr_in r0⟩ (Par.cons ⟨v1, rfl, J.fr_in r1⟩ (Par.cons trivial (Par.cons trivial (Par.cons trivial (Par.cons trivial Par.nil)))))), List.nodup_nil, fun c hc => by cases hc⟩, hw⟩⟩
theorem ok_law_power (T : Txt K mg) : FnOk Pg w K mg base CX0 2 T.a_law_power T.d_law_power ["_law_table", "_law_count"] (spJ (aC (tK (tK tI)) (aC tI aN)) (rO (tK (tK tI))) fun t => w_law_power t.1 t.2.1) := by
  refine T.F_law_power.ok sc_law_power (fun vs H Q E h => ?_) (fun cdv A outer s H vs Q E hr h => ?_)
  · obtain ⟨t, P, F, rfl, ⟨v0, _, rfl, r0, v1, _, rfl, r1, e0⟩, _⟩ := h
    have e1 := (e0 : _ = [])
    subst e1
    rfl
  · obtain ⟨⟨x0, x1, _⟩, P, F, rfl, ⟨v0, _, rfl, r0, v1, _, rfl, r1, e0⟩, hw, hrt⟩ := h
    have e1 := (e0 : _ = [])
    subst e1
    have sc := sc_law_power
    exact ⟨_, (show JSs _ F ⟨[sv (tK (tK tI)) x0, sv tI x1, .any, .any], []⟩ _ ⟨fun _ H' => Q .non H', Q, fun _ _ => False, fun _ _ => False⟩ _ from
      (js_stF (i := 2) (ps_set (i := 2) sc.nd rfl (by first | exact Or.inl rfl | exact Or.inr rfl) (je_lst (ja_consV (je_new (je_listR (by rfl) T.m_list (by rfl) T.m_range (je_lenL (by rfl) T.m_len (je_ebL (je_e (je_eK (je_ixL (je_e (je_eK (je_var (i := 0) (A := (tK (tK tI))) (a := x0) rfl))) je_int))))))) (ja_consV (je_new (je_comp (own := [("_law_room", 3)]) (B := tI) (ji_L (je_ixL (je_e (je_eK (je_var (i := 0) (A := (tK (tK tI))) (a := x0) rfl))) je_int)) sc.nd (blkOk_by (N := ["_law_table", "_law_count", "_law_result", "_law_room"]) (sc := defScope s_law_power) (by decide +kernel)) (tgw_name) (fun _ _ _ _ _ => (pg_name (i := 3) sc.nd rfl (Or.inl rfl))) (fun D618 acc619 room_620 _ _ _ _ _ => je_int))) (ja_nilV (A := (tK tI)))))) rfl (by first | exact .inl rfl | exact .inr rfl)) (fun result_623 => (js_while (S := fun (s624 : (List (List Int)) × Int × (List (List Int))) => ⟨[sv (tK (tK tI)) s624.1, sv tI s624.2.1, sv (tK (tK tI)) s624.2.2, .any], []⟩) (s0 := (x0, x1, result_623)) ⟨(.same (.same (.same (.any .nil)))), .slnil⟩ (fun s624 => (jt_gt (je_var (i := 1) (A := tI) (a := s624.2.1) rfl) je_int)) (fun nxt625 brk626 s624 => (js_ifJ (S := fun (s628 : (List (List Int))) => ⟨[sv (tK (tK tI)) s624.1, sv tI s624.2.1, sv (tK (tK tI)) s628, .any], []⟩) (jt_eqI (je_modL (je_int1 (by rfl) T.m_int (je_var (i := 1) (A := tI) (a := s624.2.1) rfl))) je_int) (fun (J629 : (List (List Int)) → Prop) => (js_stF (i := 2) (ps_set (i := 2) sc.nd rfl (by first | exact Or.inl rfl | exact Or.inr rfl) (je_call (ok_law_join T) (hr.mono (by decide)) (by rfl) T.g_law_join T.F_law_join.kp T.b_law_join (ja_cons (je_var (i := 2) (A := (tK (tK tI))) (a := s624.2.2) rfl) (ja_cons (je_var (i := 0) (A := (tK (tK tI))) (a := s624.1) rfl) ja_nil))) rfl (by first | exact .inl rfl | exact .inr rfl)) (fun result_631 => (js_end result_631 ⟨(.same (.same (.same (.any .nil)))), .slnil⟩)))) (fun (J629 : (List (List Int)) → Prop) => (js_end s624.2.2 ⟨(.same (.same (.same (.any .nil)))), .slnil⟩)) (fun s628 => (js_stF (i := 0) (ps_set (i := 0) sc.nd rfl (by first | exact Or.inl rfl | exact Or.inr rfl) (je_call (ok_law_join T) (hr.mono (by decide)) (by rfl) T.g_law_join T.F_law_join.kp T.b_law_join (ja_cons (je_var (i := 0) (A := (tK (tK tI))) (a := s624.1) rfl) (ja_cons (je_var (i := 0) (A := (tK (tK tI))) (a := s624.1) rfl) ja_nil))) rfl (by first | exact .inl rfl | exact .inr rfl)) (fun table_634 => (js_asg (i := 1) (je_fdivL (je_var (i := 1) (A := tI) (a := s624.2.1) rfl)) (fun count_635 => (js_end (table_634, count_635, s628) ⟨(.same (.same (.same (.any .nil)))), .slnil⟩)) sc.nd)))))) (fun s624 => (js_ret hrt (je_var (i := 2) (A := (tK (tK tI))) (a := s624.2.2) rfl))) PassesOwn.never)))), ⟨Le.refl _, ⟨Same.refl _, (Par.cons ⟨v0, rfl, J.fr_in r0⟩ (Par.cons ⟨v1, rfl, J.fr_in r1⟩ (Par.cons trivial (Par.cons trivial Par.nil)))), List.nodup_nil, fun c hc => by cases hc⟩, hw⟩⟩
theorem ok_law_round (T : Txt K mg) : FnOk Pg w K mg base CX0 3 T.a_law_round T.d_law_round ["_law_right", "_law_above", "_law_p", "_law_q"] (spJ (aC (tK tI) (aC (tK tI) (aC tI (aC tI aN)))) (rO (tK (tK tI))) fun t => w_law_round t.1 t.2.1 t.2.2.1 t.2.2.2.1) := by
  refine T.F_law_round.ok sc_law_round (fun vs H Q E h => ?_) (fun cdv A outer s H vs Q E hr h => ?_)
  · obtain ⟨t, P, F, rfl, ⟨v0, _, rfl, r0, v1, _, rfl, r1, v2, _, rfl, r2, v3, _, rfl, r3, e0⟩, _⟩ := h
    have e1 := (e0 : _ = [])
    subst e1
    rfl
  · obtain ⟨⟨x0, x1, x2, x3, _⟩, P, F, rfl, ⟨v0, _, rfl, r0, v1, _, rfl, r1, v2, _, rfl, r2, v3, _, rfl, r3, e0⟩, hw, hrt⟩ := h
    have e1 := (e0 : _ = [])
    subst e1
    have sc := sc_law_round
    exact ⟨_, (show JSs _ F ⟨[sv (tK tI) x0, sv (tK tI) x1, sv tI x2, sv tI x3, .any, .any, .any], []⟩ _ ⟨fun _ H' => Q .non H', Q, fun _ _ => False, fun _ _ => False⟩ _ from
      (js_asgL2 (i := 4) (j := 5) (je_new (je_call (ok_law_sides T) (hr.mono (by decide)) (by rfl) T.g_law_sides T.F_law_sides.kp T.b_law_sides (ja_cons (je_var (i := 0) (A := (tK tI)) (a := x0) rfl) (ja_cons (je_var (i := 1) (A := (tK tI)) (a := x1) rfl) ja_nil)))) (pgs_cons (pg_name (i := 4) sc.nd rfl (Or.inl rfl)) (pgs_cons (pg_name (i := 5) sc.nd rfl (Or.inl rfl)) pgs_nil)) (fun first_581 second_here_582 => (js_ifX (jt_eqI (je_var (i := 3) (A := tI) (a := x3) rfl) je_int) (js_ret hrt (je_var (i := 4) (A := (tK (tK tI))) (a := first_581) rfl)) (js_ifX (jt_eqI (je_var (i := 2) (A := tI) (a := x2) rfl) je_int) (js_ret hrt (je_var (i := 5) (A := (tK (tK tI))) (a := second_here_582) rfl)) (js_while (S := fun (s585 : Int × Int × (List (List Int)) × (List (List Int))) => ⟨[sv (tK tI) x0, sv (tK tI) x1, sv tI s585.1, sv tI s585.2.1, sv (tK (tK tI)) s585.2.2.1, sv (tK (tK tI)) s585.2.2.2, .any], []⟩) (s0 := (x2, x3, first_581, second_here_582)) ⟨(.same (.same (.same (.same (.same (.same (.any .nil))))))), .slnil⟩ (fun s585 => (jt_neI (je_var (i := 2) (A := tI) (a := s585.1) rfl) (je_var (i := 3) (A := tI) (a := s585.2.1) rfl))) (fun nxt586 brk587 s585 => (js_if (jt_gt (je_var (i := 2) (A := tI) (a := s585.1) rfl) (je_var (i := 3) (A := tI) (a := s585.2.1) rfl)) (js_asg (i := 6) (je_fdiv (je_sub (je_var (i := 2) (A := tI) (a := s585.1) rfl) je_int) (je_var (i := 3) (A := tI) (a := s585.2.1) rfl)) (fun count_590 => (js_stF (i := 5) (ps_set (i := 5) sc.nd rfl (by first | exact Or.inl rfl | exact Or.inr rfl) (je_call (ok_law_join T) (hr.mono (by decide)) (by rfl) T.g_law_join T.F_law_join.kp T.b_law_join (ja_cons (je_call (ok_law_power T) (hr.mono (by decide)) (by rfl) T.g_law_power T.F_law_power.kp T.b_law_power (ja_cons (je_var (i := 4) (A := (tK (tK tI))) (a := s585.2.2.1) rfl) (ja_cons (je_var (i := 6) (A := tI) (a := count_590) rfl) ja_nil))) (ja_cons (je_var (i := 5) (A := (tK (tK tI))) (a := s585.2.2.2) rfl) ja_nil))) rfl (by first | exact .inl rfl | exact .inr rfl)) (fun second_here_639 => (js_asg (i := 2) (je_sub (je_var (i := 2) (A := tI) (a := s585.1) rfl) (je_mul (je_var (i := 6) (A := tI) (a := count_590) rfl) (je_var (i := 3) (A := tI) (a := s585.2.1) rfl))) (fun p_640 => (js_end (p_640, s585.2.1, s585.2.2.1, second_here_639) ⟨(.same (.same (.same (.same (.same (.same (.any .nil))))))), .slnil⟩)) sc.nd)))) sc.nd) (js_asg (i := 6) (je_fdiv (je_sub (je_var (i := 3) (A := tI) (a := s585.2.1) rfl) je_int) (je_var (i := 2) (A := tI) (a := s585.1) rfl)) (fun count_644 => (js_stF (i := 4) (ps_set (i := 4) sc.nd rfl (by first | exact Or.inl rfl | exact Or.inr rfl) (je_call (ok_law_join T) (hr.mono (by decide)) (by rfl) T.g_law_join T.F_law_join.kp T.b_law_join (ja_cons (je_var (i := 4) (A := (tK (tK tI))) (a := s585.2.2.1) rfl) (ja_cons (je_call (ok_law_power T) (hr.mono (by decide)) (by rfl) T.g_law_power T.F_law_power.kp T.b_law_power (ja_cons (je_var (i := 5) (A := (tK (tK tI))) (a := s585.2.2.2) rfl) (ja_cons (je_var (i := 6) (A := tI) (a := count_644) rfl) ja_nil))) ja_nil))) rfl (by first | exact .inl rfl | exact .inr rfl)) (fun first_645 => (js_asg (i := 3) (je_sub (je_var (i := 3) (A := tI) (a := s585.2.1) rfl) (je_mul (je_var (i := 6) (A := tI) (a := count_644) rfl) (je_var (i := 2) (A := tI) (a := s585.1) rfl))) (fun q_646 => (js_end (s585.1, q_646, first_645, s585.2.2.2) ⟨(.same (.same (.same (.same (.same (.same (.any .nil))))))), .slnil⟩)) sc.nd)))) sc.nd))) (fun s585 => (js_ret hrt (je_new (je_call (ok_law_join T) (hr.mono (by decide)) (by rfl) T.g_law_join T.F_law_join.kp T.b_law_join (ja_cons (je_var (i := 4) (A := (tK (tK tI))) (a := s585.2.2.1) rfl) (ja_cons (je_var (i := 5) (A := (tK (tK tI))) (a := s585.2.2.2) rfl) ja_nil)))))) PassesOwn.never)))))), ⟨Le.refl _, ⟨Same.refl _, (Par.cons ⟨v0, rfl, J.fr_in r0⟩ (Par.cons ⟨v1, rfl, J.fr_in r1⟩ (Par.cons ⟨v2, rfl, J.fr_in r2⟩ (Par.cons ⟨v3, rfl, J.fr_in r3⟩ (Par.cons trivial (Par.cons trivial (Par.cons trivial Par.nil))))))), List.nodup_nil, fun c hc => by cases hc⟩, hw⟩⟩
theorem ok_law_two_rounds (T : Txt K mg) : FnOk Pg w K mg base CX0 4 T.a_law_two_rounds T.d_law_two_rounds ["_law_one", "_law_two", "_law_pair"] (spJ (aC (tK (tK tI)) (aC (tK (tK tI)) (aC (tT K (a2 tI tI)) aN))) (rO (tT K (a2 (tT K (aV tI)) (tT K (aV tI))))) fun t => w_law_two_rounds t.1 t.2.1 t.2.2.1) := by
  refine T.F_law_two_rounds.ok sc_law_two_rounds (fun vs H Q E h => ?_) (fun cdv A outer s H vs Q E hr h => ?_)
  · obtain ⟨t, P, F, rfl, ⟨v0, _, rfl, r0, v1, _, rfl, r1, v2, _, rfl, r2, e0⟩, _⟩ := h
    have e1 := (e0 : _ = [])
    subst e1
    rfl
  · obtain ⟨⟨x0, x1, x2, _⟩, P, F, rfl, ⟨v0, _, rfl, r0, v1, _, rfl, r1, v2, _, rfl, r2, e0⟩, hw, hrt⟩ := h
    have e1 := (e0 : _ = [])
    subst e1
    have sc := sc_law_two_rounds
    exact ⟨_, (show JSs _ F ⟨[sv (tK (tK tI)) x0, sv (tK (tK tI)) x1, sv (tT K (a2 tI tI)) x2], []⟩ _ ⟨fun _ H' => Q .non H', Q, fun _ _ => False, fun _ _ => False⟩ _ from
      (js_ret hrt (je_tup2 (je_call (ok_law_rounds T) (hr.mono (by decide)) (by rfl) T.g_law_rounds T.F_law_rounds.kp T.b_law_rounds (ja_cons (je_call (ok_law_round T) (hr.mono (by decide)) (by rfl) T.g_law_round T.F_law_round.kp T.b_law_round (ja_cons (je_ixL (je_e (je_eK (je_var (i := 0) (A := (tK (tK tI))) (a := x0) rfl))) je_int) (ja_cons (je_ixL (je_e (je_eK (je_var (i := 0) (A := (tK (tK tI))) (a := x0) rfl))) je_int) (ja_cons (je_2a (je_var (i := 2) (A := (tT K (a2 tI tI))) (a := x2) rfl)) (ja_cons (je_2b (je_var (i := 2) (A := (tT K (a2 tI tI))) (a := x2) rfl)) ja_nil))))) ja_nil)) (je_call (ok_law_rounds T) (hr.mono (by decide)) (by rfl) T.g_law_rounds T.F_law_rounds.kp T.b_law_rounds (ja_cons (je_call (ok_law_round T) (hr.mono (by decide)) (by rfl) T.g_law_round T.F_law_round.kp T.b_law_round (ja_cons (je_ixL (je_e (je_eK (je_var (i := 1) (A := (tK (tK tI))) (a := x1) rfl))) je_int) (ja_cons (je_ixL (je_e (je_eK (je_var (i := 1) (A := (tK (tK tI))) (a := x1) rfl))) je_int) (ja_cons (je_2a (je_var (i := 2) (A := (tT K (a2 tI tI))) (a := x2) rfl)) (ja_cons (je_2b (je_var (i := 2) (A := (tT K (a2 tI tI))) (a := x2) rfl)) ja_nil))))) ja_nil))))), ⟨Le.refl _, ⟨Same.refl _, (Par.cons ⟨v0, rfl, J.fr_in r0⟩ (Par.cons ⟨v1, rfl, J.fr_in r1⟩ (Par.cons ⟨v2, rfl, J.fr_in r2⟩ Par.nil))), List.nodup_nil, fun c hc => by cases hc⟩, hw⟩⟩
theorem ok_Comparison_certificate (T : Txt K mg) : FnOk Pg w K mg base CX0 2 T.a_Comparison_certificate T.d_Comparison_certificate ["self"] (spJ (aC (tC T.a_Comparison ["_certificate", "_direction", "_lists"] (a3 (tO (tK (tT K (a4 (tT K (a2 (tT K (aV tI)) (tT K (aV tI)))) (tT K (a2 (tT K (aV tI)) (tT K (aV tI)))) tI tI)))) (tO (tT K (a2 tI tI))) (tO (tT K (a2 (tT K (aV tI)) (tT K (aV tI))))))) aN) (rO (tO (tK (tT K (a4 (tT K (a2 (tT K (aV tI)) (tT K (aV tI)))) (tT K (a2 (tT K (aV tI)) (tT K (aV tI)))) tI tI))))) fun t => w_Comparison_certificate t.1) := by
  refine T.F_Comparison_certificate.ok sc_Comparison_certificate (fun vs H Q E h => ?_) (fun cdv A outer s H vs Q E hr h => ?_)
  · obtain ⟨t, P, F, rfl, ⟨v0, _, rfl, r0, e0⟩, _⟩ := h
    have e1 := (e0 : _ = [])
    subst e1
    rfl
  · obtain ⟨⟨x0, _⟩, P, F, rfl, ⟨v0, _, rfl, r0, e0⟩, hw, hrt⟩ := h
    have e1 := (e0 : _ = [])
    subst e1
    have sc := sc_Comparison_certificate
    exact ⟨_, (show JSs _ F ⟨[sv (tC T.a_Comparison ["_certificate", "_direction", "_lists"] (a3 (tO (tK (tT K (a4 (tT K (a2 (tT K (aV tI)) (tT K (aV tI)))) (tT K (a2 (tT K (aV tI)) (tT K (aV tI)))) tI tI)))) (tO (tT K (a2 tI tI))) (tO (tT K (a2 (tT K (aV tI)) (tT K (aV tI))))))) x0], []⟩ _ ⟨fun _ H' => Q .non H', Q, fun _ _ => False, fun _ _ => False⟩ _ from
      (js_ret hrt (je_call (ok_copied_r T) (hr.mono (by decide)) (by rfl) T.g_copied T.F_copied.kp T.b_copied (ja_cons (je_fld (A := (tO (tK (tT K (a4 (tT K (a2 (tT K (aV tI)) (tT K (aV tI)))) (tT K (a2 (tT K (aV tI)) (tT K (aV tI)))) tI tI))))) (h := fun (t : ((Option (List (((List Int) × (List Int)) × ((List Int) × (List Int)) × Int × Int))) × (Option (Int × Int)) × (Option ((List Int) × (List Int))))) => t.1) (je_var (i := 0) (A := (tC T.a_Comparison ["_certificate", "_direction", "_lists"] (a3 (tO (tK (tT K (a4 (tT K (a2 (tT K (aV tI)) (tT K (aV tI)))) (tT K (a2 (tT K (aV tI)) (tT K (aV tI)))) tI tI)))) (tO (tT K (a2 tI tI))) (tO (tT K (a2 (tT K (aV tI)) (tT K (aV tI)))))))) (a := x0) rfl) T.cl_Comparison T.nf_Comparison__certificate (fun _ _ _ ⟨y0, y1, y2, e0, h0, h1, h2⟩ => ⟨y0, by rw [e0]; rfl, h0⟩)) ja_nil)))), ⟨Le.refl _, ⟨Same.refl _, (Par.cons ⟨v0, rfl, J.fr_in r0⟩ Par.nil), List.nodup_nil, fun c hc => by cases hc⟩, hw⟩⟩
theorem ok_law_is_number (T : Txt K mg) : FnOk Pg w K mg base CX0 1 T.a_law_is_number T.d_law_is_number ["_law_value"] (spJ (aC tI aN) (rO tB) fun t => w_law_is_number t.1) := by
  refine T.F_law_is_number.ok sc_law_is_number (fun vs H Q E h => ?_) (fun cdv A outer s H vs Q E hr h => ?_)
  · obtain ⟨t, P, F, rfl, ⟨v0, _, rfl, r0, e0⟩, _⟩ := h
    have e1 := (e0 : _ = [])
    subst e1
    rfl
  · obtain ⟨⟨x0, _⟩, P, F, rfl, ⟨v0, _, rfl, r0, e0⟩, hw, hrt⟩ := h
    have e1 := (e0 : _ = [])
    subst e1
    have sc := sc_law_is_number
    exact ⟨_, (show JSs _ F ⟨[sv tI x0], []⟩ _ ⟨fun _ H' => Q .non H', Q, fun _ _ => False, fun _ _ => False⟩ _ from
      (js_ret hrt (je_and (je_isi (T := "int") (t := "int") (b := true) (by rfl) T.m_isinstance tyI (by decide +kernel) (je_b (je_var (i := 0) (A := tI) (a := x0) rfl)) (pe_bltn (by rfl) T.m_int (by decide +kernel) rfl)) (je_one (je_not (je_isi (T := "bool") (t := "int") (b := false) (by rfl) T.m_isinstance tyI (by decide +kernel) (je_b (je_var (i := 0) (A := tI) (a := x0) rfl)) (pe_bltn (by rfl) T.m_bool (by decide +kernel) rfl))))))), ⟨Le.refl _, ⟨Same.refl _, (Par.cons ⟨v0, rfl, J.fr_in r0⟩ Par.nil), List.nodup_nil, fun c hc => by cases hc⟩, hw⟩⟩
theorem ok_law_is_direction (T : Txt K mg) : FnOk Pg w K mg base CX0 2 T.a_law_is_direction T.d_law_is_direction ["_law_found"] (spJ (aC (tT K (a2 tI tI)) aN) (rO tB) fun t => w_law_is_direction t.1) := by
  refine T.F_law_is_direction.ok sc_law_is_direction (fun vs H Q E h => ?_) (fun cdv A outer s H vs Q E hr h => ?_)
  · obtain ⟨t, P, F, rfl, ⟨v0, _, rfl, r0, e0⟩, _⟩ := h
    have e1 := (e0 : _ = [])
    subst e1
    rfl
  · obtain ⟨⟨x0, _⟩, P, F, rfl, ⟨v0, _, rfl, r0, e0⟩, hw, hrt⟩ := h
    have e1 := (e0 : _ = [])
    subst e1
    have sc := sc_law_is_direction
    exact ⟨_, (show JSs _ F ⟨[sv (tT K (a2 tI tI)) x0, .any, .any, .any], []⟩ _ ⟨fun _ H' => Q .non H', Q, fun _ _ => False, fun _ _ => False⟩ _ from
      (js_ifX (jt_w (jw_or (jt_not (jt_val (je_isi (T := "tuple") (t := "tuple") (b := true) (by rfl) T.m_isinstance tyT (by decide +kernel) (je_b (je_var (i := 0) (A := (tT K (a2 tI tI))) (a := x0) rfl)) (pe_bltn (by rfl) T.m_tuple (by decide +kernel) rfl)))) (jw_oneO (jt_neI (je_lenT (by rfl) T.m_len (je_var (i := 0) (A := (tT K (a2 tI tI))) (a := x0) rfl) len_a2) je_int)))) (js_ret hrt je_bl) (js_forT (A := tI) (S := fun v669 xs670 => fun (s671 : Unit) => ⟨[sv (tT K (a2 tI tI)) x0, .any, .any, .any], [.fix (tT K (aV tI)) v669 xs670]⟩) (s0 := ()) (j := 0) (je_2V (je_var (i := 0) (A := (tT K (a2 tI tI))) (a := x0) rfl)) (fun v669 xs670 => ⟨(.same (.any (.any (.any .nil)))), (.cons₂ _ .slnil)⟩) (fun v669 xs670 _ => rfl) (pg_name (i := 1) sc.nd rfl (Or.inl rfl)) (tg_name) (fun v669 xs670 nxt673 brk674 number_672 s671 => (js_if (jt_w (jw_or (jt_not (jt_val (je_call (ok_law_is_number T) (hr.mono (by decide)) (by rfl) T.g_law_is_number T.F_law_is_number.kp T.b_law_is_number (ja_cons (je_var (i := 1) (A := tI) (a := number_672) rfl) ja_nil)))) (jw_oneO (jt_lt (je_var (i := 1) (A := tI) (a := number_672) rfl) je_int)))) (js_ret hrt je_bl) (js_end () ⟨(.same (.any (.any (.any .nil)))), (.cons₂ _ .slnil)⟩))) (fun v669 xs670 s671 => (js_asg (i := 2) (je_2a (je_var (i := 0) (A := (tT K (a2 tI tI))) (a := x0) rfl)) (fun common_680 => (js_asg (i := 3) (je_2b (je_var (i := 0) (A := (tT K (a2 tI tI))) (a := x0) rfl)) (fun rest_681 => (js_while (S := fun (s682 : Int × Int) => ⟨[sv (tT K (a2 tI tI)) x0, .any, sv tI s682.1, sv tI s682.2], [.fix (tT K (aV tI)) v669 xs670]⟩) (s0 := (common_680, rest_681)) ⟨(.same (.any (.same (.same .nil)))), (.cons₂ _ .slnil)⟩ (fun s682 => (jt_gt (je_var (i := 3) (A := tI) (a := s682.2) rfl) je_int)) (fun nxt683 brk684 s682 => (js_par (i := 2) (j := 3) (je_var (i := 3) (A := tI) (a := s682.2) rfl) (je_mod (je_int1 (by rfl) T.m_int (je_var (i := 2) (A := tI) (a := s682.1) rfl)) (je_var (i := 3) (A := tI) (a := s682.2) rfl)) (fun common_686 rest_687 => (js_end (common_686, rest_687) ⟨(.same (.any (.same (.same .nil)))), (.cons₂ _ .slnil)⟩)) sc.nd)) (fun s682 => (js_ret hrt (je_eqI (je_var (i := 2) (A := tI) (a := s682.1) rfl) je_int))) PassesOwn.never)) sc.nd)) sc.nd)) PassesOwn.never))), ⟨Le.refl _, ⟨Same.refl _, (Par.cons ⟨v0, rfl, J.fr_in r0⟩ (Par.cons trivial (Par.cons trivial (Par.cons trivial Par.nil)))), List.nodup_nil, fun c hc => by cases hc⟩, hw⟩⟩
theorem ok_law_is_row (T : Txt K mg) : FnOk Pg w K mg base CX0 2 T.a_law_is_row T.d_law_is_row ["_law_actual", "_law_expected"] (spJ (aC (tT K (aV tI)) (aC (tT K (aV tI)) aN)) (rO tB) fun t => w_law_is_row t.1 t.2.1) := by
  refine T.F_law_is_row.ok sc_law_is_row (fun vs H Q E h => ?_) (fun cdv A outer s H vs Q E hr h => ?_)
  · obtain ⟨t, P, F, rfl, ⟨v0, _, rfl, r0, v1, _, rfl, r1, e0⟩, _⟩ := h
    have e1 := (e0 : _ = [])
    subst e1
    rfl
  · obtain ⟨⟨x0, x1, _⟩, P, F, rfl, ⟨v0, _, rfl, r0, v1, _, rfl, r1, e0⟩, hw, hrt⟩ := h
    have e1 := (e0 : _ = [])
    subst e1
    have sc := sc_law_is_row
    exact ⟨_, (show JSs _ F ⟨[sv (tT K (aV tI)) x0, sv (tT K (aV tI)) x1, .any], []⟩ _ ⟨fun _ H' => Q .non H', Q, fun _ _ => False, fun _ _ => False⟩ _ from
      (js_ifX (jt_w (jw_or (jt_not (jt_val (je_isi (T := "tuple") (t := "tuple") (b := true) (by rfl) T.m_isinstance tyT (by decide +kernel) (je_b (je_var (i := 0) (A := (tT K (aV tI))) (a := x0) rfl)) (pe_bltn (by rfl) T.m_tuple (by decide +kernel) rfl)))) (jw_oneO (jt_neI (je_lenT (by rfl) T.m_len (je_var (i := 0) (A := (tT K (aV tI))) (a := x0) rfl) len_aV) (je_lenT (by rfl) T.m_len (je_var (i := 1) (A := (tT K (aV tI))) (a := x1) rfl) len_aV))))) (js_ret hrt je_bl) (js_forR (S := fun (s700 : Unit) => ⟨[sv (tT K (aV tI)) x0, sv (tT K (aV tI)) x1, .any], []⟩) (s0 := ()) (by rfl) T.m_range (je_lenT (by rfl) T.m_len (je_var (i := 1) (A := (tT K (aV tI))) (a := x1) rfl) len_aV) ⟨(.same (.same (.any .nil))), .slnil⟩ (pg_name (i := 2) sc.nd rfl (Or.inl rfl)) (tg_name) (fun nxt702 brk703 k_701 s700 => (js_if (jt_w (jw_or (jt_not (jt_val (je_call (ok_law_is_number T) (hr.mono (by decide)) (by rfl) T.g_law_is_number T.F_law_is_number.kp T.b_law_is_number (ja_cons (je_ixV (je_var (i := 0) (A := (tT K (aV tI))) (a := x0) rfl) (je_var (i := 2) (A := tI) (a := k_701) rfl)) ja_nil)))) (jw_oneO (jt_neI (je_ixV (je_var (i := 0) (A := (tT K (aV tI))) (a := x0) rfl) (je_var (i := 2) (A := tI) (a := k_701) rfl)) (je_ixV (je_var (i := 1) (A := (tT K (aV tI))) (a := x1) rfl) (je_var (i := 2) (A := tI) (a := k_701) rfl)))))) (js_ret hrt je_bl) (js_end () ⟨(.same (.same (.any .nil))), .slnil⟩))) (fun s700 => (js_ret hrt je_bl)) PassesOwn.never))), ⟨Le.refl _, ⟨Same.refl _, (Par.cons ⟨v0, rfl, J.fr_in r0⟩ (Par.cons ⟨v1, rfl, J.fr_in r1⟩ (Par.cons trivial Par.nil))), List.nodup_nil, fun c hc => by cases hc⟩, hw⟩⟩
theorem ok_law_is_lists (T : Txt K mg) : FnOk Pg w K mg base CX0 3 T.a_law_is_lists T.d_law_is_lists ["_law_found", "_law_expected"] (spJ (aC (tT K (a2 (tT K (aV tI)) (tT K (aV tI)))) (aC (tT K (a2 (tT K (aV tI)) (tT K (aV tI)))) aN)) (rO tB) fun t => w_law_is_lists t.1 t.2.1) := by
  refine T.F_law_is_lists.ok sc_law_is_lists (fun vs H Q E h => ?_) (fun cdv A outer s H vs Q E hr h => ?_)
  · obtain ⟨t, P, F, rfl, ⟨v0, _, rfl, r0, v1, _, rfl, r1, e0⟩, _⟩ := h
    have e1 := (e0 : _ = [])
    subst e1
    rfl
  · obtain ⟨⟨x0, x1, _⟩, P, F, rfl, ⟨v0, _, rfl, r0, v1, _, rfl, r1, e0⟩, hw, hrt⟩ := h
    have e1 := (e0 : _ = [])
    subst e1
    have sc := sc_law_is_lists
    exact ⟨_, (show JSs _ F ⟨[sv (tT K (a2 (tT K (aV tI)) (tT K (aV tI)))) x0, sv (tT K (a2 (tT K (aV tI)) (tT K (aV tI)))) x1], []⟩ _ ⟨fun _ H' => Q .non H', Q, fun _ _ => False, fun _ _ => False⟩ _ from
      (js_ifX (jt_w (jw_or (jt_not (jt_val (je_isi (T := "tuple") (t := "tuple") (b := true) (by rfl) T.m_isinstance tyT (by decide +kernel) (je_b (je_var (i := 0) (A := (tT K (a2 (tT K (aV tI)) (tT K (aV tI))))) (a := x0) rfl)) (pe_bltn (by rfl) T.m_tuple (by decide +kernel) rfl)))) (jw_oneO (jt_neI (je_lenT (by rfl) T.m_len (je_var (i := 0) (A := (tT K (a2 (tT K (aV tI)) (tT K (aV tI))))) (a := x0) rfl) len_a2) je_int)))) (js_ret hrt je_bl) (js_ret hrt (je_and (je_call (ok_law_is_row T) (hr.mono (by decide)) (by rfl) T.g_law_is_row T.F_law_is_row.kp T.b_law_is_row (ja_cons (je_2a (je_var (i := 0) (A := (tT K (a2 (tT K (aV tI)) (tT K (aV tI))))) (a := x0) rfl)) (ja_cons (je_2a (je_var (i := 1) (A := (tT K (a2 (tT K (aV tI)) (tT K (aV tI))))) (a := x1) rfl)) ja_nil))) (je_one (je_call (ok_law_is_row T) (hr.mono (by decide)) (by rfl) T.g_law_is_row T.F_law_is_row.kp T.b_law_is_row (ja_cons (je_2b (je_var (i := 0) (A := (tT K (a2 (tT K (aV tI)) (tT K (aV tI))))) (a := x0) rfl)) (ja_cons (je_2b (je_var (i := 1) (A := (tT K (a2 (tT K (aV tI)) (tT K (aV tI))))) (a := x1) rfl)) ja_nil)))))))), ⟨Le.refl _, ⟨Same.refl _, (Par.cons ⟨v0, rfl, J.fr_in r0⟩ (Par.cons ⟨v1, rfl, J.fr_in r1⟩ Par.nil)), List.nodup_nil, fun c hc => by cases hc⟩, hw⟩⟩
theorem ok_law_level (T : Txt K mg) : FnOk Pg w K mg base CX0 1 T.a_law_level T.d_law_level ["_law_p", "_law_q"] (spJ (aC tI (aC tI aN)) (rO tI) fun t => w_law_level t.1 t.2.1) := by
  refine T.F_law_level.ok sc_law_level (fun vs H Q E h => ?_) (fun cdv A outer s H vs Q E hr h => ?_)
  · obtain ⟨t, P, F, rfl, ⟨v0, _, rfl, r0, v1, _, rfl, r1, e0⟩, _⟩ := h
    have e1 := (e0 : _ = [])
    subst e1
    rfl
  · obtain ⟨⟨x0, x1, _⟩, P, F, rfl, ⟨v0, _, rfl, r0, v1, _, rfl, r1, e0⟩, hw, hrt⟩ := h
    have e1 := (e0 : _ = [])
    subst e1
    have sc := sc_law_level
    exact ⟨_, (show JSs _ F ⟨[sv tI x0, sv tI x1, .any, .any], []⟩ _ ⟨fun _ H' => Q .non H', Q, fun _ _ => False, fun _ _ => False⟩ _ from
      (js_ifX (jt_w (jw_or (jt_eqI (je_var (i := 0) (A := tI) (a := x0) rfl) je_int) (jw_oneO (jt_eqI (je_var (i := 1) (A := tI) (a := x1) rfl) je_int)))) (js_ret hrt je_int) (js_asg (i := 2) je_int (fun total_720 => (js_while (S := fun (s721 : Int × Int × Int) => ⟨[sv tI s721.1, sv tI s721.2.1, sv tI s721.2.2, .any], []⟩) (s0 := (x0, x1, total_720)) ⟨(.same (.same (.same (.any .nil)))), .slnil⟩ (fun s721 => (jt_neI (je_var (i := 0) (A := tI) (a := s721.1) rfl) (je_var (i := 1) (A := tI) (a := s721.2.1) rfl))) (fun nxt722 brk723 s721 => (js_ifJ (S := fun (s725 : Int × Int × Int) => ⟨[sv tI s725.1, sv tI s725.2.1, sv tI s721.2.2, sv tI s725.2.2], []⟩) (jt_gt (je_var (i := 0) (A := tI) (a := s721.1) rfl) (je_var (i := 1) (A := tI) (a := s721.2.1) rfl)) (fun (J726 : (Int × Int × Int) → Prop) => (js_asg (i := 3) (je_fdiv (je_sub (je_var (i := 0) (A := tI) (a := s721.1) rfl) je_int) (je_var (i := 1) (A := tI) (a := s721.2.1) rfl)) (fun count_728 => (js_asg (i := 0) (je_sub (je_var (i := 0) (A := tI) (a := s721.1) rfl) (je_mul (je_var (i := 3) (A := tI) (a := count_728) rfl) (je_var (i := 1) (A := tI) (a := s721.2.1) rfl))) (fun p_729 => (js_end (p_729, s721.2.1, count_728) ⟨(.same (.same (.same (.same .nil)))), .slnil⟩)) sc.nd)) sc.nd)) (fun (J726 : (Int × Int × Int) → Prop) => (js_asg (i := 3) (je_fdiv (je_sub (je_var (i := 1) (A := tI) (a := s721.2.1) rfl) je_int) (je_var (i := 0) (A := tI) (a := s721.1) rfl)) (fun count_731 => (js_asg (i := 1) (je_sub (je_var (i := 1) (A := tI) (a := s721.2.1) rfl) (je_mul (je_var (i := 3) (A := tI) (a := count_731) rfl) (je_var (i := 0) (A := tI) (a := s721.1) rfl))) (fun q_732 => (js_end (s721.1, q_732, count_731) ⟨(.same (.same (.same (.same .nil)))), .slnil⟩)) sc.nd)) sc.nd)) (fun s725 => (js_asg (i := 2) (je_add (je_var (i := 2) (A := tI) (a := s721.2.2) rfl) (je_var (i := 3) (A := tI) (a := s725.2.2) rfl)) (fun total_733 => (js_end (s725.1, s725.2.1, total_733) ⟨(.same (.same (.same (.any .nil)))), .slnil⟩)) sc.nd)))) (fun s721 => (js_ret hrt (je_var (i := 2) (A := tI) (a := s721.2.2) rfl))) PassesOwn.never)) sc.nd))), ⟨Le.refl _, ⟨Same.refl _, (Par.cons ⟨v0, rfl, J.fr_in r0⟩ (Par.cons ⟨v1, rfl, J.fr_in r1⟩ (Par.cons trivial (Par.cons trivial Par.nil)))), List.nodup_nil, fun c hc => by cases hc⟩, hw⟩⟩
theorem ok_law_before (T : Txt K mg) : FnOk Pg w K mg base CX0 2 T.a_law_before T.d_law_before ["_law_one", "_law_two"] (spJ (aC (tT K (a2 tI tI)) (aC (tT K (a2 tI tI)) aN)) (rO tB) fun t => w_law_before t.1 t.2.1) := by
  refine T.F_law_before.ok sc_law_before (fun vs H Q E h => ?_) (fun cdv A outer s H vs Q E hr h => ?_)
  · obtain ⟨t, P, F, rfl, ⟨v0, _, rfl, r0, v1, _, rfl, r1, e0⟩, _⟩ := h
    have e1 := (e0 : _ = [])
    subst e1
    rfl
  · obtain ⟨⟨x0, x1, _⟩, P, F, rfl, ⟨v0, _, rfl, r0, v1, _, rfl, r1, e0⟩, hw, hrt⟩ := h
    have e1 := (e0 : _ = [])
    subst e1
    have sc := sc_law_before
    exact ⟨_, (show JSs _ F ⟨[sv (tT K (a2 tI tI)) x0, sv (tT K (a2 tI tI)) x1, .any, .any], []⟩ _ ⟨fun _ H' => Q .non H', Q, fun _ _ => False, fun _ _ => False⟩ _ from
      (js_asg (i := 2) (je_call (ok_law_level T) (hr.mono (by decide)) (by rfl) T.g_law_level T.F_law_level.kp T.b_law_level (ja_cons (je_2a (je_var (i := 0) (A := (tT K (a2 tI tI))) (a := x0) rfl)) (ja_cons (je_2b (je_var (i := 0) (A := (tT K (a2 tI tI))) (a := x0) rfl)) ja_nil))) (fun first_736 => (js_asg (i := 3) (je_call (ok_law_level T) (hr.mono (by decide)) (by rfl) T.g_law_level T.F_law_level.kp T.b_law_level (ja_cons (je_2a (je_var (i := 1) (A := (tT K (a2 tI tI))) (a := x1) rfl)) (ja_cons (je_2b (je_var (i := 1) (A := (tT K (a2 tI tI))) (a := x1) rfl)) ja_nil))) (fun second_here_737 => (js_ifX (jt_neI (je_var (i := 2) (A := tI) (a := first_736) rfl) (je_var (i := 3) (A := tI) (a := second_here_737) rfl)) (js_ret hrt (je_lt (je_var (i := 2) (A := tI) (a := first_736) rfl) (je_var (i := 3) (A := tI) (a := second_here_737) rfl))) (js_ret hrt (je_lt (je_mul (je_2b (je_var (i := 0) (A := (tT K (a2 tI tI))) (a := x0) rfl)) (je_2a (je_var (i := 1) (A := (tT K (a2 tI tI))) (a := x1) rfl))) (je_mul (je_2b (je_var (i := 1) (A := (tT K (a2 tI tI))) (a := x1) rfl)) (je_2a (je_var (i := 0) (A := (tT K (a2 tI tI))) (a := x0) rfl))))))) sc.nd)) sc.nd)), ⟨Le.refl _, ⟨Same.refl _, (Par.cons ⟨v0, rfl, J.fr_in r0⟩ (Par.cons ⟨v1, rfl, J.fr_in r1⟩ (Par.cons trivial (Par.cons trivial Par.nil)))), List.nodup_nil, fun c hc => by cases hc⟩, hw⟩⟩
theorem ok_law_fits (T : Txt K mg) : FnOk Pg w K mg base CX0 5 T.a_law_fits T.d_law_fits ["_law_one", "_law_two", "_law_found", "_law_pair"] (spJ (aC (tK (tK tI)) (aC (tK (tK tI)) (aC (tC T.a_Comparison ["_certificate", "_direction", "_lists"] (a3 (tO (tK (tT K (a4 (tT K (a2 (tT K (aV tI)) (tT K (aV tI)))) (tT K (a2 (tT K (aV tI)) (tT K (aV tI)))) tI tI)))) (tO (tT K (a2 tI tI))) (tO (tT K (a2 (tT K (aV tI)) (tT K (aV tI))))))) (aC (tT K (a2 tI tI)) aN)))) (rO tB) fun t => w_law_fits t.1 t.2.1 t.2.2.1 t.2.2.2.1) := by
  refine T.F_law_fits.ok sc_law_fits (fun vs H Q E h => ?_) (fun cdv A outer s H vs Q E hr h => ?_)
  · obtain ⟨t, P, F, rfl, ⟨v0, _, rfl, r0, v1, _, rfl, r1, v2, _, rfl, r2, v3, _, rfl, r3, e0⟩, _⟩ := h
    have e1 := (e0 : _ = [])
    subst e1
    rfl
  · obtain ⟨⟨x0, x1, x2, x3, _⟩, P, F, rfl, ⟨v0, _, rfl, r0, v1, _, rfl, r1, v2, _, rfl, r2, v3, _, rfl, r3, e0⟩, hw, hrt⟩ := h
    have e1 := (e0 : _ = [])
    subst e1
    have sc := sc_law_fits
    exact ⟨_, (show JSs _ F ⟨[sv (tK (tK tI)) x0, sv (tK (tK tI)) x1, sv (tC T.a_Comparison ["_certificate", "_direction", "_lists"] (a3 (tO (tK (tT K (a4 (tT K (a2 (tT K (aV tI)) (tT K (aV tI)))) (tT K (a2 (tT K (aV tI)) (tT K (aV tI)))) tI tI)))) (tO (tT K (a2 tI tI))) (tO (tT K (a2 (tT K (aV tI)) (tT K (aV tI))))))) x2, sv (tT K (a2 tI tI)) x3, .any], []⟩ _ ⟨fun _ H' => Q .non H', Q, fun _ _ => False, fun _ _ => False⟩ _ from
      (js_ifX (jt_isB (je_prop (je_var (i := 2) (A := (tC T.a_Comparison ["_certificate", "_direction", "_lists"] (a3 (tO (tK (tT K (a4 (tT K (a2 (tT K (aV tI)) (tT K (aV tI)))) (tT K (a2 (tT K (aV tI)) (tT K (aV tI)))) tI tI)))) (tO (tT K (a2 tI tI))) (tO (tT K (a2 (tT K (aV tI)) (tT K (aV tI)))))))) (a := x2) rfl) T.cl_Comparison T.M_Comparison_alike (ok_Comparison_alike T) (hr.mono (by decide)) T.b_Comparison_alike) je_bl) (js_ifX (jt_w (jw_or (jt_notN (je_prop (je_var (i := 2) (A := (tC T.a_Comparison ["_certificate", "_direction", "_lists"] (a3 (tO (tK (tT K (a4 (tT K (a2 (tT K (aV tI)) (tT K (aV tI)))) (tT K (a2 (tT K (aV tI)) (tT K (aV tI)))) tI tI)))) (tO (tT K (a2 tI tI))) (tO (tT K (a2 (tT K (aV tI)) (tT K (aV tI)))))))) (a := x2) rfl) T.cl_Comparison T.M_Comparison_direction (ok_Comparison_direction T) (hr.mono (by decide)) T.b_Comparison_direction)) (jw_oneO (jt_notN (je_prop (je_var (i := 2) (A := (tC T.a_Comparison ["_certificate", "_direction", "_lists"] (a3 (tO (tK (tT K (a4 (tT K (a2 (tT K (aV tI)) (tT K (aV tI)))) (tT K (a2 (tT K (aV tI)) (tT K (aV tI)))) tI tI)))) (tO (tT K (a2 tI tI))) (tO (tT K (a2 (tT K (aV tI)) (tT K (aV tI)))))))) (a := x2) rfl) T.cl_Comparison T.M_Comparison_lists (ok_Comparison_lists T) (hr.mono (by decide)) T.b_Comparison_lists))))) (js_ret hrt je_bl) (js_ret hrt (je_eqD (K := K) (A := (tT K (aV tI))) hr.units (je_b (je_2a (je_call (ok_law_two_rounds T) (hr.mono (by decide)) (by rfl) T.g_law_two_rounds T.F_law_two_rounds.kp T.b_law_two_rounds (ja_cons (je_var (i := 0) (A := (tK (tK tI))) (a := x0) rfl) (ja_cons (je_var (i := 1) (A := (tK (tK tI))) (a := x1) rfl) (ja_cons (je_var (i := 3) (A := (tT K (a2 tI tI))) (a := x3) rfl) ja_nil)))))) (je_b (je_2b (je_call (ok_law_two_rounds T) (hr.mono (by decide)) (by rfl) T.g_law_two_rounds T.F_law_two_rounds.kp T.b_law_two_rounds (ja_cons (je_var (i := 0) (A := (tK (tK tI))) (a := x0) rfl) (ja_cons (je_var (i := 1) (A := (tK (tK tI))) (a := x1) rfl) (ja_cons (je_var (i := 3) (A := (tT K (a2 tI tI))) (a := x3) rfl) ja_nil))))))))) (js_ifX (jt_w (jw_or (jt_isnB (je_prop (je_var (i := 2) (A := (tC T.a_Comparison ["_certificate", "_direction", "_lists"] (a3 (tO (tK (tT K (a4 (tT K (a2 (tT K (aV tI)) (tT K (aV tI)))) (tT K (a2 (tT K (aV tI)) (tT K (aV tI)))) tI tI)))) (tO (tT K (a2 tI tI))) (tO (tT K (a2 (tT K (aV tI)) (tT K (aV tI)))))))) (a := x2) rfl) T.cl_Comparison T.M_Comparison_alike (ok_Comparison_alike T) (hr.mono (by decide)) T.b_Comparison_alike) je_bl) (jw_or (jt_notN (je_prop (je_var (i := 2) (A := (tC T.a_Comparison ["_certificate", "_direction", "_lists"] (a3 (tO (tK (tT K (a4 (tT K (a2 (tT K (aV tI)) (tT K (aV tI)))) (tT K (a2 (tT K (aV tI)) (tT K (aV tI)))) tI tI)))) (tO (tT K (a2 tI tI))) (tO (tT K (a2 (tT K (aV tI)) (tT K (aV tI)))))))) (a := x2) rfl) T.cl_Comparison T.M_Comparison_certificate (ok_Comparison_certificate T) (hr.mono (by decide)) T.b_Comparison_certificate)) (jw_oneO (jt_not (jt_val (je_call (ok_law_is_direction T) (hr.mono (by decide)) (by rfl) T.g_law_is_direction T.F_law_is_direction.kp T.b_law_is_direction (ja_cons (je_get (je_prop (je_var (i := 2) (A := (tC T.a_Comparison ["_certificate", "_direction", "_lists"] (a3 (tO (tK (tT K (a4 (tT K (a2 (tT K (aV tI)) (tT K (aV tI)))) (tT K (a2 (tT K (aV tI)) (tT K (aV tI)))) tI tI)))) (tO (tT K (a2 tI tI))) (tO (tT K (a2 (tT K (aV tI)) (tT K (aV tI)))))))) (a := x2) rfl) T.cl_Comparison T.M_Comparison_direction (ok_Comparison_direction T) (hr.mono (by decide)) T.b_Comparison_direction)) ja_nil)))))))) (js_ret hrt je_bl) (js_asg (i := 4) (je_call (ok_law_two_rounds T) (hr.mono (by decide)) (by rfl) T.g_law_two_rounds T.F_law_two_rounds.kp T.b_law_two_rounds (ja_cons (je_var (i := 0) (A := (tK (tK tI))) (a := x0) rfl) (ja_cons (je_var (i := 1) (A := (tK (tK tI))) (a := x1) rfl) (ja_cons (je_get (je_prop (je_var (i := 2) (A := (tC T.a_Comparison ["_certificate", "_direction", "_lists"] (a3 (tO (tK (tT K (a4 (tT K (a2 (tT K (aV tI)) (tT K (aV tI)))) (tT K (a2 (tT K (aV tI)) (tT K (aV tI)))) tI tI)))) (tO (tT K (a2 tI tI))) (tO (tT K (a2 (tT K (aV tI)) (tT K (aV tI)))))))) (a := x2) rfl) T.cl_Comparison T.M_Comparison_direction (ok_Comparison_direction T) (hr.mono (by decide)) T.b_Comparison_direction)) ja_nil)))) (fun there_693 => (js_ifX (jt_w (jw_or (jt_eqD (K := K) (A := (tT K (aV tI))) hr.units (je_b (je_2a (je_var (i := 4) (A := (tT K (a2 (tT K (aV tI)) (tT K (aV tI))))) (a := there_693) rfl))) (je_b (je_2b (je_var (i := 4) (A := (tT K (a2 (tT K (aV tI)) (tT K (aV tI))))) (a := there_693) rfl)))) (jw_oneO (jt_not (jt_val (je_call (ok_law_is_lists T) (hr.mono (by decide)) (by rfl) T.g_law_is_lists T.F_law_is_lists.kp T.b_law_is_lists (ja_cons (je_get (je_prop (je_var (i := 2) (A := (tC T.a_Comparison ["_certificate", "_direction", "_lists"] (a3 (tO (tK (tT K (a4 (tT K (a2 (tT K (aV tI)) (tT K (aV tI)))) (tT K (a2 (tT K (aV tI)) (tT K (aV tI)))) tI tI)))) (tO (tT K (a2 tI tI))) (tO (tT K (a2 (tT K (aV tI)) (tT K (aV tI)))))))) (a := x2) rfl) T.cl_Comparison T.M_Comparison_lists (ok_Comparison_lists T) (hr.mono (by decide)) T.b_Comparison_lists)) (ja_cons (je_var (i := 4) (A := (tT K (a2 (tT K (aV tI)) (tT K (aV tI))))) (a := there_693) rfl) ja_nil)))))))) (js_ret hrt je_bl) (js_ifX (jt_not (jt_val (je_call (ok_law_before T) (hr.mono (by decide)) (by rfl) T.g_law_before T.F_law_before.kp T.b_law_before (ja_cons (je_var (i := 3) (A := (tT K (a2 tI tI))) (a := x3) rfl) (ja_cons (je_get (je_prop (je_var (i := 2) (A := (tC T.a_Comparison ["_certificate", "_direction", "_lists"] (a3 (tO (tK (tT K (a4 (tT K (a2 (tT K (aV tI)) (tT K (aV tI)))) (tT K (a2 (tT K (aV tI)) (tT K (aV tI)))) tI tI)))) (tO (tT K (a2 tI tI))) (tO (tT K (a2 (tT K (aV tI)) (tT K (aV tI)))))))) (a := x2) rfl) T.cl_Comparison T.M_Comparison_direction (ok_Comparison_direction T) (hr.mono (by decide)) T.b_Comparison_direction)) ja_nil))))) (js_ret hrt je_bl) (js_ret hrt (je_eqD (K := K) (A := (tT K (aV tI))) hr.units (je_b (je_2a (je_call (ok_law_two_rounds T) (hr.mono (by decide)) (by rfl) T.g_law_two_rounds T.F_law_two_rounds.kp T.b_law_two_rounds (ja_cons (je_var (i := 0) (A := (tK (tK tI))) (a := x0) rfl) (ja_cons (je_var (i := 1) (A := (tK (tK tI))) (a := x1) rfl) (ja_cons (je_var (i := 3) (A := (tT K (a2 tI tI))) (a := x3) rfl) ja_nil)))))) (je_b (je_2b (je_call (ok_law_two_rounds T) (hr.mono (by decide)) (by rfl) T.g_law_two_rounds T.F_law_two_rounds.kp T.b_law_two_rounds (ja_cons (je_var (i := 0) (A := (tK (tK tI))) (a := x0) rfl) (ja_cons (je_var (i := 1) (A := (tK (tK tI))) (a := x1) rfl) (ja_cons (je_var (i := 3) (A := (tT K (a2 tI tI))) (a := x3) rfl) ja_nil))))))))))) sc.nd)))), ⟨Le.refl _, ⟨Same.refl _, (Par.cons ⟨v0, rfl, J.fr_in r0⟩ (Par.cons ⟨v1, rfl, J.fr_in r1⟩ (Par.cons ⟨v2, rfl, J.fr_in r2⟩ (Par.cons ⟨v3, rfl, J.fr_in r3⟩ (Par.cons trivial Par.nil))))), List.nodup_nil, fun c hc => by cases hc⟩, hw⟩⟩
theorem ok_law_wide (T : Txt K mg) : FnOk Pg w K mg base CX0 4 T.a_law_wide T.d_law_wide ["_law_lists"] (spJ (aC (tK (tK tI)) aN) (rO (tC T.a_Plan ["_right", "_above"] (a2 (tT K (aV tI)) (tT K (aV tI))))) fun t => w_law_wide t.1) := by
  refine T.F_law_wide.ok sc_law_wide (fun vs H Q E h => ?_) (fun cdv A outer s H vs Q E hr h => ?_)
  · obtain ⟨t, P, F, rfl, ⟨v0, _, rfl, r0, e0⟩, _⟩ := h
    have e1 := (e0 : _ = [])
    subst e1
    rfl
  · obtain ⟨⟨x0, _⟩, P, F, rfl, ⟨v0, _, rfl, r0, e0⟩, hw, hrt⟩ := h
    have e1 := (e0 : _ = [])
    subst e1
    have sc := sc_law_wide
    exact ⟨_, (show JSs _ F ⟨[sv (tK (tK tI)) x0, .any, .any, .any, .any], []⟩ _ ⟨fun _ H' => Q .non H', Q, fun _ _ => False, fun _ _ => False⟩ _ from
      (js_asg (i := 1) (je_lenL (by rfl) T.m_len (je_ebL (je_e (je_eK (je_ixL (je_e (je_eK (je_var (i := 0) (A := (tK (tK tI))) (a := x0) rfl))) je_int))))) (fun size_763 => (js_stF (i := 2) (ps_lc (i := 2) (own := [("_law_side", 3)]) (B := (tK tI)) (ji_L (je_var (i := 0) (A := (tK (tK tI))) (a := x0) rfl)) sc.nd (blkOk_by (N := ["_law_lists", "_law_size", "_law_sides_here", "_law_side", "_law_k"]) (sc := defScope s_law_wide) (by decide +kernel)) (tgw_name) (fun _ _ _ _ _ => (pg_name (i := 3) sc.nd rfl (Or.inr rfl))) (fun D764 acc765 side_766 _ _ _ _ _ => (je_new (je_comp (own := [("_law_k", 4)]) (B := tI) (ji_R (by rfl) T.m_range (je_mulR (je_var (i := 1) (A := tI) (a := size_763) rfl))) sc.nd (blkOk_by (by kernel_rfl)) (tgw_name) (fun _ _ _ _ _ => (pg_name (i := 4) sc.nd rfl (Or.inl rfl))) (fun D767 acc768 k_769 _ _ _ _ _ => (je_add (je_mul (je_var (i := 1) (A := tI) (a := size_763) rfl) (je_fdiv (je_var (i := 4) (A := tI) (a := k_769) rfl) (je_var (i := 1) (A := tI) (a := size_763) rfl))) (je_ixL (je_e (je_eK (je_var (i := 3) (A := (tK tI)) (a := side_766) rfl))) (je_mod (je_var (i := 4) (A := tI) (a := k_769) rfl) (je_var (i := 1) (A := tI) (a := size_763) rfl)))))))) (sw_true rfl rfl rfl (by decide +kernel))) (fun sides_here_775 => (js_ret hrt (je_make (T := (aC (tK tI) (aC (tK tI) aN))) (U := (a2 (tT K (aV tI)) (tT K (aV tI)))) (w := fun t => w_Plan___init__ t.1 t.2.1) T.M_Plan___init__ (ok_Plan___init__ T) (hr.mono (by decide)) (by rfl) T.g_Plan T.b_Plan___init__ (ja_cons (je_ixL (je_e (je_eK (je_var (i := 2) (A := (tK (tK tI))) (a := sides_here_775) rfl))) je_int) (ja_cons (je_ixL (je_e (je_eK (je_var (i := 2) (A := (tK (tK tI))) (a := sides_here_775) rfl))) je_int) ja_nil))))))) sc.nd)), ⟨Le.refl _, ⟨Same.refl _, (Par.cons ⟨v0, rfl, J.fr_in r0⟩ (Par.cons trivial (Par.cons trivial (Par.cons trivial (Par.cons trivial Par.nil))))), List.nodup_nil, fun c hc => by cases hc⟩, hw⟩⟩
theorem ok_law (T : Txt K mg) : FnOk Pg w K mg base CX0 8 T.a_law T.d_law ["_law_script"] (spJ (aC (tL K tI) aN) (rO tB) fun t => w_law t.1) := by
  refine T.F_law.ok sc_law (fun vs H Q E h => ?_) (fun cdv A outer s H vs Q E hr h => ?_)
  · obtain ⟨t, P, F, rfl, ⟨v0, _, rfl, r0, e0⟩, _⟩ := h
    have e1 := (e0 : _ = [])
    subst e1
    rfl
  · obtain ⟨⟨x0, _⟩, P, F, rfl, ⟨v0, _, rfl, r0, e0⟩, hw, hrt⟩ := h
    have e1 := (e0 : _ = [])
    subst e1
    have sc := sc_law
    exact ⟨_, (show JSs _ F ⟨[sv (tL K tI) x0, .any, .any, .any, .any, .any, .any, .any, .any, .any, .any, .any], []⟩ _ ⟨fun _ H' => Q .non H', Q, fun _ _ => False, fun _ _ => False⟩ _ from
      (js_asg (i := 1) (je_call (ok_law_cell T) (hr.mono (by decide)) (by rfl) T.g_law_cell T.F_law_cell.kp T.b_law_cell (ja_cons (je_var (i := 0) (A := (tL K tI)) (a := x0) rfl) (ja_cons je_int ja_nil))) (fun kind_6 => (js_asg (i := 2) (je_call (ok_law_plan T) (hr.mono (by decide)) (by rfl) T.g_law_plan T.F_law_plan.kp T.b_law_plan (ja_cons (je_add (je_var (i := 1) (A := tI) (a := kind_6) rfl) (je_intB (by rfl) T.m_int (je_eqI (je_modL (je_int1 (by rfl) T.m_int (je_var (i := 1) (A := tI) (a := kind_6) rfl))) je_int))) (ja_cons (je_call (ok_law_cell T) (hr.mono (by decide)) (by rfl) T.g_law_cell T.F_law_cell.kp T.b_law_cell (ja_cons (je_var (i := 0) (A := (tL K tI)) (a := x0) rfl) (ja_cons je_int ja_nil))) (ja_cons (je_call (ok_law_cell T) (hr.mono (by decide)) (by rfl) T.g_law_cell T.F_law_cell.kp T.b_law_cell (ja_cons (je_var (i := 0) (A := (tL K tI)) (a := x0) rfl) (ja_cons je_int ja_nil))) ja_nil)))) (fun one_80 => (js_asg (i := 3) (je_call (ok_law_second T) (hr.mono (by decide)) (by rfl) T.g_law_second T.F_law_second.kp T.b_law_second (ja_cons (je_var (i := 0) (A := (tL K tI)) (a := x0) rfl) (ja_cons (je_var (i := 2) (A := (tK (tK tI))) (a := one_80) rfl) ja_nil))) (fun two_98 => (js_asg (i := 4) (je_call (ok_law_cell T) (hr.mono (by decide)) (by rfl) T.g_law_cell T.F_law_cell.kp T.b_law_cell (ja_cons (je_var (i := 0) (A := (tL K tI)) (a := x0) rfl) (ja_cons je_int ja_nil))) (fun p_99 => (js_asg (i := 5) (je_call (ok_law_cell T) (hr.mono (by decide)) (by rfl) T.g_law_cell T.F_law_cell.kp T.b_law_cell (ja_cons (je_var (i := 0) (A := (tL K tI)) (a := x0) rfl) (ja_cons je_int ja_nil))) (fun q_100 => (js_ifJ (S := fun (s101 : Int × Int) => ⟨[sv (tL K tI) x0, sv tI kind_6, sv (tK (tK tI)) one_80, sv (tK (tK tI)) two_98, sv tI s101.1, sv tI s101.2, .any, .any, .any, .any, .any, .any], []⟩) (jt_eqI (je_modL (je_int1 (by rfl) T.m_int (je_call (ok_law_cell T) (hr.mono (by decide)) (by rfl) T.g_law_cell T.F_law_cell.kp T.b_law_cell (ja_cons (je_var (i := 0) (A := (tL K tI)) (a := x0) rfl) (ja_cons je_int ja_nil))))) je_int) (fun (J102 : (Int × Int) → Prop) => (js_asg (i := 4) (je_modL (je_int1 (by rfl) T.m_int (je_var (i := 4) (A := tI) (a := p_99) rfl))) (fun p_104 => (js_asg (i := 5) (je_modL (je_int1 (by rfl) T.m_int (je_var (i := 5) (A := tI) (a := q_100) rfl))) (fun q_105 => (js_end (p_104, q_105) ⟨(.same (.same (.same (.same (.same (.same (.any (.any (.any (.any (.any (.any .nil)))))))))))), .slnil⟩)) sc.nd)) sc.nd)) (fun (J102 : (Int × Int) → Prop) => (js_end (p_99, q_100) ⟨(.same (.same (.same (.same (.same (.same (.any (.any (.any (.any (.any (.any .nil)))))))))))), .slnil⟩)) (fun s101 => (js_asg (i := 6) (je_call (ok_law_direction T) (hr.mono (by decide)) (by rfl) T.g_law_direction T.F_law_direction.kp T.b_law_direction (ja_cons (je_var (i := 4) (A := tI) (a := s101.1) rfl) (ja_cons (je_var (i := 5) (A := tI) (a := s101.2) rfl) (ja_cons je_int ja_nil)))) (fun pair_123 => (js_asg (i := 7) (je_make (T := (aC (tK tI) (aC (tK tI) aN))) (U := (a2 (tT K (aV tI)) (tT K (aV tI)))) (w := fun t => w_Plan___init__ t.1 t.2.1) T.M_Plan___init__ (ok_Plan___init__ T) (hr.mono (by decide)) (by rfl) T.g_Plan T.b_Plan___init__ (ja_cons (je_new (je_listL (by rfl) T.m_list (je_e (je_eK (je_ixL (je_e (je_eK (je_var (i := 2) (A := (tK (tK tI))) (a := one_80) rfl))) je_int))))) (ja_cons (je_new (je_listL (by rfl) T.m_list (je_e (je_eK (je_ixL (je_e (je_eK (je_var (i := 2) (A := (tK (tK tI))) (a := one_80) rfl))) je_int))))) ja_nil))) (fun plan_here_139 => (js_asg (i := 8) (je_make (T := (aC (tK tI) (aC (tK tI) aN))) (U := (a2 (tT K (aV tI)) (tT K (aV tI)))) (w := fun t => w_Plan___init__ t.1 t.2.1) T.M_Plan___init__ (ok_Plan___init__ T) (hr.mono (by decide)) (by rfl) T.g_Plan T.b_Plan___init__ (ja_cons (je_new (je_listL (by rfl) T.m_list (je_e (je_eK (je_ixL (je_e (je_eK (je_var (i := 3) (A := (tK (tK tI))) (a := two_98) rfl))) je_int))))) (ja_cons (je_new (je_listL (by rfl) T.m_list (je_e (je_eK (je_ixL (je_e (je_eK (je_var (i := 3) (A := (tK (tK tI))) (a := two_98) rfl))) je_int))))) ja_nil))) (fun other_142 => (js_asg (i := 9) (je_callDN (T := (aC (tC T.a_Plan ["_right", "_above"] (a2 (tT K (aV tI)) (tT K (aV tI)))) (aC (tC T.a_Plan ["_right", "_above"] (a2 (tT K (aV tI)) (tT K (aV tI)))) (aC tI aN)))) (T1 := (aC (tC T.a_Plan ["_right", "_above"] (a2 (tT K (aV tI)) (tT K (aV tI)))) (aC (tC T.a_Plan ["_right", "_above"] (a2 (tT K (aV tI)) (tT K (aV tI)))) aN))) (T2 := aN) (ext := (fun (t1 : ((List Int) × (List Int)) × ((List Int) × (List Int)) × Unit) (t2 : Unit) => (t1.1, t1.2.1, (200000 : Int), ()))) (ok_compare T) (hr.mono (by decide)) (by rfl) T.g_compare T.F_compare.kp (kb_compare_ T) (fun H vs zs t1 t2 h1 h2 => by obtain ⟨v0, _, rfl, r0, v1, _, rfl, r1, e0⟩ := h1; have e1 := (e0 : _ = []); subst e1; have f0 := h2; have e3 := (f0 : _ = []); subst e3; exact ⟨rfl, rfl, v0, _, rfl, r0, v1, _, rfl, r1, _, _, rfl, rfl, rfl⟩) (ja_cons (je_var (i := 7) (A := (tC T.a_Plan ["_right", "_above"] (a2 (tT K (aV tI)) (tT K (aV tI))))) (a := plan_here_139) rfl) (ja_cons (je_var (i := 8) (A := (tC T.a_Plan ["_right", "_above"] (a2 (tT K (aV tI)) (tT K (aV tI))))) (a := other_142) rfl) ja_nil)) jk_nil) (fun found_506 => (js_asg (i := 10) (je_callDN (T := (aC (tC T.a_Plan ["_right", "_above"] (a2 (tT K (aV tI)) (tT K (aV tI)))) (aC (tC T.a_Plan ["_right", "_above"] (a2 (tT K (aV tI)) (tT K (aV tI)))) (aC tI aN)))) (T1 := (aC (tC T.a_Plan ["_right", "_above"] (a2 (tT K (aV tI)) (tT K (aV tI)))) (aC (tC T.a_Plan ["_right", "_above"] (a2 (tT K (aV tI)) (tT K (aV tI)))) aN))) (T2 := aN) (ext := (fun (t1 : ((List Int) × (List Int)) × ((List Int) × (List Int)) × Unit) (t2 : Unit) => (t1.1, t1.2.1, (200000 : Int), ()))) (ok_compare T) (hr.mono (by decide)) (by rfl) T.g_compare T.F_compare.kp (kb_compare_ T) (fun H vs zs t1 t2 h1 h2 => by obtain ⟨v0, _, rfl, r0, v1, _, rfl, r1, e0⟩ := h1; have e1 := (e0 : _ = []); subst e1; have f0 := h2; have e3 := (f0 : _ = []); subst e3; exact ⟨rfl, rfl, v0, _, rfl, r0, v1, _, rfl, r1, _, _, rfl, rfl, rfl⟩) (ja_cons (je_var (i := 8) (A := (tC T.a_Plan ["_right", "_above"] (a2 (tT K (aV tI)) (tT K (aV tI))))) (a := other_142) rfl) (ja_cons (je_var (i := 7) (A := (tC T.a_Plan ["_right", "_above"] (a2 (tT K (aV tI)) (tT K (aV tI))))) (a := plan_here_139) rfl) ja_nil)) jk_nil) (fun back_507 => (js_ifX (jt_w (jw_or (jt_not (jt_val (je_call (ok_law_fits T) (hr.mono (by decide)) (by rfl) T.g_law_fits T.F_law_fits.kp T.b_law_fits (ja_cons (je_var (i := 2) (A := (tK (tK tI))) (a := one_80) rfl) (ja_cons (je_var (i := 3) (A := (tK (tK tI))) (a := two_98) rfl) (ja_cons (je_var (i := 9) (A := (tC T.a_Comparison ["_certificate", "_direction", "_lists"] (a3 (tO (tK (tT K (a4 (tT K (a2 (tT K (aV tI)) (tT K (aV tI)))) (tT K (a2 (tT K (aV tI)) (tT K (aV tI)))) tI tI)))) (tO (tT K (a2 tI tI))) (tO (tT K (a2 (tT K (aV tI)) (tT K (aV tI)))))))) (a := found_506) rfl) (ja_cons (je_var (i := 6) (A := (tT K (a2 tI tI))) (a := pair_123) rfl) ja_nil))))))) (jw_oneO (jt_not (jt_val (je_call (ok_law_fits T) (hr.mono (by decide)) (by rfl) T.g_law_fits T.F_law_fits.kp T.b_law_fits (ja_cons (je_var (i := 3) (A := (tK (tK tI))) (a := two_98) rfl) (ja_cons (je_var (i := 2) (A := (tK (tK tI))) (a := one_80) rfl) (ja_cons (je_var (i := 10) (A := (tC T.a_Comparison ["_certificate", "_direction", "_lists"] (a3 (tO (tK (tT K (a4 (tT K (a2 (tT K (aV tI)) (tT K (aV tI)))) (tT K (a2 (tT K (aV tI)) (tT K (aV tI)))) tI tI)))) (tO (tT K (a2 tI tI))) (tO (tT K (a2 (tT K (aV tI)) (tT K (aV tI)))))))) (a := back_507) rfl) (ja_cons (je_var (i := 6) (A := (tT K (a2 tI tI))) (a := pair_123) rfl) ja_nil)))))))))) (js_ret hrt je_bl) (js_ifX (jt_w (jw_or (jt_neB (je_prop (je_var (i := 9) (A := (tC T.a_Comparison ["_certificate", "_direction", "_lists"] (a3 (tO (tK (tT K (a4 (tT K (a2 (tT K (aV tI)) (tT K (aV tI)))) (tT K (a2 (tT K (aV tI)) (tT K (aV tI)))) tI tI)))) (tO (tT K (a2 tI tI))) (tO (tT K (a2 (tT K (aV tI)) (tT K (aV tI)))))))) (a := found_506) rfl) T.cl_Comparison T.M_Comparison_alike (ok_Comparison_alike T) (hr.mono (by decide)) T.b_Comparison_alike) (je_prop (je_var (i := 10) (A := (tC T.a_Comparison ["_certificate", "_direction", "_lists"] (a3 (tO (tK (tT K (a4 (tT K (a2 (tT K (aV tI)) (tT K (aV tI)))) (tT K (a2 (tT K (aV tI)) (tT K (aV tI)))) tI tI)))) (tO (tT K (a2 tI tI))) (tO (tT K (a2 (tT K (aV tI)) (tT K (aV tI)))))))) (a := back_507) rfl) T.cl_Comparison T.M_Comparison_alike (ok_Comparison_alike T) (hr.mono (by decide)) T.b_Comparison_alike)) (jw_oneO (jt_neD (K := K) (A := (tO (tT K (a2 tI tI)))) hr.units (je_b (je_prop (je_var (i := 9) (A := (tC T.a_Comparison ["_certificate", "_direction", "_lists"] (a3 (tO (tK (tT K (a4 (tT K (a2 (tT K (aV tI)) (tT K (aV tI)))) (tT K (a2 (tT K (aV tI)) (tT K (aV tI)))) tI tI)))) (tO (tT K (a2 tI tI))) (tO (tT K (a2 (tT K (aV tI)) (tT K (aV tI)))))))) (a := found_506) rfl) T.cl_Comparison T.M_Comparison_direction (ok_Comparison_direction T) (hr.mono (by decide)) T.b_Comparison_direction)) (je_b (je_prop (je_var (i := 10) (A := (tC T.a_Comparison ["_certificate", "_direction", "_lists"] (a3 (tO (tK (tT K (a4 (tT K (a2 (tT K (aV tI)) (tT K (aV tI)))) (tT K (a2 (tT K (aV tI)) (tT K (aV tI)))) tI tI)))) (tO (tT K (a2 tI tI))) (tO (tT K (a2 (tT K (aV tI)) (tT K (aV tI)))))))) (a := back_507) rfl) T.cl_Comparison T.M_Comparison_direction (ok_Comparison_direction T) (hr.mono (by decide)) T.b_Comparison_direction)))))) (js_ret hrt je_bl) (js_ifJ (S := fun (s760 : Unit) => ⟨[sv (tL K tI) x0, sv tI kind_6, sv (tK (tK tI)) one_80, sv (tK (tK tI)) two_98, sv tI s101.1, sv tI s101.2, sv (tT K (a2 tI tI)) pair_123, sv (tC T.a_Plan ["_right", "_above"] (a2 (tT K (aV tI)) (tT K (aV tI)))) plan_here_139, sv (tC T.a_Plan ["_right", "_above"] (a2 (tT K (aV tI)) (tT K (aV tI)))) other_142, sv (tC T.a_Comparison ["_certificate", "_direction", "_lists"] (a3 (tO (tK (tT K (a4 (tT K (a2 (tT K (aV tI)) (tT K (aV tI)))) (tT K (a2 (tT K (aV tI)) (tT K (aV tI)))) tI tI)))) (tO (tT K (a2 tI tI))) (tO (tT K (a2 (tT K (aV tI)) (tT K (aV tI))))))) found_506, sv (tC T.a_Comparison ["_certificate", "_direction", "_lists"] (a3 (tO (tK (tT K (a4 (tT K (a2 (tT K (aV tI)) (tT K (aV tI)))) (tT K (a2 (tT K (aV tI)) (tT K (aV tI)))) tI tI)))) (tO (tT K (a2 tI tI))) (tO (tT K (a2 (tT K (aV tI)) (tT K (aV tI))))))) back_507, .any], []⟩) (jt_lt (je_max2 (by rfl) T.m_max (je_lenL (by rfl) T.m_len (je_ebL (je_e (je_eK (je_ixL (je_e (je_eK (je_var (i := 2) (A := (tK (tK tI))) (a := one_80) rfl))) je_int))))) (je_lenL (by rfl) T.m_len (je_ebL (je_e (je_eK (je_ixL (je_e (je_eK (je_var (i := 3) (A := (tK (tK tI))) (a := two_98) rfl))) je_int)))))) je_int) (fun (J761 : Unit → Prop) => (js_asg (i := 11) (je_callDN (T := (aC (tC T.a_Plan ["_right", "_above"] (a2 (tT K (aV tI)) (tT K (aV tI)))) (aC (tC T.a_Plan ["_right", "_above"] (a2 (tT K (aV tI)) (tT K (aV tI)))) (aC tI aN)))) (T1 := (aC (tC T.a_Plan ["_right", "_above"] (a2 (tT K (aV tI)) (tT K (aV tI)))) (aC (tC T.a_Plan ["_right", "_above"] (a2 (tT K (aV tI)) (tT K (aV tI)))) aN))) (T2 := aN) (ext := (fun (t1 : ((List Int) × (List Int)) × ((List Int) × (List Int)) × Unit) (t2 : Unit) => (t1.1, t1.2.1, (200000 : Int), ()))) (ok_compare T) (hr.mono (by decide)) (by rfl) T.g_compare T.F_compare.kp (kb_compare_ T) (fun H vs zs t1 t2 h1 h2 => by obtain ⟨v0, _, rfl, r0, v1, _, rfl, r1, e0⟩ := h1; have e1 := (e0 : _ = []); subst e1; have f0 := h2; have e3 := (f0 : _ = []); subst e3; exact ⟨rfl, rfl, v0, _, rfl, r0, v1, _, rfl, r1, _, _, rfl, rfl, rfl⟩) (ja_cons (je_call (ok_law_wide T) (hr.mono (by decide)) (by rfl) T.g_law_wide T.F_law_wide.kp T.b_law_wide (ja_cons (je_var (i := 2) (A := (tK (tK tI))) (a := one_80) rfl) ja_nil)) (ja_cons (je_call (ok_law_wide T) (hr.mono (by decide)) (by rfl) T.g_law_wide T.F_law_wide.kp T.b_law_wide (ja_cons (je_var (i := 3) (A := (tK (tK tI))) (a := two_98) rfl) ja_nil)) ja_nil)) jk_nil) (fun wide_here_763 => (js_if (jt_w (jw_or (jt_neB (je_prop (je_var (i := 11) (A := (tC T.a_Comparison ["_certificate", "_direction", "_lists"] (a3 (tO (tK (tT K (a4 (tT K (a2 (tT K (aV tI)) (tT K (aV tI)))) (tT K (a2 (tT K (aV tI)) (tT K (aV tI)))) tI tI)))) (tO (tT K (a2 tI tI))) (tO (tT K (a2 (tT K (aV tI)) (tT K (aV tI)))))))) (a := wide_here_763) rfl) T.cl_Comparison T.M_Comparison_alike (ok_Comparison_alike T) (hr.mono (by decide)) T.b_Comparison_alike) (je_prop (je_var (i := 9) (A := (tC T.a_Comparison ["_certificate", "_direction", "_lists"] (a3 (tO (tK (tT K (a4 (tT K (a2 (tT K (aV tI)) (tT K (aV tI)))) (tT K (a2 (tT K (aV tI)) (tT K (aV tI)))) tI tI)))) (tO (tT K (a2 tI tI))) (tO (tT K (a2 (tT K (aV tI)) (tT K (aV tI)))))))) (a := found_506) rfl) T.cl_Comparison T.M_Comparison_alike (ok_Comparison_alike T) (hr.mono (by decide)) T.b_Comparison_alike)) (jw_oneO (jt_neD (K := K) (A := (tO (tT K (a2 tI tI)))) hr.units (je_b (je_prop (je_var (i := 11) (A := (tC T.a_Comparison ["_certificate", "_direction", "_lists"] (a3 (tO (tK (tT K (a4 (tT K (a2 (tT K (aV tI)) (tT K (aV tI)))) (tT K (a2 (tT K (aV tI)) (tT K (aV tI)))) tI tI)))) (tO (tT K (a2 tI tI))) (tO (tT K (a2 (tT K (aV tI)) (tT K (aV tI)))))))) (a := wide_here_763) rfl) T.cl_Comparison T.M_Comparison_direction (ok_Comparison_direction T) (hr.mono (by decide)) T.b_Comparison_direction)) (je_b (je_prop (je_var (i := 9) (A := (tC T.a_Comparison ["_certificate", "_direction", "_lists"] (a3 (tO (tK (tT K (a4 (tT K (a2 (tT K (aV tI)) (tT K (aV tI)))) (tT K (a2 (tT K (aV tI)) (tT K (aV tI)))) tI tI)))) (tO (tT K (a2 tI tI))) (tO (tT K (a2 (tT K (aV tI)) (tT K (aV tI)))))))) (a := found_506) rfl) T.cl_Comparison T.M_Comparison_direction (ok_Comparison_direction T) (hr.mono (by decide)) T.b_Comparison_direction)))))) (js_ret hrt je_bl) (js_end () ⟨(.same (.same (.same (.same (.same (.same (.same (.same (.same (.same (.same (.any .nil)))))))))))), .slnil⟩))) sc.nd)) (fun (J761 : Unit → Prop) => (js_end () ⟨(.same (.same (.same (.same (.same (.same (.same (.same (.same (.same (.same (.any .nil)))))))))))), .slnil⟩)) (fun s760 => (js_ret hrt (je_and (je_isB (je_prop (je_callDN (T := (aC (tC T.a_Plan ["_right", "_above"] (a2 (tT K (aV tI)) (tT K (aV tI)))) (aC (tC T.a_Plan ["_right", "_above"] (a2 (tT K (aV tI)) (tT K (aV tI)))) (aC tI aN)))) (T1 := (aC (tC T.a_Plan ["_right", "_above"] (a2 (tT K (aV tI)) (tT K (aV tI)))) (aC (tC T.a_Plan ["_right", "_above"] (a2 (tT K (aV tI)) (tT K (aV tI)))) aN))) (T2 := aN) (ext := (fun (t1 : ((List Int) × (List Int)) × ((List Int) × (List Int)) × Unit) (t2 : Unit) => (t1.1, t1.2.1, (200000 : Int), ()))) (ok_compare T) (hr.mono (by decide)) (by rfl) T.g_compare T.F_compare.kp (kb_compare_ T) (fun H vs zs t1 t2 h1 h2 => by obtain ⟨v0, _, rfl, r0, v1, _, rfl, r1, e0⟩ := h1; have e1 := (e0 : _ = []); subst e1; have f0 := h2; have e3 := (f0 : _ = []); subst e3; exact ⟨rfl, rfl, v0, _, rfl, r0, v1, _, rfl, r1, _, _, rfl, rfl, rfl⟩) (ja_cons (je_var (i := 7) (A := (tC T.a_Plan ["_right", "_above"] (a2 (tT K (aV tI)) (tT K (aV tI))))) (a := plan_here_139) rfl) (ja_cons (je_var (i := 7) (A := (tC T.a_Plan ["_right", "_above"] (a2 (tT K (aV tI)) (tT K (aV tI))))) (a := plan_here_139) rfl) ja_nil)) jk_nil) T.cl_Comparison T.M_Comparison_alike (ok_Comparison_alike T) (hr.mono (by decide)) T.b_Comparison_alike) je_bl) (je_one (je_isB (je_prop (je_callDN (T := (aC (tC T.a_Plan ["_right", "_above"] (a2 (tT K (aV tI)) (tT K (aV tI)))) (aC (tC T.a_Plan ["_right", "_above"] (a2 (tT K (aV tI)) (tT K (aV tI)))) (aC tI aN)))) (T1 := (aC (tC T.a_Plan ["_right", "_above"] (a2 (tT K (aV tI)) (tT K (aV tI)))) (aC (tC T.a_Plan ["_right", "_above"] (a2 (tT K (aV tI)) (tT K (aV tI)))) aN))) (T2 := aN) (ext := (fun (t1 : ((List Int) × (List Int)) × ((List Int) × (List Int)) × Unit) (t2 : Unit) => (t1.1, t1.2.1, (200000 : Int), ()))) (ok_compare T) (hr.mono (by decide)) (by rfl) T.g_compare T.F_compare.kp (kb_compare_ T) (fun H vs zs t1 t2 h1 h2 => by obtain ⟨v0, _, rfl, r0, v1, _, rfl, r1, e0⟩ := h1; have e1 := (e0 : _ = []); subst e1; have f0 := h2; have e3 := (f0 : _ = []); subst e3; exact ⟨rfl, rfl, v0, _, rfl, r0, v1, _, rfl, r1, _, _, rfl, rfl, rfl⟩) (ja_cons (je_var (i := 8) (A := (tC T.a_Plan ["_right", "_above"] (a2 (tT K (aV tI)) (tT K (aV tI))))) (a := other_142) rfl) (ja_cons (je_make (T := (aC (tK tI) (aC (tK tI) aN))) (U := (a2 (tT K (aV tI)) (tT K (aV tI)))) (w := fun t => w_Plan___init__ t.1 t.2.1) T.M_Plan___init__ (ok_Plan___init__ T) (hr.mono (by decide)) (by rfl) T.g_Plan T.b_Plan___init__ (ja_cons (je_new (je_listL (by rfl) T.m_list (je_e (je_eK (je_ixL (je_e (je_eK (je_var (i := 3) (A := (tK (tK tI))) (a := two_98) rfl))) je_int))))) (ja_cons (je_new (je_listL (by rfl) T.m_list (je_e (je_eK (je_ixL (je_e (je_eK (je_var (i := 3) (A := (tK (tK tI))) (a := two_98) rfl))) je_int))))) ja_nil))) ja_nil)) jk_nil) T.cl_Comparison T.M_Comparison_alike (ok_Comparison_alike T) (hr.mono (by decide)) T.b_Comparison_alike) je_bl))))))))) sc.nd)) sc.nd)) sc.nd)) sc.nd)) sc.nd)))) sc.nd)) sc.nd)) sc.nd)) sc.nd)) sc.nd)), ⟨Le.refl _, ⟨Same.refl _, (Par.cons ⟨v0, rfl, J.fr_in r0⟩ (Par.cons trivial (Par.cons trivial (Par.cons trivial (Par.cons trivial (Par.cons trivial (Par.cons trivial (Par.cons trivial (Par.cons trivial (Par.cons trivial (Par.cons trivial (Par.cons trivial Par.nil)))))))))))), List.nodup_nil, fun c hc => by cases hc⟩, hw⟩⟩
end
theorem all_mk {l : PySem.W.OpenLaw} {w : World} {K : PySem.W.Frag} {h : Heap} {mg : Str → Option Value} {fa : Addr} (X : K.In h) (G : h.Ns mainGlobals mg) (hfa : mg "law" = some (.ref fa))
    {aPlan : Addr}
    {aPairSearch : Addr}
    {aWalkTable : Addr}
    {aComparison : Addr}
    {tvPlan_MOST_ROOMS : Tok}
    {alaw_cell : Addr} {odlaw_cell anlaw_cell : Option Addr} {sllaw_cell : Array (Option Value)} {oclaw_cell kVlaw_cell dclaw_cell pmlaw_cell cdlaw_cell ctlaw_cell : Value}
    {alaw_row : Addr} {odlaw_row anlaw_row : Option Addr} {sllaw_row : Array (Option Value)} {oclaw_row kVlaw_row dclaw_row pmlaw_row cdlaw_row ctlaw_row : Value}
    {alaw_order : Addr} {odlaw_order anlaw_order : Option Addr} {sllaw_order : Array (Option Value)} {oclaw_order kVlaw_order dclaw_order pmlaw_order cdlaw_order ctlaw_order : Value}
    {alaw_moved : Addr} {odlaw_moved anlaw_moved : Option Addr} {sllaw_moved : Array (Option Value)} {oclaw_moved kVlaw_moved dclaw_moved pmlaw_moved cdlaw_moved ctlaw_moved : Value}
    {alaw_plan : Addr} {odlaw_plan anlaw_plan : Option Addr} {sllaw_plan : Array (Option Value)} {oclaw_plan kVlaw_plan dclaw_plan pmlaw_plan cdlaw_plan ctlaw_plan : Value}
    {alaw_second : Addr} {odlaw_second anlaw_second : Option Addr} {sllaw_second : Array (Option Value)} {oclaw_second kVlaw_second dclaw_second pmlaw_second cdlaw_second ctlaw_second : Value}
    {alaw_direction : Addr} {odlaw_direction anlaw_direction : Option Addr} {sllaw_direction : Array (Option Value)} {oclaw_direction kVlaw_direction dclaw_direction pmlaw_direction cdlaw_direction ctlaw_direction : Value}
    {ais_order : Addr} {odis_order anis_order : Option Addr} {slis_order : Array (Option Value)} {ocis_order kVis_order dcis_order pmis_order cdis_order ctis_order : Value}
    {aPlan___init__ : Addr} {odPlan___init__ anPlan___init__ : Option Addr} {slPlan___init__ : Array (Option Value)} {ocPlan___init__ kVPlan___init__ dcPlan___init__ pmPlan___init__ cdPlan___init__ ctPlan___init__ : Value}
    {aPairSearch__number_of : Addr} {odPairSearch__number_of anPairSearch__number_of : Option Addr} {slPairSearch__number_of : Array (Option Value)} {ocPairSearch__number_of kVPairSearch__number_of dcPairSearch__number_of pmPairSearch__number_of cdPairSearch__number_of ctPairSearch__number_of : Value}
    {aWalkTable_form : Addr} {odWalkTable_form anWalkTable_form : Option Addr} {slWalkTable_form : Array (Option Value)} {ocWalkTable_form kVWalkTable_form dcWalkTable_form pmWalkTable_form cdWalkTable_form ctWalkTable_form : Value}
    {pWalkTable_form : Addr} {restWalkTable_form : List Value}
    {aPairSearch__table_number : Addr} {odPairSearch__table_number anPairSearch__table_number : Option Addr} {slPairSearch__table_number : Array (Option Value)} {ocPairSearch__table_number kVPairSearch__table_number dcPairSearch__table_number pmPairSearch__table_number cdPairSearch__table_number ctPairSearch__table_number : Value}
    {aneighbors_after : Addr} {odneighbors_after anneighbors_after : Option Addr} {slneighbors_after : Array (Option Value)} {ocneighbors_after kVneighbors_after dcneighbors_after pmneighbors_after cdneighbors_after ctneighbors_after : Value}
    {acheck_direction : Addr} {odcheck_direction ancheck_direction : Option Addr} {slcheck_direction : Array (Option Value)} {occheck_direction kVcheck_direction dccheck_direction pmcheck_direction cdcheck_direction ctcheck_direction : Value}
    {acheck_in_tree : Addr} {odcheck_in_tree ancheck_in_tree : Option Addr} {slcheck_in_tree : Array (Option Value)} {occheck_in_tree kVcheck_in_tree dccheck_in_tree pmcheck_in_tree cdcheck_in_tree ctcheck_in_tree : Value}
    {asteps : Addr} {odsteps ansteps : Option Addr} {slsteps : Array (Option Value)} {ocsteps kVsteps dcsteps pmsteps cdsteps ctsteps : Value}
    {aneighbors : Addr} {odneighbors anneighbors : Option Addr} {slneighbors : Array (Option Value)} {ocneighbors kVneighbors dcneighbors pmneighbors cdneighbors ctneighbors : Value}
    {aPairSearch___init__ : Addr} {odPairSearch___init__ anPairSearch___init__ : Option Addr} {slPairSearch___init__ : Array (Option Value)} {ocPairSearch___init__ kVPairSearch___init__ dcPairSearch___init__ pmPairSearch___init__ cdPairSearch___init__ ctPairSearch___init__ : Value}
    {aside_by_side : Addr} {odside_by_side anside_by_side : Option Addr} {slside_by_side : Array (Option Value)} {ocside_by_side kVside_by_side dcside_by_side pmside_by_side cdside_by_side ctside_by_side : Value}
    {aPlan_right : Addr} {odPlan_right anPlan_right : Option Addr} {slPlan_right : Array (Option Value)} {ocPlan_right kVPlan_right dcPlan_right pmPlan_right cdPlan_right ctPlan_right : Value}
    {pPlan_right : Addr} {restPlan_right : List Value}
    {aPlan_above : Addr} {odPlan_above anPlan_above : Option Addr} {slPlan_above : Array (Option Value)} {ocPlan_above kVPlan_above dcPlan_above pmPlan_above cdPlan_above ctPlan_above : Value}
    {pPlan_above : Addr} {restPlan_above : List Value}
    {aWalkTable___init__ : Addr} {odWalkTable___init__ anWalkTable___init__ : Option Addr} {slWalkTable___init__ : Array (Option Value)} {ocWalkTable___init__ kVWalkTable___init__ dcWalkTable___init__ pmWalkTable___init__ cdWalkTable___init__ ctWalkTable___init__ : Value}
    {awithout_marks : Addr} {odwithout_marks anwithout_marks : Option Addr} {slwithout_marks : Array (Option Value)} {ocwithout_marks kVwithout_marks dcwithout_marks pmwithout_marks cdwithout_marks ctwithout_marks : Value}
    {aside_tables : Addr} {odside_tables anside_tables : Option Addr} {slside_tables : Array (Option Value)} {ocside_tables kVside_tables dcside_tables pmside_tables cdside_tables ctside_tables : Value}
    {aPairSearch__first_direction : Addr} {odPairSearch__first_direction anPairSearch__first_direction : Option Addr} {slPairSearch__first_direction : Array (Option Value)} {ocPairSearch__first_direction kVPairSearch__first_direction dcPairSearch__first_direction pmPairSearch__first_direction cdPairSearch__first_direction ctPairSearch__first_direction : Value}
    {aWalkTable_size : Addr} {odWalkTable_size anWalkTable_size : Option Addr} {slWalkTable_size : Array (Option Value)} {ocWalkTable_size kVWalkTable_size dcWalkTable_size pmWalkTable_size cdWalkTable_size ctWalkTable_size : Value}
    {pWalkTable_size : Addr} {restWalkTable_size : List Value}
    {aWalkTable___mul__ : Addr} {odWalkTable___mul__ anWalkTable___mul__ : Option Addr} {slWalkTable___mul__ : Array (Option Value)} {ocWalkTable___mul__ kVWalkTable___mul__ dcWalkTable___mul__ pmWalkTable___mul__ cdWalkTable___mul__ ctWalkTable___mul__ : Value}
    {aPairSearch__visit : Addr} {odPairSearch__visit anPairSearch__visit : Option Addr} {slPairSearch__visit : Array (Option Value)} {ocPairSearch__visit kVPairSearch__visit dcPairSearch__visit pmPairSearch__visit cdPairSearch__visit ctPairSearch__visit : Value}
    {aPairSearch_asked : Addr} {odPairSearch_asked anPairSearch_asked : Option Addr} {slPairSearch_asked : Array (Option Value)} {ocPairSearch_asked kVPairSearch_asked dcPairSearch_asked pmPairSearch_asked cdPairSearch_asked ctPairSearch_asked : Value}
    {aring_from : Addr} {odring_from anring_from : Option Addr} {slring_from : Array (Option Value)} {ocring_from kVring_from dcring_from pmring_from cdring_from ctring_from : Value}
    {arooms_in : Addr} {odrooms_in anrooms_in : Option Addr} {slrooms_in : Array (Option Value)} {ocrooms_in kVrooms_in dcrooms_in pmrooms_in cdrooms_in ctrooms_in : Value}
    {arings_of : Addr} {odrings_of anrings_of : Option Addr} {slrings_of : Array (Option Value)} {ocrings_of kVrings_of dcrings_of pmrings_of cdrings_of ctrings_of : Value}
    {arounds_of : Addr} {odrounds_of anrounds_of : Option Addr} {slrounds_of : Array (Option Value)} {ocrounds_of kVrounds_of dcrounds_of pmrounds_of cdrounds_of ctrounds_of : Value}
    {atwo_lists : Addr} {odtwo_lists antwo_lists : Option Addr} {sltwo_lists : Array (Option Value)} {octwo_lists kVtwo_lists dctwo_lists pmtwo_lists cdtwo_lists cttwo_lists : Value}
    {aPlan_size : Addr} {odPlan_size anPlan_size : Option Addr} {slPlan_size : Array (Option Value)} {ocPlan_size kVPlan_size dcPlan_size pmPlan_size cdPlan_size ctPlan_size : Value}
    {pPlan_size : Addr} {restPlan_size : List Value}
    {acopied : Addr} {odcopied ancopied : Option Addr} {slcopied : Array (Option Value)} {occopied kVcopied dccopied pmcopied cdcopied ctcopied : Value}
    {aComparison___init__ : Addr} {odComparison___init__ anComparison___init__ : Option Addr} {slComparison___init__ : Array (Option Value)} {ocComparison___init__ kVComparison___init__ dcComparison___init__ pmComparison___init__ cdComparison___init__ ctComparison___init__ : Value}
    {aPairSearch_rows : Addr} {odPairSearch_rows anPairSearch_rows : Option Addr} {slPairSearch_rows : Array (Option Value)} {ocPairSearch_rows kVPairSearch_rows dcPairSearch_rows pmPairSearch_rows cdPairSearch_rows ctPairSearch_rows : Value}
    {acompare kdcompare : Addr} {odcompare ancompare : Option Addr} {slcompare : Array (Option Value)} {occompare dccompare pmcompare cdcompare ctcompare : Value}
    {dtcompare : Tok}
    {aComparison_alike : Addr} {odComparison_alike anComparison_alike : Option Addr} {slComparison_alike : Array (Option Value)} {ocComparison_alike kVComparison_alike dcComparison_alike pmComparison_alike cdComparison_alike ctComparison_alike : Value}
    {pComparison_alike : Addr} {restComparison_alike : List Value}
    {aComparison_direction : Addr} {odComparison_direction anComparison_direction : Option Addr} {slComparison_direction : Array (Option Value)} {ocComparison_direction kVComparison_direction dcComparison_direction pmComparison_direction cdComparison_direction ctComparison_direction : Value}
    {pComparison_direction : Addr} {restComparison_direction : List Value}
    {aComparison_lists : Addr} {odComparison_lists anComparison_lists : Option Addr} {slComparison_lists : Array (Option Value)} {ocComparison_lists kVComparison_lists dcComparison_lists pmComparison_lists cdComparison_lists ctComparison_lists : Value}
    {pComparison_lists : Addr} {restComparison_lists : List Value}
    {alaw_rings : Addr} {odlaw_rings anlaw_rings : Option Addr} {sllaw_rings : Array (Option Value)} {oclaw_rings kVlaw_rings dclaw_rings pmlaw_rings cdlaw_rings ctlaw_rings : Value}
    {alaw_rounds : Addr} {odlaw_rounds anlaw_rounds : Option Addr} {sllaw_rounds : Array (Option Value)} {oclaw_rounds kVlaw_rounds dclaw_rounds pmlaw_rounds cdlaw_rounds ctlaw_rounds : Value}
    {alaw_sides : Addr} {odlaw_sides anlaw_sides : Option Addr} {sllaw_sides : Array (Option Value)} {oclaw_sides kVlaw_sides dclaw_sides pmlaw_sides cdlaw_sides ctlaw_sides : Value}
    {alaw_join : Addr} {odlaw_join anlaw_join : Option Addr} {sllaw_join : Array (Option Value)} {oclaw_join kVlaw_join dclaw_join pmlaw_join cdlaw_join ctlaw_join : Value}
    {alaw_power : Addr} {odlaw_power anlaw_power : Option Addr} {sllaw_power : Array (Option Value)} {oclaw_power kVlaw_power dclaw_power pmlaw_power cdlaw_power ctlaw_power : Value}
    {alaw_round : Addr} {odlaw_round anlaw_round : Option Addr} {sllaw_round : Array (Option Value)} {oclaw_round kVlaw_round dclaw_round pmlaw_round cdlaw_round ctlaw_round : Value}
    {alaw_two_rounds : Addr} {odlaw_two_rounds anlaw_two_rounds : Option Addr} {sllaw_two_rounds : Array (Option Value)} {oclaw_two_rounds kVlaw_two_rounds dclaw_two_rounds pmlaw_two_rounds cdlaw_two_rounds ctlaw_two_rounds : Value}
    {aComparison_certificate : Addr} {odComparison_certificate anComparison_certificate : Option Addr} {slComparison_certificate : Array (Option Value)} {ocComparison_certificate kVComparison_certificate dcComparison_certificate pmComparison_certificate cdComparison_certificate ctComparison_certificate : Value}
    {pComparison_certificate : Addr} {restComparison_certificate : List Value}
    {alaw_is_number : Addr} {odlaw_is_number anlaw_is_number : Option Addr} {sllaw_is_number : Array (Option Value)} {oclaw_is_number kVlaw_is_number dclaw_is_number pmlaw_is_number cdlaw_is_number ctlaw_is_number : Value}
    {alaw_is_direction : Addr} {odlaw_is_direction anlaw_is_direction : Option Addr} {sllaw_is_direction : Array (Option Value)} {oclaw_is_direction kVlaw_is_direction dclaw_is_direction pmlaw_is_direction cdlaw_is_direction ctlaw_is_direction : Value}
    {alaw_is_row : Addr} {odlaw_is_row anlaw_is_row : Option Addr} {sllaw_is_row : Array (Option Value)} {oclaw_is_row kVlaw_is_row dclaw_is_row pmlaw_is_row cdlaw_is_row ctlaw_is_row : Value}
    {alaw_is_lists : Addr} {odlaw_is_lists anlaw_is_lists : Option Addr} {sllaw_is_lists : Array (Option Value)} {oclaw_is_lists kVlaw_is_lists dclaw_is_lists pmlaw_is_lists cdlaw_is_lists ctlaw_is_lists : Value}
    {alaw_level : Addr} {odlaw_level anlaw_level : Option Addr} {sllaw_level : Array (Option Value)} {oclaw_level kVlaw_level dclaw_level pmlaw_level cdlaw_level ctlaw_level : Value}
    {alaw_before : Addr} {odlaw_before anlaw_before : Option Addr} {sllaw_before : Array (Option Value)} {oclaw_before kVlaw_before dclaw_before pmlaw_before cdlaw_before ctlaw_before : Value}
    {alaw_fits : Addr} {odlaw_fits anlaw_fits : Option Addr} {sllaw_fits : Array (Option Value)} {oclaw_fits kVlaw_fits dclaw_fits pmlaw_fits cdlaw_fits ctlaw_fits : Value}
    {alaw_wide : Addr} {odlaw_wide anlaw_wide : Option Addr} {sllaw_wide : Array (Option Value)} {oclaw_wide kVlaw_wide dclaw_wide pmlaw_wide cdlaw_wide ctlaw_wide : Value}
    {alaw : Addr} {odlaw anlaw : Option Addr} {sllaw : Array (Option Value)} {oclaw kVlaw dclaw pmlaw cdlaw ctlaw : Value}
    {tFLAT : Tok}
    {tSTEEP : Tok}
    (nPlan : PySem.W.nsIn K mainGlobals "Plan" = some (some (.ref aPlan)))
    (pgPlan : PySem.W.plainGet K aPlan Str.empty = true)
    (hdPlan : PySem.W.hasDictIn K aPlan = true)
    (poPlan : PySem.W.plainOver K aPlan = true)
    (saPlan : PySem.W.findIn K (.ref aPlan) "__setattr__" = some (some (.builtin "object.__setattr__")))
    (nPairSearch : PySem.W.nsIn K mainGlobals "PairSearch" = some (some (.ref aPairSearch)))
    (pgPairSearch : PySem.W.plainGet K aPairSearch Str.empty = true)
    (hdPairSearch : PySem.W.hasDictIn K aPairSearch = true)
    (poPairSearch : PySem.W.plainOver K aPairSearch = true)
    (saPairSearch : PySem.W.findIn K (.ref aPairSearch) "__setattr__" = some (some (.builtin "object.__setattr__")))
    (nWalkTable : PySem.W.nsIn K mainGlobals "WalkTable" = some (some (.ref aWalkTable)))
    (pgWalkTable : PySem.W.plainGet K aWalkTable Str.empty = true)
    (hdWalkTable : PySem.W.hasDictIn K aWalkTable = true)
    (poWalkTable : PySem.W.plainOver K aWalkTable = true)
    (saWalkTable : PySem.W.findIn K (.ref aWalkTable) "__setattr__" = some (some (.builtin "object.__setattr__")))
    (nComparison : PySem.W.nsIn K mainGlobals "Comparison" = some (some (.ref aComparison)))
    (pgComparison : PySem.W.plainGet K aComparison Str.empty = true)
    (hdComparison : PySem.W.hasDictIn K aComparison = true)
    (poComparison : PySem.W.plainOver K aComparison = true)
    (saComparison : PySem.W.findIn K (.ref aComparison) "__setattr__" = some (some (.builtin "object.__setattr__")))
    (mkPlan : PySem.W.makesIn K aPlan = true)
    (kcPlan : PySem.W.keepIn K (.ref aPlan) = true)
    (mkPairSearch : PySem.W.makesIn K aPairSearch = true)
    (kcPairSearch : PySem.W.keepIn K (.ref aPairSearch) = true)
    (mkWalkTable : PySem.W.makesIn K aWalkTable = true)
    (kcWalkTable : PySem.W.keepIn K (.ref aWalkTable) = true)
    (mkComparison : PySem.W.makesIn K aComparison = true)
    (kcComparison : PySem.W.keepIn K (.ref aComparison) = true)
    (nfPlan__right : PySem.W.findIn K (.ref aPlan) "_right" = some none)
    (nfPlan__above : PySem.W.findIn K (.ref aPlan) "_above" = some none)
    (nfPairSearch__tables : PySem.W.findIn K (.ref aPairSearch) "_tables" = some none)
    (nfPairSearch__table_numbers : PySem.W.findIn K (.ref aPairSearch) "_table_numbers" = some none)
    (nfPairSearch__pairs : PySem.W.findIn K (.ref aPairSearch) "_pairs" = some none)
    (nfPairSearch__pair_numbers : PySem.W.findIn K (.ref aPairSearch) "_pair_numbers" = some none)
    (nfPairSearch__neighbors : PySem.W.findIn K (.ref aPairSearch) "_neighbors" = some none)
    (nfPairSearch__children : PySem.W.findIn K (.ref aPairSearch) "_children" = some none)
    (nfPairSearch__from_the_sides : PySem.W.findIn K (.ref aPairSearch) "_from_the_sides" = some none)
    (nfWalkTable__ends : PySem.W.findIn K (.ref aWalkTable) "_ends" = some none)
    (nfWalkTable__marks : PySem.W.findIn K (.ref aWalkTable) "_marks" = some none)
    (nfComparison__certificate : PySem.W.findIn K (.ref aComparison) "_certificate" = some none)
    (nfComparison__direction : PySem.W.findIn K (.ref aComparison) "_direction" = some none)
    (nfComparison__lists : PySem.W.findIn K (.ref aComparison) "_lists" = some none)
    (rrPlan : PySem.W.readsIn K aPlan (.type "type") = true)
    (rgPlan : PySem.W.specialIn K (.ref aPlan) "__getattribute__" = some (some (.builtin "type.__getattribute__")))
    (sfWalkTable : PySem.W.selfFirst K aWalkTable = true)
    (cvPlan_MOST_ROOMS : PySem.W.findCls K (.ref aPlan) (.type "type") "MOST_ROOMS" = some (.val (.int (100) tvPlan_MOST_ROOMS)))
    (nlaw_cell : PySem.W.nsIn K mainGlobals "_law_cell" = some (some (.ref alaw_cell)))
    (llaw_cell : K.lookup alaw_cell = some ⟨oclaw_cell, odlaw_cell, .func (PySem.W.fnOf "_law_cell" "_law_cell" (defArgs s_law_cell) (defBody s_law_cell) (defScope s_law_cell) .none kVlaw_cell dclaw_cell pmlaw_cell anlaw_cell cdlaw_cell ctlaw_cell), sllaw_cell⟩)
    (claw_cell : PySem.W.codeIn K cdlaw_cell "_law_cell" = true)
    (klaw_cell : PySem.W.keepIn K (.ref alaw_cell) = true)
    (nlaw_row : PySem.W.nsIn K mainGlobals "_law_row" = some (some (.ref alaw_row)))
    (llaw_row : K.lookup alaw_row = some ⟨oclaw_row, odlaw_row, .func (PySem.W.fnOf "_law_row" "_law_row" (defArgs s_law_row) (defBody s_law_row) (defScope s_law_row) .none kVlaw_row dclaw_row pmlaw_row anlaw_row cdlaw_row ctlaw_row), sllaw_row⟩)
    (claw_row : PySem.W.codeIn K cdlaw_row "_law_row" = true)
    (klaw_row : PySem.W.keepIn K (.ref alaw_row) = true)
    (nlaw_order : PySem.W.nsIn K mainGlobals "_law_order" = some (some (.ref alaw_order)))
    (llaw_order : K.lookup alaw_order = some ⟨oclaw_order, odlaw_order, .func (PySem.W.fnOf "_law_order" "_law_order" (defArgs s_law_order) (defBody s_law_order) (defScope s_law_order) .none kVlaw_order dclaw_order pmlaw_order anlaw_order cdlaw_order ctlaw_order), sllaw_order⟩)
    (claw_order : PySem.W.codeIn K cdlaw_order "_law_order" = true)
    (klaw_order : PySem.W.keepIn K (.ref alaw_order) = true)
    (nlaw_moved : PySem.W.nsIn K mainGlobals "_law_moved" = some (some (.ref alaw_moved)))
    (llaw_moved : K.lookup alaw_moved = some ⟨oclaw_moved, odlaw_moved, .func (PySem.W.fnOf "_law_moved" "_law_moved" (defArgs s_law_moved) (defBody s_law_moved) (defScope s_law_moved) .none kVlaw_moved dclaw_moved pmlaw_moved anlaw_moved cdlaw_moved ctlaw_moved), sllaw_moved⟩)
    (claw_moved : PySem.W.codeIn K cdlaw_moved "_law_moved" = true)
    (klaw_moved : PySem.W.keepIn K (.ref alaw_moved) = true)
    (nlaw_plan : PySem.W.nsIn K mainGlobals "_law_plan" = some (some (.ref alaw_plan)))
    (llaw_plan : K.lookup alaw_plan = some ⟨oclaw_plan, odlaw_plan, .func (PySem.W.fnOf "_law_plan" "_law_plan" (defArgs s_law_plan) (defBody s_law_plan) (defScope s_law_plan) .none kVlaw_plan dclaw_plan pmlaw_plan anlaw_plan cdlaw_plan ctlaw_plan), sllaw_plan⟩)
    (claw_plan : PySem.W.codeIn K cdlaw_plan "_law_plan" = true)
    (klaw_plan : PySem.W.keepIn K (.ref alaw_plan) = true)
    (nlaw_second : PySem.W.nsIn K mainGlobals "_law_second" = some (some (.ref alaw_second)))
    (llaw_second : K.lookup alaw_second = some ⟨oclaw_second, odlaw_second, .func (PySem.W.fnOf "_law_second" "_law_second" (defArgs s_law_second) (defBody s_law_second) (defScope s_law_second) .none kVlaw_second dclaw_second pmlaw_second anlaw_second cdlaw_second ctlaw_second), sllaw_second⟩)
    (claw_second : PySem.W.codeIn K cdlaw_second "_law_second" = true)
    (klaw_second : PySem.W.keepIn K (.ref alaw_second) = true)
    (nlaw_direction : PySem.W.nsIn K mainGlobals "_law_direction" = some (some (.ref alaw_direction)))
    (llaw_direction : K.lookup alaw_direction = some ⟨oclaw_direction, odlaw_direction, .func (PySem.W.fnOf "_law_direction" "_law_direction" (defArgs s_law_direction) (defBody s_law_direction) (defScope s_law_direction) .none kVlaw_direction dclaw_direction pmlaw_direction anlaw_direction cdlaw_direction ctlaw_direction), sllaw_direction⟩)
    (claw_direction : PySem.W.codeIn K cdlaw_direction "_law_direction" = true)
    (klaw_direction : PySem.W.keepIn K (.ref alaw_direction) = true)
    (nis_order : PySem.W.nsIn K mainGlobals "is_order" = some (some (.ref ais_order)))
    (lis_order : K.lookup ais_order = some ⟨ocis_order, odis_order, .func (PySem.W.fnOf "is_order" "is_order" (defArgs s_is_order) (defBody s_is_order) (defScope s_is_order) .none kVis_order dcis_order pmis_order anis_order cdis_order ctis_order), slis_order⟩)
    (cis_order : PySem.W.codeIn K cdis_order "is_order" = true)
    (kis_order : PySem.W.keepIn K (.ref ais_order) = true)
    (nPlan___init__ : PySem.W.findIn K (.ref aPlan) "__init__" = some (some (.ref aPlan___init__)))
    (iPlan___init__ : PySem.W.isFn K (.ref aPlan___init__) = true)
    (lPlan___init__ : K.lookup aPlan___init__ = some ⟨ocPlan___init__, odPlan___init__, .func (PySem.W.fnOf "__init__" "Plan.__init__" (defArgs s_Plan___init__) (defBody s_Plan___init__) (defScope s_Plan___init__) .none kVPlan___init__ dcPlan___init__ pmPlan___init__ anPlan___init__ cdPlan___init__ ctPlan___init__), slPlan___init__⟩)
    (cPlan___init__ : PySem.W.codeIn K cdPlan___init__ "Plan.__init__" = true)
    (kPlan___init__ : PySem.W.keepIn K (.ref aPlan___init__) = true)
    (nPairSearch__number_of : PySem.W.findIn K (.ref aPairSearch) "_number_of" = some (some (.ref aPairSearch__number_of)))
    (iPairSearch__number_of : PySem.W.isFn K (.ref aPairSearch__number_of) = true)
    (lPairSearch__number_of : K.lookup aPairSearch__number_of = some ⟨ocPairSearch__number_of, odPairSearch__number_of, .func (PySem.W.fnOf "_number_of" "PairSearch._number_of" (defArgs s_PairSearch__number_of) (defBody s_PairSearch__number_of) (defScope s_PairSearch__number_of) .none kVPairSearch__number_of dcPairSearch__number_of pmPairSearch__number_of anPairSearch__number_of cdPairSearch__number_of ctPairSearch__number_of), slPairSearch__number_of⟩)
    (cPairSearch__number_of : PySem.W.codeIn K cdPairSearch__number_of "PairSearch._number_of" = true)
    (kPairSearch__number_of : PySem.W.keepIn K (.ref aPairSearch__number_of) = true)
    (nWalkTable_form : PySem.W.findIn K (.ref aWalkTable) "form" = some (some (.ref pWalkTable_form)))
    (geWalkTable_form : PySem.W.specialIn K (.ref pWalkTable_form) "__get__" = some (some (.builtin "property.__get__")))
    (tkWalkTable_form : PySem.W.takesIn K (.ref pWalkTable_form) = some true)
    (rcWalkTable_form : PySem.W.recIn K pWalkTable_form "property" = some (.ref aWalkTable_form :: restWalkTable_form))
    (lWalkTable_form : K.lookup aWalkTable_form = some ⟨ocWalkTable_form, odWalkTable_form, .func (PySem.W.fnOf "form" "WalkTable.form" (defArgs s_WalkTable_form) (defBody s_WalkTable_form) (defScope s_WalkTable_form) .none kVWalkTable_form dcWalkTable_form pmWalkTable_form anWalkTable_form cdWalkTable_form ctWalkTable_form), slWalkTable_form⟩)
    (cWalkTable_form : PySem.W.codeIn K cdWalkTable_form "WalkTable.form" = true)
    (kWalkTable_form : PySem.W.keepIn K (.ref aWalkTable_form) = true)
    (nPairSearch__table_number : PySem.W.findIn K (.ref aPairSearch) "_table_number" = some (some (.ref aPairSearch__table_number)))
    (iPairSearch__table_number : PySem.W.isFn K (.ref aPairSearch__table_number) = true)
    (lPairSearch__table_number : K.lookup aPairSearch__table_number = some ⟨ocPairSearch__table_number, odPairSearch__table_number, .func (PySem.W.fnOf "_table_number" "PairSearch._table_number" (defArgs s_PairSearch__table_number) (defBody s_PairSearch__table_number) (defScope s_PairSearch__table_number) .none kVPairSearch__table_number dcPairSearch__table_number pmPairSearch__table_number anPairSearch__table_number cdPairSearch__table_number ctPairSearch__table_number), slPairSearch__table_number⟩)
    (cPairSearch__table_number : PySem.W.codeIn K cdPairSearch__table_number "PairSearch._table_number" = true)
    (kPairSearch__table_number : PySem.W.keepIn K (.ref aPairSearch__table_number) = true)
    (nneighbors_after : PySem.W.nsIn K mainGlobals "_neighbors_after" = some (some (.ref aneighbors_after)))
    (lneighbors_after : K.lookup aneighbors_after = some ⟨ocneighbors_after, odneighbors_after, .func (PySem.W.fnOf "_neighbors_after" "_neighbors_after" (defArgs s_neighbors_after) (defBody s_neighbors_after) (defScope s_neighbors_after) .none kVneighbors_after dcneighbors_after pmneighbors_after anneighbors_after cdneighbors_after ctneighbors_after), slneighbors_after⟩)
    (cneighbors_after : PySem.W.codeIn K cdneighbors_after "_neighbors_after" = true)
    (kneighbors_after : PySem.W.keepIn K (.ref aneighbors_after) = true)
    (ncheck_direction : PySem.W.nsIn K mainGlobals "check_direction" = some (some (.ref acheck_direction)))
    (lcheck_direction : K.lookup acheck_direction = some ⟨occheck_direction, odcheck_direction, .func (PySem.W.fnOf "check_direction" "check_direction" (defArgs s_check_direction) (defBody s_check_direction) (defScope s_check_direction) .none kVcheck_direction dccheck_direction pmcheck_direction ancheck_direction cdcheck_direction ctcheck_direction), slcheck_direction⟩)
    (ccheck_direction : PySem.W.codeIn K cdcheck_direction "check_direction" = true)
    (kcheck_direction : PySem.W.keepIn K (.ref acheck_direction) = true)
    (ncheck_in_tree : PySem.W.nsIn K mainGlobals "check_in_tree" = some (some (.ref acheck_in_tree)))
    (lcheck_in_tree : K.lookup acheck_in_tree = some ⟨occheck_in_tree, odcheck_in_tree, .func (PySem.W.fnOf "check_in_tree" "check_in_tree" (defArgs s_check_in_tree) (defBody s_check_in_tree) (defScope s_check_in_tree) .none kVcheck_in_tree dccheck_in_tree pmcheck_in_tree ancheck_in_tree cdcheck_in_tree ctcheck_in_tree), slcheck_in_tree⟩)
    (ccheck_in_tree : PySem.W.codeIn K cdcheck_in_tree "check_in_tree" = true)
    (kcheck_in_tree : PySem.W.keepIn K (.ref acheck_in_tree) = true)
    (nsteps : PySem.W.nsIn K mainGlobals "steps" = some (some (.ref asteps)))
    (lsteps : K.lookup asteps = some ⟨ocsteps, odsteps, .func (PySem.W.fnOf "steps" "steps" (defArgs s_steps) (defBody s_steps) (defScope s_steps) .none kVsteps dcsteps pmsteps ansteps cdsteps ctsteps), slsteps⟩)
    (csteps : PySem.W.codeIn K cdsteps "steps" = true)
    (ksteps : PySem.W.keepIn K (.ref asteps) = true)
    (nneighbors : PySem.W.nsIn K mainGlobals "neighbors" = some (some (.ref aneighbors)))
    (lneighbors : K.lookup aneighbors = some ⟨ocneighbors, odneighbors, .func (PySem.W.fnOf "neighbors" "neighbors" (defArgs s_neighbors) (defBody s_neighbors) (defScope s_neighbors) .none kVneighbors dcneighbors pmneighbors anneighbors cdneighbors ctneighbors), slneighbors⟩)
    (cneighbors : PySem.W.codeIn K cdneighbors "neighbors" = true)
    (kneighbors : PySem.W.keepIn K (.ref aneighbors) = true)
    (nPairSearch___init__ : PySem.W.findIn K (.ref aPairSearch) "__init__" = some (some (.ref aPairSearch___init__)))
    (iPairSearch___init__ : PySem.W.isFn K (.ref aPairSearch___init__) = true)
    (lPairSearch___init__ : K.lookup aPairSearch___init__ = some ⟨ocPairSearch___init__, odPairSearch___init__, .func (PySem.W.fnOf "__init__" "PairSearch.__init__" (defArgs s_PairSearch___init__) (defBody s_PairSearch___init__) (defScope s_PairSearch___init__) .none kVPairSearch___init__ dcPairSearch___init__ pmPairSearch___init__ anPairSearch___init__ cdPairSearch___init__ ctPairSearch___init__), slPairSearch___init__⟩)
    (cPairSearch___init__ : PySem.W.codeIn K cdPairSearch___init__ "PairSearch.__init__" = true)
    (kPairSearch___init__ : PySem.W.keepIn K (.ref aPairSearch___init__) = true)
    (nside_by_side : PySem.W.nsIn K mainGlobals "side_by_side" = some (some (.ref aside_by_side)))
    (lside_by_side : K.lookup aside_by_side = some ⟨ocside_by_side, odside_by_side, .func (PySem.W.fnOf "side_by_side" "side_by_side" (defArgs s_side_by_side) (defBody s_side_by_side) (defScope s_side_by_side) .none kVside_by_side dcside_by_side pmside_by_side anside_by_side cdside_by_side ctside_by_side), slside_by_side⟩)
    (cside_by_side : PySem.W.codeIn K cdside_by_side "side_by_side" = true)
    (kside_by_side : PySem.W.keepIn K (.ref aside_by_side) = true)
    (nPlan_right : PySem.W.findIn K (.ref aPlan) "right" = some (some (.ref pPlan_right)))
    (gePlan_right : PySem.W.specialIn K (.ref pPlan_right) "__get__" = some (some (.builtin "property.__get__")))
    (tkPlan_right : PySem.W.takesIn K (.ref pPlan_right) = some true)
    (rcPlan_right : PySem.W.recIn K pPlan_right "property" = some (.ref aPlan_right :: restPlan_right))
    (lPlan_right : K.lookup aPlan_right = some ⟨ocPlan_right, odPlan_right, .func (PySem.W.fnOf "right" "Plan.right" (defArgs s_Plan_right) (defBody s_Plan_right) (defScope s_Plan_right) .none kVPlan_right dcPlan_right pmPlan_right anPlan_right cdPlan_right ctPlan_right), slPlan_right⟩)
    (cPlan_right : PySem.W.codeIn K cdPlan_right "Plan.right" = true)
    (kPlan_right : PySem.W.keepIn K (.ref aPlan_right) = true)
    (nPlan_above : PySem.W.findIn K (.ref aPlan) "above" = some (some (.ref pPlan_above)))
    (gePlan_above : PySem.W.specialIn K (.ref pPlan_above) "__get__" = some (some (.builtin "property.__get__")))
    (tkPlan_above : PySem.W.takesIn K (.ref pPlan_above) = some true)
    (rcPlan_above : PySem.W.recIn K pPlan_above "property" = some (.ref aPlan_above :: restPlan_above))
    (lPlan_above : K.lookup aPlan_above = some ⟨ocPlan_above, odPlan_above, .func (PySem.W.fnOf "above" "Plan.above" (defArgs s_Plan_above) (defBody s_Plan_above) (defScope s_Plan_above) .none kVPlan_above dcPlan_above pmPlan_above anPlan_above cdPlan_above ctPlan_above), slPlan_above⟩)
    (cPlan_above : PySem.W.codeIn K cdPlan_above "Plan.above" = true)
    (kPlan_above : PySem.W.keepIn K (.ref aPlan_above) = true)
    (nWalkTable___init__ : PySem.W.findIn K (.ref aWalkTable) "__init__" = some (some (.ref aWalkTable___init__)))
    (iWalkTable___init__ : PySem.W.isFn K (.ref aWalkTable___init__) = true)
    (lWalkTable___init__ : K.lookup aWalkTable___init__ = some ⟨ocWalkTable___init__, odWalkTable___init__, .func (PySem.W.fnOf "__init__" "WalkTable.__init__" (defArgs s_WalkTable___init__) (defBody s_WalkTable___init__) (defScope s_WalkTable___init__) .none kVWalkTable___init__ dcWalkTable___init__ pmWalkTable___init__ anWalkTable___init__ cdWalkTable___init__ ctWalkTable___init__), slWalkTable___init__⟩)
    (cWalkTable___init__ : PySem.W.codeIn K cdWalkTable___init__ "WalkTable.__init__" = true)
    (kWalkTable___init__ : PySem.W.keepIn K (.ref aWalkTable___init__) = true)
    (nwithout_marks : PySem.W.nsIn K mainGlobals "_without_marks" = some (some (.ref awithout_marks)))
    (lwithout_marks : K.lookup awithout_marks = some ⟨ocwithout_marks, odwithout_marks, .func (PySem.W.fnOf "_without_marks" "_without_marks" (defArgs s_without_marks) (defBody s_without_marks) (defScope s_without_marks) .none kVwithout_marks dcwithout_marks pmwithout_marks anwithout_marks cdwithout_marks ctwithout_marks), slwithout_marks⟩)
    (cwithout_marks : PySem.W.codeIn K cdwithout_marks "_without_marks" = true)
    (kwithout_marks : PySem.W.keepIn K (.ref awithout_marks) = true)
    (nside_tables : PySem.W.nsIn K mainGlobals "_side_tables" = some (some (.ref aside_tables)))
    (lside_tables : K.lookup aside_tables = some ⟨ocside_tables, odside_tables, .func (PySem.W.fnOf "_side_tables" "_side_tables" (defArgs s_side_tables) (defBody s_side_tables) (defScope s_side_tables) .none kVside_tables dcside_tables pmside_tables anside_tables cdside_tables ctside_tables), slside_tables⟩)
    (cside_tables : PySem.W.codeIn K cdside_tables "_side_tables" = true)
    (kside_tables : PySem.W.keepIn K (.ref aside_tables) = true)
    (nPairSearch__first_direction : PySem.W.findIn K (.ref aPairSearch) "_first_direction" = some (some (.ref aPairSearch__first_direction)))
    (iPairSearch__first_direction : PySem.W.isFn K (.ref aPairSearch__first_direction) = true)
    (lPairSearch__first_direction : K.lookup aPairSearch__first_direction = some ⟨ocPairSearch__first_direction, odPairSearch__first_direction, .func (PySem.W.fnOf "_first_direction" "PairSearch._first_direction" (defArgs s_PairSearch__first_direction) (defBody s_PairSearch__first_direction) (defScope s_PairSearch__first_direction) .none kVPairSearch__first_direction dcPairSearch__first_direction pmPairSearch__first_direction anPairSearch__first_direction cdPairSearch__first_direction ctPairSearch__first_direction), slPairSearch__first_direction⟩)
    (cPairSearch__first_direction : PySem.W.codeIn K cdPairSearch__first_direction "PairSearch._first_direction" = true)
    (kPairSearch__first_direction : PySem.W.keepIn K (.ref aPairSearch__first_direction) = true)
    (nWalkTable_size : PySem.W.findIn K (.ref aWalkTable) "size" = some (some (.ref pWalkTable_size)))
    (geWalkTable_size : PySem.W.specialIn K (.ref pWalkTable_size) "__get__" = some (some (.builtin "property.__get__")))
    (tkWalkTable_size : PySem.W.takesIn K (.ref pWalkTable_size) = some true)
    (rcWalkTable_size : PySem.W.recIn K pWalkTable_size "property" = some (.ref aWalkTable_size :: restWalkTable_size))
    (lWalkTable_size : K.lookup aWalkTable_size = some ⟨ocWalkTable_size, odWalkTable_size, .func (PySem.W.fnOf "size" "WalkTable.size" (defArgs s_WalkTable_size) (defBody s_WalkTable_size) (defScope s_WalkTable_size) .none kVWalkTable_size dcWalkTable_size pmWalkTable_size anWalkTable_size cdWalkTable_size ctWalkTable_size), slWalkTable_size⟩)
    (cWalkTable_size : PySem.W.codeIn K cdWalkTable_size "WalkTable.size" = true)
    (kWalkTable_size : PySem.W.keepIn K (.ref aWalkTable_size) = true)
    (nWalkTable___mul__ : PySem.W.findIn K (.ref aWalkTable) "__mul__" = some (some (.ref aWalkTable___mul__)))
    (iWalkTable___mul__ : PySem.W.isFn K (.ref aWalkTable___mul__) = true)
    (lWalkTable___mul__ : K.lookup aWalkTable___mul__ = some ⟨ocWalkTable___mul__, odWalkTable___mul__, .func (PySem.W.fnOf "__mul__" "WalkTable.__mul__" (defArgs s_WalkTable___mul__) (defBody s_WalkTable___mul__) (defScope s_WalkTable___mul__) .none kVWalkTable___mul__ dcWalkTable___mul__ pmWalkTable___mul__ anWalkTable___mul__ cdWalkTable___mul__ ctWalkTable___mul__), slWalkTable___mul__⟩)
    (cWalkTable___mul__ : PySem.W.codeIn K cdWalkTable___mul__ "WalkTable.__mul__" = true)
    (kWalkTable___mul__ : PySem.W.keepIn K (.ref aWalkTable___mul__) = true)
    (nPairSearch__visit : PySem.W.findIn K (.ref aPairSearch) "_visit" = some (some (.ref aPairSearch__visit)))
    (iPairSearch__visit : PySem.W.isFn K (.ref aPairSearch__visit) = true)
    (lPairSearch__visit : K.lookup aPairSearch__visit = some ⟨ocPairSearch__visit, odPairSearch__visit, .func (PySem.W.fnOf "_visit" "PairSearch._visit" (defArgs s_PairSearch__visit) (defBody s_PairSearch__visit) (defScope s_PairSearch__visit) .none kVPairSearch__visit dcPairSearch__visit pmPairSearch__visit anPairSearch__visit cdPairSearch__visit ctPairSearch__visit), slPairSearch__visit⟩)
    (cPairSearch__visit : PySem.W.codeIn K cdPairSearch__visit "PairSearch._visit" = true)
    (kPairSearch__visit : PySem.W.keepIn K (.ref aPairSearch__visit) = true)
    (nPairSearch_asked : PySem.W.findIn K (.ref aPairSearch) "asked" = some (some (.ref aPairSearch_asked)))
    (iPairSearch_asked : PySem.W.isFn K (.ref aPairSearch_asked) = true)
    (lPairSearch_asked : K.lookup aPairSearch_asked = some ⟨ocPairSearch_asked, odPairSearch_asked, .func (PySem.W.fnOf "asked" "PairSearch.asked" (defArgs s_PairSearch_asked) (defBody s_PairSearch_asked) (defScope s_PairSearch_asked) .none kVPairSearch_asked dcPairSearch_asked pmPairSearch_asked anPairSearch_asked cdPairSearch_asked ctPairSearch_asked), slPairSearch_asked⟩)
    (cPairSearch_asked : PySem.W.codeIn K cdPairSearch_asked "PairSearch.asked" = true)
    (kPairSearch_asked : PySem.W.keepIn K (.ref aPairSearch_asked) = true)
    (nring_from : PySem.W.nsIn K mainGlobals "_ring_from" = some (some (.ref aring_from)))
    (lring_from : K.lookup aring_from = some ⟨ocring_from, odring_from, .func (PySem.W.fnOf "_ring_from" "_ring_from" (defArgs s_ring_from) (defBody s_ring_from) (defScope s_ring_from) .none kVring_from dcring_from pmring_from anring_from cdring_from ctring_from), slring_from⟩)
    (cring_from : PySem.W.codeIn K cdring_from "_ring_from" = true)
    (kring_from : PySem.W.keepIn K (.ref aring_from) = true)
    (nrooms_in : PySem.W.nsIn K mainGlobals "rooms_in" = some (some (.ref arooms_in)))
    (lrooms_in : K.lookup arooms_in = some ⟨ocrooms_in, odrooms_in, .func (PySem.W.fnOf "rooms_in" "rooms_in" (defArgs s_rooms_in) (defBody s_rooms_in) (defScope s_rooms_in) .none kVrooms_in dcrooms_in pmrooms_in anrooms_in cdrooms_in ctrooms_in), slrooms_in⟩)
    (crooms_in : PySem.W.codeIn K cdrooms_in "rooms_in" = true)
    (krooms_in : PySem.W.keepIn K (.ref arooms_in) = true)
    (nrings_of : PySem.W.nsIn K mainGlobals "rings_of" = some (some (.ref arings_of)))
    (lrings_of : K.lookup arings_of = some ⟨ocrings_of, odrings_of, .func (PySem.W.fnOf "rings_of" "rings_of" (defArgs s_rings_of) (defBody s_rings_of) (defScope s_rings_of) .none kVrings_of dcrings_of pmrings_of anrings_of cdrings_of ctrings_of), slrings_of⟩)
    (crings_of : PySem.W.codeIn K cdrings_of "rings_of" = true)
    (krings_of : PySem.W.keepIn K (.ref arings_of) = true)
    (nrounds_of : PySem.W.nsIn K mainGlobals "_rounds_of" = some (some (.ref arounds_of)))
    (lrounds_of : K.lookup arounds_of = some ⟨ocrounds_of, odrounds_of, .func (PySem.W.fnOf "_rounds_of" "_rounds_of" (defArgs s_rounds_of) (defBody s_rounds_of) (defScope s_rounds_of) .none kVrounds_of dcrounds_of pmrounds_of anrounds_of cdrounds_of ctrounds_of), slrounds_of⟩)
    (crounds_of : PySem.W.codeIn K cdrounds_of "_rounds_of" = true)
    (krounds_of : PySem.W.keepIn K (.ref arounds_of) = true)
    (ntwo_lists : PySem.W.nsIn K mainGlobals "_two_lists" = some (some (.ref atwo_lists)))
    (ltwo_lists : K.lookup atwo_lists = some ⟨octwo_lists, odtwo_lists, .func (PySem.W.fnOf "_two_lists" "_two_lists" (defArgs s_two_lists) (defBody s_two_lists) (defScope s_two_lists) .none kVtwo_lists dctwo_lists pmtwo_lists antwo_lists cdtwo_lists cttwo_lists), sltwo_lists⟩)
    (ctwo_lists : PySem.W.codeIn K cdtwo_lists "_two_lists" = true)
    (ktwo_lists : PySem.W.keepIn K (.ref atwo_lists) = true)
    (nPlan_size : PySem.W.findIn K (.ref aPlan) "size" = some (some (.ref pPlan_size)))
    (gePlan_size : PySem.W.specialIn K (.ref pPlan_size) "__get__" = some (some (.builtin "property.__get__")))
    (tkPlan_size : PySem.W.takesIn K (.ref pPlan_size) = some true)
    (rcPlan_size : PySem.W.recIn K pPlan_size "property" = some (.ref aPlan_size :: restPlan_size))
    (lPlan_size : K.lookup aPlan_size = some ⟨ocPlan_size, odPlan_size, .func (PySem.W.fnOf "size" "Plan.size" (defArgs s_Plan_size) (defBody s_Plan_size) (defScope s_Plan_size) .none kVPlan_size dcPlan_size pmPlan_size anPlan_size cdPlan_size ctPlan_size), slPlan_size⟩)
    (cPlan_size : PySem.W.codeIn K cdPlan_size "Plan.size" = true)
    (kPlan_size : PySem.W.keepIn K (.ref aPlan_size) = true)
    (ncopied : PySem.W.nsIn K mainGlobals "copied" = some (some (.ref acopied)))
    (lcopied : K.lookup acopied = some ⟨occopied, odcopied, .func (PySem.W.fnOf "copied" "copied" (defArgs s_copied) (defBody s_copied) (defScope s_copied) .none kVcopied dccopied pmcopied ancopied cdcopied ctcopied), slcopied⟩)
    (ccopied : PySem.W.codeIn K cdcopied "copied" = true)
    (kcopied : PySem.W.keepIn K (.ref acopied) = true)
    (nComparison___init__ : PySem.W.findIn K (.ref aComparison) "__init__" = some (some (.ref aComparison___init__)))
    (iComparison___init__ : PySem.W.isFn K (.ref aComparison___init__) = true)
    (lComparison___init__ : K.lookup aComparison___init__ = some ⟨ocComparison___init__, odComparison___init__, .func (PySem.W.fnOf "__init__" "Comparison.__init__" (defArgs s_Comparison___init__) (defBody s_Comparison___init__) (defScope s_Comparison___init__) .none kVComparison___init__ dcComparison___init__ pmComparison___init__ anComparison___init__ cdComparison___init__ ctComparison___init__), slComparison___init__⟩)
    (cComparison___init__ : PySem.W.codeIn K cdComparison___init__ "Comparison.__init__" = true)
    (kComparison___init__ : PySem.W.keepIn K (.ref aComparison___init__) = true)
    (nPairSearch_rows : PySem.W.findIn K (.ref aPairSearch) "rows" = some (some (.ref aPairSearch_rows)))
    (iPairSearch_rows : PySem.W.isFn K (.ref aPairSearch_rows) = true)
    (lPairSearch_rows : K.lookup aPairSearch_rows = some ⟨ocPairSearch_rows, odPairSearch_rows, .func (PySem.W.fnOf "rows" "PairSearch.rows" (defArgs s_PairSearch_rows) (defBody s_PairSearch_rows) (defScope s_PairSearch_rows) .none kVPairSearch_rows dcPairSearch_rows pmPairSearch_rows anPairSearch_rows cdPairSearch_rows ctPairSearch_rows), slPairSearch_rows⟩)
    (cPairSearch_rows : PySem.W.codeIn K cdPairSearch_rows "PairSearch.rows" = true)
    (kPairSearch_rows : PySem.W.keepIn K (.ref aPairSearch_rows) = true)
    (ncompare : PySem.W.nsIn K mainGlobals "compare" = some (some (.ref acompare)))
    (lcompare : K.lookup acompare = some ⟨occompare, odcompare, .func (PySem.W.fnOf "compare" "compare" (defArgs s_compare) (defBody s_compare) (defScope s_compare) .none (.ref kdcompare) dccompare pmcompare ancompare cdcompare ctcompare), slcompare⟩)
    (ccompare : PySem.W.codeIn K cdcompare "compare" = true)
    (kcompare : PySem.W.keepIn K (.ref acompare) = true)
    (dkcompare : PySem.W.nsIn K kdcompare "limit" = some (some (.int 200000 dtcompare)))
    (nComparison_alike : PySem.W.findIn K (.ref aComparison) "alike" = some (some (.ref pComparison_alike)))
    (geComparison_alike : PySem.W.specialIn K (.ref pComparison_alike) "__get__" = some (some (.builtin "property.__get__")))
    (tkComparison_alike : PySem.W.takesIn K (.ref pComparison_alike) = some true)
    (rcComparison_alike : PySem.W.recIn K pComparison_alike "property" = some (.ref aComparison_alike :: restComparison_alike))
    (lComparison_alike : K.lookup aComparison_alike = some ⟨ocComparison_alike, odComparison_alike, .func (PySem.W.fnOf "alike" "Comparison.alike" (defArgs s_Comparison_alike) (defBody s_Comparison_alike) (defScope s_Comparison_alike) .none kVComparison_alike dcComparison_alike pmComparison_alike anComparison_alike cdComparison_alike ctComparison_alike), slComparison_alike⟩)
    (cComparison_alike : PySem.W.codeIn K cdComparison_alike "Comparison.alike" = true)
    (kComparison_alike : PySem.W.keepIn K (.ref aComparison_alike) = true)
    (nComparison_direction : PySem.W.findIn K (.ref aComparison) "direction" = some (some (.ref pComparison_direction)))
    (geComparison_direction : PySem.W.specialIn K (.ref pComparison_direction) "__get__" = some (some (.builtin "property.__get__")))
    (tkComparison_direction : PySem.W.takesIn K (.ref pComparison_direction) = some true)
    (rcComparison_direction : PySem.W.recIn K pComparison_direction "property" = some (.ref aComparison_direction :: restComparison_direction))
    (lComparison_direction : K.lookup aComparison_direction = some ⟨ocComparison_direction, odComparison_direction, .func (PySem.W.fnOf "direction" "Comparison.direction" (defArgs s_Comparison_direction) (defBody s_Comparison_direction) (defScope s_Comparison_direction) .none kVComparison_direction dcComparison_direction pmComparison_direction anComparison_direction cdComparison_direction ctComparison_direction), slComparison_direction⟩)
    (cComparison_direction : PySem.W.codeIn K cdComparison_direction "Comparison.direction" = true)
    (kComparison_direction : PySem.W.keepIn K (.ref aComparison_direction) = true)
    (nComparison_lists : PySem.W.findIn K (.ref aComparison) "lists" = some (some (.ref pComparison_lists)))
    (geComparison_lists : PySem.W.specialIn K (.ref pComparison_lists) "__get__" = some (some (.builtin "property.__get__")))
    (tkComparison_lists : PySem.W.takesIn K (.ref pComparison_lists) = some true)
    (rcComparison_lists : PySem.W.recIn K pComparison_lists "property" = some (.ref aComparison_lists :: restComparison_lists))
    (lComparison_lists : K.lookup aComparison_lists = some ⟨ocComparison_lists, odComparison_lists, .func (PySem.W.fnOf "lists" "Comparison.lists" (defArgs s_Comparison_lists) (defBody s_Comparison_lists) (defScope s_Comparison_lists) .none kVComparison_lists dcComparison_lists pmComparison_lists anComparison_lists cdComparison_lists ctComparison_lists), slComparison_lists⟩)
    (cComparison_lists : PySem.W.codeIn K cdComparison_lists "Comparison.lists" = true)
    (kComparison_lists : PySem.W.keepIn K (.ref aComparison_lists) = true)
    (nlaw_rings : PySem.W.nsIn K mainGlobals "_law_rings" = some (some (.ref alaw_rings)))
    (llaw_rings : K.lookup alaw_rings = some ⟨oclaw_rings, odlaw_rings, .func (PySem.W.fnOf "_law_rings" "_law_rings" (defArgs s_law_rings) (defBody s_law_rings) (defScope s_law_rings) .none kVlaw_rings dclaw_rings pmlaw_rings anlaw_rings cdlaw_rings ctlaw_rings), sllaw_rings⟩)
    (claw_rings : PySem.W.codeIn K cdlaw_rings "_law_rings" = true)
    (klaw_rings : PySem.W.keepIn K (.ref alaw_rings) = true)
    (nlaw_rounds : PySem.W.nsIn K mainGlobals "_law_rounds" = some (some (.ref alaw_rounds)))
    (llaw_rounds : K.lookup alaw_rounds = some ⟨oclaw_rounds, odlaw_rounds, .func (PySem.W.fnOf "_law_rounds" "_law_rounds" (defArgs s_law_rounds) (defBody s_law_rounds) (defScope s_law_rounds) .none kVlaw_rounds dclaw_rounds pmlaw_rounds anlaw_rounds cdlaw_rounds ctlaw_rounds), sllaw_rounds⟩)
    (claw_rounds : PySem.W.codeIn K cdlaw_rounds "_law_rounds" = true)
    (klaw_rounds : PySem.W.keepIn K (.ref alaw_rounds) = true)
    (nlaw_sides : PySem.W.nsIn K mainGlobals "_law_sides" = some (some (.ref alaw_sides)))
    (llaw_sides : K.lookup alaw_sides = some ⟨oclaw_sides, odlaw_sides, .func (PySem.W.fnOf "_law_sides" "_law_sides" (defArgs s_law_sides) (defBody s_law_sides) (defScope s_law_sides) .none kVlaw_sides dclaw_sides pmlaw_sides anlaw_sides cdlaw_sides ctlaw_sides), sllaw_sides⟩)
    (claw_sides : PySem.W.codeIn K cdlaw_sides "_law_sides" = true)
    (klaw_sides : PySem.W.keepIn K (.ref alaw_sides) = true)
    (nlaw_join : PySem.W.nsIn K mainGlobals "_law_join" = some (some (.ref alaw_join)))
    (llaw_join : K.lookup alaw_join = some ⟨oclaw_join, odlaw_join, .func (PySem.W.fnOf "_law_join" "_law_join" (defArgs s_law_join) (defBody s_law_join) (defScope s_law_join) .none kVlaw_join dclaw_join pmlaw_join anlaw_join cdlaw_join ctlaw_join), sllaw_join⟩)
    (claw_join : PySem.W.codeIn K cdlaw_join "_law_join" = true)
    (klaw_join : PySem.W.keepIn K (.ref alaw_join) = true)
    (nlaw_power : PySem.W.nsIn K mainGlobals "_law_power" = some (some (.ref alaw_power)))
    (llaw_power : K.lookup alaw_power = some ⟨oclaw_power, odlaw_power, .func (PySem.W.fnOf "_law_power" "_law_power" (defArgs s_law_power) (defBody s_law_power) (defScope s_law_power) .none kVlaw_power dclaw_power pmlaw_power anlaw_power cdlaw_power ctlaw_power), sllaw_power⟩)
    (claw_power : PySem.W.codeIn K cdlaw_power "_law_power" = true)
    (klaw_power : PySem.W.keepIn K (.ref alaw_power) = true)
    (nlaw_round : PySem.W.nsIn K mainGlobals "_law_round" = some (some (.ref alaw_round)))
    (llaw_round : K.lookup alaw_round = some ⟨oclaw_round, odlaw_round, .func (PySem.W.fnOf "_law_round" "_law_round" (defArgs s_law_round) (defBody s_law_round) (defScope s_law_round) .none kVlaw_round dclaw_round pmlaw_round anlaw_round cdlaw_round ctlaw_round), sllaw_round⟩)
    (claw_round : PySem.W.codeIn K cdlaw_round "_law_round" = true)
    (klaw_round : PySem.W.keepIn K (.ref alaw_round) = true)
    (nlaw_two_rounds : PySem.W.nsIn K mainGlobals "_law_two_rounds" = some (some (.ref alaw_two_rounds)))
    (llaw_two_rounds : K.lookup alaw_two_rounds = some ⟨oclaw_two_rounds, odlaw_two_rounds, .func (PySem.W.fnOf "_law_two_rounds" "_law_two_rounds" (defArgs s_law_two_rounds) (defBody s_law_two_rounds) (defScope s_law_two_rounds) .none kVlaw_two_rounds dclaw_two_rounds pmlaw_two_rounds anlaw_two_rounds cdlaw_two_rounds ctlaw_two_rounds), sllaw_two_rounds⟩)
    (claw_two_rounds : PySem.W.codeIn K cdlaw_two_rounds "_law_two_rounds" = true)
    (klaw_two_rounds : PySem.W.keepIn K (.ref alaw_two_rounds) = true)
    (nComparison_certificate : PySem.W.findIn K (.ref aComparison) "certificate" = some (some (.ref pComparison_certificate)))
    (geComparison_certificate : PySem.W.specialIn K (.ref pComparison_certificate) "__get__" = some (some (.builtin "property.__get__")))
    (tkComparison_certificate : PySem.W.takesIn K (.ref pComparison_certificate) = some true)
    (rcComparison_certificate : PySem.W.recIn K pComparison_certificate "property" = some (.ref aComparison_certificate :: restComparison_certificate))
    (lComparison_certificate : K.lookup aComparison_certificate = some ⟨ocComparison_certificate, odComparison_certificate, .func (PySem.W.fnOf "certificate" "Comparison.certificate" (defArgs s_Comparison_certificate) (defBody s_Comparison_certificate) (defScope s_Comparison_certificate) .none kVComparison_certificate dcComparison_certificate pmComparison_certificate anComparison_certificate cdComparison_certificate ctComparison_certificate), slComparison_certificate⟩)
    (cComparison_certificate : PySem.W.codeIn K cdComparison_certificate "Comparison.certificate" = true)
    (kComparison_certificate : PySem.W.keepIn K (.ref aComparison_certificate) = true)
    (nlaw_is_number : PySem.W.nsIn K mainGlobals "_law_is_number" = some (some (.ref alaw_is_number)))
    (llaw_is_number : K.lookup alaw_is_number = some ⟨oclaw_is_number, odlaw_is_number, .func (PySem.W.fnOf "_law_is_number" "_law_is_number" (defArgs s_law_is_number) (defBody s_law_is_number) (defScope s_law_is_number) .none kVlaw_is_number dclaw_is_number pmlaw_is_number anlaw_is_number cdlaw_is_number ctlaw_is_number), sllaw_is_number⟩)
    (claw_is_number : PySem.W.codeIn K cdlaw_is_number "_law_is_number" = true)
    (klaw_is_number : PySem.W.keepIn K (.ref alaw_is_number) = true)
    (nlaw_is_direction : PySem.W.nsIn K mainGlobals "_law_is_direction" = some (some (.ref alaw_is_direction)))
    (llaw_is_direction : K.lookup alaw_is_direction = some ⟨oclaw_is_direction, odlaw_is_direction, .func (PySem.W.fnOf "_law_is_direction" "_law_is_direction" (defArgs s_law_is_direction) (defBody s_law_is_direction) (defScope s_law_is_direction) .none kVlaw_is_direction dclaw_is_direction pmlaw_is_direction anlaw_is_direction cdlaw_is_direction ctlaw_is_direction), sllaw_is_direction⟩)
    (claw_is_direction : PySem.W.codeIn K cdlaw_is_direction "_law_is_direction" = true)
    (klaw_is_direction : PySem.W.keepIn K (.ref alaw_is_direction) = true)
    (nlaw_is_row : PySem.W.nsIn K mainGlobals "_law_is_row" = some (some (.ref alaw_is_row)))
    (llaw_is_row : K.lookup alaw_is_row = some ⟨oclaw_is_row, odlaw_is_row, .func (PySem.W.fnOf "_law_is_row" "_law_is_row" (defArgs s_law_is_row) (defBody s_law_is_row) (defScope s_law_is_row) .none kVlaw_is_row dclaw_is_row pmlaw_is_row anlaw_is_row cdlaw_is_row ctlaw_is_row), sllaw_is_row⟩)
    (claw_is_row : PySem.W.codeIn K cdlaw_is_row "_law_is_row" = true)
    (klaw_is_row : PySem.W.keepIn K (.ref alaw_is_row) = true)
    (nlaw_is_lists : PySem.W.nsIn K mainGlobals "_law_is_lists" = some (some (.ref alaw_is_lists)))
    (llaw_is_lists : K.lookup alaw_is_lists = some ⟨oclaw_is_lists, odlaw_is_lists, .func (PySem.W.fnOf "_law_is_lists" "_law_is_lists" (defArgs s_law_is_lists) (defBody s_law_is_lists) (defScope s_law_is_lists) .none kVlaw_is_lists dclaw_is_lists pmlaw_is_lists anlaw_is_lists cdlaw_is_lists ctlaw_is_lists), sllaw_is_lists⟩)
    (claw_is_lists : PySem.W.codeIn K cdlaw_is_lists "_law_is_lists" = true)
    (klaw_is_lists : PySem.W.keepIn K (.ref alaw_is_lists) = true)
    (nlaw_level : PySem.W.nsIn K mainGlobals "_law_level" = some (some (.ref alaw_level)))
    (llaw_level : K.lookup alaw_level = some ⟨oclaw_level, odlaw_level, .func (PySem.W.fnOf "_law_level" "_law_level" (defArgs s_law_level) (defBody s_law_level) (defScope s_law_level) .none kVlaw_level dclaw_level pmlaw_level anlaw_level cdlaw_level ctlaw_level), sllaw_level⟩)
    (claw_level : PySem.W.codeIn K cdlaw_level "_law_level" = true)
    (klaw_level : PySem.W.keepIn K (.ref alaw_level) = true)
    (nlaw_before : PySem.W.nsIn K mainGlobals "_law_before" = some (some (.ref alaw_before)))
    (llaw_before : K.lookup alaw_before = some ⟨oclaw_before, odlaw_before, .func (PySem.W.fnOf "_law_before" "_law_before" (defArgs s_law_before) (defBody s_law_before) (defScope s_law_before) .none kVlaw_before dclaw_before pmlaw_before anlaw_before cdlaw_before ctlaw_before), sllaw_before⟩)
    (claw_before : PySem.W.codeIn K cdlaw_before "_law_before" = true)
    (klaw_before : PySem.W.keepIn K (.ref alaw_before) = true)
    (nlaw_fits : PySem.W.nsIn K mainGlobals "_law_fits" = some (some (.ref alaw_fits)))
    (llaw_fits : K.lookup alaw_fits = some ⟨oclaw_fits, odlaw_fits, .func (PySem.W.fnOf "_law_fits" "_law_fits" (defArgs s_law_fits) (defBody s_law_fits) (defScope s_law_fits) .none kVlaw_fits dclaw_fits pmlaw_fits anlaw_fits cdlaw_fits ctlaw_fits), sllaw_fits⟩)
    (claw_fits : PySem.W.codeIn K cdlaw_fits "_law_fits" = true)
    (klaw_fits : PySem.W.keepIn K (.ref alaw_fits) = true)
    (nlaw_wide : PySem.W.nsIn K mainGlobals "_law_wide" = some (some (.ref alaw_wide)))
    (llaw_wide : K.lookup alaw_wide = some ⟨oclaw_wide, odlaw_wide, .func (PySem.W.fnOf "_law_wide" "_law_wide" (defArgs s_law_wide) (defBody s_law_wide) (defScope s_law_wide) .none kVlaw_wide dclaw_wide pmlaw_wide anlaw_wide cdlaw_wide ctlaw_wide), sllaw_wide⟩)
    (claw_wide : PySem.W.codeIn K cdlaw_wide "_law_wide" = true)
    (klaw_wide : PySem.W.keepIn K (.ref alaw_wide) = true)
    (nlaw : PySem.W.nsIn K mainGlobals "law" = some (some (.ref alaw)))
    (llaw : K.lookup alaw = some ⟨oclaw, odlaw, .func (PySem.W.fnOf "law" "law" (defArgs s_law) (defBody s_law) (defScope s_law) .none kVlaw dclaw pmlaw anlaw cdlaw ctlaw), sllaw⟩)
    (claw : PySem.W.codeIn K cdlaw "law" = true)
    (klaw : PySem.W.keepIn K (.ref alaw) = true)
    (zbool : PySem.W.nsIn K mainGlobals "bool" = some none)
    (zgcd : PySem.W.nsIn K mainGlobals "gcd" = some (some (.builtin "math.gcd")))
    (zint : PySem.W.nsIn K mainGlobals "int" = some none)
    (zisinstance : PySem.W.nsIn K mainGlobals "isinstance" = some none)
    (zlen : PySem.W.nsIn K mainGlobals "len" = some none)
    (zlist : PySem.W.nsIn K mainGlobals "list" = some none)
    (zmax : PySem.W.nsIn K mainGlobals "max" = some none)
    (zrange : PySem.W.nsIn K mainGlobals "range" = some none)
    (zset : PySem.W.nsIn K mainGlobals "set" = some none)
    (zsorted : PySem.W.nsIn K mainGlobals "sorted" = some none)
    (ztuple : PySem.W.nsIn K mainGlobals "tuple" = some none)
    (zzip : PySem.W.nsIn K mainGlobals "zip" = some none)
    (yFLAT : PySem.W.nsIn K mainGlobals "FLAT" = some (some (.str "flat" tFLAT)))
    (ySTEEP : PySem.W.nsIn K mainGlobals "STEEP" = some (some (.str "steep" tSTEEP))) :
    ∃ fd : FuncData, (∀ (s : Shared) (v : Value), BindsTo s fd ⟨[v], []⟩ [("_law_script", v)]) ∧ ∀ base : Heap, K.In base → base.Ns mainGlobals mg → FnOk l.prog w K mg base CX0 8 fa fd ["_law_script"] (J.spLaw K) := by
  have e := hfa.symm.trans (PySem.W.mg_of X G nlaw)
  cases e
  exact ⟨PySem.W.fnOf "law" "law" (defArgs s_law) (defBody s_law) (defScope s_law) .none kVlaw dclaw pmlaw anlaw cdlaw ctlaw, fun s v => .of_eq rfl, fun base _ _ => (ok_law (Pg := l.prog) (w := w) (base := base) (⟨_, ⟨pgPlan, hdPlan, poPlan, saPlan⟩, PySem.W.mg_of X G nPlan, _, ⟨pgPairSearch, hdPairSearch, poPairSearch, saPairSearch⟩, PySem.W.mg_of X G nPairSearch, _, ⟨pgWalkTable, hdWalkTable, poWalkTable, saWalkTable⟩, PySem.W.mg_of X G nWalkTable, _, ⟨pgComparison, hdComparison, poComparison, saComparison⟩, PySem.W.mg_of X G nComparison, nfPlan__right, nfPlan__above, nfPairSearch__tables, nfPairSearch__table_numbers, nfPairSearch__pairs, nfPairSearch__pair_numbers, nfPairSearch__neighbors, nfPairSearch__children, nfPairSearch__from_the_sides, nfWalkTable__ends, nfWalkTable__marks, nfComparison__certificate, nfComparison__direction, nfComparison__lists, ⟨rrPlan, rgPlan⟩, sfWalkTable, _, ⟨cvPlan_MOST_ROOMS, ⟨_, rfl⟩⟩, _, _, fun_mk (st := s_law_cell) llaw_cell claw_cell klaw_cell, (fun_mk (st := s_law_cell) llaw_cell claw_cell klaw_cell).binds (ps := ["_law_script", "_law_k"]) fun _ _ _ _ _ _ us hl => match us, hl with | [_, _], _ => rfl, PySem.W.mg_of X G nlaw_cell, _, _, fun_mk (st := s_law_row) llaw_row claw_row klaw_row, (fun_mk (st := s_law_row) llaw_row claw_row klaw_row).binds (ps := ["_law_cell_here", "_law_count"]) fun _ _ _ _ _ _ us hl => match us, hl with | [_, _], _ => rfl, PySem.W.mg_of X G nlaw_row, _, _, fun_mk (st := s_law_order) llaw_order claw_order klaw_order, (fun_mk (st := s_law_order) llaw_order claw_order klaw_order).binds (ps := ["_law_cell_here", "_law_size"]) fun _ _ _ _ _ _ us hl => match us, hl with | [_, _], _ => rfl, PySem.W.mg_of X G nlaw_order, _, _, fun_mk (st := s_law_moved) llaw_moved claw_moved klaw_moved, (fun_mk (st := s_law_moved) llaw_moved claw_moved klaw_moved).binds (ps := ["_law_lists", "_law_numbers"]) fun _ _ _ _ _ _ us hl => match us, hl with | [_, _], _ => rfl, PySem.W.mg_of X G nlaw_moved, _, _, fun_mk (st := s_law_plan) llaw_plan claw_plan klaw_plan, (fun_mk (st := s_law_plan) llaw_plan claw_plan klaw_plan).binds (ps := ["_law_one", "_law_two", "_law_three"]) fun _ _ _ _ _ _ us hl => match us, hl with | [_, _, _], _ => rfl, PySem.W.mg_of X G nlaw_plan, _, _, fun_mk (st := s_law_second) llaw_second claw_second klaw_second, (fun_mk (st := s_law_second) llaw_second claw_second klaw_second).binds (ps := ["_law_script", "_law_lists"]) fun _ _ _ _ _ _ us hl => match us, hl with | [_, _], _ => rfl, PySem.W.mg_of X G nlaw_second, _, _, fun_mk (st := s_law_direction) llaw_direction claw_direction klaw_direction, (fun_mk (st := s_law_direction) llaw_direction claw_direction klaw_direction).binds (ps := ["_law_one", "_law_two", "_law_least"]) fun _ _ _ _ _ _ us hl => match us, hl with | [_, _, _], _ => rfl, PySem.W.mg_of X G nlaw_direction, _, _, fun_mk (st := s_is_order) lis_order cis_order kis_order, (fun_mk (st := s_is_order) lis_order cis_order kis_order).binds (ps := ["rooms", "size"]) fun _ _ _ _ _ _ us hl => match us, hl with | [_, _], _ => rfl, PySem.W.mg_of X G nis_order, _, _, fun_mk (st := s_Plan___init__) lPlan___init__ cPlan___init__ kPlan___init__, (fun_mk (st := s_Plan___init__) lPlan___init__ cPlan___init__ kPlan___init__).binds (ps := ["self", "right", "above"]) fun _ _ _ _ _ _ us hl => match us, hl with | [_, _, _], _ => rfl, ⟨mkPlan, nPlan___init__, iPlan___init__, kcPlan⟩, _, _, fun_mk (st := s_PairSearch__number_of) lPairSearch__number_of cPairSearch__number_of kPairSearch__number_of, (fun_mk (st := s_PairSearch__number_of) lPairSearch__number_of cPairSearch__number_of kPairSearch__number_of).binds (ps := ["self", "pair", "beside"]) fun _ _ _ _ _ _ us hl => match us, hl with | [_, _, _], _ => rfl, ⟨nPairSearch__number_of, iPairSearch__number_of, kPairSearch__number_of⟩, _, _, fun_mk (st := s_WalkTable_form) lWalkTable_form cWalkTable_form kWalkTable_form, (fun_mk (st := s_WalkTable_form) lWalkTable_form cWalkTable_form kWalkTable_form).binds (ps := ["self"]) fun _ _ _ _ _ _ us hl => match us, hl with | [_], _ => rfl, _, ⟨nWalkTable_form, geWalkTable_form, tkWalkTable_form, _, rcWalkTable_form⟩, _, _, fun_mk (st := s_PairSearch__table_number) lPairSearch__table_number cPairSearch__table_number kPairSearch__table_number, (fun_mk (st := s_PairSearch__table_number) lPairSearch__table_number cPairSearch__table_number kPairSearch__table_number).binds (ps := ["self", "table"]) fun _ _ _ _ _ _ us hl => match us, hl with | [_, _], _ => rfl, ⟨nPairSearch__table_number, iPairSearch__table_number, kPairSearch__table_number⟩, _, _, fun_mk (st := s_neighbors_after) lneighbors_after cneighbors_after kneighbors_after, (fun_mk (st := s_neighbors_after) lneighbors_after cneighbors_after kneighbors_after).binds (ps := ["runs"]) fun _ _ _ _ _ _ us hl => match us, hl with | [_], _ => rfl, PySem.W.mg_of X G nneighbors_after, _, _, fun_mk (st := s_check_direction) lcheck_direction ccheck_direction kcheck_direction, (fun_mk (st := s_check_direction) lcheck_direction ccheck_direction kcheck_direction).binds (ps := ["p", "q"]) fun _ _ _ _ _ _ us hl => match us, hl with | [_, _], _ => rfl, PySem.W.mg_of X G ncheck_direction, _, _, fun_mk (st := s_check_in_tree) lcheck_in_tree ccheck_in_tree kcheck_in_tree, (fun_mk (st := s_check_in_tree) lcheck_in_tree ccheck_in_tree kcheck_in_tree).binds (ps := ["p", "q"]) fun _ _ _ _ _ _ us hl => match us, hl with | [_, _], _ => rfl, PySem.W.mg_of X G ncheck_in_tree, _, _, fun_mk (st := s_steps) lsteps csteps ksteps, (fun_mk (st := s_steps) lsteps csteps ksteps).binds (ps := ["p", "q"]) fun _ _ _ _ _ _ us hl => match us, hl with | [_, _], _ => rfl, PySem.W.mg_of X G nsteps, _, _, fun_mk (st := s_neighbors) lneighbors cneighbors kneighbors, (fun_mk (st := s_neighbors) lneighbors cneighbors kneighbors).binds (ps := ["p", "q"]) fun _ _ _ _ _ _ us hl => match us, hl with | [_, _], _ => rfl, PySem.W.mg_of X G nneighbors, _, _, fun_mk (st := s_PairSearch___init__) lPairSearch___init__ cPairSearch___init__ kPairSearch___init__, (fun_mk (st := s_PairSearch___init__) lPairSearch___init__ cPairSearch___init__ kPairSearch___init__).binds (ps := ["self", "pair", "under"]) fun _ _ _ _ _ _ us hl => match us, hl with | [_, _, _], _ => rfl, ⟨mkPairSearch, nPairSearch___init__, iPairSearch___init__, kcPairSearch⟩, _, _, fun_mk (st := s_side_by_side) lside_by_side cside_by_side kside_by_side, (fun_mk (st := s_side_by_side) lside_by_side cside_by_side kside_by_side).binds (ps := ["one", "two"]) fun _ _ _ _ _ _ us hl => match us, hl with | [_, _], _ => rfl, PySem.W.mg_of X G nside_by_side, _, _, fun_mk (st := s_Plan_right) lPlan_right cPlan_right kPlan_right, (fun_mk (st := s_Plan_right) lPlan_right cPlan_right kPlan_right).binds (ps := ["self"]) fun _ _ _ _ _ _ us hl => match us, hl with | [_], _ => rfl, _, ⟨nPlan_right, gePlan_right, tkPlan_right, _, rcPlan_right⟩, _, _, fun_mk (st := s_Plan_above) lPlan_above cPlan_above kPlan_above, (fun_mk (st := s_Plan_above) lPlan_above cPlan_above kPlan_above).binds (ps := ["self"]) fun _ _ _ _ _ _ us hl => match us, hl with | [_], _ => rfl, _, ⟨nPlan_above, gePlan_above, tkPlan_above, _, rcPlan_above⟩, _, _, fun_mk (st := s_WalkTable___init__) lWalkTable___init__ cWalkTable___init__ kWalkTable___init__, (fun_mk (st := s_WalkTable___init__) lWalkTable___init__ cWalkTable___init__ kWalkTable___init__).binds (ps := ["self", "ends", "marks"]) fun _ _ _ _ _ _ us hl => match us, hl with | [_, _, _], _ => rfl, ⟨mkWalkTable, nWalkTable___init__, iWalkTable___init__, kcWalkTable⟩, _, _, fun_mk (st := s_without_marks) lwithout_marks cwithout_marks kwithout_marks, (fun_mk (st := s_without_marks) lwithout_marks cwithout_marks kwithout_marks).binds (ps := ["ends"]) fun _ _ _ _ _ _ us hl => match us, hl with | [_], _ => rfl, PySem.W.mg_of X G nwithout_marks, _, _, fun_mk (st := s_side_tables) lside_tables cside_tables kside_tables, (fun_mk (st := s_side_tables) lside_tables cside_tables kside_tables).binds (ps := ["plan", "other"]) fun _ _ _ _ _ _ us hl => match us, hl with | [_, _], _ => rfl, PySem.W.mg_of X G nside_tables, _, _, fun_mk (st := s_PairSearch__first_direction) lPairSearch__first_direction cPairSearch__first_direction kPairSearch__first_direction, (fun_mk (st := s_PairSearch__first_direction) lPairSearch__first_direction cPairSearch__first_direction kPairSearch__first_direction).binds (ps := ["self", "number"]) fun _ _ _ _ _ _ us hl => match us, hl with | [_, _], _ => rfl, ⟨nPairSearch__first_direction, iPairSearch__first_direction, kPairSearch__first_direction⟩, _, _, fun_mk (st := s_WalkTable_size) lWalkTable_size cWalkTable_size kWalkTable_size, (fun_mk (st := s_WalkTable_size) lWalkTable_size cWalkTable_size kWalkTable_size).binds (ps := ["self"]) fun _ _ _ _ _ _ us hl => match us, hl with | [_], _ => rfl, _, ⟨nWalkTable_size, geWalkTable_size, tkWalkTable_size, _, rcWalkTable_size⟩, _, _, fun_mk (st := s_WalkTable___mul__) lWalkTable___mul__ cWalkTable___mul__ kWalkTable___mul__, (fun_mk (st := s_WalkTable___mul__) lWalkTable___mul__ cWalkTable___mul__ kWalkTable___mul__).binds (ps := ["self", "other"]) fun _ _ _ _ _ _ us hl => match us, hl with | [_, _], _ => rfl, ⟨nWalkTable___mul__, iWalkTable___mul__, kWalkTable___mul__⟩, _, _, fun_mk (st := s_PairSearch__visit) lPairSearch__visit cPairSearch__visit kPairSearch__visit, (fun_mk (st := s_PairSearch__visit) lPairSearch__visit cPairSearch__visit kPairSearch__visit).binds (ps := ["self", "number"]) fun _ _ _ _ _ _ us hl => match us, hl with | [_, _], _ => rfl, ⟨nPairSearch__visit, iPairSearch__visit, kPairSearch__visit⟩, _, _, fun_mk (st := s_PairSearch_asked) lPairSearch_asked cPairSearch_asked kPairSearch_asked, (fun_mk (st := s_PairSearch_asked) lPairSearch_asked cPairSearch_asked kPairSearch_asked).binds (ps := ["self", "limit"]) fun _ _ _ _ _ _ us hl => match us, hl with | [_, _], _ => rfl, ⟨nPairSearch_asked, iPairSearch_asked, kPairSearch_asked⟩, _, _, fun_mk (st := s_ring_from) lring_from cring_from kring_from, (fun_mk (st := s_ring_from) lring_from cring_from kring_from).binds (ps := ["start", "ends"]) fun _ _ _ _ _ _ us hl => match us, hl with | [_, _], _ => rfl, PySem.W.mg_of X G nring_from, _, _, fun_mk (st := s_rooms_in) lrooms_in crooms_in krooms_in, (fun_mk (st := s_rooms_in) lrooms_in crooms_in krooms_in).binds (ps := ["mark"]) fun _ _ _ _ _ _ us hl => match us, hl with | [_], _ => rfl, PySem.W.mg_of X G nrooms_in, _, _, fun_mk (st := s_rings_of) lrings_of crings_of krings_of, (fun_mk (st := s_rings_of) lrings_of crings_of krings_of).binds (ps := ["table"]) fun _ _ _ _ _ _ us hl => match us, hl with | [_], _ => rfl, PySem.W.mg_of X G nrings_of, _, _, fun_mk (st := s_rounds_of) lrounds_of crounds_of krounds_of, (fun_mk (st := s_rounds_of) lrounds_of crounds_of krounds_of).binds (ps := ["rings"]) fun _ _ _ _ _ _ us hl => match us, hl with | [_], _ => rfl, PySem.W.mg_of X G nrounds_of, _, _, fun_mk (st := s_two_lists) ltwo_lists ctwo_lists ktwo_lists, (fun_mk (st := s_two_lists) ltwo_lists ctwo_lists ktwo_lists).binds (ps := ["table", "size"]) fun _ _ _ _ _ _ us hl => match us, hl with | [_, _], _ => rfl, PySem.W.mg_of X G ntwo_lists, _, _, fun_mk (st := s_Plan_size) lPlan_size cPlan_size kPlan_size, (fun_mk (st := s_Plan_size) lPlan_size cPlan_size kPlan_size).binds (ps := ["self"]) fun _ _ _ _ _ _ us hl => match us, hl with | [_], _ => rfl, _, ⟨nPlan_size, gePlan_size, tkPlan_size, _, rcPlan_size⟩, _, _, fun_mk (st := s_copied) lcopied ccopied kcopied, (fun_mk (st := s_copied) lcopied ccopied kcopied).binds (ps := ["entries"]) fun _ _ _ _ _ _ us hl => match us, hl with | [_], _ => rfl, PySem.W.mg_of X G ncopied, _, _, fun_mk (st := s_Comparison___init__) lComparison___init__ cComparison___init__ kComparison___init__, (fun_mk (st := s_Comparison___init__) lComparison___init__ cComparison___init__ kComparison___init__).binds (ps := ["self", "certificate", "direction", "lists"]) fun _ _ _ _ _ _ us hl => match us, hl with | [_, _, _, _], _ => rfl, ⟨mkComparison, nComparison___init__, iComparison___init__, kcComparison⟩, _, _, fun_mk (st := s_PairSearch_rows) lPairSearch_rows cPairSearch_rows kPairSearch_rows, (fun_mk (st := s_PairSearch_rows) lPairSearch_rows cPairSearch_rows kPairSearch_rows).binds (ps := ["self"]) fun _ _ _ _ _ _ us hl => match us, hl with | [_], _ => rfl, ⟨nPairSearch_rows, iPairSearch_rows, kPairSearch_rows⟩, _, _, L2.funD_one (v1 := .int 200000) (st := s_compare) lcompare ccompare kcompare dkcompare ⟨_, rfl⟩, (by obtain ⟨ds, q1, q2⟩ := (L2.funD_one (v1 := .int 200000) (st := s_compare) lcompare ccompare kcompare dkcompare ⟨_, rfl⟩).binds0 (ps := ["plan", "other", "limit"]) 2 (by simp) rfl (fun D doc pm an cdv ct us ks hu hk => match us, ks, hu, hk with | [_, _], [_], _, _ => ⟨_, _, _, _, _, _, rfl, rfl, rfl⟩); exact ⟨ds, q1, q2⟩), PySem.W.mg_of X G ncompare, _, _, fun_mk (st := s_Comparison_alike) lComparison_alike cComparison_alike kComparison_alike, (fun_mk (st := s_Comparison_alike) lComparison_alike cComparison_alike kComparison_alike).binds (ps := ["self"]) fun _ _ _ _ _ _ us hl => match us, hl with | [_], _ => rfl, _, ⟨nComparison_alike, geComparison_alike, tkComparison_alike, _, rcComparison_alike⟩, _, _, fun_mk (st := s_Comparison_direction) lComparison_direction cComparison_direction kComparison_direction, (fun_mk (st := s_Comparison_direction) lComparison_direction cComparison_direction kComparison_direction).binds (ps := ["self"]) fun _ _ _ _ _ _ us hl => match us, hl with | [_], _ => rfl, _, ⟨nComparison_direction, geComparison_direction, tkComparison_direction, _, rcComparison_direction⟩, _, _, fun_mk (st := s_Comparison_lists) lComparison_lists cComparison_lists kComparison_lists, (fun_mk (st := s_Comparison_lists) lComparison_lists cComparison_lists kComparison_lists).binds (ps := ["self"]) fun _ _ _ _ _ _ us hl => match us, hl with | [_], _ => rfl, _, ⟨nComparison_lists, geComparison_lists, tkComparison_lists, _, rcComparison_lists⟩, _, _, fun_mk (st := s_law_rings) llaw_rings claw_rings klaw_rings, (fun_mk (st := s_law_rings) llaw_rings claw_rings klaw_rings).binds (ps := ["_law_table"]) fun _ _ _ _ _ _ us hl => match us, hl with | [_], _ => rfl, PySem.W.mg_of X G nlaw_rings, _, _, fun_mk (st := s_law_rounds) llaw_rounds claw_rounds klaw_rounds, (fun_mk (st := s_law_rounds) llaw_rounds claw_rounds klaw_rounds).binds (ps := ["_law_table"]) fun _ _ _ _ _ _ us hl => match us, hl with | [_], _ => rfl, PySem.W.mg_of X G nlaw_rounds, _, _, fun_mk (st := s_law_sides) llaw_sides claw_sides klaw_sides, (fun_mk (st := s_law_sides) llaw_sides claw_sides klaw_sides).binds (ps := ["_law_right", "_law_above"]) fun _ _ _ _ _ _ us hl => match us, hl with | [_, _], _ => rfl, PySem.W.mg_of X G nlaw_sides, _, _, fun_mk (st := s_law_join) llaw_join claw_join klaw_join, (fun_mk (st := s_law_join) llaw_join claw_join klaw_join).binds (ps := ["_law_one", "_law_two"]) fun _ _ _ _ _ _ us hl => match us, hl with | [_, _], _ => rfl, PySem.W.mg_of X G nlaw_join, _, _, fun_mk (st := s_law_power) llaw_power claw_power klaw_power, (fun_mk (st := s_law_power) llaw_power claw_power klaw_power).binds (ps := ["_law_table", "_law_count"]) fun _ _ _ _ _ _ us hl => match us, hl with | [_, _], _ => rfl, PySem.W.mg_of X G nlaw_power, _, _, fun_mk (st := s_law_round) llaw_round claw_round klaw_round, (fun_mk (st := s_law_round) llaw_round claw_round klaw_round).binds (ps := ["_law_right", "_law_above", "_law_p", "_law_q"]) fun _ _ _ _ _ _ us hl => match us, hl with | [_, _, _, _], _ => rfl, PySem.W.mg_of X G nlaw_round, _, _, fun_mk (st := s_law_two_rounds) llaw_two_rounds claw_two_rounds klaw_two_rounds, (fun_mk (st := s_law_two_rounds) llaw_two_rounds claw_two_rounds klaw_two_rounds).binds (ps := ["_law_one", "_law_two", "_law_pair"]) fun _ _ _ _ _ _ us hl => match us, hl with | [_, _, _], _ => rfl, PySem.W.mg_of X G nlaw_two_rounds, _, _, fun_mk (st := s_Comparison_certificate) lComparison_certificate cComparison_certificate kComparison_certificate, (fun_mk (st := s_Comparison_certificate) lComparison_certificate cComparison_certificate kComparison_certificate).binds (ps := ["self"]) fun _ _ _ _ _ _ us hl => match us, hl with | [_], _ => rfl, _, ⟨nComparison_certificate, geComparison_certificate, tkComparison_certificate, _, rcComparison_certificate⟩, _, _, fun_mk (st := s_law_is_number) llaw_is_number claw_is_number klaw_is_number, (fun_mk (st := s_law_is_number) llaw_is_number claw_is_number klaw_is_number).binds (ps := ["_law_value"]) fun _ _ _ _ _ _ us hl => match us, hl with | [_], _ => rfl, PySem.W.mg_of X G nlaw_is_number, _, _, fun_mk (st := s_law_is_direction) llaw_is_direction claw_is_direction klaw_is_direction, (fun_mk (st := s_law_is_direction) llaw_is_direction claw_is_direction klaw_is_direction).binds (ps := ["_law_found"]) fun _ _ _ _ _ _ us hl => match us, hl with | [_], _ => rfl, PySem.W.mg_of X G nlaw_is_direction, _, _, fun_mk (st := s_law_is_row) llaw_is_row claw_is_row klaw_is_row, (fun_mk (st := s_law_is_row) llaw_is_row claw_is_row klaw_is_row).binds (ps := ["_law_actual", "_law_expected"]) fun _ _ _ _ _ _ us hl => match us, hl with | [_, _], _ => rfl, PySem.W.mg_of X G nlaw_is_row, _, _, fun_mk (st := s_law_is_lists) llaw_is_lists claw_is_lists klaw_is_lists, (fun_mk (st := s_law_is_lists) llaw_is_lists claw_is_lists klaw_is_lists).binds (ps := ["_law_found", "_law_expected"]) fun _ _ _ _ _ _ us hl => match us, hl with | [_, _], _ => rfl, PySem.W.mg_of X G nlaw_is_lists, _, _, fun_mk (st := s_law_level) llaw_level claw_level klaw_level, (fun_mk (st := s_law_level) llaw_level claw_level klaw_level).binds (ps := ["_law_p", "_law_q"]) fun _ _ _ _ _ _ us hl => match us, hl with | [_, _], _ => rfl, PySem.W.mg_of X G nlaw_level, _, _, fun_mk (st := s_law_before) llaw_before claw_before klaw_before, (fun_mk (st := s_law_before) llaw_before claw_before klaw_before).binds (ps := ["_law_one", "_law_two"]) fun _ _ _ _ _ _ us hl => match us, hl with | [_, _], _ => rfl, PySem.W.mg_of X G nlaw_before, _, _, fun_mk (st := s_law_fits) llaw_fits claw_fits klaw_fits, (fun_mk (st := s_law_fits) llaw_fits claw_fits klaw_fits).binds (ps := ["_law_one", "_law_two", "_law_found", "_law_pair"]) fun _ _ _ _ _ _ us hl => match us, hl with | [_, _, _, _], _ => rfl, PySem.W.mg_of X G nlaw_fits, _, _, fun_mk (st := s_law_wide) llaw_wide claw_wide klaw_wide, (fun_mk (st := s_law_wide) llaw_wide claw_wide klaw_wide).binds (ps := ["_law_lists"]) fun _ _ _ _ _ _ us hl => match us, hl with | [_], _ => rfl, PySem.W.mg_of X G nlaw_wide, _, _, fun_mk (st := s_law) llaw claw klaw, (fun_mk (st := s_law) llaw claw klaw).binds (ps := ["_law_script"]) fun _ _ _ _ _ _ us hl => match us, hl with | [_], _ => rfl, PySem.W.mg_of X G nlaw, PySem.W.mg_none_of X G zbool, PySem.W.mg_of X G zgcd, PySem.W.mg_none_of X G zint, PySem.W.mg_none_of X G zisinstance, PySem.W.mg_none_of X G zlen, PySem.W.mg_none_of X G zlist, PySem.W.mg_none_of X G zmax, PySem.W.mg_none_of X G zrange, PySem.W.mg_none_of X G zset, PySem.W.mg_none_of X G zsorted, PySem.W.mg_none_of X G ztuple, PySem.W.mg_none_of X G zzip, _, PySem.W.mg_of X G yFLAT, _, PySem.W.mg_of X G ySTEEP⟩ : Txt K mg)).imp (J.law_of law_math)⟩
end Slw
open PySem PySem.W PyProof.Rows in
set_option maxRecDepth 100000 in
set_option maxHeartbeats 0 in
theorem PySem.Challenge.cw_slantwalk_k47_whole_comparison_holds : PySem.Challenge.rw_slantwalk_k47_whole_comparison.Holds := by
  w_on; o_law; k_head; (case hw => w_witness2)
  k_fill
  refine L2.walk_of (l := PySem.Challenge.rw_slantwalk_k47_whole_comparison) (n := 63) (k := 8) (x := "_law_script") (CX := fun _ => L2.CX0) (sp := fun w => J.spLaw _) rfl (by decide) rfl ⟨rfl, by decide, by decide⟩ (fun w h Y => PySem.W.kIn_of Y) ?F (fun _ _ a ns hl _ hS => ⟨a, ns, rfl, hS, hl, fun _ => rfl⟩) (fun _ _ _ _ _ h => h)
  case F =>
    intro w mg fa h KX G hmg
    refine' Slw.all_mk KX G hmg ?nPlan ?pgPlan ?hdPlan ?poPlan ?saPlan ?nPairSearch ?pgPairSearch ?hdPairSearch ?poPairSearch ?saPairSearch ?nWalkTable ?pgWalkTable ?hdWalkTable ?poWalkTable ?saWalkTable ?nComparison ?pgComparison ?hdComparison ?poComparison ?saComparison ?mkPlan ?kcPlan ?mkPairSearch ?kcPairSearch ?mkWalkTable ?kcWalkTable ?mkComparison ?kcComparison ?nfPlan__right ?nfPlan__above ?nfPairSearch__tables ?nfPairSearch__table_numbers ?nfPairSearch__pairs ?nfPairSearch__pair_numbers ?nfPairSearch__neighbors ?nfPairSearch__children ?nfPairSearch__from_the_sides ?nfWalkTable__ends ?nfWalkTable__marks ?nfComparison__certificate ?nfComparison__direction ?nfComparison__lists ?rrPlan ?rgPlan ?sfWalkTable ?cvPlan_MOST_ROOMS ?nlaw_cell ?llaw_cell ?claw_cell ?klaw_cell ?nlaw_row ?llaw_row ?claw_row ?klaw_row ?nlaw_order ?llaw_order ?claw_order ?klaw_order ?nlaw_moved ?llaw_moved ?claw_moved ?klaw_moved ?nlaw_plan ?llaw_plan ?claw_plan ?klaw_plan ?nlaw_second ?llaw_second ?claw_second ?klaw_second ?nlaw_direction ?llaw_direction ?claw_direction ?klaw_direction ?nis_order ?lis_order ?cis_order ?kis_order ?nPlan___init__ ?iPlan___init__ ?lPlan___init__ ?cPlan___init__ ?kPlan___init__ ?nPairSearch__number_of ?iPairSearch__number_of ?lPairSearch__number_of ?cPairSearch__number_of ?kPairSearch__number_of ?nWalkTable_form ?geWalkTable_form ?tkWalkTable_form ?rcWalkTable_form ?lWalkTable_form ?cWalkTable_form ?kWalkTable_form ?nPairSearch__table_number ?iPairSearch__table_number ?lPairSearch__table_number ?cPairSearch__table_number ?kPairSearch__table_number ?nneighbors_after ?lneighbors_after ?cneighbors_after ?kneighbors_after ?ncheck_direction ?lcheck_direction ?ccheck_direction ?kcheck_direction ?ncheck_in_tree ?lcheck_in_tree ?ccheck_in_tree ?kcheck_in_tree ?nsteps ?lsteps ?csteps ?ksteps ?nneighbors ?lneighbors ?cneighbors ?kneighbors ?nPairSearch___init__ ?iPairSearch___init__ ?lPairSearch___init__ ?cPairSearch___init__ ?kPairSearch___init__ ?nside_by_side ?lside_by_side ?cside_by_side ?kside_by_side ?nPlan_right ?gePlan_right ?tkPlan_right ?rcPlan_right ?lPlan_right ?cPlan_right ?kPlan_right ?nPlan_above ?gePlan_above ?tkPlan_above ?rcPlan_above ?lPlan_above ?cPlan_above ?kPlan_above ?nWalkTable___init__ ?iWalkTable___init__ ?lWalkTable___init__ ?cWalkTable___init__ ?kWalkTable___init__ ?nwithout_marks ?lwithout_marks ?cwithout_marks ?kwithout_marks ?nside_tables ?lside_tables ?cside_tables ?kside_tables ?nPairSearch__first_direction ?iPairSearch__first_direction ?lPairSearch__first_direction ?cPairSearch__first_direction ?kPairSearch__first_direction ?nWalkTable_size ?geWalkTable_size ?tkWalkTable_size ?rcWalkTable_size ?lWalkTable_size ?cWalkTable_size ?kWalkTable_size ?nWalkTable___mul__ ?iWalkTable___mul__ ?lWalkTable___mul__ ?cWalkTable___mul__ ?kWalkTable___mul__ ?nPairSearch__visit ?iPairSearch__visit ?lPairSearch__visit ?cPairSearch__visit ?kPairSearch__visit ?nPairSearch_asked ?iPairSearch_asked ?lPairSearch_asked ?cPairSearch_asked ?kPairSearch_asked ?nring_from ?lring_from ?cring_from ?kring_from ?nrooms_in ?lrooms_in ?crooms_in ?krooms_in ?nrings_of ?lrings_of ?crings_of ?krings_of ?nrounds_of ?lrounds_of ?crounds_of ?krounds_of ?ntwo_lists ?ltwo_lists ?ctwo_lists ?ktwo_lists ?nPlan_size ?gePlan_size ?tkPlan_size ?rcPlan_size ?lPlan_size ?cPlan_size ?kPlan_size ?ncopied ?lcopied ?ccopied ?kcopied ?nComparison___init__ ?iComparison___init__ ?lComparison___init__ ?cComparison___init__ ?kComparison___init__ ?nPairSearch_rows ?iPairSearch_rows ?lPairSearch_rows ?cPairSearch_rows ?kPairSearch_rows ?ncompare ?lcompare ?ccompare ?kcompare ?dkcompare ?nComparison_alike ?geComparison_alike ?tkComparison_alike ?rcComparison_alike ?lComparison_alike ?cComparison_alike ?kComparison_alike ?nComparison_direction ?geComparison_direction ?tkComparison_direction ?rcComparison_direction ?lComparison_direction ?cComparison_direction ?kComparison_direction ?nComparison_lists ?geComparison_lists ?tkComparison_lists ?rcComparison_lists ?lComparison_lists ?cComparison_lists ?kComparison_lists ?nlaw_rings ?llaw_rings ?claw_rings ?klaw_rings ?nlaw_rounds ?llaw_rounds ?claw_rounds ?klaw_rounds ?nlaw_sides ?llaw_sides ?claw_sides ?klaw_sides ?nlaw_join ?llaw_join ?claw_join ?klaw_join ?nlaw_power ?llaw_power ?claw_power ?klaw_power ?nlaw_round ?llaw_round ?claw_round ?klaw_round ?nlaw_two_rounds ?llaw_two_rounds ?claw_two_rounds ?klaw_two_rounds ?nComparison_certificate ?geComparison_certificate ?tkComparison_certificate ?rcComparison_certificate ?lComparison_certificate ?cComparison_certificate ?kComparison_certificate ?nlaw_is_number ?llaw_is_number ?claw_is_number ?klaw_is_number ?nlaw_is_direction ?llaw_is_direction ?claw_is_direction ?klaw_is_direction ?nlaw_is_row ?llaw_is_row ?claw_is_row ?klaw_is_row ?nlaw_is_lists ?llaw_is_lists ?claw_is_lists ?klaw_is_lists ?nlaw_level ?llaw_level ?claw_level ?klaw_level ?nlaw_before ?llaw_before ?claw_before ?klaw_before ?nlaw_fits ?llaw_fits ?claw_fits ?klaw_fits ?nlaw_wide ?llaw_wide ?claw_wide ?klaw_wide ?nlaw ?llaw ?claw ?klaw ?zbool ?zgcd ?zint ?zisinstance ?zlen ?zlist ?zmax ?zrange ?zset ?zsorted ?ztuple ?zzip ?yFLAT ?ySTEEP
    (case nPlan => k_is)
    (case pgPlan => k_is)
    (case hdPlan => k_is)
    (case poPlan => k_is)
    (case saPlan => k_is)
    (case nPairSearch => k_is)
    (case pgPairSearch => k_is)
    (case hdPairSearch => k_is)
    (case poPairSearch => k_is)
    (case saPairSearch => k_is)
    (case nWalkTable => k_is)
    (case pgWalkTable => k_is)
    (case hdWalkTable => k_is)
    (case poWalkTable => k_is)
    (case saWalkTable => k_is)
    (case nComparison => k_is)
    (case pgComparison => k_is)
    (case hdComparison => k_is)
    (case poComparison => k_is)
    (case saComparison => k_is)
    (case mkPlan => k_is)
    (case kcPlan => k_is)
    (case mkPairSearch => k_is)
    (case kcPairSearch => k_is)
    (case mkWalkTable => k_is)
    (case kcWalkTable => k_is)
    (case mkComparison => k_is)
    (case kcComparison => k_is)
    (case nfPlan__right => k_is)
    (case nfPlan__above => k_is)
    (case nfPairSearch__tables => k_is)
    (case nfPairSearch__table_numbers => k_is)
    (case nfPairSearch__pairs => k_is)
    (case nfPairSearch__pair_numbers => k_is)
    (case nfPairSearch__neighbors => k_is)
    (case nfPairSearch__children => k_is)
    (case nfPairSearch__from_the_sides => k_is)
    (case nfWalkTable__ends => k_is)
    (case nfWalkTable__marks => k_is)
    (case nfComparison__certificate => k_is)
    (case nfComparison__direction => k_is)
    (case nfComparison__lists => k_is)
    (case rrPlan => k_is)
    (case rgPlan => k_is)
    (case sfWalkTable => k_is)
    (case cvPlan_MOST_ROOMS => k_is)
    (case nlaw_cell => k_is)
    (case llaw_cell => k_is)
    (case claw_cell => k_is)
    (case klaw_cell => k_is)
    (case nlaw_row => k_is)
    (case llaw_row => k_is)
    (case claw_row => k_is)
    (case klaw_row => k_is)
    (case nlaw_order => k_is)
    (case llaw_order => k_is)
    (case claw_order => k_is)
    (case klaw_order => k_is)
    (case nlaw_moved => k_is)
    (case llaw_moved => k_is)
    (case claw_moved => k_is)
    (case klaw_moved => k_is)
    (case nlaw_plan => k_is)
    (case llaw_plan => k_is)
    (case claw_plan => k_is)
    (case klaw_plan => k_is)
    (case nlaw_second => k_is)
    (case llaw_second => k_is)
    (case claw_second => k_is)
    (case klaw_second => k_is)
    (case nlaw_direction => k_is)
    (case llaw_direction => k_is)
    (case claw_direction => k_is)
    (case klaw_direction => k_is)
    (case nis_order => k_is)
    (case lis_order => k_is)
    (case cis_order => k_is)
    (case kis_order => k_is)
    (case nPlan___init__ => k_is)
    (case iPlan___init__ => k_is)
    (case lPlan___init__ => k_is)
    (case cPlan___init__ => k_is)
    (case kPlan___init__ => k_is)
    (case nPairSearch__number_of => k_is)
    (case iPairSearch__number_of => k_is)
    (case lPairSearch__number_of => k_is)
    (case cPairSearch__number_of => k_is)
    (case kPairSearch__number_of => k_is)
    (case nWalkTable_form => k_is)
    (case geWalkTable_form => k_is)
    (case tkWalkTable_form => k_is)
    (case rcWalkTable_form => k_is)
    (case lWalkTable_form => k_is)
    (case cWalkTable_form => k_is)
    (case kWalkTable_form => k_is)
    (case nPairSearch__table_number => k_is)
    (case iPairSearch__table_number => k_is)
    (case lPairSearch__table_number => k_is)
    (case cPairSearch__table_number => k_is)
    (case kPairSearch__table_number => k_is)
    (case nneighbors_after => k_is)
    (case lneighbors_after => k_is)
    (case cneighbors_after => k_is)
    (case kneighbors_after => k_is)
    (case ncheck_direction => k_is)
    (case lcheck_direction => k_is)
    (case ccheck_direction => k_is)
    (case kcheck_direction => k_is)
    (case ncheck_in_tree => k_is)
    (case lcheck_in_tree => k_is)
    (case ccheck_in_tree => k_is)
    (case kcheck_in_tree => k_is)
    (case nsteps => k_is)
    (case lsteps => k_is)
    (case csteps => k_is)
    (case ksteps => k_is)
    (case nneighbors => k_is)
    (case lneighbors => k_is)
    (case cneighbors => k_is)
    (case kneighbors => k_is)
    (case nPairSearch___init__ => k_is)
    (case iPairSearch___init__ => k_is)
    (case lPairSearch___init__ => k_is)
    (case cPairSearch___init__ => k_is)
    (case kPairSearch___init__ => k_is)
    (case nside_by_side => k_is)
    (case lside_by_side => k_is)
    (case cside_by_side => k_is)
    (case kside_by_side => k_is)
    (case nPlan_right => k_is)
    (case gePlan_right => k_is)
    (case tkPlan_right => k_is)
    (case rcPlan_right => k_is)
    (case lPlan_right => k_is)
    (case cPlan_right => k_is)
    (case kPlan_right => k_is)
    (case nPlan_above => k_is)
    (case gePlan_above => k_is)
    (case tkPlan_above => k_is)
    (case rcPlan_above => k_is)
    (case lPlan_above => k_is)
    (case cPlan_above => k_is)
    (case kPlan_above => k_is)
    (case nWalkTable___init__ => k_is)
    (case iWalkTable___init__ => k_is)
    (case lWalkTable___init__ => k_is)
    (case cWalkTable___init__ => k_is)
    (case kWalkTable___init__ => k_is)
    (case nwithout_marks => k_is)
    (case lwithout_marks => k_is)
    (case cwithout_marks => k_is)
    (case kwithout_marks => k_is)
    (case nside_tables => k_is)
    (case lside_tables => k_is)
    (case cside_tables => k_is)
    (case kside_tables => k_is)
    (case nPairSearch__first_direction => k_is)
    (case iPairSearch__first_direction => k_is)
    (case lPairSearch__first_direction => k_is)
    (case cPairSearch__first_direction => k_is)
    (case kPairSearch__first_direction => k_is)
    (case nWalkTable_size => k_is)
    (case geWalkTable_size => k_is)
    (case tkWalkTable_size => k_is)
    (case rcWalkTable_size => k_is)
    (case lWalkTable_size => k_is)
    (case cWalkTable_size => k_is)
    (case kWalkTable_size => k_is)
    (case nWalkTable___mul__ => k_is)
    (case iWalkTable___mul__ => k_is)
    (case lWalkTable___mul__ => k_is)
    (case cWalkTable___mul__ => k_is)
    (case kWalkTable___mul__ => k_is)
    (case nPairSearch__visit => k_is)
    (case iPairSearch__visit => k_is)
    (case lPairSearch__visit => k_is)
    (case cPairSearch__visit => k_is)
    (case kPairSearch__visit => k_is)
    (case nPairSearch_asked => k_is)
    (case iPairSearch_asked => k_is)
    (case lPairSearch_asked => k_is)
    (case cPairSearch_asked => k_is)
    (case kPairSearch_asked => k_is)
    (case nring_from => k_is)
    (case lring_from => k_is)
    (case cring_from => k_is)
    (case kring_from => k_is)
    (case nrooms_in => k_is)
    (case lrooms_in => k_is)
    (case crooms_in => k_is)
    (case krooms_in => k_is)
    (case nrings_of => k_is)
    (case lrings_of => k_is)
    (case crings_of => k_is)
    (case krings_of => k_is)
    (case nrounds_of => k_is)
    (case lrounds_of => k_is)
    (case crounds_of => k_is)
    (case krounds_of => k_is)
    (case ntwo_lists => k_is)
    (case ltwo_lists => k_is)
    (case ctwo_lists => k_is)
    (case ktwo_lists => k_is)
    (case nPlan_size => k_is)
    (case gePlan_size => k_is)
    (case tkPlan_size => k_is)
    (case rcPlan_size => k_is)
    (case lPlan_size => k_is)
    (case cPlan_size => k_is)
    (case kPlan_size => k_is)
    (case ncopied => k_is)
    (case lcopied => k_is)
    (case ccopied => k_is)
    (case kcopied => k_is)
    (case nComparison___init__ => k_is)
    (case iComparison___init__ => k_is)
    (case lComparison___init__ => k_is)
    (case cComparison___init__ => k_is)
    (case kComparison___init__ => k_is)
    (case nPairSearch_rows => k_is)
    (case iPairSearch_rows => k_is)
    (case lPairSearch_rows => k_is)
    (case cPairSearch_rows => k_is)
    (case kPairSearch_rows => k_is)
    (case ncompare => k_is)
    (case lcompare => k_is)
    (case ccompare => k_is)
    (case kcompare => k_is)
    (case dkcompare => k_is)
    (case nComparison_alike => k_is)
    (case geComparison_alike => k_is)
    (case tkComparison_alike => k_is)
    (case rcComparison_alike => k_is)
    (case lComparison_alike => k_is)
    (case cComparison_alike => k_is)
    (case kComparison_alike => k_is)
    (case nComparison_direction => k_is)
    (case geComparison_direction => k_is)
    (case tkComparison_direction => k_is)
    (case rcComparison_direction => k_is)
    (case lComparison_direction => k_is)
    (case cComparison_direction => k_is)
    (case kComparison_direction => k_is)
    (case nComparison_lists => k_is)
    (case geComparison_lists => k_is)
    (case tkComparison_lists => k_is)
    (case rcComparison_lists => k_is)
    (case lComparison_lists => k_is)
    (case cComparison_lists => k_is)
    (case kComparison_lists => k_is)
    (case nlaw_rings => k_is)
    (case llaw_rings => k_is)
    (case claw_rings => k_is)
    (case klaw_rings => k_is)
    (case nlaw_rounds => k_is)
    (case llaw_rounds => k_is)
    (case claw_rounds => k_is)
    (case klaw_rounds => k_is)
    (case nlaw_sides => k_is)
    (case llaw_sides => k_is)
    (case claw_sides => k_is)
    (case klaw_sides => k_is)
    (case nlaw_join => k_is)
    (case llaw_join => k_is)
    (case claw_join => k_is)
    (case klaw_join => k_is)
    (case nlaw_power => k_is)
    (case llaw_power => k_is)
    (case claw_power => k_is)
    (case klaw_power => k_is)
    (case nlaw_round => k_is)
    (case llaw_round => k_is)
    (case claw_round => k_is)
    (case klaw_round => k_is)
    (case nlaw_two_rounds => k_is)
    (case llaw_two_rounds => k_is)
    (case claw_two_rounds => k_is)
    (case klaw_two_rounds => k_is)
    (case nComparison_certificate => k_is)
    (case geComparison_certificate => k_is)
    (case tkComparison_certificate => k_is)
    (case rcComparison_certificate => k_is)
    (case lComparison_certificate => k_is)
    (case cComparison_certificate => k_is)
    (case kComparison_certificate => k_is)
    (case nlaw_is_number => k_is)
    (case llaw_is_number => k_is)
    (case claw_is_number => k_is)
    (case klaw_is_number => k_is)
    (case nlaw_is_direction => k_is)
    (case llaw_is_direction => k_is)
    (case claw_is_direction => k_is)
    (case klaw_is_direction => k_is)
    (case nlaw_is_row => k_is)
    (case llaw_is_row => k_is)
    (case claw_is_row => k_is)
    (case klaw_is_row => k_is)
    (case nlaw_is_lists => k_is)
    (case llaw_is_lists => k_is)
    (case claw_is_lists => k_is)
    (case klaw_is_lists => k_is)
    (case nlaw_level => k_is)
    (case llaw_level => k_is)
    (case claw_level => k_is)
    (case klaw_level => k_is)
    (case nlaw_before => k_is)
    (case llaw_before => k_is)
    (case claw_before => k_is)
    (case klaw_before => k_is)
    (case nlaw_fits => k_is)
    (case llaw_fits => k_is)
    (case claw_fits => k_is)
    (case klaw_fits => k_is)
    (case nlaw_wide => k_is)
    (case llaw_wide => k_is)
    (case claw_wide => k_is)
    (case klaw_wide => k_is)
    (case nlaw => k_is)
    (case llaw => k_is)
    (case claw => k_is)
    (case klaw => k_is)
    (case zbool => k_is)
    (case zgcd => k_is)
    (case zint => k_is)
    (case zisinstance => k_is)
    (case zlen => k_is)
    (case zlist => k_is)
    (case zmax => k_is)
    (case zrange => k_is)
    (case zset => k_is)
    (case zsorted => k_is)
    (case ztuple => k_is)
    (case zzip => k_is)
    (case yFLAT => k_is)
    (case ySTEEP => k_is)
