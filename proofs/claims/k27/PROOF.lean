import PyProof.Rows.All
import Wide.All
import OpenK.AllK
import Wide.FinOn
import HandS.ForMost
import HandS.Wide
import HandS.Gcd
import HandS.IsInst
import HandS.Style
import HandS.Conv
import HandS.SortInts
import HandS.Deep
import HandS.Property
import HandS.ClsMeth
import OpenK.KMeth
import HandS.WideBits
import HandS.Zip
import HandS.TupAny
import HandS.Star
import HandS.Codes
import HandS.Text
import HandS.Strs
import KE.KOpsOwn
import KE.GoesMore
import PyProof.EnumMake
import HandS.ExcOwn
import HandS.ExcIs
import HandS.WordsExc
import HandS.ExcInit
import PyProof.LongRange
import HandS.TryOnly
import KE.KExcSuper
import HandS.ExcField
import HandS.FStr
import HandS.HotCalls
import HandS.Defaults
import PySem.Challenge.RW_slantwalk_k27_whole_rings_at_any_directi
set_option Elab.async false
set_option linter.all false
set_option maxRecDepth 100000
set_option maxHeartbeats 8000000

/-! JM: programs as predicates over plain data -/
namespace J
open PySem
/-! ### loops over data -/
def wFor {α σ : Type} (b : α → σ → (σ → Prop) → (σ → Prop) → Prop) (k : σ → Prop) : List α → σ → Prop
  | [], s => k s
  | x :: r, s => b x s (fun s' => wFor b k r s') k
def wWhile {σ : Type} (t : σ → Prop → Prop → Prop) (b : σ → (σ → Prop) → (σ → Prop) → Prop) (k : σ → Prop) (s : σ) : Prop :=
  ∃ (I : σ → Prop) (m : σ → Nat), I s ∧ ∀ s, I s → t s (b s (fun s' => I s' ∧ m s' < m s) k) (k s)
def rangeI (lo hi : Int) : List Int := (List.range (hi - lo).toNat).map fun i => lo + (i : Nat)
def wLet {α : Type} (a : α) (k : α → Prop) : Prop := k a
def wCut (A : Prop) (k : Prop → Prop) : Prop := k A
def wJoin {τ : Type} (B : τ → Prop) (A : (τ → Prop) → Prop) : Prop := A B
theorem wLet_ok {α : Type} {a : α} {k : α → Prop} (h : ∀ x, x = a → k x) : wLet a k := h a rfl
theorem wLet_to {α : Type} {a : α} {k : α → Prop} (h : k a) : wLet a k := h
theorem wCut_ok {A : Prop} {k : Prop → Prop} (h : ∀ B : Prop, (A → B) → k B) : wCut A k := h A id
theorem wCut_to {A : Prop} {k : Prop → Prop} (h : k A) : wCut A k := h
theorem wJoin_ok {τ : Type} {B : τ → Prop} {A : (τ → Prop) → Prop} (I : τ → Prop) (hB : ∀ s, I s → B s) (hA : ∀ J : τ → Prop, (∀ s, I s → J s) → A J) : wJoin B A := hA B hB
theorem wFor_ok {α σ : Type} {b : α → σ → (σ → Prop) → (σ → Prop) → Prop} {k : σ → Prop} (I : List α → σ → Prop) (hs : ∀ x r s (N : σ → Prop), I (x :: r) s → (∀ s', I r s' → N s') → b x s N k) (hk : ∀ s, I [] s → k s) : ∀ xs s, I xs s → wFor b k xs s
  | [], s, h => hk s h
  | x :: r, s, h => hs x r s _ h fun s' h' => wFor_ok I hs hk r s' h'
def wComp {α β : Type} (b : α → (β → Prop) → Prop) : List α → List β → (List β → Prop) → Prop
  | [], acc, k => k acc
  | x :: r, acc, k => b x fun y => wComp b r (acc ++ [y]) k
theorem wComp_ok {α β : Type} {b : α → (β → Prop) → Prop} (f : α → β) : ∀ (xs : List α) (acc : List β) (k : List β → Prop), (∀ x ∈ xs, ∀ N : β → Prop, N (f x) → b x N) → k (acc ++ xs.map f) → wComp b xs acc k
  | [], acc, k, _, h => by
    rw [List.map_nil, List.append_nil] at h
    exact h
  | x :: r, acc, k, hb, h => hb x List.mem_cons_self _ (wComp_ok f r (acc ++ [f x]) k (fun y hy => hb y (List.mem_cons_of_mem _ hy)) (by
    rw [List.append_assoc]
    exact h))
/-- data that may be compared -/
class POk (α : Type) where
  pok : α → Prop
instance : POk Int := ⟨fun _ => True⟩
instance : POk Bool := ⟨fun _ => True⟩
instance : POk Unit := ⟨fun _ => True⟩
instance : POk Str := ⟨fun x => x.cps.all (· < 0x110000) = true⟩
instance {α β : Type} [a : POk α] [b : POk β] : POk (α × β) := ⟨fun t => a.pok t.1 ∧ b.pok t.2⟩
instance {α : Type} [a : POk α] : POk (List α) := ⟨fun xs => ∀ x ∈ xs, a.pok x⟩
/-- a bound of a slice, within 0 .. n -/
def sIxJ (n d : Nat) : Option Int → Nat
  | none => d
  | some v => if v < 0 then (v + (n : Int)).toNat else min v.toNat n
def cutI {α : Type} (xs : List α) (lo hi : Option Int) : List α := (xs.drop (sIxJ xs.length 0 lo)).take (sIxJ xs.length xs.length hi - sIxJ xs.length 0 lo)
/-- the signs of a text, one by one -/
def signsJ (z : Str) : List Str := z.cps.toList.map fun c => (⟨#[c]⟩ : Str)
def ixI {α : Type} (xs : List α) (i : Int) : Option α := if 0 ≤ i then xs[i.toNat]? else if 0 ≤ i + xs.length then xs[(i + xs.length).toNat]? else none
/-- a place to store at -/
def ixW (n : Nat) (i : Int) : Option Nat := if 0 ≤ i ∧ i < (n : Int) then some i.toNat else if i < 0 ∧ 0 ≤ i + (n : Int) then some (i + (n : Int)).toNat else none
/-- is it in the list -/
def memJ {α : Type} [DecidableEq α] (x : α) (xs : List α) : Bool := decide (x ∈ xs)
theorem memJ_true {α : Type} [DecidableEq α] {x : α} {xs : List α} (h : x ∈ xs) : memJ x xs = true := decide_eq_true h
theorem memJ_false {α : Type} [DecidableEq α] {x : α} {xs : List α} (h : ¬ x ∈ xs) : memJ x xs = false := decide_eq_false h
theorem of_memJ {α : Type} [DecidableEq α] {x : α} {xs : List α} (h : memJ x xs = true) : x ∈ xs := of_decide_eq_true h
theorem of_memJ_false {α : Type} [DecidableEq α] {x : α} {xs : List α} (h : memJ x xs = false) : ¬ x ∈ xs := of_decide_eq_false h
def JMul (i j : Int) : Prop := (-(2 ^ 64) < i ∧ i < 2 ^ 64) ∨ (-(2 ^ 64) < j ∧ j < 2 ^ 64) ∨ i.natAbs.log2 + j.natAbs.log2 < 1000000
def JDiv (j : Int) : Prop := 0 < j ∧ j.natAbs.log2 < 9000
/-- the places and the items -/
def enumJ {α : Type} (xs : List α) : List (Int × α) := (rangeI 0 (xs.length : Int)).zip xs
/-- one more in a set -/
def addJ (xs : List Int) (k : Int) : List Int := if memJ k xs = true then xs else xs ++ [k]
/-- a text read backwards -/
def revJ (z : Str) : Str := ⟨z.cps.reverse⟩
/-- a number's text -/
def strI (n : Int) : Str := (toString n : String)
/-- what an error asks: the class's number, its numbers -/
abbrev EK := Nat → Int → Int → Prop
/-- bits of numbers that are not negative -/
def orJ (i j : Int) : Int := ((i.toNat ||| j.toNat : Nat) : Int)
def andJ (i j : Int) : Int := ((i.toNat &&& j.toNat : Nat) : Int)
def xorJ (i j : Int) : Int := ((i.toNat ^^^ j.toNat : Nat) : Int)
/-- a comprehension with a test -/
def wCompF {α β : Type} (c : α → Prop → Prop → Prop) (b : α → (β → Prop) → Prop) : List α → List β → (List β → Prop) → Prop
  | [], acc, k => k acc
  | x :: r, acc, k => c x (b x fun y => wCompF c b r (acc ++ [y]) k) (wCompF c b r acc k)
theorem wCompF_ok {α β : Type} {c : α → Prop → Prop → Prop} {b : α → (β → Prop) → Prop} (p : α → Bool) (f : α → β) : ∀ (xs : List α) (acc : List β) (k : List β → Prop), (∀ x ∈ xs, ∀ A B : Prop, (p x = true → A) → (p x = false → B) → c x A B) → (∀ x ∈ xs, p x = true → ∀ N : β → Prop, N (f x) → b x N) → k (acc ++ (xs.filter p).map f) → wCompF c b xs acc k
  | [], acc, k, _, _, h => by
    rw [List.filter_nil, List.map_nil, List.append_nil] at h
    exact h
  | x :: r, acc, k, hc, hb, h => by
    refine hc x List.mem_cons_self _ _ (fun e => hb x List.mem_cons_self e _ ?_) fun e => ?_
    · refine wCompF_ok p f r (acc ++ [f x]) k (fun y hy => hc y (List.mem_cons_of_mem _ hy)) (fun y hy => hb y (List.mem_cons_of_mem _ hy)) ?_
      rw [List.filter_cons_of_pos e, List.map_cons] at h
      rw [List.append_assoc]
      exact h
    · refine wCompF_ok p f r acc k (fun y hy => hc y (List.mem_cons_of_mem _ hy)) (fun y hy => hb y (List.mem_cons_of_mem _ hy)) ?_
      rw [List.filter_cons_of_neg (by rw [e]; decide)] at h
      exact h
end J
/-! A0: judgements that speak of plain data alone -/
namespace J
open PySem PySem.Spec L2

/-! ### weakening -/
theorem peW {X : Cx} {e : Expr} {t t' : TE} (h : PE X e t) (k : ∀ σ H Q, t' σ H Q → t σ H Q) : PE X e t' := ⟨fun p s σ H Q I q => h.run p s σ H Q I (k _ _ _ q)⟩
theorem ptW {X : Cx} {e : Expr} {t t' : TT} (h : PT X e t) (k : ∀ σ H Q, t' σ H Q → t σ H Q) : PT X e t' := ⟨fun p s σ H Q I q => h.run p s σ H Q I (k _ _ _ q)⟩
theorem pwW {X : Cx} {e : Expr} {t t' : TT} (h : PW X e t) (k : ∀ σ H Q, t' σ H Q → t σ H Q) : PW X e t' := ⟨fun wh p s σ H Q I q => h.run wh p s σ H Q I (k _ _ _ q)⟩
theorem paW {X : Cx} {e : List Expr} {t t' : TA} (h : PA X e t) (k : ∀ σ H Q, t' σ H Q → t σ H Q) : PA X e t' := ⟨fun pos p s σ H Q I q => h.run pos p s σ H Q I (k _ _ _ q)⟩
theorem psW {X : Cx} {e : Stmt} {t t' : TS} (h : PS X e t) (k : ∀ D σ H, t' D σ H → t D σ H) : PS X e t' := ⟨fun p s σ H D I q => h.run p s σ H D I (k _ _ _ q)⟩
theorem pssW {X : Cx} {e : List Stmt} {t t' : TS} (h : PSs X e t) (k : ∀ D σ H, t' D σ H → t D σ H) : PSs X e t' := ⟨fun p s σ H D I q => h.run p s σ H D I (k _ _ _ q)⟩
def tEx {τ : Type} (t : τ → TS) : TS := fun D σ H => ∃ a, t a D σ H
theorem pssE {X : Cx} {e : List Stmt} {τ : Type} {t : τ → TS} (h : ∀ a, PSs X e (t a)) : PSs X e (tEx t) := ⟨fun p s σ H D I ⟨a, q⟩ => (h a).run p s σ H D I q⟩

/-! ### heaps: what never changes -/
def isFix : HO → Bool
  | .tup _ => true
  | .own _ => true
  | .frz _ _ => true
  | .xd _ => true
  | _ => false
def Imm (H H' : Hp) : Prop := ∀ a o, isFix o = true → H a = some o → H' a = some o
theorem Imm.of {H H' : Hp} (s : Same H H') : Imm H H' := fun a o _ h => s a o h
theorem Imm.refl (H : Hp) : Imm H H := fun _ _ _ h => h
theorem Imm.trans {H H1 H2 : Hp} (a : Imm H H1) (b : Imm H1 H2) : Imm H H2 := fun x o f h => b x o f (a x o f h)
theorem Imm.lst {H : Hp} {p : Addr} {xs : List V} {o : HO} (h : H p = some (.lst xs)) : Imm H (upd H p o) := fun a u f e => by
  have ne : a ≠ p := fun q => by
    rw [q, h] at e
    cases e
    cases f
  rw [upd_ne ne]
  exact e
theorem same_upd {H : Hp} {p : Addr} {o : HO} (h : H p = none) : Same H (upd H p o) := fun b x e => by
  rw [upd_ne (ne_of_none e h)]
  exact e
/-- what H0 does not know may change -/
theorem Same.mut {H H' : Hp} {p : Addr} {o : HO} (e : Same H H') (h : H p = none) : Same H (upd H' p o) := fun a u ha => by
  rw [upd_ne (ne_of_none ha h)]
  exact e a u ha
theorem Imm.sqT {K : PySem.W.Frag} {H H' : Hp} {a : Addr} {xs : List V} (e : Imm H H') (h : SqT K H a xs) : SqT K H' a xs := by
  rcases h with (h | ⟨o, h⟩) | h
  · exact .inl (.inl (e _ _ rfl h))
  · exact .inl (.inr ⟨o, e _ _ rfl h⟩)
  · exact .inr h
theorem Same.sqT {K : PySem.W.Frag} {H H' : Hp} {a : Addr} {xs : List V} (e : Same H H') (h : SqT K H a xs) : SqT K H' a xs := (Imm.of e).sqT h

theorem _root_.L2.Same.sqT' {K : PySem.W.Frag} {H H' : Hp} {a : Addr} {xs : List V} (e : Same H H') (h : SqT K H a xs) : SqT K H' a xs := (Imm.of e).sqT h

/-! ### kinds of data -/
structure Ty (α : Type) where
  rel : Hp → V → α → Prop
  same : ∀ {H H' : Hp} {v : V} {a : α}, Same H H' → rel H v a → rel H' v a
class Im {α : Type} (A : Ty α) : Prop where
  imm : ∀ {H H' : Hp} {v : V} {a : α}, Imm H H' → A.rel H v a → A.rel H' v a
def tI : Ty Int := ⟨fun _ v a => v = .int a, fun _ h => h⟩
def tB : Ty Bool := ⟨fun _ v a => v = .bl a, fun _ h => h⟩
def tS : Ty Str := ⟨fun _ v a => v = .str a, fun _ h => h⟩
def tN : Ty Unit := ⟨fun _ v _ => v = .non, fun _ h => h⟩
instance : Im tI := ⟨fun _ h => h⟩
instance : Im tB := ⟨fun _ h => h⟩
instance : Im tS := ⟨fun _ h => h⟩
instance : Im tN := ⟨fun _ h => h⟩

theorem Paired.imp {α β : Type} {F G : α → β → Prop} (h : ∀ a b, F a b → G a b) : ∀ {l : List α} {m : List β}, Paired F l m → Paired G l m
  | _, _, .nil => .nil
  | _, _, .cons x r => .cons (h _ _ x) (Paired.imp h r)
theorem Paired.at {α β : Type} {F : α → β → Prop} : ∀ {l : List α} {m : List β} {i : Nat} {b : β}, Paired F l m → m[i]? = some b → ∃ a, l[i]? = some a ∧ F a b
  | _, _, i, b, .nil, e => by simp at e
  | _, _, 0, b, .cons x _, e => by
    have e' := Option.some.inj e
    subst e'
    exact ⟨_, rfl, x⟩
  | _, _, i + 1, b, .cons _ r, e => by
    obtain ⟨a, h1, h2⟩ := Paired.at (i := i) (b := b) r e
    exact ⟨a, h1, h2⟩
theorem Paired.atL {α β : Type} {F : α → β → Prop} : ∀ {l : List α} {m : List β} {i : Nat} {a : α}, Paired F l m → l[i]? = some a → ∃ b, m[i]? = some b ∧ F a b
  | _, _, i, b, .nil, e => by simp at e
  | _, _, 0, b, .cons x _, e => by
    have e' := Option.some.inj e
    subst e'
    exact ⟨_, rfl, x⟩
  | _, _, i + 1, b, .cons _ r, e => by
    obtain ⟨a, h1, h2⟩ := Paired.atL (i := i) (a := b) r e
    exact ⟨a, h1, h2⟩
theorem Paired.len {α β : Type} {F : α → β → Prop} : ∀ {l : List α} {m : List β}, Paired F l m → l.length = m.length
  | _, _, .nil => rfl
  | _, _, .cons _ r => by rw [List.length_cons, List.length_cons, Paired.len r]
theorem Paired.set {α β : Type} {F : α → β → Prop} {a : α} {b : β} (h : F a b) : ∀ {l : List α} {m : List β} (i : Nat), Paired F l m → Paired F (l.set i a) (m.set i b)
  | _, _, _, .nil => .nil
  | _, _, 0, .cons _ r => .cons h r
  | _, _, i + 1, .cons x r => .cons x (Paired.set h i r)
theorem Paired.app {α β : Type} {F : α → β → Prop} : ∀ {l l' : List α} {m m' : List β}, Paired F l m → Paired F l' m' → Paired F (l ++ l') (m ++ m')
  | _, _, _, _, .nil, h => h
  | _, _, _, _, .cons x r, h => .cons x (Paired.app r h)
theorem Paired.ofMap {α β γ : Type} {F : α → β → Prop} (f : γ → α) (g : γ → β) (h : ∀ c, F (f c) (g c)) : ∀ l : List γ, Paired F (l.map f) (l.map g)
  | [] => .nil
  | _ :: r => .cons (h _) (Paired.ofMap f g h r)
theorem Paired.drop {α β : Type} {F : α → β → Prop} : ∀ {l : List α} {m : List β} (i : Nat), Paired F l m → Paired F (l.drop i) (m.drop i)
  | _, _, 0, h => h
  | _, _, _ + 1, .nil => .nil
  | _, _, i + 1, .cons _ r => Paired.drop i r
theorem Paired.take {α β : Type} {F : α → β → Prop} : ∀ {l : List α} {m : List β} (i : Nat), Paired F l m → Paired F (l.take i) (m.take i)
  | _, _, 0, _ => .nil
  | _, _, _ + 1, .nil => .nil
  | _, _, i + 1, .cons x r => .cons x (Paired.take i r)
theorem Paired.rev {α β : Type} {F : α → β → Prop} : ∀ {l : List α} {m : List β}, Paired F l m → Paired F l.reverse m.reverse
  | _, _, .nil => .nil
  | _, _, .cons x r => by
    rw [List.reverse_cons, List.reverse_cons]
    exact Paired.app (Paired.rev r) (.cons x .nil)
theorem paired_int {vs : List V} {xs : List Int} (h : Paired (fun (v : V) (a : Int) => v = .int a) vs xs) : vs = xs.map V.int := by
  induction h with
  | nil => rfl
  | cons x _ ih => rw [x, ih]; rfl
theorem paired_ints (xs : List Int) : Paired (fun (v : V) (a : Int) => v = .int a) (xs.map V.int) xs := by
  induction xs with
  | nil => exact .nil
  | cons x r ih => exact .cons rfl ih

/-- argument lists, the items of a tuple -/
structure ATy (τ : Type) where
  rel : Hp → List V → τ → Prop
  same : ∀ {H H' : Hp} {vs : List V} {t : τ}, Same H H' → rel H vs t → rel H' vs t
class AIm {τ : Type} (T : ATy τ) : Prop where
  imm : ∀ {H H' : Hp} {vs : List V} {t : τ}, Imm H H' → T.rel H vs t → T.rel H' vs t
section
variable {α β γ δ : Type}
def aN : ATy Unit := ⟨fun _ vs _ => vs = [], fun _ h => h⟩
def aC {τ : Type} (A : Ty α) (T : ATy τ) : ATy (α × τ) := ⟨fun H vs t => ∃ v r, vs = v :: r ∧ A.rel H v t.1 ∧ T.rel H r t.2, fun s ⟨v, r, e, h1, h2⟩ => ⟨v, r, e, A.same s h1, T.same s h2⟩⟩
def a2 (A : Ty α) (B : Ty β) : ATy (α × β) := ⟨fun H vs t => ∃ x y, vs = [x, y] ∧ A.rel H x t.1 ∧ B.rel H y t.2, fun s ⟨x, y, e, h1, h2⟩ => ⟨x, y, e, A.same s h1, B.same s h2⟩⟩
def a3 (A : Ty α) (B : Ty β) (C : Ty γ) : ATy (α × β × γ) := ⟨fun H vs t => ∃ x y z, vs = [x, y, z] ∧ A.rel H x t.1 ∧ B.rel H y t.2.1 ∧ C.rel H z t.2.2, fun s ⟨x, y, z, e, h1, h2, h3⟩ => ⟨x, y, z, e, A.same s h1, B.same s h2, C.same s h3⟩⟩
def a4 (A : Ty α) (B : Ty β) (C : Ty γ) (E : Ty δ) : ATy (α × β × γ × δ) := ⟨fun H vs t => ∃ x y z u, vs = [x, y, z, u] ∧ A.rel H x t.1 ∧ B.rel H y t.2.1 ∧ C.rel H z t.2.2.1 ∧ E.rel H u t.2.2.2, fun s ⟨x, y, z, u, e, h1, h2, h3, h4⟩ => ⟨x, y, z, u, e, A.same s h1, B.same s h2, C.same s h3, E.same s h4⟩⟩
/-- many of one kind -/
def aV (A : Ty α) : ATy (List α) := ⟨fun H vs t => Paired (A.rel H) vs t, fun s h => Paired.imp (fun _ _ r => A.same s r) h⟩
instance : AIm aN := ⟨fun _ h => h⟩
instance {τ : Type} {A : Ty α} {T : ATy τ} [hA : Im A] [hT : AIm T] : AIm (aC A T) := ⟨fun s ⟨v, r, e, h1, h2⟩ => ⟨v, r, e, hA.imm s h1, hT.imm s h2⟩⟩
instance {A : Ty α} {B : Ty β} [hA : Im A] [hB : Im B] : AIm (a2 A B) := ⟨fun s ⟨x, y, e, h1, h2⟩ => ⟨x, y, e, hA.imm s h1, hB.imm s h2⟩⟩
instance {A : Ty α} {B : Ty β} {C : Ty γ} [hA : Im A] [hB : Im B] [hC : Im C] : AIm (a3 A B C) := ⟨fun s ⟨x, y, z, e, h1, h2, h3⟩ => ⟨x, y, z, e, hA.imm s h1, hB.imm s h2, hC.imm s h3⟩⟩
instance {A : Ty α} {B : Ty β} {C : Ty γ} {E : Ty δ} [hA : Im A] [hB : Im B] [hC : Im C] [hE : Im E] : AIm (a4 A B C E) := ⟨fun s ⟨x, y, z, u, e, h1, h2, h3, h4⟩ => ⟨x, y, z, u, e, hA.imm s h1, hB.imm s h2, hC.imm s h3, hE.imm s h4⟩⟩
instance {A : Ty α} [hA : Im A] : AIm (aV A) := ⟨fun s h => Paired.imp (fun _ _ r => hA.imm s r) h⟩
/-- a tuple; a list to be read -/
def tT {τ : Type} (K : PySem.W.Frag) (T : ATy τ) : Ty τ := ⟨fun H v t => ∃ a vs, v = .ref a ∧ SqT K H a vs ∧ T.rel H vs t, fun s ⟨a, vs, e, h, r⟩ => ⟨a, vs, e, Same.sqT s h, T.same s r⟩⟩
def tL (K : PySem.W.Frag) (A : Ty α) : Ty (List α) := ⟨fun H v xs => ∃ a vs, v = .ref a ∧ SqL K H a vs ∧ Paired (A.rel H) vs xs, fun s ⟨a, vs, e, h, r⟩ => ⟨a, vs, e, s.seq h, Paired.imp (fun _ _ r => A.same s r) r⟩⟩
instance {τ : Type} {K : PySem.W.Frag} {T : ATy τ} [hT : AIm T] : Im (tT K T) := ⟨fun s ⟨a, vs, e, h, r⟩ => ⟨a, vs, e, Imm.sqT s h, hT.imm s r⟩⟩
/-- a list of our own making -/
def tK (A : Ty α) : Ty (List α) := ⟨fun H v xs => ∃ a vs, v = .ref a ∧ H a = some (.lst vs) ∧ Paired (A.rel H) vs xs, fun s ⟨a, vs, e, h, r⟩ => ⟨a, vs, e, s _ _ h, Paired.imp (fun _ _ r => A.same s r) r⟩⟩
/-- None, or one of a kind (that is never None) -/
def tO (A : Ty α) : Ty (Option α) := ⟨fun H v o => match o with | none => v = .non | some a => A.rel H v a ∧ v ≠ .non, fun {H H' v a} s h => by cases a with | none => exact h | some x => exact ⟨A.same s h.1, h.2⟩⟩
instance {A : Ty α} [hA : Im A] : Im (tO A) := ⟨fun {H H' v a} s h => by cases a with | none => exact h | some x => exact ⟨hA.imm s h.1, h.2⟩⟩
end


/-! ### the part of the heap that this def never changes -/
def rm (H : Hp) (p : Addr) : Hp := fun b => if b = p then none else H b
theorem rm_le {H : Hp} {p : Addr} : Same (rm H p) H := fun a o h => by
  unfold rm at h
  by_cases e : a = p
  · rw [if_pos e] at h
    cases h
  · rw [if_neg e] at h
    exact h
theorem rm_mono {H H' : Hp} {p : Addr} (s : Same H H') : Same (rm H p) (rm H' p) := fun a o h => by
  unfold rm at h ⊢
  by_cases e : a = p
  · rw [if_pos e] at h
    cases h
  · rw [if_neg e] at h ⊢
    exact s a o h
theorem rm_new {H H' : Hp} {p : Addr} (s : Same H H') (h : H p = none) : Same H (rm H' p) := fun a o e => by
  unfold rm
  rw [if_neg (ne_of_none e h)]
  exact s a o e
structure Fr where
  B : Hp
  H : Hp
  le : Same B H
  fx : Imm H B
def bsA (F : Fr) (as : List Addr) (H : Hp) : Hp := fun a => if a ∈ as then none else if (F.H a).isSome = true then F.B a else H a
theorem bsA_nil {F : Fr} {as : List Addr} {H : Hp} {a : Addr} {o : HO} (h : bsA F as H a = some o) : a ∉ as ∧ ((∃ x, F.H a = some x) → F.B a = some o) ∧ (F.H a = none → H a = some o) := by
  unfold bsA at h
  by_cases e : a ∈ as
  · rw [if_pos e] at h
    cases h
  · rw [if_neg e] at h
    refine ⟨e, fun ⟨x, hx⟩ => ?_, fun hx => ?_⟩
    · rw [hx] at h
      exact h
    · rw [hx] at h
      exact h
theorem bsA_of {F : Fr} {as : List Addr} {H : Hp} {a : Addr} {o : HO} (h1 : a ∉ as) (h2 : F.H a = none) (h3 : H a = some o) : bsA F as H a = some o := by
  unfold bsA
  rw [if_neg h1, h2]
  exact h3
theorem bsA_ofB {F : Fr} {as : List Addr} {H : Hp} {a : Addr} {o : HO} (h1 : a ∉ as) (h2 : F.B a = some o) : bsA F as H a = some o := by
  unfold bsA
  rw [if_neg h1, F.le _ _ h2]
  exact h2
theorem bsA_le {F : Fr} {as : List Addr} {H : Hp} (s : Same F.H H) : Same (bsA F as H) H := fun a o h => by
  obtain ⟨h1, h2, h3⟩ := bsA_nil h
  cases e : F.H a with
  | none => exact h3 e
  | some x => exact s _ _ (F.le _ _ (h2 ⟨x, e⟩))
theorem bsA_mono {F : Fr} {as : List Addr} {H H' : Hp} (s : Same H H') : Same (bsA F as H) (bsA F as H') := fun a o h => by
  obtain ⟨h1, h2, h3⟩ := bsA_nil h
  cases e : F.H a with
  | none => exact bsA_of h1 e (s _ _ (h3 e))
  | some x => exact bsA_ofB h1 (h2 ⟨x, e⟩)
theorem bsA_sub {F : Fr} {as bs : List Addr} {H : Hp} (s : ∀ a, a ∈ bs → a ∈ as) : Same (bsA F as H) (bsA F bs H) := fun a o h => by
  obtain ⟨h1, h2, h3⟩ := bsA_nil h
  have h1' : a ∉ bs := fun z => h1 (s a z)
  cases e : F.H a with
  | none => exact bsA_of h1' e (h3 e)
  | some x => exact bsA_ofB h1' (h2 ⟨x, e⟩)
theorem bsA_cons {F : Fr} {as : List Addr} {H : Hp} {p : Addr} : bsA F (p :: as) H = rm (bsA F as H) p := funext fun a => by
  unfold bsA rm
  by_cases e : a = p
  · rw [if_pos e, if_pos (by rw [e]; exact List.mem_cons_self)]
  · rw [if_neg e]
    show _ = if a ∈ as then none else if (F.H a).isSome = true then F.B a else H a
    by_cases m : a ∈ as
    · rw [if_pos m, if_pos (List.mem_cons_of_mem _ m)]
    · rw [if_neg m, if_neg (fun z => by
        rcases List.mem_cons.mp z with z | z
        · exact e z
        · exact m z)]
theorem bsA_upd {F : Fr} {as : List Addr} {H : Hp} {p : Addr} {o : HO} (h : p ∈ as) : bsA F as (upd H p o) = bsA F as H := funext fun a => by
  unfold bsA
  by_cases e : a = p
  · rw [if_pos (by rw [e]; exact h), if_pos (by rw [e]; exact h)]
  · rw [upd_ne e]
theorem bsA_new {F : Fr} {as : List Addr} {H : Hp} {p : Addr} {o : HO} (s : Same F.H H) (h : H p = none) (m : p ∉ as) : bsA F as (upd H p o) p = some o := bsA_of m (s.free h) upd_same
theorem bsA_free {F : Fr} {as : List Addr} {H : Hp} {p : Addr} (s : Same F.H H) (h : H p = none) : bsA F as H p = none := (bsA_le s).free h

/-- what a call or an expression hands back: the heap ahead, the part of the heap behind that is left alone, the heap behind -/
structure Res (ρ : Type) where
  rel : Hp → Hp → Hp → V → ρ → Prop
  same : ∀ {H B1 B2 H1 H2 : Hp} {v : V} {a : ρ}, Same B1 B2 → Same H1 H2 → rel H B1 H1 v a → rel H B2 H2 v a
  pre : ∀ {H H1 B H2 : Hp} {v : V} {a : ρ}, Same H H1 → rel H1 B H2 v a → rel H B H2 v a
def rO {α : Type} (A : Ty α) : Res α := ⟨fun _ B _ v a => A.rel B v a, fun s _ h => A.same s h, fun _ h => h⟩
/-- to be read at once -/
def rB {α : Type} (A : Ty α) : Res α := ⟨fun _ _ H v a => A.rel H v a, fun _ s h => A.same s h, fun _ h => h⟩
/-- a new list -/
def rN {α : Type} (A : Ty α) : Res (List α) := ⟨fun H B _ v xs => ∃ p vs, v = .ref p ∧ H p = none ∧ B p = some (.lst vs) ∧ Paired (A.rel (rm B p)) vs xs,
  fun s _ ⟨p, vs, e, h0, h1, r⟩ => ⟨p, vs, e, h0, s _ _ h1, Paired.imp (fun _ _ r => A.same (rm_mono s) r) r⟩, fun s ⟨p, vs, e, h0, h1, r⟩ => ⟨p, vs, e, s.free h0, h1, r⟩⟩
/-- a list to be read at once, whose items may be kept -/
def rE {α : Type} (K : PySem.W.Frag) (A : Ty α) : Res (List α) := ⟨fun _ B H v xs => ∃ a vs, v = .ref a ∧ SqL K H a vs ∧ Paired (A.rel B) vs xs, fun s t ⟨a, vs, e, h, r⟩ => ⟨a, vs, e, t.seq h, Paired.imp (fun _ _ r => A.same s r) r⟩, fun _ h => h⟩
def rEK {α : Type} (A : Ty α) : Res (List α) := ⟨fun _ B H v xs => ∃ a vs, v = .ref a ∧ H a = some (.lst vs) ∧ Paired (A.rel B) vs xs, fun s t ⟨a, vs, e, h, r⟩ => ⟨a, vs, e, t _ _ h, Paired.imp (fun _ _ r => A.same s r) r⟩, fun _ h => h⟩
/-- seen at the whole heap, it stands in the part that is left alone too -/
class RIm {ρ : Type} (R : Res ρ) : Prop where
  im : ∀ {H B B' H' : Hp} {v : V} {a : ρ}, R.rel H B H' v a → Same B H' → Imm H' B' → (∀ p o, H p = none → B p = some o → B' p = some o) → R.rel H B' H' v a
instance {α : Type} {A : Ty α} [hA : Im A] : RIm (rO A) := ⟨fun r s i _ => hA.imm i (A.same s r)⟩
theorem Imm.rm_lst {H' B : Hp} {p : Addr} {vs : List V} (i : Imm H' B) (h : H' p = some (.lst vs)) : Imm H' (rm B p) := fun a o f e => by
  unfold rm
  have ne : a ≠ p := fun z => by
    rw [z, h] at e
    cases e
    cases f
  rw [if_neg ne]
  exact i a o f e
instance {α : Type} {A : Ty α} [hA : Im A] : RIm (rN A) := ⟨fun ⟨p, vs, e, h0, h1, r⟩ s i n => ⟨p, vs, e, h0, n _ _ h0 h1, Paired.imp (fun _ _ r => hA.imm (Imm.rm_lst i (s _ _ h1)) (A.same (rm_le.trans s) r)) r⟩⟩

/-! ### where one stands -/
inductive Slot : Type 1 where
  | any
  | val {α : Type} (A : Ty α) (a : α)
  | at (p : Addr)
abbrev sv {α : Type} (A : Ty α) (a : α) : Slot := .val A a
def Slot.ok (B : Hp) : Slot → Option V → Prop
  | .any, _ => True
  | .val A a, o => ∃ v, o = some v ∧ A.rel B v a
  | .at p, o => o = some (.ref p)
inductive Cell : Type 1 where
  | lst (p : Addr) {α : Type} (A : Ty α) (xs : List α)
  | fix {α : Type} (A : Ty α) (v : V) (a : α)
  | ins (x dx C : Addr) (ns : List Str) {κ : Type} (U : ATy κ) (t : κ)
  | raw (p : Addr) (o : HO)
def Cell.addr : Cell → Option Addr
  | .lst p _ _ => some p
  | .fix _ _ _ => none
  | .ins x _ _ _ _ _ => some x
  | .raw p _ => some p
def Cell.ok (F : Fr) (B H : Hp) : Cell → Prop
  | .lst p A xs => F.H p = none ∧ ∃ vs, H p = some (.lst vs) ∧ Paired (A.rel B) vs xs
  | .fix A v a => A.rel B v a
  | .ins x dx C ns U t => F.H x = none ∧ ∃ vs, H x = some (.ins C dx (ns.zip vs)) ∧ vs.length = ns.length ∧ U.rel B vs t
  | .raw p o => F.H p = none ∧ isFix o = false ∧ H p = some o
/-- slot by slot -/
inductive Par (B : Hp) : L2.St → List Slot → Prop where
  | nil : Par B [] []
  | cons {o : Option V} {s : Slot} {σ : L2.St} {r : List Slot} : s.ok B o → Par B σ r → Par B (o :: σ) (s :: r)
theorem Par.imp {H H' : Hp} (h : ∀ (s : Slot) (o : Option V), s.ok H o → s.ok H' o) : ∀ {σ : L2.St} {m : List Slot}, Par H σ m → Par H' σ m
  | _, _, .nil => .nil
  | _, _, .cons x r => .cons (h _ _ x) (Par.imp h r)
theorem Par.at {H : Hp} : ∀ {σ : L2.St} {m : List Slot} {i : Nat} {b : Slot}, Par H σ m → m[i]? = some b → ∃ a, σ[i]? = some a ∧ b.ok H a
  | _, _, i, b, .nil, e => by simp at e
  | _, _, 0, b, .cons x _, e => by
    have e' := Option.some.inj e
    subst e'
    exact ⟨_, rfl, x⟩
  | _, _, i + 1, b, .cons _ r, e => by
    obtain ⟨a, h1, h2⟩ := Par.at (i := i) (b := b) r e
    exact ⟨a, h1, h2⟩
theorem Par.set {H : Hp} {o : Option V} {t : Slot} (h : t.ok H o) : ∀ {σ : L2.St} {m : List Slot} (i : Nat), Par H σ m → Par H (σ.set i o) (m.set i t)
  | _, _, _, .nil => .nil
  | _, _, 0, .cons _ r => .cons h r
  | _, _, i + 1, .cons x r => .cons x (Par.set h i r)
/-- a slot that says what it holds may be said anew -/
theorem Par.re {H : Hp} {t : Slot} : ∀ {σ : L2.St} {m : List Slot} (i : Nat), Par H σ m → (∀ o, σ[i]? = some o → t.ok H o) → Par H σ (m.set i t)
  | _, _, _, .nil, _ => .nil
  | _, _, 0, .cons _ r, h => .cons (h _ rfl) r
  | _, _, i + 1, .cons x r, h => .cons x (Par.re i r fun o e => h o e)
structure Gm : Type 1 where
  s : List Slot
  c : List Cell
abbrev Gm.ad (g : Gm) : List Addr := g.c.filterMap Cell.addr
def Gm.bs (F : Fr) (g : Gm) (H : Hp) : Hp := bsA F g.ad H
structure Gm.Ok (F : Fr) (g : Gm) (σ : St) (H : Hp) : Prop where
  same : Same F.H H
  slots : Par (g.bs F H) σ g.s
  nd : g.ad.Nodup
  cells : ∀ c ∈ g.c, c.ok F (g.bs F H) H
theorem Slot.ok_same {H H' : Hp} (s : Same H H') : ∀ {t : Slot} {o : Option V}, t.ok H o → t.ok H' o
  | .any, _, h => h
  | .val A a, _, ⟨v, e, h⟩ => ⟨v, e, A.same s h⟩
  | .at _, _, h => h
theorem Cell.ok_same {F : Fr} {B B' H H' : Hp} (t : Same B B') (s : Same H H') : ∀ {c : Cell}, c.ok F B H → c.ok F B' H'
  | .lst p A xs, ⟨n, vs, e, r⟩ => ⟨n, vs, s _ _ e, Paired.imp (fun _ _ r => A.same t r) r⟩
  | .fix A v a, h => A.same t h
  | .ins x dx C ns U u, ⟨n, vs, e, l, r⟩ => ⟨n, vs, s _ _ e, l, U.same t r⟩
  | .raw p o, ⟨n, f, e⟩ => ⟨n, f, s _ _ e⟩
section
variable {F : Fr} {g : Gm} {σ : St} {H H' : Hp}
theorem Gm.Ok.le (k : g.Ok F σ H) : Same (g.bs F H) H := bsA_le k.same
theorem Gm.Ok.leT (k : g.Ok F σ H) (s : Same H H') : Same (g.bs F H') H' := bsA_le (k.same.trans s)
theorem Gm.mono (s : Same H H') : Same (g.bs F H) (g.bs F H') := bsA_mono s
theorem Gm.Ok.step (k : g.Ok F σ H) (s : Same H H') : g.Ok F σ H' :=
  ⟨k.same.trans s, Par.imp (fun _ _ h => Slot.ok_same (Gm.mono s) h) k.slots, k.nd, fun c hc => Cell.ok_same (Gm.mono s) s (k.cells c hc)⟩
theorem Gm.Ok.var (k : g.Ok F σ H) {i : Nat} {t : Slot} (h : g.s[i]? = some t) : ∃ o, σ[i]? = some o ∧ t.ok (g.bs F H) o := Par.at k.slots h
theorem Gm.Ok.ref (k : g.Ok F σ H) {i : Nat} {l : Addr} (hs : g.s[i]? = some (.at l)) : σ[i]? = some (some (.ref l)) := by
  obtain ⟨o, h1, e⟩ := k.var hs
  have e' : o = some (.ref l) := e
  rw [h1, e']
theorem Gm.Ok.cell (k : g.Ok F σ H) {j : Nat} {l : Addr} {α : Type} {A : Ty α} {xs : List α} (hc : g.c[j]? = some (.lst l A xs)) : ∃ vs, H l = some (.lst vs) ∧ Paired (A.rel (g.bs F H)) vs xs :=
  (k.cells _ (List.mem_of_getElem? hc)).2
theorem Gm.mem_ad {c : Cell} {p : Addr} (hc : c ∈ g.c) (h : c.addr = some p) : p ∈ g.ad := List.mem_filterMap.mpr ⟨c, hc, h⟩
/-- every address of a cell: new since the entry, and there, and no fixed thing -/
theorem Gm.Ok.ad_some (k : g.Ok F σ H) {p : Addr} (h : p ∈ g.ad) : F.H p = none ∧ ∃ o, H p = some o ∧ isFix o = false := by
  obtain ⟨c, hc, e⟩ := List.mem_filterMap.mp h
  have kc := k.cells c hc
  cases c with
  | lst q A xs =>
    have e' : q = p := Option.some.inj e
    subst e'
    obtain ⟨n, vs, e2, _⟩ := kc
    exact ⟨n, _, e2, rfl⟩
  | fix A v a => cases e
  | ins x dx C ns U t =>
    have e' : x = p := Option.some.inj e
    subst e'
    obtain ⟨n, vs, e2, _⟩ := kc
    exact ⟨n, _, e2, rfl⟩
  | raw q o =>
    have e' : q = p := Option.some.inj e
    subst e'
    obtain ⟨n, f, e2⟩ := kc
    exact ⟨n, _, e2, f⟩
theorem Gm.Ok.fresh (k : g.Ok F σ H) {p : Addr} (h : H p = none) : p ∉ g.ad := fun m => by
  obtain ⟨_, o, e, _⟩ := k.ad_some m
  rw [h] at e
  cases e
theorem Gm.Ok.fx (k : g.Ok F σ H) : Imm H (g.bs F H) := fun a o f h => by
  have m : a ∉ g.ad := fun m => by
    obtain ⟨_, o', e, f'⟩ := k.ad_some m
    rw [h] at e
    have e' := Option.some.inj e
    subst e'
    rw [f] at f'
    cases f'
  cases e : F.H a with
  | none => exact bsA_of m e h
  | some x =>
    have e2 := k.same _ _ e
    rw [h] at e2
    have e3 := Option.some.inj e2
    subst e3
    exact bsA_ofB m (F.fx a o f e)
theorem Gm.Ok.bs_new (k : g.Ok F σ H) {p : Addr} {o : HO} (h : H p = none) : g.bs F (upd H p o) p = some o := bsA_new k.same h (k.fresh h)
theorem Gm.Ok.bs_of (k : g.Ok F σ H) (s : Same H H') {p : Addr} {o : HO} (h : H p = none) (e : H' p = some o) : g.bs F H' p = some o := bsA_of (k.fresh h) (k.same.free h) e
theorem Gm.Ok.bs_free (k : g.Ok F σ H) {p : Addr} (h : H p = none) : g.bs F H p = none := k.le.free h
/-- what is new at p, over what stood there before -/
theorem Gm.Ok.rm_new (k : g.Ok F σ H) {p : Addr} {o : HO} (h : H p = none) : Same (g.bs F H) (rm (g.bs F (upd H p o)) p) := J.rm_new (Gm.mono (same_upd h)) (k.bs_free h)
abbrev Gm.set (g : Gm) (i : Nat) (t : Slot) : Gm := ⟨g.s.set i t, g.c⟩
abbrev Gm.push (g : Gm) (c : Cell) : Gm := ⟨g.s, c :: g.c⟩
theorem Gm.Ok.set (k : g.Ok F σ H) {i : Nat} {t : Slot} {v : V} (h : t.ok (g.bs F H) (some v)) : (g.set i t).Ok F (σ.set i (some v)) H :=
  ⟨k.same, Par.set h i k.slots, k.nd, k.cells⟩
/-- a new cell -/
theorem Gm.Ok.push (k : g.Ok F σ H) (s : Same H H') {c : Cell} {p : Addr} (hp : c.addr = some p) (h : H p = none) (hc : c.ok F (rm (g.bs F H') p) H') : (g.push c).Ok F σ H' := by
  have ad : (g.push c).ad = p :: g.ad := by
    show (c :: g.c).filterMap Cell.addr = _
    rw [List.filterMap_cons, hp]
  have eb : (g.push c).bs F H' = rm (g.bs F H') p := by
    unfold Gm.bs
    rw [ad, bsA_cons]
  have mo : Same (g.bs F H) ((g.push c).bs F H') := by
    rw [eb]
    exact J.rm_new (Gm.mono s) (k.bs_free h)
  refine ⟨k.same.trans s, Par.imp (fun _ _ h => Slot.ok_same mo h) k.slots, ?_, fun d hd => ?_⟩
  · rw [ad]
    exact List.nodup_cons.mpr ⟨k.fresh h, k.nd⟩
  · rcases List.mem_cons.mp hd with rfl | hd
    · rw [eb]
      exact hc
    · exact Cell.ok_same mo s (k.cells d hd)
theorem Gm.Ok.new (k : g.Ok F σ H) (s : Same H H') {p : Addr} {α : Type} {A : Ty α} {xs : List α} {vs : List V} (h : H p = none) (e : g.bs F H' p = some (.lst vs)) (r : Paired (A.rel (rm (g.bs F H') p)) vs xs) :
    (g.push (.lst p A xs)).Ok F σ H' := k.push s rfl h ⟨k.same.free h, vs, k.leT s _ _ e, r⟩
theorem Gm.Ok.fixed (k : g.Ok F σ H) {α : Type} {A : Ty α} {v : V} {a : α} (h : A.rel (g.bs F H) v a) : (g.push (.fix A v a)).Ok F σ H :=
  ⟨k.same, k.slots, k.nd, fun c hc => by
    rcases List.mem_cons.mp hc with rfl | hc
    · exact h
    · exact k.cells c hc⟩
end
theorem ad_set {cs : List Cell} {c c' : Cell} : ∀ {j : Nat}, cs[j]? = some c → c'.addr = c.addr → (cs.set j c').filterMap Cell.addr = cs.filterMap Cell.addr := by
  induction cs with
  | nil => intro j h; simp at h
  | cons d r ih =>
    intro j h e
    cases j with
    | zero =>
      have q : d = c := Option.some.inj h
      subst q
      rw [List.set_cons_zero, List.filterMap_cons, List.filterMap_cons, e]
    | succ j =>
      have q := ih (j := j) h e
      rw [List.set_cons_succ, List.filterMap_cons, List.filterMap_cons, q]
theorem addr_of_get {cs : List Cell} {j : Nat} {p : Addr} {d : Cell} (h : cs[j]? = some d) (hd : d.addr = some p) (nd : (cs.filterMap Cell.addr).Nodup) :
    ∀ i c, cs[i]? = some c → c.addr = some p → i = j := by
  induction cs generalizing j with
  | nil => simp at h
  | cons e r ih =>
    intro i c hi hc
    have mem : ∀ {k : Nat} {c : Cell}, r[k]? = some c → c.addr = some p → p ∈ r.filterMap Cell.addr := fun hk hc => List.mem_filterMap.mpr ⟨_, List.mem_of_getElem? hk, hc⟩
    have hdn : e.addr = some p → p ∉ r.filterMap Cell.addr := fun z => by
      rw [List.filterMap_cons, z] at nd
      exact (List.nodup_cons.mp nd).1
    have ndr : (r.filterMap Cell.addr).Nodup := by
      cases ea : e.addr with
      | none =>
        rw [List.filterMap_cons, ea] at nd
        exact nd
      | some q =>
        rw [List.filterMap_cons, ea] at nd
        exact (List.nodup_cons.mp nd).2
    cases i with
    | zero =>
      have e1 : e = c := Option.some.inj hi
      subst e1
      cases j with
      | zero => rfl
      | succ j => exact absurd (mem (k := j) h hd) (hdn hc)
    | succ i =>
      cases j with
      | zero =>
        have e1 : e = d := Option.some.inj h
        subst e1
        exact absurd (mem (k := i) hi hc) (hdn hd)
      | succ j => rw [ih h ndr i c hi hc]
/-- the thing at cell j is changed -/
theorem Gm.Ok.mutC {F : Fr} {g : Gm} {σ : St} {H : Hp} (k : g.Ok F σ H) {j : Nat} {p : Addr} {c c' : Cell} {o : HO} (hj : g.c[j]? = some c) (ha : c.addr = some p) (ha' : c'.addr = some p) (hc : c'.ok F (g.bs F H) (upd H p o)) : (⟨g.s, g.c.set j c'⟩ : Gm).Ok F σ (upd H p o) := by
  have pm : p ∈ g.ad := Gm.mem_ad (List.mem_of_getElem? hj) ha
  have jl : j < g.c.length := (List.getElem?_eq_some_iff.mp hj).1
  have ea : (⟨g.s, g.c.set j c'⟩ : Gm).ad = g.ad := ad_set hj (by rw [ha, ha'])
  have eb : (⟨g.s, g.c.set j c'⟩ : Gm).bs F (upd H p o) = g.bs F H := by
    show bsA F (⟨g.s, g.c.set j c'⟩ : Gm).ad _ = bsA F g.ad H
    rw [ea]
    exact bsA_upd pm
  refine ⟨Same.mut k.same (k.ad_some pm).1, by rw [eb]; exact k.slots, by rw [ea]; exact k.nd, fun d hd => ?_⟩
  rw [eb]
  obtain ⟨n, hn⟩ := List.getElem?_of_mem hd
  by_cases hnj : j = n
  · subst hnj
    rw [List.getElem?_set_self jl] at hn
    have q := Option.some.inj hn
    subst q
    exact hc
  · rw [List.getElem?_set_ne hnj] at hn
    have old := k.cells d (List.mem_of_getElem? hn)
    have ne : ∀ {q : Addr}, d.addr = some q → q ≠ p := fun hq z => hnj (addr_of_get hj ha k.nd n _ hn (by rw [hq, z])).symm
    cases d with
    | lst q B zs =>
      obtain ⟨n0, us, eu, ru⟩ := old
      exact ⟨n0, us, by rw [upd_ne (ne rfl)]; exact eu, ru⟩
    | fix B v a => exact old
    | ins x dx C ns U t =>
      obtain ⟨n0, us, eu, ru⟩ := old
      exact ⟨n0, us, by rw [upd_ne (ne rfl)]; exact eu, ru⟩
    | raw q o' =>
      obtain ⟨n0, f, eu⟩ := old
      exact ⟨n0, f, by rw [upd_ne (ne rfl)]; exact eu⟩
theorem Gm.Ok.mut {F : Fr} {g : Gm} {σ : St} {H : Hp} (k : g.Ok F σ H) {j : Nat} {p : Addr} {α : Type} {A : Ty α} {xs ys : List α} {ws : List V} (hj : g.c[j]? = some (.lst p A xs))
    (r : Paired (A.rel (g.bs F H)) ws ys) : (⟨g.s, g.c.set j (.lst p A ys)⟩ : Gm).Ok F σ (upd H p (.lst ws)) := k.mutC hj rfl rfl ⟨(k.ad_some (Gm.mem_ad (List.mem_of_getElem? hj) rfl)).1, ws, upd_same, r⟩

/-! ### less is known -/
inductive SubS : List Slot → List Slot → Prop where
  | nil : SubS [] []
  | same {s : Slot} {a b : List Slot} : SubS a b → SubS (s :: a) (s :: b)
  | any {s : Slot} {a b : List Slot} : SubS a b → SubS (s :: a) (.any :: b)
theorem SubS.ok {H : Hp} : ∀ {a b : List Slot} {σ : St}, SubS a b → Par H σ a → Par H σ b
  | _, _, _, .nil, h => h
  | _, _, _, .same r, .cons x h => .cons x (SubS.ok r h)
  | _, _, _, .any r, .cons x h => .cons trivial (SubS.ok r h)
theorem SubS.refl : ∀ a : List Slot, SubS a a
  | [] => .nil
  | _ :: r => .same (SubS.refl r)
structure Sub (g g' : Gm) : Prop where
  s : SubS g.s g'.s
  c : g'.c.Sublist g.c
theorem Sub.bs {g g' : Gm} (h : Sub g g') {F : Fr} {H : Hp} : Same (g.bs F H) (g'.bs F H) := bsA_sub fun _ m => (List.Sublist.filterMap _ h.c).subset m
theorem Sub.ok {g g' : Gm} (h : Sub g g') {F : Fr} {σ : St} {H : Hp} (k : g.Ok F σ H) : g'.Ok F σ H :=
  ⟨k.same, Par.imp (fun _ _ z => Slot.ok_same h.bs z) (h.s.ok k.slots), List.Nodup.sublist (List.Sublist.filterMap _ h.c) k.nd, fun c hc => Cell.ok_same h.bs (fun _ _ z => z) (k.cells c (h.c.subset hc))⟩
theorem Sub.refl (g : Gm) : Sub g g := ⟨SubS.refl _, List.Sublist.refl _⟩
/-- a list is not changed any more -/
theorem Gm.Ok.freeze {F : Fr} {g : Gm} {σ : St} {H : Hp} (k : g.Ok F σ H) {i j : Nat} {p : Addr} {α : Type} {A : Ty α} {xs : List α} (hs : g.s[i]? = some (.at p)) (hj : g.c[j]? = some (.lst p A xs)) : (⟨g.s.set i (.val (tK A) xs), g.c.eraseIdx j⟩ : Gm).Ok F σ H := by
  have jl : j < g.c.length := (List.getElem?_eq_some_iff.mp hj).1
  have sub : Sub g ⟨g.s, g.c.eraseIdx j⟩ := ⟨SubS.refl _, List.eraseIdx_sublist ..⟩
  have k2 := sub.ok k
  obtain ⟨vs, hp, r⟩ := k.cell hj
  have nm : p ∉ (g.c.eraseIdx j).filterMap Cell.addr := fun m => by
    obtain ⟨d, hd, e⟩ := List.mem_filterMap.mp m
    obtain ⟨n, hn⟩ := List.getElem?_of_mem hd
    rw [List.getElem?_eraseIdx] at hn
    by_cases l : n < j
    · rw [if_pos l] at hn
      have := addr_of_get hj rfl k.nd n d hn e
      omega
    · rw [if_neg l] at hn
      have := addr_of_get hj rfl k.nd (n + 1) d hn e
      omega
  refine ⟨k2.same, Par.re (t := .val (tK A) xs) i k2.slots fun o e => ?_, k2.nd, k2.cells⟩
  rw [k.ref hs] at e
  have e' := Option.some.inj e
  subst e'
  exact ⟨.ref p, rfl, p, vs, rfl, bsA_of nm (k.ad_some (Gm.mem_ad (List.mem_of_getElem? hj) rfl)).1 hp, Paired.imp (fun _ _ z => A.same sub.bs z) r⟩

/-! ### readings over data -/
def RJ {ρ : Type} (F : Fr) (g : Gm) (R : Res ρ) (w : (ρ → Prop) → Prop) : TE := fun σ H Q => g.Ok F σ H ∧ ∃ P, w P ∧ ∀ a v H', P a → Same H H' → R.rel H (g.bs F H') H' v a → Q v H'
/-- arguments: to be kept, or to be read at once -/
def RA {τ : Type} (F : Fr) (g : Gm) (T : ATy τ) (w : (τ → Prop) → Prop) : TA := fun σ H Q => g.Ok F σ H ∧ ∃ P, w P ∧ ∀ t vs H', P t → Same H H' → T.rel (g.bs F H') vs t → Q vs H'
def RAb {τ : Type} (F : Fr) (g : Gm) (T : ATy τ) (w : (τ → Prop) → Prop) : TA := fun σ H Q => g.Ok F σ H ∧ ∃ P, w P ∧ ∀ t vs H', P t → Same H H' → T.rel H' vs t → Q vs H'
def RT (F : Fr) (g : Gm) (w : Prop → Prop → Prop) : TT := fun σ H Q => g.Ok F σ H ∧ ∃ A B, w A B ∧ (A → ∀ H', Same H H' → Q true H') ∧ (B → ∀ H', Same H H' → Q false H')
structure Le (D D' : Ends) : Prop where
  nx : ∀ σ H, D.nx σ H → D'.nx σ H
  rt : ∀ v H, D.rt v H → D'.rt v H
  bk : ∀ σ H, D.bk σ H → D'.bk σ H
  ct : ∀ σ H, D.ct σ H → D'.ct σ H
theorem Le.refl (D : Ends) : Le D D := ⟨fun _ _ h => h, fun _ _ h => h, fun _ _ h => h, fun _ _ h => h⟩
def RS (F : Fr) (g : Gm) (D : Ends) (w : Prop) : TS := fun D' σ H => Le D D' ∧ g.Ok F σ H ∧ w
/-- at a block's end: some state of the family S, of which N holds -/
def phi {τ : Type} (F : Fr) (S : τ → Gm) (N : τ → Prop) : St → Hp → Prop := fun σ H => ∃ s, (S s).Ok F σ H ∧ N s
abbrev JE {ρ : Type} (X : Cx) (F : Fr) (g : Gm) (e : Expr) (R : Res ρ) (w : (ρ → Prop) → Prop) : Prop := PE X e (RJ F g R w)
abbrev JA {τ : Type} (X : Cx) (F : Fr) (g : Gm) (es : List Expr) (T : ATy τ) (w : (τ → Prop) → Prop) : Prop := PA X es (RA F g T w)
abbrev JAb {τ : Type} (X : Cx) (F : Fr) (g : Gm) (es : List Expr) (T : ATy τ) (w : (τ → Prop) → Prop) : Prop := PA X es (RAb F g T w)
abbrev JT (X : Cx) (F : Fr) (g : Gm) (e : Expr) (w : Prop → Prop → Prop) : Prop := PT X e (RT F g w)
abbrev JW (X : Cx) (F : Fr) (g : Gm) (e : Expr) (w : Prop → Prop → Prop) : Prop := PW X e (RT F g w)
abbrev JSs (X : Cx) (F : Fr) (g : Gm) (sts : List Stmt) (D : Ends) (w : Prop) : Prop := PSs X sts (RS F g D w)
/-- what was made since the entry, and what was left alone before -/
def Fr.out (F : Fr) (H : Hp) : Hp := bsA F [] H
/-- a return's value reaches what is wanted -/
def RtOk {ρ : Type} (F : Fr) (R : Res ρ) (P : ρ → Prop) (rt : VK) : Prop := ∀ r v H, P r → Same F.H H → R.rel F.H (F.out H) H v r → rt v H
theorem Gm.out {g : Gm} {F : Fr} {H : Hp} : Same (g.bs F H) (F.out H) := bsA_sub fun _ m => by cases m
/-- what a def promises -/
def spJ {τ ρ : Type} (T : ATy τ) (R : Res ρ) (w : τ → (ρ → Prop) → Prop) : Sp := fun vs H Q _ => ∃ (t : τ) (P : ρ → Prop) (F : Fr), F.H = H ∧ T.rel F.B vs t ∧ w t P ∧ RtOk F R P Q
/-- the whole heap left alone -/
def Fr.all (H : Hp) : Fr := ⟨H, H, fun _ _ h => h, Imm.refl H⟩
/-- the caller's part -/
def Gm.Ok.fr {F : Fr} {g : Gm} {σ : St} {H : Hp} (k : g.Ok F σ H) : Fr := ⟨g.bs F H, H, k.le, k.fx⟩
theorem Gm.Ok.back {F : Fr} {g : Gm} {σ : St} {H H' : Hp} (k : g.Ok F σ H) (s : Same H H') : Same (k.fr.out H') (g.bs F H') := fun a o h => by
  obtain ⟨_, h2, h3⟩ := bsA_nil h
  cases e : H a with
  | none =>
    have h4 : H' a = some o := h3 e
    exact k.bs_of s e h4
  | some x =>
    have h4 : g.bs F H a = some o := h2 ⟨x, e⟩
    exact Gm.mono s _ _ h4
theorem Gm.Ok.backB {F : Fr} {g : Gm} {σ : St} {H H' : Hp} (k : g.Ok F σ H) (s : Same H H') {ρ : Type} {R : Res ρ} [hR : RIm R] {v : V} {a : ρ} (h : R.rel H ((Fr.all H).out H') H' v a) : R.rel H (g.bs F H') H' v a :=
  hR.im h (bsA_le s) (k.step s).fx fun p o h0 h1 => by
    obtain ⟨_, _, h3⟩ := bsA_nil h1
    exact k.bs_of s h0 (h3 h0)

end J
/-! A1: a rule a construct -/
namespace J
open PySem PySem.Spec L2
section
variable {X : Cx} {F : Fr} {g : Gm} {α β γ δ ρ τ : Type}

/-! ### expressions -/
theorem je_var {i : Nat} {A : Ty α} {a : α} {x : Str} {pos : Pos} (hs : g.s[i]? = some (.val A a)) (hN : X.N[i]? = some x := by rfl) (hv : Vis X.env.scope x := by first | exact Or.inl rfl | exact Or.inr (Or.inl rfl) | exact Or.inr (Or.inr rfl))
    (hd : (x == ("__debug__" : Str)) = false := by decide) (hcd : (x == ("__classdict__" : Str)) = false := by decide) : JE X F g (.Name x pos) (rO A) (fun k => k a) :=
  peW (pe_var hN hv hd hcd) fun σ H Q ⟨k, P, w, q⟩ => by
    obtain ⟨o, h1, v, e, h2⟩ := k.var hs
    subst e
    exact ⟨v, h1, q a v H w (Same.refl H) h2⟩
theorem je_cell {i j : Nat} {p : Addr} {A : Ty α} {xs : List α} {x : Str} {pos : Pos} (hs : g.s[i]? = some (.at p)) (hc : g.c[j]? = some (.lst p A xs)) (hN : X.N[i]? = some x := by rfl) (hv : Vis X.env.scope x := by first | exact Or.inl rfl | exact Or.inr (Or.inl rfl) | exact Or.inr (Or.inr rfl))
    (hd : (x == ("__debug__" : Str)) = false := by decide) (hcd : (x == ("__classdict__" : Str)) = false := by decide) : JE X F g (.Name x pos) (rEK A) (fun k => k xs) :=
  peW (pe_var hN hv hd hcd) fun σ H Q ⟨k, P, w, q⟩ => by
    obtain ⟨vs, hp, r⟩ := k.cell hc
    exact ⟨.ref p, k.ref hs, q xs (.ref p) H w (Same.refl H) ⟨p, vs, rfl, hp, r⟩⟩
/-- one reading of a value serves for another -/
theorem je_res {R S : Res ρ} {e : Expr} {w : (ρ → Prop) → Prop} (h : JE X F g e R w) (hr : ∀ H σ H' v a, g.Ok F σ H' → R.rel H (g.bs F H') H' v a → S.rel H (g.bs F H') H' v a) : JE X F g e S w :=
  peW h fun σ H Q ⟨k, P, hw, q⟩ => ⟨k, P, hw, fun a v H' p s r => q a v H' p s (hr _ _ _ _ _ (k.step s) r)⟩
section
variable {A : Ty α} {e : Expr}
theorem je_b {w : (α → Prop) → Prop} (h : JE X F g e (rO A) w) : JE X F g e (rB A) w := je_res h fun _ _ _ _ _ k r => A.same k.le r
theorem je_eL {w : (List α → Prop) → Prop} (h : JE X F g e (rO (tL X.K A)) w) : JE X F g e (rE X.K A) w := je_res h fun _ _ _ _ _ k ⟨a, vs, e, hq, r⟩ => ⟨a, vs, e, k.le.seq hq, r⟩
theorem je_eK {w : (List α → Prop) → Prop} (h : JE X F g e (rO (tK A)) w) : JE X F g e (rEK A) w := je_res h fun _ _ _ _ _ k ⟨a, vs, e, hq, r⟩ => ⟨a, vs, e, k.le _ _ hq, r⟩
theorem je_eN {w : (List α → Prop) → Prop} (h : JE X F g e (rN A) w) : JE X F g e (rEK A) w := je_res h fun _ _ _ _ _ k ⟨a, vs, e, _, hq, r⟩ => ⟨a, vs, e, k.le _ _ hq, Paired.imp (fun _ _ r => A.same rm_le r) r⟩
theorem je_e {w : (List α → Prop) → Prop} (h : JE X F g e (rEK A) w) : JE X F g e (rE X.K A) w := je_res h fun _ _ _ _ _ k ⟨a, vs, e, hq, r⟩ => ⟨a, vs, e, .inl (.inl hq), r⟩
theorem je_eb {w : (List α → Prop) → Prop} (h : JE X F g e (rEK A) w) : JE X F g e (rB (tK A)) w := je_res h fun _ _ _ _ _ k ⟨a, vs, e, hq, r⟩ => ⟨a, vs, e, hq, Paired.imp (fun _ _ r => A.same k.le r) r⟩
theorem je_ebL {w : (List α → Prop) → Prop} (h : JE X F g e (rE X.K A) w) : JE X F g e (rB (tL X.K A)) w := je_res h fun _ _ _ _ _ k ⟨a, vs, e, hq, r⟩ => ⟨a, vs, e, hq, Paired.imp (fun _ _ r => A.same k.le r) r⟩
/-- a new list, that is not changed any more -/
theorem je_new {w : (List α → Prop) → Prop} (h : JE X F g e (rN A) w) : JE X F g e (rO (tK A)) w := je_res h fun _ _ _ _ _ k ⟨a, vs, e, _, hq, r⟩ => ⟨a, vs, e, hq, Paired.imp (fun _ _ r => A.same rm_le r) r⟩
/-- a list of our own, where any list will do -/
theorem je_KL {w : (List α → Prop) → Prop} (h : JE X F g e (rO (tK A)) w) : JE X F g e (rO (tL X.K A)) w := je_res h fun _ _ _ _ _ k ⟨a, vs, e, hq, r⟩ => ⟨a, vs, e, .inl (.inl hq), r⟩
end
theorem je_c {e : Expr} {v : V} {A : Ty α} {a : α} (h : PE X e (tC v)) (r : ∀ H, A.rel H v a) : JE X F g e (rO A) (fun k => k a) :=
  peW h fun σ H Q ⟨k, P, w, q⟩ => q a v H w (Same.refl H) (r _)
theorem je_int {n : Int} {j : Nat} {pos : Pos} : JE X F g (.Constant (.int n) j pos) (rO tI) (fun k => k n) := je_c pe_int fun _ => rfl
theorem je_bl {n : Bool} {j : Nat} {pos : Pos} : JE X F g (.Constant (.bool n) j pos) (rO tB) (fun k => k n) := je_c pe_bl fun _ => rfl
theorem je_str {n : Str} {j : Nat} {pos : Pos} : JE X F g (.Constant (.str n) j pos) (rO tS) (fun k => k n) := je_c pe_str fun _ => rfl
theorem je_non {j : Nat} {pos : Pos} : JE X F g (.Constant .none j pos) (rO tN) (fun k => k ()) := je_c pe_non fun _ => rfl
theorem je_nonO {A : Ty α} {j : Nat} {pos : Pos} : JE X F g (.Constant .none j pos) (rO (tO A)) (fun k => k none) := je_c pe_non fun _ => rfl
theorem je_globI {n : Int} {x : Str} {u : Value} {pos : Pos} (hg : Gl X x) (hm : X.mg x = some u) (r : RelV (.int n) u) (hd : (x == ("__debug__" : Str)) = false := by decide) : JE X F g (.Name x pos) (rO tI) (fun k => k n) := je_c (pe_glob hg hm r hd) fun _ => rfl
theorem je_globS {n : Str} {x : Str} {u : Value} {pos : Pos} (hg : Gl X x) (hm : X.mg x = some u) (r : RelV (.str n) u) (hd : (x == ("__debug__" : Str)) = false := by decide) : JE X F g (.Name x pos) (rO tS) (fun k => k n) := je_c (pe_glob hg hm r hd) fun _ => rfl
theorem je_some {A : Ty α} {e : Expr} {w : (α → Prop) → Prop} (h : JE X F g e (rO A) w) (hn : ∀ H a, ¬ A.rel H .non a) : JE X F g e (rO (tO A)) (fun k => w fun a => k (some a)) :=
  peW h fun σ H Q ⟨k, P, hw, q⟩ => ⟨k, _, hw, fun a v H' p s r => q (some a) v H' p s ⟨r, fun e => hn _ a (by rw [← e]; exact r)⟩⟩
/-- another view of the same value -/
theorem je_as {A : Ty α} {B : Ty β} {f : α → β} {e : Expr} {w : (α → Prop) → Prop} (h : JE X F g e (rO A) w) (hf : ∀ H v a, A.rel H v a → B.rel H v (f a)) : JE X F g e (rO B) (fun k => w fun a => k (f a)) :=
  peW h fun σ H Q ⟨k, P, hw, q⟩ => ⟨k, _, hw, fun a v H' p s r => q (f a) v H' p s (hf _ _ _ r)⟩

/-- two operands, then a rule by values -/
theorem je_opR {a b : Expr} {op : Operator} {pos : Pos} {r : R2} {S : Res α} {T : Res β} {R : Res ρ} {wa : (α → Prop) → Prop} {wb : (β → Prop) → Prop} {C : α → β → (ρ → Prop) → Prop} (ho : OpR X (binaryOp op) r)
    (hr : ∀ σ x y Ha Hb H v u (P : ρ → Prop) Q, g.Ok F σ H → S.rel Ha (g.bs F H) H v x → T.rel Hb (g.bs F H) H u y → C x y P → (∀ z v' H', P z → Same H H' → R.rel H (g.bs F H') H' v' z → Q v' H') → r v u H Q)
    (ha : JE X F g a S wa) (hb : JE X F g b T wb) : JE X F g (.BinOp a op b pos) R (fun k => wa fun x => wb fun y => C x y k) :=
  peW (pe_op ho ha hb) fun σ H Q ⟨k, P, w, q⟩ => ⟨k, _, w, fun x v H1 w1 s1 r1 => ⟨k.step s1, _, w1, fun y u H2 w2 s2 r2 =>
    hr σ x y _ _ H2 v u P Q (k.step (s1.trans s2)) (S.same (Gm.mono s2) s2 r1) r2 w2 fun z v' H' p s' r' => q z v' H' p ((s1.trans s2).trans s') (R.pre (s1.trans s2) r')⟩⟩
/-- a written int -/
def tIc (n : Int) : Ty Unit := ⟨fun _ v _ => v = .int n, fun _ h => h⟩
theorem je_lit {n : Int} {j : Nat} {pos : Pos} : JE X F g (.Constant (.int n) j pos) (rO (tIc n)) (fun k => k ()) := je_c pe_int fun _ => rfl
section
variable {a b c : Expr} {pos : Pos} {wa wb wc : (Int → Prop) → Prop}
theorem je_add (ha : JE X F g a (rO tI) wa) (hb : JE X F g b (rO tI) wb) : JE X F g (.BinOp a .Add b pos) (rO tI) (fun k => wa fun x => wb fun y => k (x + y)) :=
  je_opR op_add (fun _ x y _ _ H v u P Q k h1 h2 w q => ⟨x, y, h1, h2, q _ _ H w (Same.refl H) rfl⟩) ha hb
theorem je_sub (ha : JE X F g a (rO tI) wa) (hb : JE X F g b (rO tI) wb) : JE X F g (.BinOp a .Sub b pos) (rO tI) (fun k => wa fun x => wb fun y => k (x - y)) :=
  je_opR op_sub (fun _ x y _ _ H v u P Q k h1 h2 w q => ⟨x, y, h1, h2, q _ _ H w (Same.refl H) rfl⟩) ha hb
theorem je_mul (ha : JE X F g a (rO tI) wa) (hb : JE X F g b (rO tI) wb) : JE X F g (.BinOp a .Mult b pos) (rO tI) (fun k => wa fun x => wb fun y => JMul x y ∧ k (x * y)) :=
  je_opR (C := fun x y k => JMul x y ∧ k (x * y)) (OpR.or op_mul op_mulW) (fun _ x y _ _ H v u P Q k h1 h2 w q => by
    rcases w.1 with m | m | m
    · exact .inl ⟨x, y, h1, h2, .inl m, q _ _ H w.2 (Same.refl H) rfl⟩
    · exact .inl ⟨x, y, h1, h2, .inr m, q _ _ H w.2 (Same.refl H) rfl⟩
    · exact .inr ⟨x, y, h1, h2, m, q _ _ H w.2 (Same.refl H) rfl⟩) ha hb
theorem je_mod (ha : JE X F g a (rO tI) wa) (hb : JE X F g b (rO tI) wb) : JE X F g (.BinOp a .Mod b pos) (rO tI) (fun k => wa fun x => wb fun y => 0 < y ∧ k (x % y)) :=
  je_opR (C := fun x y k => 0 < y ∧ k (x % y)) op_mod (fun _ x y _ _ H v u P Q k h1 h2 w q => ⟨x, y, h1, h2, w.1, q _ _ H w.2 (Same.refl H) rfl⟩) ha hb
theorem je_fdiv (ha : JE X F g a (rO tI) wa) (hb : JE X F g b (rO tI) wb) : JE X F g (.BinOp a .FloorDiv b pos) (rO tI) (fun k => wa fun x => wb fun y => JDiv y ∧ k (x / y)) :=
  je_opR (C := fun x y k => JDiv y ∧ k (x / y)) op_fdivW (fun _ x y _ _ H v u P Q k h1 h2 w q => ⟨x, y, h1, h2, w.1, q _ _ H w.2 (Same.refl H) rfl⟩) ha hb
/-- by a written positive number; a written power -/
theorem je_modL {n : Int} {j : Nat} {p2 : Pos} (ha : JE X F g a (rO tI) wa) (hn : 0 < n := by decide) : JE X F g (.BinOp a .Mod (.Constant (.int n) j p2) pos) (rO tI) (fun k => wa fun x => k (x % n)) :=
  je_opR (T := rO (tIc n)) (C := fun x _ k => k (x % n)) op_mod (fun _ x y _ _ H v u P Q k h1 h2 w q => ⟨x, n, h1, h2, hn, q _ _ H w (Same.refl H) rfl⟩) ha je_lit
theorem je_fdivL {n : Int} {j : Nat} {p2 : Pos} (ha : JE X F g a (rO tI) wa) (hn : 0 < n ∧ n < 1073741824 := by decide) : JE X F g (.BinOp a .FloorDiv (.Constant (.int n) j p2) pos) (rO tI) (fun k => wa fun x => k (x / n)) :=
  je_opR (T := rO (tIc n)) (C := fun x _ k => k (x / n)) op_fdiv (fun _ x y _ _ H v u P Q k h1 h2 w q => ⟨x, n, h1, h2, hn, q _ _ H w (Same.refl H) rfl⟩) ha je_lit
theorem je_mulL {n : Int} {j : Nat} {p2 : Pos} (ha : JE X F g a (rO tI) wa) (hn : -(2 ^ 64) < n ∧ n < 2 ^ 64 := by decide) : JE X F g (.BinOp a .Mult (.Constant (.int n) j p2) pos) (rO tI) (fun k => wa fun x => k (x * n)) :=
  je_opR (T := rO (tIc n)) (C := fun x _ k => k (x * n)) op_mul (fun _ x y _ _ H v u P Q k h1 h2 w q => ⟨x, n, h1, h2, .inr hn, q _ _ H w (Same.refl H) rfl⟩) ha je_lit
theorem je_mulR {n : Int} {j : Nat} {p2 : Pos} (hb : JE X F g b (rO tI) wb) (hn : -(2 ^ 64) < n ∧ n < 2 ^ 64 := by decide) : JE X F g (.BinOp (.Constant (.int n) j p2) .Mult b pos) (rO tI) (fun k => wb fun y => k (n * y)) :=
  je_opR (S := rO (tIc n)) (C := fun _ y k => k (n * y)) op_mul (fun _ x y _ _ H v u P Q k h1 h2 w q => ⟨n, y, h1, h2, .inl hn, q _ _ H w (Same.refl H) rfl⟩) je_lit hb
theorem je_powL {n m : Int} {j i : Nat} {p1 p2 : Pos} (hn : 0 ≤ m ∧ m ≤ 1000000 ∧ n.natAbs < 2 ^ 64 := by decide) : JE X F g (.BinOp (.Constant (.int n) j p1) .Pow (.Constant (.int m) i p2) pos) (rO tI) (fun k => k (n ^ m.toNat)) :=
  je_opR (S := rO (tIc n)) (T := rO (tIc m)) (C := fun _ _ k => k (n ^ m.toNat)) op_pow (fun _ x y _ _ H v u P Q k h1 h2 w q => ⟨n, m, h1, h2, hn, q _ _ H w (Same.refl H) rfl⟩) je_lit je_lit
theorem je_neg (ha : JE X F g a (rO tI) wa) : JE X F g (.UnaryOp .USub a pos) (rO tI) (fun k => wa fun x => k (-x)) :=
  peW (pe_un un_neg ha) fun σ H Q ⟨k, P, w, q⟩ => ⟨k, _, w, fun x v H1 w1 s1 r1 => ⟨x, r1, q _ _ H1 w1 s1 rfl⟩⟩

/-! ### comparisons of ints: as values, as tests -/
end
end
end J
/-! A2: comparisons, tests, calls, tuples, lists -/
namespace J
open PySem PySem.Spec L2
section
variable {X : Cx} {F : Fr} {g : Gm} {α β γ δ ρ τ : Type}

/-! ### comparisons of ints: as values, as tests -/
section
variable {a b c : Expr} {pos : Pos} {wa wb wc : (Int → Prop) → Prop}
theorem cmp_core {op : CmpOp} {p : Int → Int → Bool} (h : ∀ {ta tb : TE}, PE X a ta → PE X b tb → PC X op a b (tCmp p ta tb)) (ha : JE X F g a (rO tI) wa) (hb : JE X F g b (rO tI) wb)
    (h1 : behindInMarks op b = false := by first | exact nobehind _ (by decide) (by decide) | rfl) :
    JE X F g (.Compare a [op] [b] pos) (rO tB) (fun k => wa fun x => wb fun y => k (p x y)) :=
  peW (pe_cmp (h ha hb) h1) fun σ H Q ⟨k, P, w, q⟩ => ⟨k, _, w, fun x v H1 w1 s1 r1 => ⟨k.step s1, _, w1, fun y u H2 w2 s2 r2 => ⟨x, y, r1, r2, q _ _ H2 w2 (s1.trans s2) rfl⟩⟩⟩
theorem cmpT_core {op : CmpOp} {p : Int → Int → Bool} (h : ∀ {ta tb : TE}, PE X a ta → PE X b tb → PC X op a b (tCmp p ta tb)) (ha : JE X F g a (rO tI) wa) (hb : JE X F g b (rO tI) wb)
    (h1 : behindInMarks op b = false := by first | exact nobehind _ (by decide) (by decide) | rfl) :
    JT X F g (.Compare a [op] [b] pos) (fun A B => wa fun x => wb fun y => (p x y = true → A) ∧ (p x y = false → B)) :=
  ptW (pt_cmp (h ha hb) h1) fun σ H Q ⟨k, A, B, w, qa, qb⟩ => ⟨k, _, w, fun x v H1 w1 s1 r1 => ⟨k.step s1, _, w1, fun y u H2 w2 s2 r2 => ⟨x, y, r1, r2, p x y, rfl, by
    cases e : p x y with
    | true => exact qa (w2.1 e) H2 (s1.trans s2)
    | false => exact qb (w2.2 e) H2 (s1.trans s2)⟩⟩⟩
theorem jtW {e : Expr} {w w' : Prop → Prop → Prop} (h : JT X F g e w) (k : ∀ A B, w' A B → w A B) : JT X F g e w' := ptW h fun σ H Q ⟨o, A, B, w, q⟩ => ⟨o, A, B, k _ _ w, q⟩
variable (ha : JE X F g a (rO tI) wa) (hb : JE X F g b (rO tI) wb)
include ha hb
theorem je_lt : JE X F g (.Compare a [.Lt] [b] pos) (rO tB) (fun k => wa fun x => wb fun y => k (decide (x < y))) := cmp_core pc_lt ha hb
theorem je_le : JE X F g (.Compare a [.LtE] [b] pos) (rO tB) (fun k => wa fun x => wb fun y => k (decide (x ≤ y))) := cmp_core pc_le ha hb
theorem je_gt : JE X F g (.Compare a [.Gt] [b] pos) (rO tB) (fun k => wa fun x => wb fun y => k (decide (y < x))) := cmp_core pc_gt ha hb
theorem je_ge : JE X F g (.Compare a [.GtE] [b] pos) (rO tB) (fun k => wa fun x => wb fun y => k (decide (y ≤ x))) := cmp_core pc_ge ha hb
theorem je_eqI : JE X F g (.Compare a [.Eq] [b] pos) (rO tB) (fun k => wa fun x => wb fun y => k (decide (x = y))) := cmp_core pc_eqI ha hb
theorem je_neI : JE X F g (.Compare a [.NotEq] [b] pos) (rO tB) (fun k => wa fun x => wb fun y => k (!decide (x = y))) := cmp_core pc_neI ha hb
theorem jt_lt : JT X F g (.Compare a [.Lt] [b] pos) (fun A B => wa fun x => wb fun y => (decide (x < y) = true → A) ∧ (decide (x < y) = false → B)) := cmpT_core pc_lt ha hb
theorem jt_le : JT X F g (.Compare a [.LtE] [b] pos) (fun A B => wa fun x => wb fun y => (decide (x ≤ y) = true → A) ∧ (decide (x ≤ y) = false → B)) := cmpT_core pc_le ha hb
theorem jt_gt : JT X F g (.Compare a [.Gt] [b] pos) (fun A B => wa fun x => wb fun y => (decide (y < x) = true → A) ∧ (decide (y < x) = false → B)) := cmpT_core pc_gt ha hb
theorem jt_ge : JT X F g (.Compare a [.GtE] [b] pos) (fun A B => wa fun x => wb fun y => (decide (y ≤ x) = true → A) ∧ (decide (y ≤ x) = false → B)) := cmpT_core pc_ge ha hb
theorem jt_eqI : JT X F g (.Compare a [.Eq] [b] pos) (fun A B => wa fun x => wb fun y => (decide (x = y) = true → A) ∧ (decide (x = y) = false → B)) := cmpT_core pc_eqI ha hb
theorem jt_neI : JT X F g (.Compare a [.NotEq] [b] pos) (fun A B => wa fun x => wb fun y => ((!decide (x = y)) = true → A) ∧ ((!decide (x = y)) = false → B)) := cmpT_core pc_neI ha hb
end
/-! comparisons by a rule of values -/
section
variable {a b : Expr} {pos : Pos} {op : CmpOp} {r : R2} {S : Res α} {T : Res β} {wa : (α → Prop) → Prop} {wb : (β → Prop) → Prop} {C : α → β → (Bool → Prop) → Prop}
def CmpOk (F : Fr) (g : Gm) (S : Res α) (T : Res β) (r : R2) (C : α → β → (Bool → Prop) → Prop) : Prop := ∀ σ x y Ha Hb H v u (P : Bool → Prop) Q, g.Ok F σ H → S.rel Ha (g.bs F H) H v x → T.rel Hb (g.bs F H) H u y → C x y P → (∀ z H', P z → Same H H' → Q (.bl z) H') → r v u H Q
theorem je_cmpR (ho : OpR X (compareOp op) r) (hr : CmpOk F g S T r C)
    (ha : JE X F g a S wa) (hb : JE X F g b T wb) (hm : behindInMarks op b = false) : JE X F g (.Compare a [op] [b] pos) (rO tB) (fun k => wa fun x => wb fun y => C x y k) :=
  peW (pe_cmpR ho ha hb hm) fun σ H Q ⟨k, P, w, q⟩ => ⟨k, _, w, fun x v H1 w1 s1 r1 => ⟨k.step s1, _, w1, fun y u H2 w2 s2 r2 =>
    hr σ x y _ _ H2 v u P Q (k.step (s1.trans s2)) (S.same (Gm.mono s2) s2 r1) r2 w2 fun z H' p s' => q z _ H' p ((s1.trans s2).trans s') rfl⟩⟩
theorem jt_cmpR (ho : OpR X (compareOp op) r) (hr : CmpOk F g S T r C)
    (ha : JE X F g a S wa) (hb : JE X F g b T wb) (hm : behindInMarks op b = false) : JT X F g (.Compare a [op] [b] pos) (fun Ya No => wa fun x => wb fun y => C x y fun z => (z = true → Ya) ∧ (z = false → No)) :=
  ptW (pt_cmpR ho ha hb hm) fun σ H Q ⟨k, Ya, No, w, qa, qb⟩ => ⟨k, _, w, fun x v H1 w1 s1 r1 => ⟨k.step s1, _, w1, fun y u H2 w2 s2 r2 =>
    hr σ x y _ _ H2 v u _ _ (k.step (s1.trans s2)) (S.same (Gm.mono s2) s2 r1) r2 w2 fun z H' p s' => ⟨z, rfl, by
      cases z with
      | true => exact qa (p.1 rfl) H' ((s1.trans s2).trans s')
      | false => exact qb (p.2 rfl) H' ((s1.trans s2).trans s')⟩⟩⟩
end
theorem eqS_r : CmpOk F g (rO tS) (rO tS) rEq (fun x y k => k (decide (x = y))) := by
  intro _ x y _ _ H v u P Q _ h1 h2 p q
  cases h1
  cases h2
  refine ⟨rfl, ?_⟩
  have e : decide (V.str x = V.str y) = decide (x = y) := by
    by_cases h : x = y
    · rw [decide_eq_true h, decide_eq_true (by rw [h])]
    · rw [decide_eq_false h, decide_eq_false (fun z => h (V.str.inj z))]
  rw [e]
  exact q _ H p (Same.refl H)
theorem neS_r : CmpOk F g (rO tS) (rO tS) rNe (fun x y k => k (!decide (x = y))) := by
  intro _ x y _ _ H v u P Q _ h1 h2 p q
  cases h1
  cases h2
  refine ⟨rfl, ?_⟩
  have e : decide (V.str x = V.str y) = decide (x = y) := by
    by_cases h : x = y
    · rw [decide_eq_true h, decide_eq_true (by rw [h])]
    · rw [decide_eq_false h, decide_eq_false (fun z => h (V.str.inj z))]
  rw [e]
  exact q _ H p (Same.refl H)
theorem eqB_r : CmpOk F g (rO tB) (rO tB) rEq (fun x y k => k (decide (x = y))) := by
  intro _ x y _ _ H v u P Q _ h1 h2 p q
  cases h1
  cases h2
  refine ⟨rfl, ?_⟩
  have e : decide (V.bl x = V.bl y) = decide (x = y) := by cases x <;> cases y <;> rfl
  rw [e]
  exact q _ H p (Same.refl H)
theorem neB_r : CmpOk F g (rO tB) (rO tB) rNe (fun x y k => k (!decide (x = y))) := by
  intro _ x y _ _ H v u P Q _ h1 h2 p q
  cases h1
  cases h2
  refine ⟨rfl, ?_⟩
  have e : decide (V.bl x = V.bl y) = decide (x = y) := by cases x <;> cases y <;> rfl
  rw [e]
  exact q _ H p (Same.refl H)
section
variable {a b : Expr} {pos : Pos}
theorem je_eqS {wa wb : (Str → Prop) → Prop} (ha : JE X F g a (rO tS) wa) (hb : JE X F g b (rO tS) wb) : JE X F g (.Compare a [.Eq] [b] pos) (rO tB) (fun k => wa fun x => wb fun y => k (decide (x = y))) := je_cmpR op_eq eqS_r ha hb (nomark _)
theorem je_neS {wa wb : (Str → Prop) → Prop} (ha : JE X F g a (rO tS) wa) (hb : JE X F g b (rO tS) wb) : JE X F g (.Compare a [.NotEq] [b] pos) (rO tB) (fun k => wa fun x => wb fun y => k (!decide (x = y))) := je_cmpR op_ne neS_r ha hb (nomark _)
theorem jt_eqS {wa wb : (Str → Prop) → Prop} (ha : JE X F g a (rO tS) wa) (hb : JE X F g b (rO tS) wb) : JT X F g (.Compare a [.Eq] [b] pos) (fun A B => wa fun x => wb fun y => (decide (x = y) = true → A) ∧ (decide (x = y) = false → B)) := jt_cmpR op_eq eqS_r ha hb (nomark _)
theorem jt_neS {wa wb : (Str → Prop) → Prop} (ha : JE X F g a (rO tS) wa) (hb : JE X F g b (rO tS) wb) : JT X F g (.Compare a [.NotEq] [b] pos) (fun A B => wa fun x => wb fun y => ((!decide (x = y)) = true → A) ∧ ((!decide (x = y)) = false → B)) := jt_cmpR op_ne neS_r ha hb (nomark _)
theorem je_eqB {wa wb : (Bool → Prop) → Prop} (ha : JE X F g a (rO tB) wa) (hb : JE X F g b (rO tB) wb) : JE X F g (.Compare a [.Eq] [b] pos) (rO tB) (fun k => wa fun x => wb fun y => k (decide (x = y))) := je_cmpR op_eq eqB_r ha hb (nomark _)
theorem je_neB {wa wb : (Bool → Prop) → Prop} (ha : JE X F g a (rO tB) wa) (hb : JE X F g b (rO tB) wb) : JE X F g (.Compare a [.NotEq] [b] pos) (rO tB) (fun k => wa fun x => wb fun y => k (!decide (x = y))) := je_cmpR op_ne neB_r ha hb (nomark _)
theorem jt_eqB {wa wb : (Bool → Prop) → Prop} (ha : JE X F g a (rO tB) wa) (hb : JE X F g b (rO tB) wb) : JT X F g (.Compare a [.Eq] [b] pos) (fun A B => wa fun x => wb fun y => (decide (x = y) = true → A) ∧ (decide (x = y) = false → B)) := jt_cmpR op_eq eqB_r ha hb (nomark _)
theorem jt_neB {wa wb : (Bool → Prop) → Prop} (ha : JE X F g a (rO tB) wa) (hb : JE X F g b (rO tB) wb) : JT X F g (.Compare a [.NotEq] [b] pos) (fun A B => wa fun x => wb fun y => ((!decide (x = y)) = true → A) ∧ ((!decide (x = y)) = false → B)) := jt_cmpR op_ne neB_r ha hb (nomark _)
/-- a is None, a is not None -/
theorem je_isN {A : Ty α} {w : (Option α → Prop) → Prop} {j : Nat} {p2 : Pos} (ha : JE X F g a (rO (tO A)) w) : JE X F g (.Compare a [.Is] [.Constant .none j p2] pos) (rO tB) (fun k => w fun x => k x.isNone) :=
  peW (pe_cmp (pc_isN ha)) fun σ H Q ⟨k, P, w, q⟩ => ⟨k, _, w, fun x v H1 w1 s1 r1 => by
    cases x with
    | none =>
      have e : v = .non := r1
      subst e
      exact q _ _ H1 w1 s1 rfl
    | some x =>
      rw [decide_eq_false r1.2]
      exact q _ _ H1 w1 s1 rfl⟩
theorem je_notN {A : Ty α} {w : (Option α → Prop) → Prop} {j : Nat} {p2 : Pos} (ha : JE X F g a (rO (tO A)) w) : JE X F g (.Compare a [.IsNot] [.Constant .none j p2] pos) (rO tB) (fun k => w fun x => k x.isSome) :=
  peW (pe_cmp (pc_notN ha)) fun σ H Q ⟨k, P, w, q⟩ => ⟨k, _, w, fun x v H1 w1 s1 r1 => by
    cases x with
    | none =>
      have e : v = .non := r1
      subst e
      exact q _ _ H1 w1 s1 rfl
    | some x =>
      rw [decide_eq_false r1.2]
      exact q _ _ H1 w1 s1 rfl⟩
theorem jt_isN {A : Ty α} {w : (Option α → Prop) → Prop} {j : Nat} {p2 : Pos} (ha : JE X F g a (rO (tO A)) w) : JT X F g (.Compare a [.Is] [.Constant .none j p2] pos) (fun Ya No => w fun x => (x.isNone = true → Ya) ∧ (x.isNone = false → No)) :=
  ptW (pt_cmp (pc_isN ha)) fun σ H Q ⟨k, Ya, No, w, qa, qb⟩ => ⟨k, _, w, fun x v H1 w1 s1 r1 => by
    cases x with
    | none =>
      have e : v = .non := r1
      subst e
      exact ⟨true, rfl, qa (w1.1 rfl) H1 s1⟩
    | some x =>
      rw [decide_eq_false r1.2]
      exact ⟨false, rfl, qb (w1.2 rfl) H1 s1⟩⟩
theorem jt_notN {A : Ty α} {w : (Option α → Prop) → Prop} {j : Nat} {p2 : Pos} (ha : JE X F g a (rO (tO A)) w) : JT X F g (.Compare a [.IsNot] [.Constant .none j p2] pos) (fun Ya No => w fun x => (x.isSome = true → Ya) ∧ (x.isSome = false → No)) :=
  ptW (pt_cmp (pc_notN ha)) fun σ H Q ⟨k, Ya, No, w, qa, qb⟩ => ⟨k, _, w, fun x v H1 w1 s1 r1 => by
    cases x with
    | none =>
      have e : v = .non := r1
      subst e
      exact ⟨false, rfl, qb (w1.2 rfl) H1 s1⟩
    | some x =>
      rw [decide_eq_false r1.2]
      exact ⟨true, rfl, qa (w1.1 rfl) H1 s1⟩⟩
end

/-! ### tests -/
theorem jt_val {e : Expr} {w : (Bool → Prop) → Prop} (h : JE X F g e (rO tB) w) (he : ∀ whole, isTrue e X.env whole = (do let v ← whole; standAt e.pos; holding [v] (truthy v)) := by intro _; rfl) :
    JT X F g e (fun A B => w fun c => (c = true → A) ∧ (c = false → B)) :=
  ptW (pt_val h he) fun σ H Q ⟨k, A, B, w, qa, qb⟩ => ⟨k, _, w, fun x v H1 w1 s1 r1 => ⟨x, r1, by
    cases x with
    | true => exact qa (w1.1 rfl) H1 s1
    | false => exact qb (w1.2 rfl) H1 s1⟩⟩
theorem jt_not {a : Expr} {pos : Pos} {w : Prop → Prop → Prop} (h : JT X F g a w) : JT X F g (.UnaryOp .Not a pos) (fun A B => w B A) :=
  ptW (pt_not h) fun σ H Q ⟨k, A, B, w, qa, qb⟩ => ⟨k, B, A, w, fun b H' s => qb b H' s, fun a H' s => qa a H' s⟩
theorem jw_one {a : Expr} {pos : Pos} {w : Prop → Prop → Prop} (h : JT X F g a w) : JW X F g (.BoolOp .And [a] pos) w := pw_and1 h
theorem jw_oneO {a : Expr} {pos : Pos} {w : Prop → Prop → Prop} (h : JT X F g a w) : JW X F g (.BoolOp .Or [a] pos) w := pw_or1 h
theorem jw_and {a b : Expr} {rest : List Expr} {pos : Pos} {w u : Prop → Prop → Prop} (h : JT X F g a w) (h2 : JW X F g (.BoolOp .And (b :: rest) pos) u) : JW X F g (.BoolOp .And (a :: b :: rest) pos) (fun A B => w (u A B) B) :=
  pwW (pw_and h h2) fun σ H Q ⟨k, A, B, w, qa, qb⟩ => ⟨k, _, _, w, fun x H1 s1 => by
      show RT F g u σ H1 Q
      exact ⟨k.step s1, A, B, x, fun y H2 s2 => qa y H2 (s1.trans s2), fun y H2 s2 => qb y H2 (s1.trans s2)⟩, fun x H1 s1 => by
      show Q false H1
      exact qb x H1 s1⟩
theorem jw_or {a b : Expr} {rest : List Expr} {pos : Pos} {w u : Prop → Prop → Prop} (h : JT X F g a w) (h2 : JW X F g (.BoolOp .Or (b :: rest) pos) u) : JW X F g (.BoolOp .Or (a :: b :: rest) pos) (fun A B => w A (u A B)) :=
  pwW (pw_or h h2) fun σ H Q ⟨k, A, B, w, qa, qb⟩ => ⟨k, _, _, w, fun x H1 s1 => by
      show Q true H1
      exact qa x H1 s1, fun x H1 s1 => by
      show RT F g u σ H1 Q
      exact ⟨k.step s1, A, B, x, fun y H2 s2 => qa y H2 (s1.trans s2), fun y H2 s2 => qb y H2 (s1.trans s2)⟩⟩
theorem jt_w {e : Expr} {w : Prop → Prop → Prop} (h : JW X F g e w) : JT X F g e w := PW.pt h
/-- values of truth -/
theorem je_not {a : Expr} {pos : Pos} {w : (Bool → Prop) → Prop} (h : JE X F g a (rO tB) w) : JE X F g (.UnaryOp .Not a pos) (rO tB) (fun k => w fun c => k (!c)) :=
  peW (pe_not h) fun σ H Q ⟨k, P, w, q⟩ => ⟨k, _, w, fun x v H1 w1 s1 r1 => ⟨x, r1, q _ _ H1 w1 s1 rfl⟩⟩
theorem je_one {op : BoolOp} {a : Expr} {pos : Pos} {w : (Bool → Prop) → Prop} (h : JE X F g a (rO tB) w) : JE X F g (.BoolOp op [a] pos) (rO tB) w := pe_one h
theorem je_and {a b : Expr} {rest : List Expr} {pos : Pos} {w u : (Bool → Prop) → Prop} (h : JE X F g a (rO tB) w) (h2 : JE X F g (.BoolOp .And (b :: rest) pos) (rO tB) u) :
    JE X F g (.BoolOp .And (a :: b :: rest) pos) (rO tB) (fun k => w fun c => (c = true → u k) ∧ (c = false → k false)) :=
  peW (pe_and h h2) fun σ H Q ⟨k, P, w, q⟩ => ⟨k, _, w, fun x v H1 w1 s1 r1 => ⟨x, r1, by
    cases x with
    | true =>
      show RJ F g (rO tB) u σ H1 Q
      exact ⟨k.step s1, P, w1.1 rfl, fun a v H2 p s2 r2 => q a v H2 p (s1.trans s2) r2⟩
    | false => exact q false _ H1 (w1.2 rfl) s1 rfl⟩⟩
theorem je_or {a b : Expr} {rest : List Expr} {pos : Pos} {w u : (Bool → Prop) → Prop} (h : JE X F g a (rO tB) w) (h2 : JE X F g (.BoolOp .Or (b :: rest) pos) (rO tB) u) :
    JE X F g (.BoolOp .Or (a :: b :: rest) pos) (rO tB) (fun k => w fun c => (c = true → k true) ∧ (c = false → u k)) :=
  peW (pe_or h h2) fun σ H Q ⟨k, P, w, q⟩ => ⟨k, _, w, fun x v H1 w1 s1 r1 => ⟨x, r1, by
    cases x with
    | true => exact q true _ H1 (w1.1 rfl) s1 rfl
    | false =>
      show RJ F g (rO tB) u σ H1 Q
      exact ⟨k.step s1, P, w1.2 rfl, fun a v H2 p s2 r2 => q a v H2 p (s1.trans s2) r2⟩⟩⟩
theorem je_if {c a b : Expr} {pos : Pos} {R : Res ρ} {wc : Prop → Prop → Prop} {wa wb : (ρ → Prop) → Prop} (hc : JT X F g c wc) (ha : JE X F g a R wa) (hb : JE X F g b R wb) : JE X F g (.IfExp c a b pos) R (fun k => wc (wa k) (wb k)) :=
  peW (pe_ifExp hc ha hb) fun σ H Q ⟨k, P, w, q⟩ => ⟨k, _, _, w, fun x H1 s1 => by
      show RJ F g R wa σ H1 Q
      exact ⟨k.step s1, P, x, fun a v H2 p s2 r2 => q a v H2 p (s1.trans s2) (R.pre s1 r2)⟩, fun x H1 s1 => by
      show RJ F g R wb σ H1 Q
      exact ⟨k.step s1, P, x, fun a v H2 p s2 r2 => q a v H2 p (s1.trans s2) (R.pre s1 r2)⟩⟩

/-! ### arguments, displays -/
theorem ja_nil : JA X F g [] aN (fun k => k ()) := paW pa_nil fun σ H Q ⟨k, P, w, q⟩ => q () [] H w (Same.refl H) rfl
theorem ja_cons {e : Expr} {es : List Expr} {A : Ty α} {T : ATy τ} {w : (α → Prop) → Prop} {u : (τ → Prop) → Prop} (ha : JE X F g e (rO A) w) (hr : JA X F g es T u)
    (hs : starEach (e :: es) X.env = (false, eval e X.env) :: starEach es X.env := by rfl) : JA X F g (e :: es) (aC A T) (fun k => w fun a => u fun t => k (a, t)) :=
  paW (pa_cons ha hr hs) fun σ H Q ⟨k, P, w, q⟩ => ⟨k, _, w, fun x v H1 w1 s1 r1 => ⟨k.step s1, _, w1, fun t vs H2 w2 s2 r2 => q (x, t) (v :: vs) H2 w2 (s1.trans s2) ⟨v, vs, rfl, A.same (Gm.mono s2) r1, r2⟩⟩⟩
theorem jb_nil : JAb X F g [] aN (fun k => k ()) := paW pa_nil fun σ H Q ⟨k, P, w, q⟩ => q () [] H w (Same.refl H) rfl
theorem jb_cons {e : Expr} {es : List Expr} {A : Ty α} {T : ATy τ} {w : (α → Prop) → Prop} {u : (τ → Prop) → Prop} (ha : JE X F g e (rB A) w) (hr : JAb X F g es T u)
    (hs : starEach (e :: es) X.env = (false, eval e X.env) :: starEach es X.env := by rfl) : JAb X F g (e :: es) (aC A T) (fun k => w fun a => u fun t => k (a, t)) :=
  paW (pa_cons ha hr hs) fun σ H Q ⟨k, P, w, q⟩ => ⟨k, _, w, fun x v H1 w1 s1 r1 => ⟨k.step s1, _, w1, fun t vs H2 w2 s2 r2 => q (x, t) (v :: vs) H2 w2 (s1.trans s2) ⟨v, vs, rfl, A.same s2 r1, r2⟩⟩⟩
theorem ja_as {es : List Expr} {S : ATy α} {T : ATy τ} {f : α → τ} {w : (α → Prop) → Prop} (h : JA X F g es S w) (hf : ∀ H vs a, S.rel H vs a → T.rel H vs (f a)) : JA X F g es T (fun k => w fun a => k (f a)) :=
  paW h fun σ H Q ⟨k, P, w, q⟩ => ⟨k, _, w, fun a vs H1 p s r => q (f a) vs H1 p s (hf _ _ _ r)⟩
theorem a2_of {A : Ty α} {B : Ty β} : ∀ H vs (t : α × β × Unit), (aC A (aC B aN)).rel H vs t → (a2 A B).rel H vs (t.1, t.2.1)
  | _, _, _, ⟨x, _, e, h1, y, _, e2, h2, e3⟩ => ⟨x, y, by rw [e, e2, (e3 : _ = [])], h1, h2⟩
theorem a3_of {A : Ty α} {B : Ty β} {C : Ty γ} : ∀ H vs (t : α × β × γ × Unit), (aC A (aC B (aC C aN))).rel H vs t → (a3 A B C).rel H vs (t.1, t.2.1, t.2.2.1)
  | _, _, _, ⟨x, _, e, h1, y, _, e2, h2, z, _, e3, h3, e4⟩ => ⟨x, y, z, by rw [e, e2, e3, (e4 : _ = [])], h1, h2, h3⟩
theorem a4_of {A : Ty α} {B : Ty β} {C : Ty γ} {E : Ty δ} : ∀ H vs (t : α × β × γ × δ × Unit), (aC A (aC B (aC C (aC E aN)))).rel H vs t → (a4 A B C E).rel H vs (t.1, t.2.1, t.2.2.1, t.2.2.2.1)
  | _, _, _, ⟨x, _, e, h1, y, _, e2, h2, z, _, e3, h3, u, _, e4, h4, e5⟩ => ⟨x, y, z, u, by rw [e, e2, e3, e4, (e5 : _ = [])], h1, h2, h3, h4⟩
theorem ja_nilV {A : Ty α} : JA X F g [] (aV A) (fun k => k []) := paW pa_nil fun σ H Q ⟨k, P, w, q⟩ => q [] [] H w (Same.refl H) .nil
theorem ja_consV {e : Expr} {es : List Expr} {A : Ty α} {w : (α → Prop) → Prop} {u : (List α → Prop) → Prop} (ha : JE X F g e (rO A) w) (hr : JA X F g es (aV A) u)
    (hs : starEach (e :: es) X.env = (false, eval e X.env) :: starEach es X.env := by rfl) : JA X F g (e :: es) (aV A) (fun k => w fun a => u fun t => k (a :: t)) :=
  paW (pa_cons ha hr hs) fun σ H Q ⟨k, P, w, q⟩ => ⟨k, _, w, fun x v H1 w1 s1 r1 => ⟨k.step s1, _, w1, fun t vs H2 w2 s2 r2 => q (x :: t) (v :: vs) H2 w2 (s1.trans s2) (.cons (A.same (Gm.mono s2) r1) r2)⟩⟩
theorem je_tup {es : List Expr} {j : Nat} {pos : Pos} {T : ATy τ} {w : (τ → Prop) → Prop} (h : JA X F g es T w) (hl : ∀ H vs t, T.rel H vs t → vs.length ≤ 1000) : JE X F g (.Tuple es j pos) (rO (tT X.K T)) w :=
  peW (pe_tup h) fun σ H Q ⟨k, P, w, q⟩ => ⟨k, P, w, fun t vs H1 p s1 r1 => ⟨Nat.le_trans (hl _ _ _ r1) (by decide), fun l hl => q t (.ref l) _ p (s1.trans (same_upd hl)) ⟨l, vs, rfl, .inl (.inl ((k.step s1).bs_new hl)), T.same (Gm.mono (same_upd hl)) r1⟩⟩⟩
theorem je_tup2 {a b : Expr} {j : Nat} {pos : Pos} {A : Ty α} {B : Ty β} {wa : (α → Prop) → Prop} {wb : (β → Prop) → Prop} (ha : JE X F g a (rO A) wa) (hb : JE X F g b (rO B) wb)
    (h1 : starEach [a, b] X.env = (false, eval a X.env) :: starEach [b] X.env := by rfl) (h2 : starEach [b] X.env = (false, eval b X.env) :: starEach [] X.env := by rfl) :
    JE X F g (.Tuple [a, b] j pos) (rO (tT X.K (a2 A B))) (fun k => wa fun x => wb fun y => k (x, y)) :=
  je_tup (ja_as (ja_cons ha (ja_cons hb ja_nil h2) h1) a2_of) fun _ _ _ ⟨_, _, e, _⟩ => by rw [e]; show 2 ≤ 1000; omega
theorem je_tup3 {a b c : Expr} {j : Nat} {pos : Pos} {A : Ty α} {B : Ty β} {C : Ty γ} {wa : (α → Prop) → Prop} {wb : (β → Prop) → Prop} {wc : (γ → Prop) → Prop} (ha : JE X F g a (rO A) wa) (hb : JE X F g b (rO B) wb) (hc : JE X F g c (rO C) wc)
    (h1 : starEach [a, b, c] X.env = (false, eval a X.env) :: starEach [b, c] X.env := by rfl) (h2 : starEach [b, c] X.env = (false, eval b X.env) :: starEach [c] X.env := by rfl) (h3 : starEach [c] X.env = (false, eval c X.env) :: starEach [] X.env := by rfl) :
    JE X F g (.Tuple [a, b, c] j pos) (rO (tT X.K (a3 A B C))) (fun k => wa fun x => wb fun y => wc fun z => k (x, y, z)) :=
  je_tup (ja_as (ja_cons ha (ja_cons hb (ja_cons hc ja_nil h3) h2) h1) a3_of) fun _ _ _ ⟨_, _, _, e, _⟩ => by rw [e]; show 3 ≤ 1000; omega
theorem je_tup4 {a b c d : Expr} {j : Nat} {pos : Pos} {A : Ty α} {B : Ty β} {C : Ty γ} {E : Ty δ} {wa : (α → Prop) → Prop} {wb : (β → Prop) → Prop} {wc : (γ → Prop) → Prop} {wd : (δ → Prop) → Prop} (ha : JE X F g a (rO A) wa) (hb : JE X F g b (rO B) wb) (hc : JE X F g c (rO C) wc) (hd : JE X F g d (rO E) wd)
    (h1 : starEach [a, b, c, d] X.env = (false, eval a X.env) :: starEach [b, c, d] X.env := by rfl) (h2 : starEach [b, c, d] X.env = (false, eval b X.env) :: starEach [c, d] X.env := by rfl) (h3 : starEach [c, d] X.env = (false, eval c X.env) :: starEach [d] X.env := by rfl) (h4 : starEach [d] X.env = (false, eval d X.env) :: starEach [] X.env := by rfl) :
    JE X F g (.Tuple [a, b, c, d] j pos) (rO (tT X.K (a4 A B C E))) (fun k => wa fun x => wb fun y => wc fun z => wd fun u => k (x, y, z, u)) :=
  je_tup (ja_as (ja_cons ha (ja_cons hb (ja_cons hc (ja_cons hd ja_nil h4) h3) h2) h1) a4_of) fun _ _ _ ⟨_, _, _, _, e, _⟩ => by rw [e]; show 4 ≤ 1000; omega
theorem je_tupV {es : List Expr} {j : Nat} {pos : Pos} {A : Ty α} {w : (List α → Prop) → Prop} (h : JA X F g es (aV A) w) : JE X F g (.Tuple es j pos) (rO (tT X.K (aV A))) (fun k => w fun t => t.length ≤ 1000 ∧ k t) :=
  peW (pe_tup h) fun σ H Q ⟨k, P, w, q⟩ => ⟨k, _, w, fun t vs H1 p s1 r1 => ⟨Nat.le_trans (by rw [Paired.len r1]; exact p.1) (by decide : 1000 ≤ sizeLine), fun l hl => q t (.ref l) _ p.2 (s1.trans (same_upd hl)) ⟨l, vs, rfl, .inl (.inl ((k.step s1).bs_new hl)), Paired.imp (fun _ _ r => A.same (Gm.mono (same_upd hl)) r) r1⟩⟩⟩
theorem je_lst {es : List Expr} {pos : Pos} {A : Ty α} {w : (List α → Prop) → Prop} (h : JA X F g es (aV A) w) : JE X F g (.List es pos) (rN A) (fun k => w fun t => t.length ≤ 1000 ∧ k t) :=
  peW (pe_lst h) fun σ H Q ⟨k, P, w, q⟩ => ⟨k, _, w, fun t vs H1 p s1 r1 => ⟨Nat.le_trans (by rw [Paired.len r1]; exact p.1) (by decide : 1000 ≤ sizeLine), fun l hl => q t (.ref l) _ p.2 (s1.trans (same_upd hl)) ⟨l, vs, rfl, s1.free hl, (k.step s1).bs_new hl, Paired.imp (fun _ _ r => A.same ((k.step s1).rm_new hl) r) r1⟩⟩⟩
theorem je_lst0 {pos : Pos} {A : Ty α} : JE X F g (.List [] pos) (rN A) (fun k => k []) :=
  peW (pe_lst pa_nil) fun σ H Q ⟨k, P, w, q⟩ => ⟨Nat.zero_le _, fun l hl => q [] (.ref l) _ w (same_upd hl) ⟨l, [], rfl, hl, k.bs_new hl, .nil⟩⟩

/-! ### calls -/
/-- a call whose arguments may be kept -/
theorem je_call {f : Addr} {fd : FuncData} {ps : List Str} {T : ATy τ} {R : Res ρ} {w : τ → (ρ → Prop) → Prop} {n : Nat} {x : Str} {e : Expr} {es : List Expr} {p pos : Pos} {wa : (τ → Prop) → Prop}
    (Fn : FnOk X.prog X.w X.K X.mg X.base CX0 n f fd ps (spJ T R w)) (hr : Room n X.A) (hg : Gl X x) (hm : X.mg x = some (.ref f)) (hk : PySem.W.keepIn X.K (.ref f) = true) (hb : Binds X.K fd ps [])
    (ha : JA X F g (e :: es) T wa) (hdb : (x == ("__debug__" : Str)) = false := by decide) (he : starEach (e :: es) X.env = (false, eval e X.env) :: starEach es X.env := by rfl) (hpl : (backTo pos (starEach es X.env)).any (·.1) = false := by rfl) :
    JE X F g (.Call (.Name x p) (e :: es) [] pos) R (fun k => wa fun t => w t k) :=
  peW (pe_call Fn hr hg hm hk hb .nil pass0 ha hdb he hpl) fun σ H Q ⟨k, P, w, q⟩ => ⟨k, _, w, fun t vs H1 w1 s1 r1 => ⟨t, P, (k.step s1).fr, rfl, by rw [List.append_nil]; exact r1, w1, fun r v H2 p s2 r2 => q r v H2 p (s1.trans s2) (R.pre s1 (R.same ((k.step s1).back s2) (Same.refl _) r2))⟩⟩
/-- a call whose arguments are only read -/
theorem je_callb {f : Addr} {fd : FuncData} {ps : List Str} {T : ATy τ} {R : Res ρ} [hR : RIm R] {w : τ → (ρ → Prop) → Prop} {n : Nat} {x : Str} {e : Expr} {es : List Expr} {p pos : Pos} {wa : (τ → Prop) → Prop}
    (Fn : FnOk X.prog X.w X.K X.mg X.base CX0 n f fd ps (spJ T R w)) (hr : Room n X.A) (hg : Gl X x) (hm : X.mg x = some (.ref f)) (hk : PySem.W.keepIn X.K (.ref f) = true) (hb : Binds X.K fd ps [])
    (ha : JAb X F g (e :: es) T wa) (hdb : (x == ("__debug__" : Str)) = false := by decide) (he : starEach (e :: es) X.env = (false, eval e X.env) :: starEach es X.env := by rfl) (hpl : (backTo pos (starEach es X.env)).any (·.1) = false := by rfl) :
    JE X F g (.Call (.Name x p) (e :: es) [] pos) R (fun k => wa fun t => w t k) :=
  peW (pe_call Fn hr hg hm hk hb .nil pass0 ha hdb he hpl) fun σ H Q ⟨k, P, w, q⟩ => ⟨k, _, w, fun t vs H1 w1 s1 r1 => ⟨t, P, Fr.all H1, rfl, by rw [List.append_nil]; exact r1, w1, fun r v H2 p s2 r2 => q r v H2 p (s1.trans s2) (R.pre s1 ((k.step s1).backB s2 r2))⟩⟩
def CallOk (F : Fr) (g : Gm) (T : ATy τ) (R : Res ρ) (r : List V → Hp → VK → Prop) (C : τ → (ρ → Prop) → Prop) : Prop := ∀ σ t H vs (P : ρ → Prop) Q, g.Ok F σ H → T.rel H vs t → C t P → (∀ z v' H', P z → Same H H' → R.rel H (g.bs F H') H' v' z → Q v' H') → r vs H Q
theorem je_callB {r : List V → Hp → VK → Prop} {id : String} {x : Str} {e : Expr} {es : List Expr} {p pos : Pos} {T : ATy τ} {wa : (τ → Prop) → Prop} {R : Res ρ} {C : τ → (ρ → Prop) → Prop} (hc : CallR X (.builtin id) r) (hr : CallOk F g T R r C)
    (hg : Gl X x) (hm : X.mg x = none) (hv : bootBuiltins x = some (.builtin id)) (ha : JAb X F g (e :: es) T wa) (hn : x ≠ "__name__" := by decide) (hdb : (x == ("__debug__" : Str)) = false := by decide)
    (he : starEach (e :: es) X.env = (false, eval e X.env) :: starEach es X.env := by rfl) (hpl : (backTo pos (starEach es X.env)).any (·.1) = false := by rfl) : JE X F g (.Call (.Name x p) (e :: es) [] pos) R (fun k => wa fun t => C t k) :=
  peW (pe_callB hc hg hm hv ha hn hdb he hpl) fun σ H Q ⟨k, P, w, q⟩ => ⟨k, _, w, fun t vs H1 w1 s1 r1 => hr σ t H1 vs P Q (k.step s1) r1 w1 fun z v H2 p s2 r2 => q z v H2 p (s1.trans s2) (R.pre s1 r2)⟩
theorem je_callTy {r : List V → Hp → VK → Prop} {id : String} {x : Str} {e : Expr} {es : List Expr} {p pos : Pos} {T : ATy τ} {wa : (τ → Prop) → Prop} {R : Res ρ} {C : τ → (ρ → Prop) → Prop} (hc : CallR X (.type id) r) (hr : CallOk F g T R r C)
    (hg : Gl X x) (hm : X.mg x = none) (hv : bootBuiltins x = some (.type id)) (ha : JAb X F g (e :: es) T wa) (hn : x ≠ "__name__" := by decide) (hdb : (x == ("__debug__" : Str)) = false := by decide)
    (he : starEach (e :: es) X.env = (false, eval e X.env) :: starEach es X.env := by rfl) (hpl : (backTo pos (starEach es X.env)).any (·.1) = false := by rfl) : JE X F g (.Call (.Name x p) (e :: es) [] pos) R (fun k => wa fun t => C t k) :=
  peW (pe_callTy hc hg hm hv ha hn hdb he hpl) fun σ H Q ⟨k, P, w, q⟩ => ⟨k, _, w, fun t vs H1 w1 s1 r1 => hr σ t H1 vs P Q (k.step s1) r1 w1 fun z v H2 p s2 r2 => q z v H2 p (s1.trans s2) (R.pre s1 r2)⟩
theorem je_callM {r : List V → Hp → VK → Prop} {id : String} {x : Str} {e : Expr} {es : List Expr} {p pos : Pos} {T : ATy τ} {wa : (τ → Prop) → Prop} {R : Res ρ} {C : τ → (ρ → Prop) → Prop} (hc : CallR X (.builtin id) r) (hr : CallOk F g T R r C)
    (hg : Gl X x) (hm : X.mg x = some (.builtin id)) (ha : JAb X F g (e :: es) T wa) (hdb : (x == ("__debug__" : Str)) = false := by decide)
    (he : starEach (e :: es) X.env = (false, eval e X.env) :: starEach es X.env := by rfl) (hpl : (backTo pos (starEach es X.env)).any (·.1) = false := by rfl) : JE X F g (.Call (.Name x p) (e :: es) [] pos) R (fun k => wa fun t => C t k) :=
  peW (pe_callBfun hc hg hm ha hdb he hpl) fun σ H Q ⟨k, P, w, q⟩ => ⟨k, _, w, fun t vs H1 w1 s1 r1 => hr σ t H1 vs P Q (k.step s1) r1 w1 fun z v H2 p s2 r2 => q z v H2 p (s1.trans s2) (R.pre s1 r2)⟩
section
variable {e e2 : Expr} {p pos : Pos} {he : starEach [e] X.env = (false, eval e X.env) :: starEach [] X.env} {hpl : (backTo pos (starEach [] X.env)).any (·.1) = false}
theorem je_int1 {w : (Int → Prop) → Prop} (hg : Gl X "int") (hm : X.mg "int" = none) (ha : JE X F g e (rO tI) w) (he : starEach [e] X.env = (false, eval e X.env) :: starEach [] X.env := by rfl) (hpl : (backTo pos (starEach [] X.env)).any (·.1) = false := by rfl) :
    JE X F g (.Call (.Name "int" p) [e] [] pos) (rO tI) w :=
  je_callTy (T := aC tI aN) (C := fun t k => k t.1) call_int1 (fun _ t H vs P Q k ⟨v, r, e1, r1, e2⟩ c q => .inl ⟨t.1, by rw [e1, (e2 : r = []), (r1 : v = _)], q _ _ H c (Same.refl H) rfl⟩) hg hm (by decide +kernel) (jb_cons (je_b ha) jb_nil he) (by decide) (by decide) he hpl
theorem je_intB {w : (Bool → Prop) → Prop} (hg : Gl X "int") (hm : X.mg "int" = none) (ha : JE X F g e (rO tB) w) (he : starEach [e] X.env = (false, eval e X.env) :: starEach [] X.env := by rfl) (hpl : (backTo pos (starEach [] X.env)).any (·.1) = false := by rfl) :
    JE X F g (.Call (.Name "int" p) [e] [] pos) (rO tI) (fun k => w fun b => k (if b then 1 else 0)) :=
  je_callTy (T := aC tB aN) (C := fun t k => k (if t.1 then (1 : Int) else 0)) call_int1 (fun _ t H vs P Q k ⟨v, r, e1, r1, e2⟩ c q => .inr ⟨t.1, by rw [e1, (e2 : r = []), (r1 : v = _)], q _ _ H c (Same.refl H) rfl⟩) hg hm (by decide +kernel) (jb_cons (je_b ha) jb_nil he) (by decide) (by decide) he hpl
theorem je_abs {w : (Int → Prop) → Prop} (hg : Gl X "abs") (hm : X.mg "abs" = none) (ha : JE X F g e (rO tI) w) (he : starEach [e] X.env = (false, eval e X.env) :: starEach [] X.env := by rfl) (hpl : (backTo pos (starEach [] X.env)).any (·.1) = false := by rfl) :
    JE X F g (.Call (.Name "abs" p) [e] [] pos) (rO tI) (fun k => w fun i => k (if i < 0 then -i else i)) :=
  je_callB (T := aC tI aN) (C := fun t k => k (if t.1 < 0 then -t.1 else t.1)) call_abs (fun _ t H vs P Q k ⟨v, r, e1, r1, e2⟩ c q => ⟨t.1, by rw [e1, (e2 : r = []), (r1 : v = _)], q _ _ H c (Same.refl H) rfl⟩) hg hm (by decide +kernel) (jb_cons (je_b ha) jb_nil he) (by decide) (by decide) he hpl
theorem je_lenL {A : Ty α} {w : (List α → Prop) → Prop} (hg : Gl X "len") (hm : X.mg "len" = none) (ha : JE X F g e (rB (tL X.K A)) w) (he : starEach [e] X.env = (false, eval e X.env) :: starEach [] X.env := by rfl) (hpl : (backTo pos (starEach [] X.env)).any (·.1) = false := by rfl) :
    JE X F g (.Call (.Name "len" p) [e] [] pos) (rO tI) (fun k => w fun xs => k (xs.length : Int)) :=
  je_callB (T := aC (tL X.K A) aN) (C := fun t k => k (t.1.length : Int)) call_len_seq (fun _ t H vs P Q k ⟨v, r, e1, ⟨a, us, ev, hs, hp⟩, e2⟩ c q => ⟨a, us, by rw [e1, (e2 : r = []), ev], .inl hs, by rw [Paired.len hp]; exact q _ _ H c (Same.refl H) rfl⟩) hg hm PySem.boot_len (jb_cons ha jb_nil he) (by decide) (by decide) he hpl
theorem je_lenT {T : ATy τ} {w : (τ → Prop) → Prop} {f : τ → Nat} (hg : Gl X "len") (hm : X.mg "len" = none) (ha : JE X F g e (rO (tT X.K T)) w) (hf : ∀ H vs t, T.rel H vs t → vs.length = f t) (he : starEach [e] X.env = (false, eval e X.env) :: starEach [] X.env := by rfl) (hpl : (backTo pos (starEach [] X.env)).any (·.1) = false := by rfl) :
    JE X F g (.Call (.Name "len" p) [e] [] pos) (rO tI) (fun k => w fun t => k (f t : Int)) :=
  je_callB (T := aC (tT X.K T) aN) (C := fun t k => k (f t.1 : Int)) call_len_seq (fun _ t H vs P Q k ⟨v, r, e1, ⟨a, us, ev, hs, hp⟩, e2⟩ c q => ⟨a, us, by rw [e1, (e2 : r = []), ev], .inr hs, by rw [hf _ _ _ hp]; exact q _ _ H c (Same.refl H) rfl⟩) hg hm PySem.boot_len (jb_cons (je_b ha) jb_nil he) (by decide) (by decide) he hpl
theorem je_gcd {w u : (Int → Prop) → Prop} (hg : Gl X "gcd") (hm : X.mg "gcd" = some (.builtin "math.gcd")) (ha : JE X F g e (rO tI) w) (hb : JE X F g e2 (rO tI) u)
    (he : starEach [e, e2] X.env = (false, eval e X.env) :: starEach [e2] X.env := by rfl) (he2 : starEach [e2] X.env = (false, eval e2 X.env) :: starEach [] X.env := by rfl) (hpl : (backTo pos (starEach [e2] X.env)).any (·.1) = false := by rfl) :
    JE X F g (.Call (.Name "gcd" p) [e, e2] [] pos) (rO tI) (fun k => w fun a => u fun b => k ((Nat.gcd a.natAbs b.natAbs : Nat) : Int)) :=
  je_callM (T := aC tI (aC tI aN)) (C := fun t k => k ((Nat.gcd t.1.natAbs t.2.1.natAbs : Nat) : Int)) cr_gcd (fun _ t H vs P Q k ⟨v, r, e1, r1, v2, r', e2, r2, e3⟩ c q => ⟨t.1, t.2.1, by rw [e1, e2, (e3 : r' = []), (r1 : v = _), (r2 : v2 = _)], q _ _ H c (Same.refl H) rfl⟩) hg hm (jb_cons (je_b ha) (jb_cons (je_b hb) jb_nil he2) he) (by decide) he hpl
/-- isinstance(x, T): T a built-in type, x of a kind that is known -/
def TyOfA (K : PySem.W.Frag) (A : Ty α) (t : String) : Prop := ∀ H v a, A.rel H v a → TyX K H v (.type t)
theorem je_isi {A : Ty α} {w : (α → Prop) → Prop} {T t : String} {b : Bool} {c : Expr} (hg : Gl X "isinstance") (hm : X.mg "isinstance" = none) (ht : TyOfA X.K A t) (hk : kitB t T = some b) (ha : JE X F g e (rB A) w) (hT : PE X c (tC (.ty T)))
    (he : starEach [e, c] X.env = (false, eval e X.env) :: starEach [c] X.env := by rfl) (he2 : starEach [c] X.env = (false, eval c X.env) :: starEach [] X.env := by rfl) (hpl : (backTo pos (starEach [c] X.env)).any (·.1) = false := by rfl) :
    JE X F g (.Call (.Name "isinstance" p) [e, c] [] pos) (rO tB) (fun k => w fun _ => k b) :=
  peW (pe_callB call_isi hg hm (by decide +kernel) (pa_cons ha (pa_cons hT pa_nil he2) he) (by decide) (by decide) he hpl) fun σ H Q ⟨k, P, w, q⟩ => ⟨k, _, w, fun a v H1 w1 s1 r1 =>
    ⟨v, .ty T, .type t, .type T, b, rfl, .ty T, ht _ _ _ r1, kit_ty hk, q b _ H1 w1 s1 rfl⟩⟩
end
end
end J
/-! A3: items, statements, loops -/
namespace J
open PySem PySem.Spec L2
theorem ixI_at {α : Type} {xs : List α} {i : Int} {x : α} (h : ixI xs i = some x) : atI xs i = some x := by
  unfold ixI at h
  unfold atI ixN
  by_cases h0 : 0 ≤ i
  · rw [if_pos h0] at h
    have hl := (List.getElem?_eq_some_iff.mp h).1
    rw [if_pos h0, if_pos (by omega)]
    exact h
  · rw [if_neg h0] at h
    by_cases h1 : 0 ≤ i + xs.length
    · rw [if_pos h1] at h
      rw [if_neg h0, if_pos (by omega)]
      exact h
    · rw [if_neg h1] at h
      cases h
theorem atI_pair {α β : Type} {F : α → β → Prop} {vs : List α} {xs : List β} (p : Paired F vs xs) {i : Int} {x : β} (h : ixI xs i = some x) : ∃ v, atI vs i = some v ∧ F v x := by
  have e := Paired.len p
  unfold ixI at h
  by_cases h0 : 0 ≤ i
  · rw [if_pos h0] at h
    obtain ⟨v, h1, h2⟩ := Paired.at p h
    exact ⟨v, ixI_at (by unfold ixI; rw [if_pos h0]; exact h1), h2⟩
  · rw [if_neg h0] at h
    by_cases h1 : 0 ≤ i + xs.length
    · rw [if_pos h1] at h
      obtain ⟨v, h3, h2⟩ := Paired.at p h
      refine ⟨v, ixI_at ?_, h2⟩
      unfold ixI
      rw [if_neg h0, e, if_pos h1]
      exact h3
    · rw [if_neg h1] at h
      cases h
section
variable {X : Cx} {F : Fr} {g : Gm} {α β γ δ ρ τ : Type}

/-! ### items -/
theorem je_ixR {a b : Expr} {pos : Pos} {r : R2} {S : Res α} {T : Res β} {R : Res ρ} {wa : (α → Prop) → Prop} {wb : (β → Prop) → Prop} {C : α → β → (ρ → Prop) → Prop} (ho : IxR X r)
    (hr : ∀ σ x y Ha Hb H v u (P : ρ → Prop) Q, g.Ok F σ H → S.rel Ha (g.bs F H) H v x → T.rel Hb (g.bs F H) H u y → C x y P → (∀ z v' H', P z → Same H H' → R.rel H (g.bs F H') H' v' z → Q v' H') → r v u H Q)
    (ha : JE X F g a S wa) (hb : JE X F g b T wb) (hs : PlainIx b) : JE X F g (.Subscript a b pos) R (fun k => wa fun x => wb fun y => C x y k) :=
  peW (pe_ix ho ha hb hs) fun σ H Q ⟨k, P, w, q⟩ => ⟨k, _, w, fun x v H1 w1 s1 r1 => ⟨k.step s1, _, w1, fun y u H2 w2 s2 r2 =>
    hr σ x y _ _ H2 v u P Q (k.step (s1.trans s2)) (S.same (Gm.mono s2) s2 r1) r2 w2 fun z v' H' p s' r' => q z v' H' p ((s1.trans s2).trans s') (R.pre (s1.trans s2) r')⟩⟩
theorem je_ixL {a b : Expr} {pos : Pos} {A : Ty α} {wa : (List α → Prop) → Prop} {wb : (Int → Prop) → Prop} (ha : JE X F g a (rE X.K A) wa) (hb : JE X F g b (rO tI) wb) (hs : PlainIx b := by exact fun _ _ => rfl) :
    JE X F g (.Subscript a b pos) (rO A) (fun k => wa fun xs => wb fun i => ∃ x, ixI xs i = some x ∧ k x) :=
  je_ixR (C := fun xs i k => ∃ x, ixI xs i = some x ∧ k x) ix_list (fun _ xs i _ _ H v u P Q k h1 h2 ⟨x, hx, p⟩ q => by
    obtain ⟨l, vs, e, hl, hp⟩ := h1
    obtain ⟨y, hy, ry⟩ := atI_pair hp hx
    exact ⟨l, vs, i, y, e, h2, hl, hy, q x y H p (Same.refl H) ry⟩) ha hb hs
theorem je_ixV {a b : Expr} {pos : Pos} {A : Ty α} {wa : (List α → Prop) → Prop} {wb : (Int → Prop) → Prop} (ha : JE X F g a (rO (tT X.K (aV A))) wa) (hb : JE X F g b (rO tI) wb) (hs : PlainIx b := by exact fun _ _ => rfl) :
    JE X F g (.Subscript a b pos) (rO A) (fun k => wa fun xs => wb fun i => ∃ x, ixI xs i = some x ∧ k x) :=
  je_ixR (C := fun xs i k => ∃ x, ixI xs i = some x ∧ k x) ix_tup (fun _ xs i _ _ H v u P Q k h1 h2 ⟨x, hx, p⟩ q => by
    obtain ⟨l, vs, e, hl, hp⟩ := h1
    obtain ⟨y, hy, ry⟩ := atI_pair hp hx
    exact ⟨l, vs, i, y, e, h2, k.le.sqT' hl, hy, q x y H p (Same.refl H) ry⟩) ha hb hs
/-- a written place of a tuple -/
theorem je_ixK {T : ATy τ} {A : Ty α} {n : Int} {m : Nat} {f : τ → α} {a : Expr} {j : Nat} {p2 pos : Pos} {w : (τ → Prop) → Prop} (hn : n = (m : Int)) (hf : ∀ H vs t, T.rel H vs t → ∃ v, vs[m]? = some v ∧ A.rel H v (f t)) (ha : JE X F g a (rO (tT X.K T)) w)
    (hs : PlainIx (.Constant (.int n) j p2) := by exact fun _ _ => rfl) : JE X F g (.Subscript a (.Constant (.int n) j p2) pos) (rO A) (fun k => w fun t => k (f t)) :=
  je_ixR (T := rO (tIc n)) (C := fun t _ k => k (f t)) ix_tup (fun _ t _ _ _ H v u P Q k h1 h2 p q => by
    obtain ⟨l, vs, e, hl, hp⟩ := h1
    obtain ⟨y, hy, ry⟩ := hf _ _ _ hp
    exact ⟨l, vs, n, y, e, h2, k.le.sqT' hl, by rw [hn]; exact atI_nat hy, q _ y H p (Same.refl H) ry⟩) ha je_lit hs
section
variable {a : Expr} {j : Nat} {p2 pos : Pos} {A : Ty α} {B : Ty β} {C : Ty γ} {E : Ty δ}
theorem je_2a {w : (α × β → Prop) → Prop} (ha : JE X F g a (rO (tT X.K (a2 A B))) w) (hs : PlainIx (.Constant (.int 0) j p2) := by exact fun _ _ => rfl) : JE X F g (.Subscript a (.Constant (.int 0) j p2) pos) (rO A) (fun k => w fun t => k t.1) :=
  je_ixK (T := a2 A B) (m := 0) rfl (fun H vs t ⟨x, y, e, h1, h2⟩ => ⟨x, by rw [e]; rfl, h1⟩) ha hs
theorem je_2b {w : (α × β → Prop) → Prop} (ha : JE X F g a (rO (tT X.K (a2 A B))) w) (hs : PlainIx (.Constant (.int 1) j p2) := by exact fun _ _ => rfl) : JE X F g (.Subscript a (.Constant (.int 1) j p2) pos) (rO B) (fun k => w fun t => k t.2) :=
  je_ixK (T := a2 A B) (m := 1) rfl (fun H vs t ⟨x, y, e, h1, h2⟩ => ⟨y, by rw [e]; rfl, h2⟩) ha hs
theorem je_3a {w : (α × β × γ → Prop) → Prop} (ha : JE X F g a (rO (tT X.K (a3 A B C))) w) (hs : PlainIx (.Constant (.int 0) j p2) := by exact fun _ _ => rfl) : JE X F g (.Subscript a (.Constant (.int 0) j p2) pos) (rO A) (fun k => w fun t => k t.1) :=
  je_ixK (T := a3 A B C) (m := 0) rfl (fun H vs t ⟨x, y, z, e, h1, h2, h3⟩ => ⟨x, by rw [e]; rfl, h1⟩) ha hs
theorem je_3b {w : (α × β × γ → Prop) → Prop} (ha : JE X F g a (rO (tT X.K (a3 A B C))) w) (hs : PlainIx (.Constant (.int 1) j p2) := by exact fun _ _ => rfl) : JE X F g (.Subscript a (.Constant (.int 1) j p2) pos) (rO B) (fun k => w fun t => k t.2.1) :=
  je_ixK (T := a3 A B C) (m := 1) rfl (fun H vs t ⟨x, y, z, e, h1, h2, h3⟩ => ⟨y, by rw [e]; rfl, h2⟩) ha hs
theorem je_3c {w : (α × β × γ → Prop) → Prop} (ha : JE X F g a (rO (tT X.K (a3 A B C))) w) (hs : PlainIx (.Constant (.int 2) j p2) := by exact fun _ _ => rfl) : JE X F g (.Subscript a (.Constant (.int 2) j p2) pos) (rO C) (fun k => w fun t => k t.2.2) :=
  je_ixK (T := a3 A B C) (m := 2) rfl (fun H vs t ⟨x, y, z, e, h1, h2, h3⟩ => ⟨z, by rw [e]; rfl, h3⟩) ha hs
end
/-- a pair seen as a row of one kind -/
theorem je_2V {e : Expr} {A : Ty α} {w : (α × α → Prop) → Prop} (h : JE X F g e (rO (tT X.K (a2 A A))) w) : JE X F g e (rO (tT X.K (aV A))) (fun k => w fun t => k [t.1, t.2]) :=
  je_as (A := tT X.K (a2 A A)) (B := tT X.K (aV A)) (f := fun t => [t.1, t.2]) h fun H v t ⟨a, vs, e, hs, x, y, e2, h1, h2⟩ => ⟨a, vs, e, hs, by rw [e2]; exact .cons h1 (.cons h2 .nil)⟩

/-! ### statements -/
theorem JSs.mono {sts : List Stmt} {w : Prop} {D D' : Ends} (h : JSs X F g sts D w) (l : Le D D') : JSs X F g sts D' w :=
  pssW h fun E σ H ⟨e, o, q⟩ => ⟨⟨fun a b z => e.nx a b (l.nx a b z), fun a b z => e.rt a b (l.rt a b z), fun a b z => e.bk a b (l.bk a b z), fun a b z => e.ct a b (l.ct a b z)⟩, o, q⟩
theorem JSs.sub {sts : List Stmt} {w : Prop} {D : Ends} {g' : Gm} (h : JSs X F g' sts D w) (k : Sub g g') : JSs X F g sts D w := pssW h fun D' σ H ⟨e, o, q⟩ => ⟨e, k.ok o, q⟩
theorem JSs.imp {sts : List Stmt} {w w' : Prop} {D : Ends} (h : JSs X F g sts D w) (k : w' → w) : JSs X F g sts D w' := pssW h fun D' σ H ⟨e, o, q⟩ => ⟨e, o, k q⟩
section
variable {rest : List Stmt} {nx bk ct : L2.St → Hp → Prop} {rt : VK} {pos : Pos}
theorem js_end {S : τ → Gm} {N : τ → Prop} (s : τ) (h : Sub g (S s)) : JSs X F g [] ⟨phi F S N, rt, bk, ct⟩ (N s) := pssW pss_nil fun D σ H ⟨e, o, q⟩ => e.nx _ _ ⟨s, h.ok o, q⟩
theorem js_endN {P : Unit → Prop} (h : ∀ σ H, Same F.H H → P () → nx σ H) : JSs X F g [] ⟨nx, rt, bk, ct⟩ (P ()) := pssW pss_nil fun D σ H ⟨e, o, q⟩ => e.nx _ _ (h σ H o.same q)
theorem js_pass {D : Ends} {w : Prop} (h : JSs X F g rest D w) : JSs X F g (.Pass pos :: rest) D w := pssW (pss_cons ps_pass h) fun D' σ H q => q
theorem js_cont {S : τ → Gm} {N : τ → Prop} (s : τ) (h : Sub g (S s)) : JSs X F g (.Continue pos :: rest) ⟨nx, rt, bk, phi F S N⟩ (N s) := pssW (pss_cons ps_continue pss_never) fun D σ H ⟨e, o, q⟩ => e.ct _ _ ⟨s, h.ok o, q⟩
theorem js_break {S : τ → Gm} {N : τ → Prop} (s : τ) (h : Sub g (S s)) : JSs X F g (.Break pos :: rest) ⟨nx, rt, phi F S N, ct⟩ (N s) := pssW (pss_cons ps_break pss_never) fun D σ H ⟨e, o, q⟩ => e.bk _ _ ⟨s, h.ok o, q⟩
/-- a way that is never taken -/
theorem js_never {st : Stmt} {D : Ends} : JSs X F g (st :: rest) D False := pssW pss_never fun D' σ H ⟨e, o, q⟩ => q
theorem js_ret {R : Res ρ} {P : ρ → Prop} {e : Expr} {w : (ρ → Prop) → Prop} (hrt : RtOk F R P rt) (he : JE X F g e R w) : JSs X F g (.Return (some e) pos :: rest) ⟨nx, rt, bk, ct⟩ (w P) :=
  pssW (pss_cons (ps_ret he) pss_never) fun D σ H ⟨e, o, q⟩ => ⟨o, P, q, fun a v H' p s r => e.rt _ _ (hrt a v H' p (o.same.trans s) (R.pre o.same (R.same Gm.out (Same.refl _) r)))⟩
theorem js_retN {P : Unit → Prop} (hrt : RtOk F (rO tN) P rt) : JSs X F g (.Return none pos :: rest) ⟨nx, rt, bk, ct⟩ (P ()) :=
  pssW (pss_cons ps_retN pss_never) fun D σ H ⟨e, o, q⟩ => e.rt _ _ (hrt () _ H q o.same rfl)
/-- the list of a cell is handed back -/
theorem js_retC {i j : Nat} {p : Addr} {A : Ty α} {xs : List α} {P : List α → Prop} {x : Str} {px : Pos} (hrt : RtOk F (rN A) P rt) (hs : g.s[i]? = some (.at p)) (hc : g.c[j]? = some (.lst p A xs)) (hN : X.N[i]? = some x := by rfl) (hv : Vis X.env.scope x := by first | exact Or.inl rfl | exact Or.inr (Or.inl rfl) | exact Or.inr (Or.inr rfl))
    (hd : (x == ("__debug__" : Str)) = false := by decide) (hcd : (x == ("__classdict__" : Str)) = false := by decide) : JSs X F g (.Return (some (.Name x px)) pos :: rest) ⟨nx, rt, bk, ct⟩ (P xs) :=
  pssW (pss_cons (ps_ret (pe_var hN hv hd hcd)) pss_never) fun D σ H ⟨e, k, q⟩ => by
    have m := List.mem_of_getElem? hc
    obtain ⟨h0, vs, hp, r⟩ := k.cells _ m
    have pm := Gm.mem_ad m (p := p) rfl
    have mo : Same (g.bs F H) (rm (F.out H) p) := fun a o z => by
      have ne : a ≠ p := fun y => (bsA_nil z).1 (by rw [y]; exact pm)
      unfold rm
      rw [if_neg ne]
      exact Gm.out _ _ z
    exact ⟨.ref p, k.ref hs, e.rt _ _ (hrt xs _ H q k.same ⟨p, vs, rfl, h0, bsA_of (fun z => by cases z) h0 hp, Paired.imp (fun _ _ r => A.same mo r) r⟩)⟩
theorem js_if {c : Expr} {a b : List Stmt} {D : Ends} {wc : Prop → Prop → Prop} {wa wb : Prop} (hc : JT X F g c wc) (ha : JSs X F g a D wa) (hb : JSs X F g b D wb) : JSs X F g [.If c a b pos] D (wc wa wb) :=
  pssW (pss_one (ps_if hc ha hb)) fun D' σ H ⟨e, o, q⟩ => ⟨o, _, _, q, fun x H' s => by
      show RS F g D wa D' σ H'
      exact ⟨e, o.step s, x⟩, fun x H' s => by
      show RS F g D wb D' σ H'
      exact ⟨e, o.step s, x⟩⟩
/-- the body never goes on: what follows stands alone -/
theorem js_ifX {c : Expr} {a : List Stmt} {wc : Prop → Prop → Prop} {wa wr : Prop} (hc : JT X F g c wc) (ha : JSs X F g a ⟨fun _ _ => False, rt, bk, ct⟩ wa) (hr : JSs X F g rest ⟨nx, rt, bk, ct⟩ wr) : JSs X F g (.If c a [] pos :: rest) ⟨nx, rt, bk, ct⟩ (wc wa wr) :=
  pssW (pss_cons (ps_if hc ha pss_nil) hr) fun D' σ H ⟨e, o, q⟩ => ⟨o, _, _, q, fun x H' s => by
      show RS F g _ wa _ σ H'
      exact ⟨⟨fun _ _ z => z.elim, e.rt, e.bk, e.ct⟩, o.step s, x⟩, fun x H' s => by
      show RS F g _ wr _ σ H'
      exact ⟨e, o.step s, x⟩⟩
theorem js_if_a {c : Expr} {a b : List Stmt} {D : Ends} {wc : Prop → Prop → Prop} {wa wb : Prop} (hc : JT X F g c wc) (ha : JSs X F g a D wa) (hb : JSs X F g b D wb) : JSs X F g [.If c a b pos] D (wCut wa fun kA => wc kA wb) := js_if hc ha hb
theorem js_if_b {c : Expr} {a b : List Stmt} {D : Ends} {wc : Prop → Prop → Prop} {wa wb : Prop} (hc : JT X F g c wc) (ha : JSs X F g a D wa) (hb : JSs X F g b D wb) : JSs X F g [.If c a b pos] D (wCut wb fun kB => wc wa kB) := js_if hc ha hb
theorem js_if_ab {c : Expr} {a b : List Stmt} {D : Ends} {wc : Prop → Prop → Prop} {wa wb : Prop} (hc : JT X F g c wc) (ha : JSs X F g a D wa) (hb : JSs X F g b D wb) : JSs X F g [.If c a b pos] D (wCut wa fun kA => wCut wb fun kB => wc kA kB) := js_if hc ha hb
theorem js_ifX_a {c : Expr} {a : List Stmt} {wc : Prop → Prop → Prop} {wa wr : Prop} (hc : JT X F g c wc) (ha : JSs X F g a ⟨fun _ _ => False, rt, bk, ct⟩ wa) (hr : JSs X F g rest ⟨nx, rt, bk, ct⟩ wr) : JSs X F g (.If c a [] pos :: rest) ⟨nx, rt, bk, ct⟩ (wCut wa fun kA => wc kA wr) := js_ifX hc ha hr
theorem js_ifX_b {c : Expr} {a : List Stmt} {wc : Prop → Prop → Prop} {wa wr : Prop} (hc : JT X F g c wc) (ha : JSs X F g a ⟨fun _ _ => False, rt, bk, ct⟩ wa) (hr : JSs X F g rest ⟨nx, rt, bk, ct⟩ wr) : JSs X F g (.If c a [] pos :: rest) ⟨nx, rt, bk, ct⟩ (wCut wr fun kB => wc wa kB) := js_ifX hc ha hr
theorem js_ifX_ab {c : Expr} {a : List Stmt} {wc : Prop → Prop → Prop} {wa wr : Prop} (hc : JT X F g c wc) (ha : JSs X F g a ⟨fun _ _ => False, rt, bk, ct⟩ wa) (hr : JSs X F g rest ⟨nx, rt, bk, ct⟩ wr) : JSs X F g (.If c a [] pos :: rest) ⟨nx, rt, bk, ct⟩ (wCut wa fun kA => wCut wr fun kB => wc kA kB) := js_ifX hc ha hr
/-- ways that meet behind an if -/
theorem js_ifJ {c : Expr} {a b : List Stmt} {S : τ → Gm} {wr : τ → Prop} {wc : Prop → Prop → Prop} {wa wb : (τ → Prop) → Prop} (hc : JT X F g c wc) (ha : ∀ J : τ → Prop, JSs X F g a ⟨phi F S J, rt, bk, ct⟩ (wa J)) (hb : ∀ J : τ → Prop, JSs X F g b ⟨phi F S J, rt, bk, ct⟩ (wb J))
    (hr : ∀ s, JSs X F (S s) rest ⟨nx, rt, bk, ct⟩ (wr s)) : JSs X F g (.If c a b pos :: rest) ⟨nx, rt, bk, ct⟩ (wJoin wr fun J => wc (wa J) (wb J)) :=
  pssW (pss_cons (ps_if hc (ha wr) (hb wr)) (pssE hr)) fun D' σ H ⟨e, o, q⟩ => ⟨o, _, _, q, fun x H' s => by
      show RS F g _ (wa wr) _ σ H'
      exact ⟨⟨fun _ _ ⟨s, o, q⟩ => ⟨s, e, o, q⟩, e.rt, e.bk, e.ct⟩, o.step s, x⟩, fun x H' s => by
      show RS F g _ (wb wr) _ σ H'
      exact ⟨⟨fun _ _ ⟨s, o, q⟩ => ⟨s, e, o, q⟩, e.rt, e.bk, e.ct⟩, o.step s, x⟩⟩
theorem js_ifJ_a {c : Expr} {a b : List Stmt} {S : τ → Gm} {wr : τ → Prop} {wc : Prop → Prop → Prop} {wa wb : (τ → Prop) → Prop} (hc : JT X F g c wc) (ha : ∀ J : τ → Prop, JSs X F g a ⟨phi F S J, rt, bk, ct⟩ (wa J)) (hb : ∀ J : τ → Prop, JSs X F g b ⟨phi F S J, rt, bk, ct⟩ (wb J))
    (hr : ∀ s, JSs X F (S s) rest ⟨nx, rt, bk, ct⟩ (wr s)) : JSs X F g (.If c a b pos :: rest) ⟨nx, rt, bk, ct⟩ (wJoin wr fun J => wCut (wa J) fun kA => wc kA (wb J)) := js_ifJ hc ha hb hr
theorem js_ifJ_b {c : Expr} {a b : List Stmt} {S : τ → Gm} {wr : τ → Prop} {wc : Prop → Prop → Prop} {wa wb : (τ → Prop) → Prop} (hc : JT X F g c wc) (ha : ∀ J : τ → Prop, JSs X F g a ⟨phi F S J, rt, bk, ct⟩ (wa J)) (hb : ∀ J : τ → Prop, JSs X F g b ⟨phi F S J, rt, bk, ct⟩ (wb J))
    (hr : ∀ s, JSs X F (S s) rest ⟨nx, rt, bk, ct⟩ (wr s)) : JSs X F g (.If c a b pos :: rest) ⟨nx, rt, bk, ct⟩ (wJoin wr fun J => wCut (wb J) fun kB => wc (wa J) kB) := js_ifJ hc ha hb hr
theorem js_ifJ_ab {c : Expr} {a b : List Stmt} {S : τ → Gm} {wr : τ → Prop} {wc : Prop → Prop → Prop} {wa wb : (τ → Prop) → Prop} (hc : JT X F g c wc) (ha : ∀ J : τ → Prop, JSs X F g a ⟨phi F S J, rt, bk, ct⟩ (wa J)) (hb : ∀ J : τ → Prop, JSs X F g b ⟨phi F S J, rt, bk, ct⟩ (wb J))
    (hr : ∀ s, JSs X F (S s) rest ⟨nx, rt, bk, ct⟩ (wr s)) : JSs X F g (.If c a b pos :: rest) ⟨nx, rt, bk, ct⟩ (wJoin wr fun J => wCut (wa J) fun kA => wCut (wb J) fun kB => wc kA kB) := js_ifJ hc ha hb hr
/-! targets -/
def TgOk (A : Ty α) (gT : TG) (tr : Gm → α → Gm) : Prop := ∀ (F : Fr) (g : Gm) (σ : L2.St) (H : Hp) (v : V) (a : α) (Q : L2.St → Hp → Prop), g.Ok F σ H → A.rel (g.bs F H) v a → (∀ σ', (tr g a).Ok F σ' H → Q σ' H) → gT v σ H Q
theorem tg_name {i : Nat} {A : Ty α} : TgOk A (gName i) (fun g a => g.set i (.val A a)) := fun F g σ H v a Q k r q => q _ (k.set ⟨v, rfl, r⟩)
theorem tg_pair {K : PySem.W.Frag} {A : Ty α} {B : Ty β} {gA gB : TG} {trA : Gm → α → Gm} {trB : Gm → β → Gm} (hA : TgOk A gA trA) (hB : TgOk B gB trB) (hk : ∀ g a, (trA g a).c = g.c := by intro _ _; rfl) : TgOk (tT K (a2 A B)) (gTup K 2 (gCons gA (gCons gB gNil))) (fun g t => trB (trA g t.1) t.2) :=
  fun F g σ H v t Q k r q => by
    obtain ⟨l, vs, e, hs, x, y, e2, h1, h2⟩ := r
    subst e2
    exact ⟨l, _, e, k.le.sqT' hs, rfl, x, [y], rfl, hA F g σ H x t.1 _ k h1 fun σ1 k1 => ⟨y, [], rfl, hB F _ σ1 H y t.2 _ k1 (by show B.rel (bsA F ((trA g t.1).c.filterMap Cell.addr) H) y t.2; rw [hk]; exact h2) fun σ2 k2 => ⟨rfl, q σ2 k2⟩⟩⟩
theorem tg_tri {K : PySem.W.Frag} {A : Ty α} {B : Ty β} {C : Ty γ} {gA gB gC : TG} {trA : Gm → α → Gm} {trB : Gm → β → Gm} {trC : Gm → γ → Gm} (hA : TgOk A gA trA) (hB : TgOk B gB trB) (hC : TgOk C gC trC) (hk : ∀ g a, (trA g a).c = g.c := by intro _ _; rfl) (hk2 : ∀ g a, (trB g a).c = g.c := by intro _ _; rfl) :
    TgOk (tT K (a3 A B C)) (gTup K 3 (gCons gA (gCons gB (gCons gC gNil)))) (fun g t => trC (trB (trA g t.1) t.2.1) t.2.2) :=
  fun F g σ H v t Q k r q => by
    obtain ⟨l, vs, e, hs, x, y, z, e2, h1, h2, h3⟩ := r
    subst e2
    exact ⟨l, _, e, k.le.sqT' hs, rfl, x, [y, z], rfl, hA F g σ H x t.1 _ k h1 fun σ1 k1 => ⟨y, [z], rfl, hB F _ σ1 H y t.2.1 _ k1 (by show B.rel (bsA F ((trA g t.1).c.filterMap Cell.addr) H) y t.2.1; rw [hk]; exact h2) fun σ2 k2 => ⟨z, [], rfl, hC F _ σ2 H z t.2.2 _ k2 (by show C.rel (bsA F ((trB (trA g t.1) t.2.1).c.filterMap Cell.addr) H) z t.2.2; rw [hk2, hk]; exact h3) fun σ3 k3 => ⟨rfl, q σ3 k3⟩⟩⟩⟩
theorem js_asg {i : Nat} {A : Ty α} {x : Str} {px : Pos} {e : Expr} {we : (α → Prop) → Prop} {wr : α → Prop} {D : Ends} (he : JE X F g e (rO A) we) (hr : ∀ a, JSs X F (g.set i (.val A a)) rest D (wr a)) (hN : X.N.Nodup)
    (hi : X.N[i]? = some x := by rfl) (hx : Loc X.env.scope x := by first | exact Or.inl rfl | exact Or.inr rfl) (hs : swapsWith e (some (.Name x px)) pos.line X.env = pure false := by rfl) (hf : X.fn x = true ∨ X.env.scope.names.lookup x = some .local := by first | exact .inl rfl | exact .inr rfl) :
    JSs X F g (.Assign [.Name x px] e pos :: rest) D (we fun a => wLet a wr) :=
  pssW (pss_cons (ps_set hN hi hx he hs hf) (pssE hr)) fun D' σ H ⟨e, o, q⟩ => ⟨o, wr, q, fun a v H1 p s r => ⟨a, e, (o.step s).set ⟨v, rfl, r⟩, p⟩⟩
theorem js_asgT {tg e : Expr} {A : Ty α} {gT : TG} {tr : Gm → α → Gm} {we : (α → Prop) → Prop} {wr : α → Prop} {D : Ends} (he : JE X F g e (rO A) we) (hg : PG X tg gT) (ht : TgOk A gT tr) (hr : ∀ a, JSs X F (tr g a) rest D (wr a))
    (hs : swapsWithSole [tg] e pos.line X.env = pure false := by rfl) (hw : swappedStores [tg] e X.env = pure none := by rfl) (h1 : (assignEach [tg] X.env).map (·.2) = [assign tg X.env] := by rfl) :
    JSs X F g (.Assign [tg] e pos :: rest) D (we fun a => wLet a wr) :=
  pssW (pss_cons (ps_asg he hg hs hw h1) (pssE hr)) fun D' σ H ⟨e, o, q⟩ => ⟨o, wr, q, fun a v H1 p s r => ht F g σ H1 v a _ (o.step s) r fun σ' k => ⟨a, e, k, p⟩⟩
/-- a, b = x, y -/
theorem js_par {i j : Nat} {A : Ty α} {B : Ty β} {x y : Str} {a b : Expr} {px py pt : Pos} {kt k2 : Nat} {pt2 : Pos} {wa : (α → Prop) → Prop} {wb : (β → Prop) → Prop} {wr : α → β → Prop} {D : Ends} (ha : JE X F g a (rO A) wa) (hb : JE X F g b (rO B) wb)
    (hr : ∀ u v, JSs X F ((g.set i (.val A u)).set j (.val B v)) rest D (wr u v)) (hN : X.N.Nodup) (hc : X.calm = true := by rfl) (hi : X.N[i]? = some x := by rfl) (hj : X.N[j]? = some y := by rfl) (hij : i ≠ j := by decide)
    (hx : X.env.scope.names.lookup x = some .local := by rfl) (hy : X.env.scope.names.lookup y = some .local := by rfl) (hs1 : starEach [a, b] X.env = (false, eval a X.env) :: starEach [b] X.env := by rfl) (hs2 : starEach [b] X.env = (false, eval b X.env) :: starEach [] X.env := by rfl)
    (hw : swappedStores [.Tuple [.Name x px, .Name y py] kt pt] (.Tuple [a, b] k2 pt2) X.env = pure (some [x, y]) := by rfl)
    (hs : swapsWithSole [.Tuple [.Name x px, .Name y py] kt pt] (.Tuple [a, b] k2 pt2) pos.line X.env = pure false := by rfl) :
    JSs X F g (.Assign [.Tuple [.Name x px, .Name y py] kt pt] (.Tuple [a, b] k2 pt2) pos :: rest) D (wa fun u => wb fun v => wLet u fun u => wLet v fun v => wr u v) :=
  pssW (pss_cons (ps_par hc hN hi hj hij hx hy (ja_cons ha (ja_cons hb ja_nil hs2) hs1) hw hs) (pssE (t := fun (pr : α × β) => RS F ((g.set i (.val A pr.1)).set j (.val B pr.2)) D (wr pr.1 pr.2)) fun pr => hr pr.1 pr.2)) fun D' σ H ⟨e, o, q⟩ => by
    refine ⟨o, fun t => wr t.1 t.2.1, q, fun t vs H1 p s ⟨v, r, e1, r1, v2, r', e2, r2, e3⟩ => ⟨v, v2, by rw [e1, e2, (e3 : r' = [])], (t.1, t.2.1), e, ?_, p⟩⟩
    have k1 : (g.set i (.val A t.1)).Ok F (σ.set i (some v)) H1 := (o.step s).set (t := .val A t.1) ⟨v, rfl, r1⟩
    exact k1.set (t := .val B t.2.1) ⟨v2, rfl, r2⟩
theorem js_expr {e : Expr} {A : Ty α} {we : (α → Prop) → Prop} {wr : Prop} {D : Ends} (he : JE X F g e (rO A) we) (hr : JSs X F g rest D wr) (hs : swapsWith e none pos.line X.env = pure false := by rfl) : JSs X F g (.Expr e pos :: rest) D (we fun _ => wr) :=
  pssW (pss_cons (ps_expr he hs) hr) fun D' σ H ⟨e, o, q⟩ => ⟨o, _, q, fun a v H1 p s r => ⟨e, o.step s, p⟩⟩
/-- xs.append(e) -/
theorem js_app {i j : Nat} {l : Addr} {A : Ty α} {xs : List α} {call : Expr} {we : (α → Prop) → Prop} {wr : α → Prop} {D : Ends} (hm : PE X call (tBM X.K "list" rAppend (tVar i) (tCons (RJ F g (rO A) we) tNil)))
    (hr : ∀ a, JSs X F ⟨g.s, g.c.set j (.lst l A (xs ++ [a]))⟩ rest D (wr a)) (hs : g.s[i]? = some (.at l)) (hc : g.c[j]? = some (.lst l A xs)) (hsw : swapsWith call none pos.line X.env = pure false := by rfl) :
    JSs X F g (.Expr call pos :: rest) D (we fun a => xs.length < 1000000 ∧ wLet a wr) := by
  refine pssW (pss_cons (ps_expr hm hsw) (pssE hr)) fun D' σ H ⟨e, k, q⟩ => ?_
  obtain ⟨vs, hp, r⟩ := k.cell hc
  refine ⟨_, k.ref hs, .inl ⟨rfl, vs, .inl (.inl hp)⟩, k, _, q, fun a v H1 p s ra => ⟨l, vs, v, rfl, rfl, s _ _ hp, ?_, a, e, ?_⟩⟩
  · rw [Paired.len r]
    exact Nat.lt_of_lt_of_le p.1 (by decide)
  · exact ⟨((k.step s).mut hc (Paired.app (Paired.imp (fun _ _ z => A.same (Gm.mono s) z) r) (.cons ra .nil))), p.2⟩
/-! ### loops -/
theorem for_core {K : PySem.W.Frag} {l : Addr} {S : τ → Gm} {xs : List α} {A : Ty α} {b : α → τ → (τ → Prop) → (τ → Prop) → Prop} {wr : τ → Prop} (hp : ∀ s σ H, (S s).Ok F σ H → ∃ vs, SqL K H l vs ∧ Paired (A.rel ((S s).bs F H)) vs xs)
    {gT : TG} {tb : TS} {D : Ends} {σ : L2.St} {H : Hp} {s0 : τ} (h0 : (S s0).Ok F σ H) (hw : wFor b wr xs s0) (hD : ∀ σ H s, (S s).Ok F σ H → wr s → D.nx σ H)
    (hb : ∀ (N : τ → Prop) x v s σ H, (S s).Ok F σ H → A.rel ((S s).bs F H) v x → b x s N wr → gT v σ H fun σ2 H2 => tb ⟨phi F S N, D.rt, D.nx, phi F S N⟩ σ2 H2) :
    ∃ W : Nat → Nat → L2.St → Hp → Prop, (∃ m, W 0 m σ H) ∧ ∀ i m σ H, W i m σ H →
      ((Itl K l).stop i H ∧ D.nx σ H) ∨ ((Itl K l).go i H ∧ ∃ N : L2.St → Hp → Prop, (∀ σ' H', N σ' H' → ∃ m', m' < m ∧ W (i + 1) m' σ' H') ∧ ∀ x H', (Itl K l).yld i H x H' → gT x σ H' fun σ2 H2 => tb { D with nx := N, ct := N, bk := D.nx } σ2 H2) := by
  refine ⟨fun i m σ H => m = xs.length - i ∧ i ≤ xs.length ∧ ∃ s, (S s).Ok F σ H ∧ wFor b wr (xs.drop i) s, ⟨xs.length, by simp, Nat.zero_le _, s0, h0, hw⟩, ?_⟩
  rintro i m σ H ⟨rfl, hi, s, o, w⟩
  obtain ⟨vs, hq, hpr⟩ := hp s σ H o
  by_cases hlt : i < xs.length
  · have hx : xs[i]? = some xs[i] := List.getElem?_eq_getElem hlt
    obtain ⟨v, hv, rv⟩ := Paired.at hpr hx
    rw [List.drop_eq_getElem_cons hlt] at w
    refine .inr ⟨⟨vs, v, hq, hv⟩, phi F S fun s' => wFor b wr (xs.drop (i + 1)) s', fun σ' H' ⟨s', o', w'⟩ => ⟨xs.length - (i + 1), by omega, rfl, hlt, s', o', w'⟩, fun x H' y => ?_⟩
    obtain ⟨e, y⟩ := y
    subst e
    have ev : x = v := Option.some.inj ((y vs hq).symm.trans hv)
    subst ev
    exact hb _ _ _ s _ _ o rv w
  · have e : i = xs.length := by omega
    refine .inl ⟨⟨vs, hq, by rw [Paired.len hpr]; omega⟩, hD σ H s o ?_⟩
    rw [List.drop_of_length_le (by omega)] at w
    exact w
theorem forT_core {K : PySem.W.Frag} {l : Addr} {S : τ → Gm} {xs : List α} {A : Ty α} {b : α → τ → (τ → Prop) → (τ → Prop) → Prop} {wr : τ → Prop} (hp : ∀ s σ H, (S s).Ok F σ H → ∃ vs, SqT K H l vs ∧ Paired (A.rel ((S s).bs F H)) vs xs)
    {gT : TG} {tb : TS} {D : Ends} {σ : L2.St} {H : Hp} {s0 : τ} (h0 : (S s0).Ok F σ H) (hw : wFor b wr xs s0) (hD : ∀ σ H s, (S s).Ok F σ H → wr s → D.nx σ H)
    (hb : ∀ (N : τ → Prop) x v s σ H, (S s).Ok F σ H → A.rel ((S s).bs F H) v x → b x s N wr → gT v σ H fun σ2 H2 => tb ⟨phi F S N, D.rt, D.nx, phi F S N⟩ σ2 H2) :
    ∃ W : Nat → Nat → L2.St → Hp → Prop, (∃ m, W 0 m σ H) ∧ ∀ i m σ H, W i m σ H →
      ((Itt K l).stop i H ∧ D.nx σ H) ∨ ((Itt K l).go i H ∧ ∃ N : L2.St → Hp → Prop, (∀ σ' H', N σ' H' → ∃ m', m' < m ∧ W (i + 1) m' σ' H') ∧ ∀ x H', (Itt K l).yld i H x H' → gT x σ H' fun σ2 H2 => tb { D with nx := N, ct := N, bk := D.nx } σ2 H2) := by
  refine ⟨fun i m σ H => m = xs.length - i ∧ i ≤ xs.length ∧ ∃ s, (S s).Ok F σ H ∧ wFor b wr (xs.drop i) s, ⟨xs.length, by simp, Nat.zero_le _, s0, h0, hw⟩, ?_⟩
  rintro i m σ H ⟨rfl, hi, s, o, w⟩
  obtain ⟨vs, hq, hpr⟩ := hp s σ H o
  by_cases hlt : i < xs.length
  · have hx : xs[i]? = some xs[i] := List.getElem?_eq_getElem hlt
    obtain ⟨v, hv, rv⟩ := Paired.at hpr hx
    rw [List.drop_eq_getElem_cons hlt] at w
    refine .inr ⟨⟨vs, v, hq, hv⟩, phi F S fun s' => wFor b wr (xs.drop (i + 1)) s', fun σ' H' ⟨s', o', w'⟩ => ⟨xs.length - (i + 1), by omega, rfl, hlt, s', o', w'⟩, fun x H' y => ?_⟩
    obtain ⟨e, y⟩ := y
    subst e
    have ev : x = v := Option.some.inj ((y vs hq).symm.trans hv)
    subst ev
    exact hb _ _ _ s _ _ o rv w
  · have e : i = xs.length := by omega
    refine .inl ⟨⟨vs, hq, by rw [Paired.len hpr]; omega⟩, hD σ H s o ?_⟩
    rw [List.drop_of_length_le (by omega)] at w
    exact w
theorem range_getI {lo : Int} {n i : Nat} (h : i < n) : ((List.range n).map fun (j : Nat) => lo + (j : Int))[i]? = some (lo + (i : Int)) := by
  rw [List.getElem?_map, List.getElem?_range h]
  rfl
theorem forR_core {S : τ → Gm} {lo : Int} {n : Nat} {b : Int → τ → (τ → Prop) → (τ → Prop) → Prop} {wr : τ → Prop}
    {gT : TG} {tb : TS} {D : Ends} {σ : L2.St} {H : Hp} {s0 : τ} (h0 : (S s0).Ok F σ H) (hw : wFor b wr ((List.range n).map fun (j : Nat) => lo + (j : Int)) s0) (hD : ∀ σ H s, (S s).Ok F σ H → wr s → D.nx σ H)
    (hb : ∀ (N : τ → Prop) x s σ H, (S s).Ok F σ H → b x s N wr → gT (.int x) σ H fun σ2 H2 => tb ⟨phi F S N, D.rt, D.nx, phi F S N⟩ σ2 H2) :
    ∃ W : Nat → Nat → L2.St → Hp → Prop, (∃ m, W 0 m σ H) ∧ ∀ i m σ H, W i m σ H →
      ((Itr lo n).stop i H ∧ D.nx σ H) ∨ ((Itr lo n).go i H ∧ ∃ N : L2.St → Hp → Prop, (∀ σ' H', N σ' H' → ∃ m', m' < m ∧ W (i + 1) m' σ' H') ∧ ∀ x H', (Itr lo n).yld i H x H' → gT x σ H' fun σ2 H2 => tb { D with nx := N, ct := N, bk := D.nx } σ2 H2) := by
  have hl : ((List.range n).map fun (j : Nat) => lo + (j : Int)).length = n := by rw [List.length_map, List.length_range]
  refine ⟨fun i m σ H => m = n - i ∧ i ≤ n ∧ ∃ s, (S s).Ok F σ H ∧ wFor b wr (((List.range n).map fun (j : Nat) => lo + (j : Int)).drop i) s, ⟨n, by simp, Nat.zero_le _, s0, h0, hw⟩, ?_⟩
  rintro i m σ H ⟨rfl, hi, s, o, w⟩
  by_cases hlt : i < n
  · have hlt' : i < ((List.range n).map fun (j : Nat) => lo + (j : Int)).length := by rw [hl]; exact hlt
    rw [List.drop_eq_getElem_cons hlt'] at w
    have ex : ((List.range n).map fun (j : Nat) => lo + (j : Int))[i] = lo + (i : Int) := Option.some.inj ((List.getElem?_eq_getElem hlt').symm.trans (range_getI hlt))
    rw [ex] at w
    refine .inr ⟨hlt, phi F S fun s' => wFor b wr (((List.range n).map fun (j : Nat) => lo + (j : Int)).drop (i + 1)) s', fun σ' H' ⟨s', o', w'⟩ => ⟨n - (i + 1), by omega, rfl, hlt, s', o', w'⟩, fun x H' y => ?_⟩
    obtain ⟨e, y⟩ := y
    subst e y
    exact hb _ _ s _ _ o w
  · refine .inl ⟨by show n ≤ i; omega, hD σ H s o ?_⟩
    rw [List.drop_of_length_le (by omega)] at w
    exact w
section
variable {tg iter : Expr} {body : List Stmt} {A : Ty α} {gT : TG} {tr : Gm → α → Gm} {b : α → τ → (τ → Prop) → (τ → Prop) → Prop} {wr : τ → Prop} {s0 : τ} {wl : (List α → Prop) → Prop}
/-- for x in the list of a name's cell, that the loop leaves as it is -/
theorem js_forC {S : τ → Gm} {i j : Nat} {l : Addr} {xs : List α} {x : Str} {px : Pos} (hs : g.s[i]? = some (.at l)) (hS : Sub g (S s0)) (hc : ∀ s, (S s).c[j]? = some (.lst l A xs))
    (hg : PG X tg gT) (ht : TgOk A gT tr) (hb : ∀ (N B : τ → Prop) a s, JSs X F (tr (S s) a) body ⟨phi F S N, rt, phi F S B, phi F S N⟩ (b a s N B)) (hr : ∀ s, JSs X F (S s) rest ⟨nx, rt, bk, ct⟩ (wr s))
    (hpo : PassesOwn (model X.prog X.w) X.A X.env X.xe) (hN : X.N[i]? = some x := by rfl) (hv : Vis X.env.scope x := by first | exact Or.inl rfl | exact Or.inr (Or.inl rfl) | exact Or.inr (Or.inr rfl)) (hd : (x == ("__debug__" : Str)) = false := by decide) (hcd : (x == ("__classdict__" : Str)) = false := by decide)
    (hca : X.calm = true := by rfl) (hfs : ∀ y, foldedSetIterable (.Name x px) X.env y = pure y := by intro _; rfl) :
    JSs X F g (.For tg (.Name x px) body [] pos :: rest) ⟨nx, rt, bk, ct⟩ (wFor b wr xs s0) := by
  refine pssW (pss_cons (ps_for hpo hca (pi_list (pe_var hN hv hd hcd)) hg (pssE (t := fun (q : (τ → Prop) × α × τ) => RS F (tr (S q.2.2) q.2.1) ⟨phi F S q.1, rt, phi F S wr, phi F S q.1⟩ (b q.2.1 q.2.2 q.1 wr)) fun q => hb q.1 wr q.2.1 q.2.2) hfs) (pssE hr)) fun D σ H ⟨e, k, w⟩ => ?_
  have k0 := hS.ok k
  have hp : ∀ s σ H, (S s).Ok F σ H → ∃ vs, SqL X.K H l vs ∧ Paired (A.rel ((S s).bs F H)) vs xs := fun s σ H o => by
    obtain ⟨us, h2, r2⟩ := o.cell (hc s)
    exact ⟨us, .inl (.inl h2), r2⟩
  obtain ⟨us, h2, r2⟩ := hp _ _ _ k0
  refine ⟨.ref l, k.ref hs, l, rfl, ⟨us, h2⟩, for_core (A := A) (D := ⟨_, D.rt, D.bk, D.ct⟩) (S := S) hp k0 w ?_ fun N x u s σ H o ru q => ?_⟩
  · exact fun σ H s o q => ⟨s, e, o, q⟩
  exact ht F _ σ H u x _ o ru fun σ' o' => ⟨(N, x, s), ⟨fun _ _ z => z, e.rt, fun _ _ ⟨s, o, q⟩ => ⟨s, e, o, q⟩, fun _ _ z => z⟩, o', q⟩
/-- for x in a list that is not changed any more -/
theorem js_forL {S : V → List α → τ → Gm} {j : Nat} (hl : JE X F g iter (rO (tK A)) wl) (hS : ∀ v xs, Sub (g.push (.fix (tK A) v xs)) (S v xs s0)) (hc : ∀ v xs s, (S v xs s).c[j]? = some (.fix (tK A) v xs))
    (hg : PG X tg gT) (ht : TgOk A gT tr) (hb : ∀ v xs (N B : τ → Prop) a s, JSs X F (tr (S v xs s) a) body ⟨phi F (S v xs) N, rt, phi F (S v xs) B, phi F (S v xs) N⟩ (b a s N B)) (hr : ∀ v xs s, JSs X F (S v xs s) rest ⟨nx, rt, bk, ct⟩ (wr s))
    (hpo : PassesOwn (model X.prog X.w) X.A X.env X.xe) (hca : X.calm = true := by rfl) (hfs : ∀ x, foldedSetIterable iter X.env x = pure x := by intro _; rfl) :
    JSs X F g (.For tg iter body [] pos :: rest) ⟨nx, rt, bk, ct⟩ (wl fun xs => wLet xs fun xs => wFor b wr xs s0) := by
  refine pssW (pss_cons (ps_for hpo hca (pi_list hl) hg (pssE (t := fun (q : V × List α × (τ → Prop) × α × τ) => RS F (tr (S q.1 q.2.1 q.2.2.2.2) q.2.2.2.1) ⟨phi F (S q.1 q.2.1) q.2.2.1, rt, phi F (S q.1 q.2.1) wr, phi F (S q.1 q.2.1) q.2.2.1⟩ (b q.2.2.2.1 q.2.2.2.2 q.2.2.1 wr)) fun q => hb q.1 q.2.1 q.2.2.1 wr q.2.2.2.1 q.2.2.2.2) hfs)
    (pssE (t := fun (q : V × List α × τ) => RS F (S q.1 q.2.1 q.2.2) ⟨nx, rt, bk, ct⟩ (wr q.2.2)) fun q => hr q.1 q.2.1 q.2.2)) fun D σ H ⟨e, k, w⟩ => ?_
  refine ⟨k, _, w, fun xs v H1 w1 s1 r => ?_⟩
  obtain ⟨l, vs, ev, hq, hr1⟩ := id r
  refine ⟨l, ev, ⟨vs, .inl (.inl ((k.step s1).le _ _ hq))⟩, ?_⟩
  refine for_core (A := A) (D := ⟨_, D.rt, D.bk, D.ct⟩) (S := S v xs) (fun s σ H o => ?_) ((hS v xs).ok ((k.step s1).fixed r)) w1 ?_ fun N x u s σ H o ru q => ?_
  · obtain ⟨l2, us, e2, h2, r2⟩ := (show (tK A).rel ((S v xs s).bs F H) v xs from o.cells _ (List.mem_of_getElem? (hc v xs s)))
    rw [ev] at e2
    have e3 : l = l2 := V.ref.inj e2
    subst e3
    exact ⟨us, .inl (.inl (o.le _ _ h2)), r2⟩
  · exact fun σ H s o q => ⟨(v, xs, s), e, o, q⟩
  · exact ht F _ σ H u x _ o ru fun σ' o' => ⟨(v, xs, N, x, s), ⟨fun _ _ z => z, e.rt, fun _ _ ⟨s, o, q⟩ => ⟨(v, xs, s), e, o, q⟩, fun _ _ z => z⟩, o', q⟩
/-- for x in a tuple -/
theorem js_forT {S : V → List α → τ → Gm} {j : Nat} (hl : JE X F g iter (rO (tT X.K (aV A))) wl) (hS : ∀ v xs, Sub (g.push (.fix (tT X.K (aV A)) v xs)) (S v xs s0)) (hc : ∀ v xs s, (S v xs s).c[j]? = some (.fix (tT X.K (aV A)) v xs))
    (hg : PG X tg gT) (ht : TgOk A gT tr) (hb : ∀ v xs (N B : τ → Prop) a s, JSs X F (tr (S v xs s) a) body ⟨phi F (S v xs) N, rt, phi F (S v xs) B, phi F (S v xs) N⟩ (b a s N B)) (hr : ∀ v xs s, JSs X F (S v xs s) rest ⟨nx, rt, bk, ct⟩ (wr s))
    (hpo : PassesOwn (model X.prog X.w) X.A X.env X.xe) (hca : X.calm = true := by rfl) (hfs : ∀ x, foldedSetIterable iter X.env x = pure x := by intro _; rfl) :
    JSs X F g (.For tg iter body [] pos :: rest) ⟨nx, rt, bk, ct⟩ (wl fun xs => wLet xs fun xs => wFor b wr xs s0) := by
  refine pssW (pss_cons (ps_for hpo hca (pi_tup hl) hg (pssE (t := fun (q : V × List α × (τ → Prop) × α × τ) => RS F (tr (S q.1 q.2.1 q.2.2.2.2) q.2.2.2.1) ⟨phi F (S q.1 q.2.1) q.2.2.1, rt, phi F (S q.1 q.2.1) wr, phi F (S q.1 q.2.1) q.2.2.1⟩ (b q.2.2.2.1 q.2.2.2.2 q.2.2.1 wr)) fun q => hb q.1 q.2.1 q.2.2.1 wr q.2.2.2.1 q.2.2.2.2) hfs)
    (pssE (t := fun (q : V × List α × τ) => RS F (S q.1 q.2.1 q.2.2) ⟨nx, rt, bk, ct⟩ (wr q.2.2)) fun q => hr q.1 q.2.1 q.2.2)) fun D σ H ⟨e, k, w⟩ => ?_
  refine ⟨k, _, w, fun xs v H1 w1 s1 r => ?_⟩
  obtain ⟨l, vs, ev, hq, hr1⟩ := id r
  refine ⟨l, ev, ⟨vs, (k.step s1).le.sqT' hq⟩, ?_⟩
  refine forT_core (A := A) (D := ⟨_, D.rt, D.bk, D.ct⟩) (S := S v xs) (fun s σ H o => ?_) ((hS v xs).ok ((k.step s1).fixed r)) w1 ?_ fun N x u s σ H o ru q => ?_
  · obtain ⟨l2, us, e2, h2, r2⟩ := (show (tT X.K (aV A)).rel ((S v xs s).bs F H) v xs from o.cells _ (List.mem_of_getElem? (hc v xs s)))
    rw [ev] at e2
    have e3 : l = l2 := V.ref.inj e2
    subst e3
    exact ⟨us, o.le.sqT' h2, r2⟩
  · exact fun σ H s o q => ⟨(v, xs, s), e, o, q⟩
  · exact ht F _ σ H u x _ o ru fun σ' o' => ⟨(v, xs, N, x, s), ⟨fun _ _ z => z, e.rt, fun _ _ ⟨s, o, q⟩ => ⟨(v, xs, s), e, o, q⟩, fun _ _ z => z⟩, o', q⟩
end
section
variable {tg : Expr} {body : List Stmt} {gT : TG} {tr : Gm → Int → Gm} {b : Int → τ → (τ → Prop) → (τ → Prop) → Prop} {wr : τ → Prop} {s0 : τ}
/-- for i in range(n), range(a, b) -/
theorem js_forR {S : τ → Gm} {e : Expr} {p pr : Pos} {we : (Int → Prop) → Prop} (hg0 : Gl X "range") (hm : X.mg "range" = none) (he : JE X F g e (rO tI) we) (hS : Sub g (S s0)) (hg : PG X tg gT) (ht : TgOk tI gT tr)
    (hb : ∀ (N B : τ → Prop) a s, JSs X F (tr (S s) a) body ⟨phi F S N, rt, phi F S B, phi F S N⟩ (b a s N B)) (hr : ∀ s, JSs X F (S s) rest ⟨nx, rt, bk, ct⟩ (wr s))
    (hpo : PassesOwn (model X.prog X.w) X.A X.env X.xe) (hca : X.calm = true := by rfl) (hst : starEach [e] X.env = (false, eval e X.env) :: starEach [] X.env := by rfl) (hst2 : starEach [e] X.env = [(false, eval e X.env)] := by rfl) (hfs : ∀ y, foldedSetIterable (.Call (.Name "range" p) [e] [] pr) X.env y = pure y := by intro _; rfl) :
    JSs X F g (.For tg (.Call (.Name "range" p) [e] [] pr) body [] pos :: rest) ⟨nx, rt, bk, ct⟩ (we fun n => (-(2 ^ 62) ≤ n ∧ n < 2 ^ 62) ∧ wFor b wr (rangeI 0 n) s0) := by
  refine pssW (pss_cons (ps_for hpo hca (pi_range1 hg0 hm (pa_cons he pa_nil hst) hst2) hg (pssE (t := fun (q : (τ → Prop) × Int × τ) => RS F (tr (S q.2.2) q.2.1) ⟨phi F S q.1, rt, phi F S wr, phi F S q.1⟩ (b q.2.1 q.2.2 q.1 wr)) fun q => hb q.1 wr q.2.1 q.2.2) hfs) (pssE hr)) fun D σ H ⟨e, k, w⟩ => ?_
  refine ⟨k, _, w, fun n v H1 ⟨⟨w1, w2⟩, w3⟩ s1 r1 => ⟨n, by rw [(r1 : v = _)], w1, w2, ?_⟩⟩
  have en : (n - 0).toNat = n.toNat := by rw [Int.sub_zero]
  unfold rangeI at w3
  rw [en] at w3
  refine forR_core (D := ⟨_, D.rt, D.bk, D.ct⟩) (S := S) (hS.ok (k.step s1)) w3 ?_ fun N x s σ H o q => ?_
  · exact fun σ H s o q => ⟨s, e, o, q⟩
  exact ht F _ σ H (.int x) x _ o rfl fun σ' o' => ⟨(N, x, s), ⟨fun _ _ z => z, e.rt, fun _ _ ⟨s, o, q⟩ => ⟨s, e, o, q⟩, fun _ _ z => z⟩, o', q⟩
theorem js_forR2 {S : τ → Gm} {e e2 : Expr} {p pr : Pos} {we we2 : (Int → Prop) → Prop} (hg0 : Gl X "range") (hm : X.mg "range" = none) (he : JE X F g e (rO tI) we) (he2 : JE X F g e2 (rO tI) we2) (hS : Sub g (S s0)) (hg : PG X tg gT) (ht : TgOk tI gT tr)
    (hb : ∀ (N B : τ → Prop) a s, JSs X F (tr (S s) a) body ⟨phi F S N, rt, phi F S B, phi F S N⟩ (b a s N B)) (hr : ∀ s, JSs X F (S s) rest ⟨nx, rt, bk, ct⟩ (wr s)) (hpi : PI X tg (.Call (.Name "range" p) [e, e2] [] pr) (iRng2 (tCons (RJ F g (rO tI) we) (tCons (RJ F g (rO tI) we2) tNil))))
    (hpo : PassesOwn (model X.prog X.w) X.A X.env X.xe) (hca : X.calm = true := by rfl) (hfs : ∀ y, foldedSetIterable (.Call (.Name "range" p) [e, e2] [] pr) X.env y = pure y := by intro _; rfl) :
    JSs X F g (.For tg (.Call (.Name "range" p) [e, e2] [] pr) body [] pos :: rest) ⟨nx, rt, bk, ct⟩ (we fun n => we2 fun m => (-(2 ^ 62) ≤ n ∧ n < 2 ^ 62 ∧ -(2 ^ 62) ≤ m ∧ m < 2 ^ 62) ∧ wFor b wr (rangeI n m) s0) := by
  refine pssW (pss_cons (ps_for hpo hca hpi hg (pssE (t := fun (q : (τ → Prop) × Int × τ) => RS F (tr (S q.2.2) q.2.1) ⟨phi F S q.1, rt, phi F S wr, phi F S q.1⟩ (b q.2.1 q.2.2 q.1 wr)) fun q => hb q.1 wr q.2.1 q.2.2) hfs) (pssE hr)) fun D σ H ⟨e, k, w⟩ => ?_
  refine ⟨k, _, w, fun n v H1 w1 s1 r1 => ⟨k.step s1, _, w1, fun m v2 H2 ⟨w2, w3⟩ s2 r2 => ⟨n, m, by rw [(r1 : v = _), (r2 : v2 = _)], w2, ?_⟩⟩⟩
  unfold rangeI at w3
  refine forR_core (D := ⟨_, D.rt, D.bk, D.ct⟩) (S := S) (hS.ok (k.step (s1.trans s2))) w3 ?_ fun N x s σ H o q => ?_
  · exact fun σ H s o q => ⟨s, e, o, q⟩
  exact ht F _ σ H (.int x) x _ o rfl fun σ' o' => ⟨(N, x, s), ⟨fun _ _ z => z, e.rt, fun _ _ ⟨s, o, q⟩ => ⟨s, e, o, q⟩, fun _ _ z => z⟩, o', q⟩
end
theorem ptE {e : Expr} {t : τ → TT} (h : ∀ a, PT X e (t a)) : PT X e (fun σ H Q => ∃ a, t a σ H Q) := ⟨fun p s σ H Q I ⟨a, q⟩ => (h a).run p s σ H Q I q⟩
theorem js_while {test : Expr} {body : List Stmt} {S : τ → Gm} {s0 : τ} {wt : τ → Prop → Prop → Prop} {b : τ → (τ → Prop) → (τ → Prop) → Prop} {wr : τ → Prop} (hS : Sub g (S s0)) (ht : ∀ s, JT X F (S s) test (wt s))
    (hb : ∀ (N B : τ → Prop) s, JSs X F (S s) body ⟨phi F S N, rt, phi F S B, phi F S N⟩ (b s N B)) (hr : ∀ s, JSs X F (S s) rest ⟨nx, rt, bk, ct⟩ (wr s)) (hpo : PassesOwn (model X.prog X.w) X.A X.env X.xe) :
    JSs X F g (.While test body [] pos :: rest) ⟨nx, rt, bk, ct⟩ (wWhile wt b wr s0) := by
  refine pssW (pss_cons (ps_while hpo (ptE ht) (pssE (t := fun (q : (τ → Prop) × τ) => RS F (S q.2) ⟨phi F S q.1, rt, phi F S wr, phi F S q.1⟩ (b q.2 q.1 wr)) fun q => hb q.1 wr q.2)) (pssE hr)) fun D σ H ⟨e, k, I, m, i0, turn⟩ => ?_
  refine ⟨fun n σ H => ∃ s, (S s).Ok F σ H ∧ I s ∧ n = m s, ⟨m s0, s0, hS.ok k, i0, rfl⟩, ?_⟩
  rintro n σ1 H1 ⟨s, o, hi, rfl⟩
  refine ⟨s, o, _, _, turn s hi, fun x H2 s2 => ?_, fun x H2 s2 => ?_⟩
  · show ∃ N : L2.St → Hp → Prop, _
    refine ⟨phi F S fun s' => I s' ∧ m s' < m s, fun σ' H' ⟨s', o', i', l'⟩ => ⟨m s', l', s', o', i', rfl⟩, ?_⟩
    exact ⟨(fun s' => I s' ∧ m s' < m s, s), ⟨fun _ _ z => z, e.rt, fun _ _ ⟨s, o, q⟩ => ⟨s, e, o, q⟩, fun _ _ z => z⟩, o.step s2, x⟩
  · show ∃ a, _
    exact ⟨s, e, o.step s2, x⟩
end
end
end J
/-! A4: kinds seen by isinstance, options, ends -/
namespace J
open PySem PySem.Spec L2
section
variable {X : Cx} {F : Fr} {g : Gm} {α β γ δ ρ τ : Type} {K : PySem.W.Frag}
theorem tyI : TyOfA K tI "int" := fun H v a h => by
  have e : v = .int a := h
  subst e
  exact .base (.int a)
theorem tyB : TyOfA K tB "bool" := fun H v a h => by
  have e : v = .bl a := h
  subst e
  exact .base (.bl a)
theorem tyS : TyOfA K tS "str" := fun H v a h => by
  have e : v = .str a := h
  subst e
  exact .base (.str a)
theorem tyT {T : ATy τ} : TyOfA K (tT K T) "tuple" := fun H v t ⟨a, vs, e, h, r⟩ => by
  subst e
  rcases h with (h | ⟨o, h⟩) | ⟨o, its, n, h1, h2, _⟩
  · exact .base (.tup h)
  · exact .fTuple h
  · exact .kTuple h1 h2
theorem tyL {A : Ty α} : TyOfA K (tL K A) "list" := fun H v t ⟨a, vs, e, h, r⟩ => by
  subst e
  rcases h with (h | ⟨o, h⟩) | ⟨o, its, n, h1, h2, _⟩
  · exact .base (.lst h)
  · exact .base (.frz h)
  · exact .kList h1 h2
theorem tyK {A : Ty α} : TyOfA K (tK A) "list" := fun H v t ⟨a, vs, e, h, r⟩ => by
  subst e
  exact .base (.lst h)
/-- an option that is there -/
theorem je_get {A : Ty α} {e : Expr} {w : (Option α → Prop) → Prop} (h : JE X F g e (rO (tO A)) w) : JE X F g e (rO A) (fun k => w fun o => ∃ a, o = some a ∧ k a) :=
  peW h fun σ H Q ⟨k, P, hw, q⟩ => ⟨k, _, hw, fun o v H' ⟨a, e, p⟩ s r => by
    subst e
    exact q a v H' p s r.1⟩
theorem nn_T {T : ATy τ} : ∀ (H : Hp) (a : τ), ¬ (tT K T).rel H .non a := fun H a ⟨_, _, e, _⟩ => by cases e
theorem nn_I : ∀ (H : Hp) (a : Int), ¬ (tI).rel H .non a := fun H a e => by cases (e : V.non = V.int a)
theorem nn_K {A : Ty α} : ∀ (H : Hp) (a : List α), ¬ (tK A).rel H .non a := fun H a ⟨_, _, e, _⟩ => by cases e
theorem nn_L {A : Ty α} : ∀ (H : Hp) (a : List α), ¬ (tL K A).rel H .non a := fun H a ⟨_, _, e, _⟩ => by cases e
/-- lengths of tuples -/
theorem len_a2 {A : Ty α} {B : Ty β} : ∀ H vs t, (a2 A B).rel H vs t → vs.length = (fun _ => 2) t := fun H vs t ⟨_, _, e, _⟩ => by rw [e]; rfl
theorem len_a3 {A : Ty α} {B : Ty β} {C : Ty γ} : ∀ H vs t, (a3 A B C).rel H vs t → vs.length = (fun _ => 3) t := fun H vs t ⟨_, _, _, e, _⟩ => by rw [e]; rfl
theorem len_a4 {A : Ty α} {B : Ty β} {C : Ty γ} {E : Ty δ} : ∀ H vs t, (a4 A B C E).rel H vs t → vs.length = (fun _ => 4) t := fun H vs t ⟨_, _, _, _, e, _⟩ => by rw [e]; rfl
theorem len_aV {A : Ty α} : ∀ H vs (t : List α), (aV A).rel H vs t → vs.length = (fun (t : List α) => t.length) t := fun H vs t h => Paired.len h
end
/-- the promise of a law's own def -/
def spLaw (K : PySem.W.Frag) : Sp := fun vs H Q _ => ∃ (a : Addr) (ns : List Int), vs = [.ref a] ∧ SqL K H a (ns.map V.int) ∧ ns.length ≤ 63 ∧ ∀ H', Q (.bl true) H'
theorem law_of {K : PySem.W.Frag} {w : List Int × Unit → (Bool → Prop) → Prop} (h : ∀ ns : List Int, ns.length ≤ 63 → w (ns, ()) (fun b => b = true)) : ∀ vs H Q E, spLaw K vs H Q E → spJ (aC (tL K tI) aN) (rO tB) w vs H Q E :=
  fun vs H Q E ⟨a, ns, e, hs, hl, q⟩ => ⟨(ns, ()), fun b => b = true, Fr.all H, rfl, ⟨.ref a, [], e, ⟨a, _, rfl, hs, paired_ints ns⟩, rfl⟩, h ns hl, fun r v H' p s rr => by
    have e1 : v = .bl r := rr
    subst e1
    rw [p]
    exact q H'⟩
end J
/-! A5: list comprehensions -/
namespace J
open PySem PySem.Spec L2
section
variable {X : Cx} {F : Fr} {g : Gm} {α β γ δ ρ τ : Type}
def tExE (t : τ → TE) : TE := fun σ H Q => ∃ a, t a σ H Q
theorem peE {e : Expr} {t : τ → TE} (h : ∀ a, PE X e (t a)) : PE X e (tExE t) := ⟨fun p s σ H Q I ⟨a, q⟩ => (h a).run p s σ H Q I q⟩
theorem piW {tg e : Expr} {w w' : TI} (h : PI X tg e w) (k : ∀ σ H R, w' σ H R → w σ H R) : PI X tg e w' := ⟨fun p s σ H R I q => h.run p s σ H R I (k _ _ _ q)⟩
/-- what an iterator shows of a list of data; as: the addresses of what may change -/
def ItAt (F : Fr) (as : List Addr) (J : It) (A : Ty α) (xs : List α) (H : Hp) : Prop :=
  (∀ i x, xs[i]? = some x → J.go i H ∧ ∀ v H', J.yld i H v H' → Same H H' ∧ A.rel (bsA F as H') v x) ∧ ∀ i, xs.length ≤ i → J.stop i H
theorem itl_at {as : List Addr} {K : PySem.W.Frag} {l : Addr} {vs : List V} {xs : List α} {A : Ty α} {H : Hp} (h : SqL K H l vs) (r : Paired (A.rel (bsA F as H)) vs xs) : ItAt F as (Itl K l) A xs H :=
  ⟨fun i x e => by
    obtain ⟨v, hv, rv⟩ := Paired.at r e
    refine ⟨⟨vs, v, h, hv⟩, fun u H' ⟨e1, e2⟩ => ?_⟩
    subst e1
    refine ⟨Same.refl _, ?_⟩
    have := Option.some.inj ((e2 vs h).symm.trans hv)
    rw [this]
    exact rv, fun i hi => ⟨vs, h, by rw [Paired.len r]; exact hi⟩⟩
theorem itt_at {as : List Addr} {K : PySem.W.Frag} {l : Addr} {vs : List V} {xs : List α} {A : Ty α} {H : Hp} (h : SqT K H l vs) (r : Paired (A.rel (bsA F as H)) vs xs) : ItAt F as (Itt K l) A xs H :=
  ⟨fun i x e => by
    obtain ⟨v, hv, rv⟩ := Paired.at r e
    refine ⟨⟨vs, v, h, hv⟩, fun u H' ⟨e1, e2⟩ => ?_⟩
    subst e1
    refine ⟨Same.refl _, ?_⟩
    have := Option.some.inj ((e2 vs h).symm.trans hv)
    rw [this]
    exact rv, fun i hi => ⟨vs, h, by rw [Paired.len r]; exact hi⟩⟩
theorem itr_at {as : List Addr} {lo hi : Int} {H : Hp} : ItAt F as (Itr lo (hi - lo).toNat) tI (rangeI lo hi) H := by
  have hl : (rangeI lo hi).length = (hi - lo).toNat := by unfold rangeI; rw [List.length_map, List.length_range]
  refine ⟨fun i x e => ?_, fun i h => by rw [hl] at h; exact h⟩
  have h1 := (List.getElem?_eq_some_iff.mp e).1
  rw [hl] at h1
  have e2 : (rangeI lo hi)[i]? = some (lo + (i : Int)) := range_getI h1
  rw [e] at e2
  have e3 := Option.some.inj e2
  refine ⟨h1, fun v H' ⟨a, b⟩ => ?_⟩
  subst a
  exact ⟨Same.refl _, by rw [e3]; exact b⟩
def wipeS (s : List Slot) : List Nat → List Slot
  | [] => s
  | v :: vs => (wipeS s vs).set v .any
abbrev wipeG (g : Gm) (vs : List Nat) : Gm := ⟨wipeS g.s vs, g.c⟩
theorem par_wipe {H : Hp} {σ : L2.St} {s : List Slot} (h : Par H σ s) : ∀ vs, Par H (wipe σ vs) (wipeS s vs)
  | [] => h
  | v :: vs => Par.set (t := .any) trivial v (par_wipe h vs)
theorem Gm.Ok.wipe {σ : L2.St} {H : Hp} (k : g.Ok F σ H) (vs : List Nat) : (wipeG g vs).Ok F (wipe σ vs) H := ⟨k.same, par_wipe k.slots vs, k.nd, k.cells⟩
/-- what a comprehension walks -/
def RI (F : Fr) (g : Gm) (A : Ty α) (wl : (List α → Prop) → Prop) (vs : List Nat) : TI := fun σ H R => g.Ok F σ H ∧ ∃ P, wl P ∧ ∀ xs J cs H', P xs → Same H H' → (∀ c ∈ cs, Cell.addr c = none) → (⟨g.s, cs ++ g.c⟩ : Gm).Ok F σ H' →
  (∀ σ H (l : List Cell), (wipeG ⟨g.s, l ++ (cs ++ g.c)⟩ vs).Ok F σ H → ItAt F (⟨g.s, l ++ (cs ++ g.c)⟩ : Gm).ad J A xs H) → R J H'
section
variable {tg iter : Expr} {A : Ty α} {wl : (List α → Prop) → Prop} {vs : List Nat}
theorem mem_mid {c : Cell} {l cs r : List Cell} : c ∈ l ++ ((c :: cs) ++ r) := List.mem_append_right _ (List.mem_append_left _ List.mem_cons_self)
theorem ji_L (hl : JE X F g iter (rO (tK A)) wl) : PI X tg iter (RI F g A wl vs) :=
  piW (pi_list hl) fun σ H R ⟨k, P, w, q⟩ => ⟨k, P, w, fun xs v H1 p s r => by
    obtain ⟨l, us, ev, h1, _⟩ := id r
    refine ⟨l, ev, ⟨us, .inl (.inl ((k.step s).le _ _ h1))⟩, q xs _ [.fix (tK A) v xs] H1 p s (fun c hc => by cases List.mem_singleton.mp hc; rfl) ((k.step s).fixed r) fun σ' H' l' o => ?_⟩
    obtain ⟨l2, ws, e2, h2, r2⟩ := (show (tK A).rel _ v xs from o.cells (.fix (tK A) v xs) mem_mid)
    rw [ev] at e2
    have e3 : l = l2 := V.ref.inj e2
    subst e3
    exact itl_at (.inl (.inl (o.le _ _ h2))) r2⟩
theorem ji_C {i j : Nat} {l : Addr} {xs : List α} {x : Str} {px : Pos} (hs : g.s[i]? = some (.at l)) (hc : g.c[j]? = some (.lst l A xs)) (hN : X.N[i]? = some x := by rfl) (hv : Vis X.env.scope x := by first | exact Or.inl rfl | exact Or.inr (Or.inl rfl) | exact Or.inr (Or.inr rfl)) (hd : (x == ("__debug__" : Str)) = false := by decide) (hcd : (x == ("__classdict__" : Str)) = false := by decide) :
    PI X tg (.Name x px) (RI F g A (fun k => k xs) vs) :=
  piW (pi_list (pe_var hN hv hd hcd)) fun σ H R ⟨k, P, w, q⟩ => by
    obtain ⟨us, h2, r2⟩ := k.cell hc
    refine ⟨.ref l, k.ref hs, l, rfl, ⟨us, .inl (.inl h2)⟩, q xs _ [] H w (Same.refl H) (fun c hc => by cases hc) k fun σ' H' l' o => ?_⟩
    obtain ⟨_, ws, h3, r3⟩ := o.cells _ (List.mem_append_right _ (List.mem_append_right _ (List.mem_of_getElem? hc)))
    exact itl_at (.inl (.inl h3)) r3
theorem ji_T (hl : JE X F g iter (rO (tT X.K (aV A))) wl) : PI X tg iter (RI F g A wl vs) :=
  piW (pi_tup hl) fun σ H R ⟨k, P, w, q⟩ => ⟨k, P, w, fun xs v H1 p s r => by
    obtain ⟨l, us, ev, hq, hr⟩ := id r
    refine ⟨l, ev, ⟨us, (k.step s).le.sqT' hq⟩, q xs _ [.fix (tT X.K (aV A)) v xs] H1 p s (fun c hc => by cases List.mem_singleton.mp hc; rfl) ((k.step s).fixed r) fun σ' H' l' o => ?_⟩
    obtain ⟨l2, ws, e2, h2, r2⟩ := (show (tT X.K (aV A)).rel _ v xs from o.cells (.fix (tT X.K (aV A)) v xs) mem_mid)
    rw [ev] at e2
    have e3 : l = l2 := V.ref.inj e2
    subst e3
    exact itt_at (o.le.sqT' h2) r2⟩
theorem ji_R {e : Expr} {p pr : Pos} {we : (Int → Prop) → Prop} (hg0 : Gl X "range") (hm : X.mg "range" = none) (he : JE X F g e (rO tI) we) (hst : starEach [e] X.env = (false, eval e X.env) :: starEach [] X.env := by rfl) (hst2 : starEach [e] X.env = [(false, eval e X.env)] := by rfl) :
    PI X tg (.Call (.Name "range" p) [e] [] pr) (RI F g tI (fun k => we fun n => (-(2 ^ 62) ≤ n ∧ n < 2 ^ 62) ∧ k (rangeI 0 n)) vs) :=
  piW (pi_range1 hg0 hm (pa_cons he pa_nil hst) hst2) fun σ H R ⟨k, P, w, q⟩ => ⟨k, _, w, fun n v H1 ⟨⟨w1, w2⟩, w3⟩ s r1 => ⟨n, by rw [(r1 : v = _)], w1, w2, by
    have := q (rangeI 0 n) (Itr 0 (n - 0).toNat) [] H1 w3 s (fun c hc => by cases hc) (k.step s) fun σ' H' l' o => itr_at
    rw [Int.sub_zero] at this
    exact this⟩⟩
theorem ji_R2 {e e2 : Expr} {p pr : Pos} {we we2 : (Int → Prop) → Prop} (hg0 : Gl X "range") (hm : X.mg "range" = none) (he : JE X F g e (rO tI) we) (he2 : JE X F g e2 (rO tI) we2)
    (hs : starEach [e, e2] X.env = [(false, eval e X.env), (false, eval e2 X.env)] := by rfl) (hs2 : starEach [e2] X.env = [(false, eval e2 X.env)] := by rfl) (hst : starEach [e2] X.env = (false, eval e2 X.env) :: starEach [] X.env := by rfl) (hst1 : starEach [e, e2] X.env = (false, eval e X.env) :: starEach [e2] X.env := by rfl) :
    PI X tg (.Call (.Name "range" p) [e, e2] [] pr) (RI F g tI (fun k => we fun n => we2 fun m => (-(2 ^ 62) ≤ n ∧ n < 2 ^ 62 ∧ -(2 ^ 62) ≤ m ∧ m < 2 ^ 62) ∧ k (rangeI n m)) vs) :=
  piW (pi_range2 hg0 hm (pa_cons he (pa_cons he2 pa_nil hst) hst1) hs hs2) fun σ H R ⟨k, P, w, q⟩ => ⟨k, _, w, fun n v H1 w1 s1 r1 => ⟨k.step s1, _, w1, fun m v2 H2 ⟨w2, w3⟩ s2 r2 => ⟨n, m, by rw [(r1 : v = _), (r2 : v2 = _)], w2,
    q (rangeI n m) (Itr n (m - n).toNat) [] H2 w3 (s1.trans s2) (fun c hc => by cases hc) (k.step (s1.trans s2)) fun σ' H' l' o => itr_at⟩⟩⟩
end
def TgW (A : Ty α) (gT : TG) (tr : Gm → α → Gm) (vs : List Nat) : Prop := ∀ (F : Fr) (g : Gm) (σ : L2.St) (H : Hp) (v : V) (a : α) (Q : L2.St → Hp → Prop), g.Ok F (wipe σ vs) H → A.rel (g.bs F H) v a → (∀ σ', (tr g a).Ok F σ' H → wipe σ' vs = wipe σ vs → Q σ' H) → gT v (wipe σ vs) H Q
theorem tgw_name {i : Nat} {A : Ty α} : TgW A (gName i) (fun g a => g.set i (.val A a)) [i] := fun F g σ H v a Q k r q => q _ (k.set ⟨v, rfl, r⟩) (by
  show ((σ.set i none).set i (some v)).set i none = σ.set i none
  rw [List.set_set, List.set_set])
theorem wipe_set {σ : L2.St} : ∀ {vs : List Nat} {i : Nat} {o : Option V}, i ∈ vs → wipe (σ.set i o) vs = wipe σ vs
  | v :: vs, i, o, h => by
    show (wipe (σ.set i o) vs).set v none = (wipe σ vs).set v none
    by_cases e : i ∈ vs
    · rw [wipe_set e]
    · rcases List.mem_cons.mp h with z | z
      · subst z
        have comm : ∀ (ws : List Nat), i ∉ ws → wipe (σ.set i o) ws = (wipe σ ws).set i o := by
          intro ws
          induction ws with
          | nil => intro _; rfl
          | cons w ws ih =>
            intro hw
            show (wipe (σ.set i o) ws).set w none = ((wipe σ ws).set w none).set i o
            rw [ih (fun z => hw (List.mem_cons_of_mem _ z)), List.set_comm _ _ (fun z => hw (by rw [z]; exact List.mem_cons_self))]
        rw [comm vs e, List.set_set]
      · exact absurd z e
theorem wipe_wipe {σ : L2.St} : ∀ (vs ws : List Nat), (∀ v ∈ ws, v ∈ vs) → wipe (wipe σ ws) vs = wipe σ vs
  | vs, [], _ => rfl
  | vs, w :: ws, h => by
    show wipe ((wipe σ ws).set w none) vs = _
    rw [wipe_set (h w List.mem_cons_self), wipe_wipe vs ws fun v hv => h v (List.mem_cons_of_mem _ hv)]
theorem tgw_pair {K : PySem.W.Frag} {i j : Nat} {A : Ty α} {B : Ty β} : TgW (tT K (a2 A B)) (gTup K 2 (gCons (gName i) (gCons (gName j) gNil))) (fun g a => (g.set i (.val A a.1)).set j (.val B a.2)) [i, j] :=
  fun F g σ H v a Q k r q => by
    obtain ⟨l, vs, e, hs, x, y, e2, h1, h2⟩ := r
    subst e2
    have k1 : (g.set i (.val A a.1)).Ok F ((wipe σ [i, j]).set i (some x)) H := k.set (t := .val A a.1) ⟨x, rfl, h1⟩
    refine ⟨l, _, e, k.le.sqT' hs, rfl, x, [y], rfl, y, [], rfl, rfl, q _ (k1.set (t := .val B a.2) ⟨y, rfl, h2⟩) ?_⟩
    rw [wipe_set (by simp), wipe_set (by simp), wipe_wipe _ _ fun v hv => hv]
theorem tgw_tri {K : PySem.W.Frag} {i j m : Nat} {A : Ty α} {B : Ty β} {C : Ty γ} : TgW (tT K (a3 A B C)) (gTup K 3 (gCons (gName i) (gCons (gName j) (gCons (gName m) gNil)))) (fun g a => ((g.set i (.val A a.1)).set j (.val B a.2.1)).set m (.val C a.2.2)) [i, j, m] :=
  fun F g σ H v a Q k r q => by
    obtain ⟨l, vs, e, hs, x, y, z, e2, h1, h2, h3⟩ := r
    subst e2
    have k1 : (g.set i (.val A a.1)).Ok F ((wipe σ [i, j, m]).set i (some x)) H := k.set (t := .val A a.1) ⟨x, rfl, h1⟩
    have k2 := k1.set (t := .val B a.2.1) (v := y) (i := j) ⟨y, rfl, h2⟩
    refine ⟨l, _, e, k.le.sqT' hs, rfl, x, [y, z], rfl, y, [z], rfl, z, [], rfl, rfl, q _ (k2.set (t := .val C a.2.2) ⟨z, rfl, h3⟩) ?_⟩
    rw [wipe_set (by simp), wipe_set (by simp), wipe_set (by simp), wipe_wipe _ _ fun v hv => hv]
theorem ad_mid {D : Addr} {A : Ty α} {xs : List α} {cs r : List Cell} (h : cs.filterMap Cell.addr = []) : (Cell.lst D A xs :: (cs ++ r)).filterMap Cell.addr = D :: r.filterMap Cell.addr := by
  show D :: (cs ++ r).filterMap Cell.addr = _
  rw [List.filterMap_append, h]
  rfl
theorem wipeG_push {g : Gm} {c : Cell} {vs : List Nat} : wipeG (g.push c) vs = (wipeG g vs).push c := rfl
theorem lc_read {J : It} {gT : TG} {tr : Gm → α → Gm} {A : Ty α} {B : Ty β} {vs : List Nat} {wt : α → Prop → Prop → Prop} {we : α → (β → Prop) → Prop} {tt : TT} {te : TE} {xs : List α} {cs : List Cell} {P : List β → Prop} {σ : L2.St} {H1 : Hp} {D : Addr} {Qd : Hp → Prop}
    (hcs : ∀ c ∈ cs, Cell.addr c = none) (hJ : ∀ σ H (l : List Cell), (wipeG ⟨g.s, l ++ (cs ++ g.c)⟩ vs).Ok F σ H → ItAt F (⟨g.s, l ++ (cs ++ g.c)⟩ : Gm).ad J A xs H) (ht : TgW A gT tr vs)
    (htt : ∀ acc a σ H Q, RT F (tr (wipeG (g.push (.lst D B acc)) vs) a) (wt a) σ H Q → tt σ H Q) (hte : ∀ acc a σ H Q, RJ F (tr (wipeG (g.push (.lst D B acc)) vs) a) (rO B) (we a) σ H Q → te σ H Q) (htr : ∀ g a, (tr g a).c = g.c)
    (hl : xs.length < 1000000) (k : (⟨g.s, cs ++ g.c⟩ : Gm).Ok F σ H1) (hD : H1 D = none) (w : wCompF wt we xs [] P)
    (hd : ∀ ys H, P ys → Same H1 H → (⟨g.s, .lst D B ys :: (cs ++ g.c)⟩ : Gm).Ok F σ H → Qd H) :
    ∃ W : Nat → Nat → Hp → Prop, (∃ m, W 0 m (upd H1 D (.lst []))) ∧ ∀ i m H, W i m H →
      (J.stop i H ∧ Qd H) ∨ (J.go i H ∧ ∃ Nx : Hp → Prop, (∀ H', Nx H' → ∃ m', m' < m ∧ W (i + 1) m' H') ∧ ∀ x H', J.yld i H x H' → gT x (wipe σ vs) H' fun σ2 H2 => wipe σ2 vs = wipe σ vs ∧ tt σ2 H2 fun b H3 =>
        if b = true then te σ2 H3 fun y H4 => ∃ acc, H4 D = some (.lst acc) ∧ acc.length < sizeLine ∧ Nx (upd H4 D (.lst (acc ++ [y]))) else Nx H3) := by
  have adcs : cs.filterMap Cell.addr = [] := List.filterMap_eq_nil_iff.mpr hcs
  have k0 : (⟨g.s, .lst D B [] :: (cs ++ g.c)⟩ : Gm).Ok F σ (upd H1 D (.lst [])) := k.new (A := B) (xs := []) (same_upd hD) hD (k.bs_new hD) .nil
  refine ⟨fun i m H => m = xs.length - i ∧ i ≤ xs.length ∧ Same H1 H ∧ ∃ acc, (⟨g.s, .lst D B acc :: (cs ++ g.c)⟩ : Gm).Ok F σ H ∧ acc.length ≤ i ∧ wCompF wt we (xs.drop i) acc P, ⟨xs.length, by simp, Nat.zero_le _, same_upd hD, [], k0, Nat.le_refl _, w⟩, ?_⟩
  rintro i m H ⟨rfl, hi, sm, acc, k1, la, w⟩
  have it := hJ _ _ [.lst D B acc] (k1.wipe vs)
  by_cases hlt : i < xs.length
  · have hx : xs[i]? = some xs[i] := List.getElem?_eq_getElem hlt
    obtain ⟨hgo, hy⟩ := it.1 i _ hx
    rw [List.drop_eq_getElem_cons hlt] at w
    refine .inr ⟨hgo, fun H' => Same H1 H' ∧ ∃ acc, (⟨g.s, .lst D B acc :: (cs ++ g.c)⟩ : Gm).Ok F σ H' ∧ acc.length ≤ i + 1 ∧ wCompF wt we (xs.drop (i + 1)) acc P, fun H' ⟨s, h⟩ => ⟨xs.length - (i + 1), by omega, rfl, hlt, s, h⟩, fun v H' y => ?_⟩
    obtain ⟨sy, rv⟩ := hy v H' y
    have k2 := k1.step sy
    have sb : Sub (wipeG ⟨g.s, .lst D B acc :: (cs ++ g.c)⟩ vs) (wipeG (g.push (.lst D B acc)) vs) := ⟨SubS.refl _, List.Sublist.cons₂ _ (List.sublist_append_right _ _)⟩
    have k3 : (wipeG (g.push (.lst D B acc)) vs).Ok F (wipe σ vs) H' := sb.ok (k2.wipe vs)
    have rv' : A.rel ((wipeG (g.push (.lst D B acc)) vs).bs F H') v xs[i] := A.same (bsA_sub fun a ha => by
      show a ∈ (_ :: (cs ++ g.c)).filterMap Cell.addr
      rw [ad_mid adcs]
      exact ha) rv
    refine ht F _ σ H' v _ _ k3 rv' fun σ' k4 ew => ⟨ew, ?_⟩
    refine htt acc _ σ' H' _ ⟨k4, _, _, w, fun w1 H3 s3 => ?_, fun w2 H3 s3 => ?_⟩
    · show te σ' H3 _
      refine hte acc _ σ' H3 _ ⟨k4.step s3, _, w1, fun b u H4 p s4 r4 => ?_⟩
      have k5 := k2.step (s3.trans s4)
      obtain ⟨us, eD, pr⟩ := k5.cell (j := 0) rfl
      refine ⟨us, eD, ?_, Same.mut (((sm.trans sy).trans s3).trans s4) hD, acc ++ [b], ?_, ?_, p⟩
      · rw [Paired.len pr]
        exact Nat.lt_of_lt_of_le (Nat.lt_of_le_of_lt la (Nat.lt_trans hlt hl)) (by decide)
      · refine k5.mut (j := 0) rfl (Paired.app pr (.cons (B.same (bsA_sub fun a ha => ?_) r4) .nil))
        show a ∈ (tr (wipeG (g.push (.lst D B acc)) vs) xs[i]).c.filterMap Cell.addr
        rw [htr]
        have ha' : a ∈ (.lst D B acc :: (cs ++ g.c)).filterMap Cell.addr := ha
        rw [ad_mid adcs] at ha'
        exact ha'
      · rw [List.length_append, List.length_singleton]
        omega
    · show (Same H1 H3 ∧ _)
      exact ⟨(sm.trans sy).trans s3, acc, k2.step s3, Nat.le_succ_of_le la, w2⟩
  · rw [List.drop_of_length_le (by omega)] at w
    exact .inl ⟨it.2 i (by omega), hd acc H w sm k1⟩
section
variable {elt tg iter : Expr} {scope : Scope} {own : List (Str × Nat)} {pos : Pos} {A : Ty α} {B : Ty β} {gT : TG} {tr : Gm → α → Gm} {wl : (List α → Prop) → Prop} {wt : α → Prop → Prop → Prop} {we : α → (β → Prop) → Prop} {ifs : List Expr} {tt : TT}
theorem lc_all (ht : TgW A gT tr (own.map (·.2))) (htr : ∀ g a, (tr g a).c = g.c) (htt : ∀ D acc a σ H Q, RT F (tr (wipeG (g.push (.lst D B acc)) (own.map (·.2))) a) (wt a) σ H Q → tt σ H Q) : ∀ (σ : L2.St) (H : Hp) (Q : VK), RJ F g (rN B) (fun k => wl fun xs => xs.length < 1000000 ∧ wCompF wt we xs [] k) σ H Q →
    tLc (RI F g A wl (own.map (·.2))) gT tt (tExE fun (q : Addr × List β × α) => RJ F (tr (wipeG (g.push (.lst q.1 B q.2.1)) (own.map (·.2))) q.2.2) (rO B) (we q.2.2)) (own.map (·.2)) σ H Q := fun σ H Q ⟨k, P, w, q⟩ =>
  ⟨k, _, w, fun xs J cs H1 ⟨hl, w1⟩ s1 hcs k1 hJ D hD => lc_read (Qd := fun H' => Q (.ref D) H') hcs hJ ht (htt D) (fun acc a _ _ _ h => ⟨(D, acc, a), h⟩) htr hl k1 hD w1 fun ys H' p s2 k2 => by
    obtain ⟨us, eD, pr⟩ := k2.cell (j := 0) rfl
    have adcs : cs.filterMap Cell.addr = [] := List.filterMap_eq_nil_iff.mpr hcs
    have nD : D ∉ g.ad := fun m => by
      obtain ⟨_, o, e, _⟩ := k1.ad_some (p := D) (by show D ∈ (cs ++ g.c).filterMap Cell.addr; rw [List.filterMap_append, adcs]; exact m)
      rw [hD] at e
      cases e
    refine q ys (.ref D) H' p (s1.trans s2) ⟨D, us, rfl, s1.free hD, bsA_of nD ((k.same.trans s1).free hD) eD, Paired.imp (fun _ _ r => B.same ?_ r) pr⟩
    show Same (bsA F _ H') (rm (bsA F g.ad H') D)
    rw [← bsA_cons]
    exact bsA_sub fun a ha => by
      show a ∈ (_ :: (cs ++ g.c)).filterMap Cell.addr
      rw [ad_mid adcs]
      exact ha⟩
abbrev wYes : Prop → Prop → Prop := fun A _ => A
theorem wYes_eq : ∀ (xs : List α) (acc : List β) (k : List β → Prop), wComp we xs acc k → wCompF (fun _ => wYes) we xs acc k
  | [], _, _, h => h
  | x :: r, acc, k, h => by
    show we x fun y => wCompF (fun _ => wYes) we r (acc ++ [y]) k
    have e : (fun y => wCompF (fun _ => wYes) we r (acc ++ [y]) k) = fun y => wComp we r (acc ++ [y]) k := funext fun y => propext ⟨fun z => wYes_bk r _ k z, fun z => wYes_eq r _ k z⟩
    rw [e]
    exact h
where wYes_bk : ∀ (xs : List α) (acc : List β) (k : List β → Prop), wCompF (fun _ => wYes) we xs acc k → wComp we xs acc k
  | [], _, _, h => h
  | x :: r, acc, k, h => by
    show we x fun y => wComp we r (acc ++ [y]) k
    have e : (fun y => wComp we r (acc ++ [y]) k) = fun y => wCompF (fun _ => wYes) we r (acc ++ [y]) k := funext fun y => propext ⟨fun z => wYes_eq r _ k z, fun z => wYes_bk r _ k z⟩
    rw [e]
    exact h
theorem wYes_iff {xs : List α} {acc : List β} {k : List β → Prop} : wCompF (fun _ => wYes) we xs acc k = wComp we xs acc k := propext ⟨wYes_eq.wYes_bk xs acc k, wYes_eq xs acc k⟩
theorem tYes_of {t : Gm} {a : α} : ∀ (σ : L2.St) (H : Hp) (Q : Bool → Hp → Prop), RT F t wYes σ H Q → tYes σ H Q := fun σ H Q ⟨k, A, B, w, qa, _⟩ => qa w H (Same.refl H)
theorem je_comp (hi : PI X tg iter (RI F g A wl (own.map (·.2)))) (hN : X.N.Nodup) (ok : BlkOk X.N X.env.scope scope own) (ht : TgW A gT tr (own.map (·.2)))
    (hg : ∀ (s : Shared) (H : Hp) (C : Addr) (cl : List (Str × Addr)) (fp : List Addr), PG (X.blk s H scope (compEnvC scope cl C X.env) fp) tg gT)
    (he : ∀ (D : Addr) (acc : List β) (a : α) (s : Shared) (H : Hp) (C : Addr) (cl : List (Str × Addr)) (fp : List Addr), JE (X.blk s H scope (compEnvC scope cl C X.env) fp) F (tr (wipeG (g.push (.lst D B acc)) (own.map (·.2))) a) elt (rO B) (we a))
    (htr : ∀ g a, (tr g a).c = g.c := by intro _ _; rfl) (hc : X.calm = true := by rfl) (hs : ∀ x, foldedSetIterable iter X.env x = pure x := by intro _; rfl) : JE X F g (.ListComp elt [⟨tg, iter, [], 0⟩] scope pos) (rN B) (fun k => wl fun xs => xs.length < 1000000 ∧ wComp we xs [] k) :=
  peW (pe_lc hc hN hi ok hg (fun _ _ _ _ _ => pts_nil) (fun s H C cl fp => peE fun (q : Addr × List β × α) => he q.1 q.2.1 q.2.2 s H C cl fp) hs) fun σ H Q h => lc_all (wt := fun _ => wYes) ht htr (fun _ _ _ σ H Q h => tYes_of (a := ()) σ H Q h) σ H Q (by
    simp only [wYes_iff]
    exact h)
/-- with a test -/
theorem je_compF {c : Expr} (hi : PI X tg iter (RI F g A wl (own.map (·.2)))) (hN : X.N.Nodup) (ok : BlkOk X.N X.env.scope scope own) (ht : TgW A gT tr (own.map (·.2)))
    (hg : ∀ (s : Shared) (H : Hp) (C : Addr) (cl : List (Str × Addr)) (fp : List Addr), PG (X.blk s H scope (compEnvC scope cl C X.env) fp) tg gT)
    (htt : ∀ (D : Addr) (acc : List β) (a : α) (s : Shared) (H : Hp) (C : Addr) (cl : List (Str × Addr)) (fp : List Addr), JT (X.blk s H scope (compEnvC scope cl C X.env) fp) F (tr (wipeG (g.push (.lst D B acc)) (own.map (·.2))) a) c (wt a))
    (he : ∀ (D : Addr) (acc : List β) (a : α) (s : Shared) (H : Hp) (C : Addr) (cl : List (Str × Addr)) (fp : List Addr), JE (X.blk s H scope (compEnvC scope cl C X.env) fp) F (tr (wipeG (g.push (.lst D B acc)) (own.map (·.2))) a) elt (rO B) (we a))
    (htr : ∀ g a, (tr g a).c = g.c := by intro _ _; rfl) (hc : X.calm = true := by rfl) (hs : ∀ x, foldedSetIterable iter X.env x = pure x := by intro _; rfl) : JE X F g (.ListComp elt [⟨tg, iter, [c], 0⟩] scope pos) (rN B) (fun k => wl fun xs => xs.length < 1000000 ∧ wCompF wt we xs [] k) := by
  refine peW (pe_lc hc hN hi ok hg (fun s H C cl fp => pts_one (ptE (t := fun (q : Addr × List β × α) => RT F (tr (wipeG (g.push (.lst q.1 B q.2.1)) (own.map (·.2))) q.2.2) (wt q.2.2)) fun q => htt q.1 q.2.1 q.2.2 s H C cl fp)) (fun s H C cl fp => peE fun (q : Addr × List β × α) => he q.1 q.2.1 q.2.2 s H C cl fp) hs) fun σ H Q h => ?_
  exact lc_all ht htr (fun D acc a σ H Q h => ⟨(D, acc, a), h⟩) σ H Q h
/-- name = [..] -/
theorem ps_lc {i : Nat} {y : Str} {py spos : Pos} (hi : PI X tg iter (RI F g A wl (own.map (·.2)))) (hN : X.N.Nodup) (ok : BlkOk X.N X.env.scope scope own) (ht : TgW A gT tr (own.map (·.2)))
    (hg : ∀ (s : Shared) (H : Hp) (C : Addr) (cl : List (Str × Addr)) (fp : List Addr), PG (X.blk s H scope (compEnvC scope cl C X.env) fp) tg gT)
    (he : ∀ (D : Addr) (acc : List β) (a : α) (s : Shared) (H : Hp) (C : Addr) (cl : List (Str × Addr)) (fp : List Addr), JE (X.blk s H scope (compEnvC scope cl C X.env) fp) F (tr (wipeG (g.push (.lst D B acc)) (own.map (·.2))) a) elt (rO B) (we a))
    (hsw : swapsWith (.ListComp elt [⟨tg, iter, [], 0⟩] scope pos) (some (.Name y py)) spos.line X.env = pure true)
    (htr : ∀ g a, (tr g a).c = g.c := by intro _ _; rfl) (hy : X.N[i]? = some y := by rfl) (hyl : X.env.scope.names.lookup y = some .local := by rfl) (hc : X.calm = true := by rfl) (hs : ∀ x, foldedSetIterable iter X.env x = pure x := by intro _; rfl) :
    PS X (.Assign [.Name y py] (.ListComp elt [⟨tg, iter, [], 0⟩] scope pos) spos) (tAsg (RJ F g (rN B) (fun k => wl fun xs => xs.length < 1000000 ∧ wComp we xs [] k)) (gName i)) :=
  psW (ps_setLc (i := i) hc hN hy hyl hsw hi ok hg (fun _ _ _ _ _ => pts_nil) (fun s H C cl fp => peE fun (q : Addr × List β × α) => he q.1 q.2.1 q.2.2 s H C cl fp) hs) fun D σ H h => lc_all (wt := fun _ => wYes) ht htr (fun _ _ _ σ H Q h => tYes_of (a := ()) σ H Q h) σ H (fun x H1 => gName i x σ H1 D.nx) (by
    simp only [wYes_iff]
    exact h)
theorem ps_lcF {c : Expr} {i : Nat} {y : Str} {py spos : Pos} (hi : PI X tg iter (RI F g A wl (own.map (·.2)))) (hN : X.N.Nodup) (ok : BlkOk X.N X.env.scope scope own) (ht : TgW A gT tr (own.map (·.2)))
    (hg : ∀ (s : Shared) (H : Hp) (C : Addr) (cl : List (Str × Addr)) (fp : List Addr), PG (X.blk s H scope (compEnvC scope cl C X.env) fp) tg gT)
    (htt : ∀ (D : Addr) (acc : List β) (a : α) (s : Shared) (H : Hp) (C : Addr) (cl : List (Str × Addr)) (fp : List Addr), JT (X.blk s H scope (compEnvC scope cl C X.env) fp) F (tr (wipeG (g.push (.lst D B acc)) (own.map (·.2))) a) c (wt a))
    (he : ∀ (D : Addr) (acc : List β) (a : α) (s : Shared) (H : Hp) (C : Addr) (cl : List (Str × Addr)) (fp : List Addr), JE (X.blk s H scope (compEnvC scope cl C X.env) fp) F (tr (wipeG (g.push (.lst D B acc)) (own.map (·.2))) a) elt (rO B) (we a))
    (hsw : swapsWith (.ListComp elt [⟨tg, iter, [c], 0⟩] scope pos) (some (.Name y py)) spos.line X.env = pure true)
    (htr : ∀ g a, (tr g a).c = g.c := by intro _ _; rfl) (hy : X.N[i]? = some y := by rfl) (hyl : X.env.scope.names.lookup y = some .local := by rfl) (hc : X.calm = true := by rfl) (hs : ∀ x, foldedSetIterable iter X.env x = pure x := by intro _; rfl) :
    PS X (.Assign [.Name y py] (.ListComp elt [⟨tg, iter, [c], 0⟩] scope pos) spos) (tAsg (RJ F g (rN B) (fun k => wl fun xs => xs.length < 1000000 ∧ wCompF wt we xs [] k)) (gName i)) :=
  psW (ps_setLc (i := i) hc hN hy hyl hsw hi ok hg (fun s H C cl fp => pts_one (ptE (t := fun (q : Addr × List β × α) => RT F (tr (wipeG (g.push (.lst q.1 B q.2.1)) (own.map (·.2))) q.2.2) (wt q.2.2)) fun q => htt q.1 q.2.1 q.2.2 s H C cl fp)) (fun s H C cl fp => peE fun (q : Addr × List β × α) => he q.1 q.2.1 q.2.2 s H C cl fp) hs) fun D σ H h => lc_all ht htr (fun D acc a σ H Q h => ⟨(D, acc, a), h⟩) σ H (fun x H1 => gName i x σ H1 D.nx) h
end
section
variable {rest : List Stmt} {st : Stmt} {i : Nat} {A : Ty α}
/-- a new list at a name: one that will be changed, one that will not -/
theorem js_stN {we : (List α → Prop) → Prop} {wr : List α → Prop} {D : Ends} (p : PS X st (tAsg (RJ F g (rN A) we) (gName i))) (hr : ∀ p xs, JSs X F ((g.push (.lst p A xs)).set i (.at p)) rest D (wr xs)) : JSs X F g (st :: rest) D (we fun xs => wLet xs wr) :=
  pssW (pss_cons p (pssE (t := fun (pr : Addr × List α) => RS F ((g.push (.lst pr.1 A pr.2)).set i (.at pr.1)) D (wr pr.2)) fun pr => hr pr.1 pr.2)) fun D' σ H ⟨e, o, q⟩ =>
    ⟨o, wr, q, fun xs v H1 p s ⟨l, vs, ev, h0, h1, r⟩ => ⟨(l, xs), e, (o.new s h0 h1 r).set (t := .at l) (v := v) (by rw [ev]; rfl), p⟩⟩
theorem js_stF {we : (List α → Prop) → Prop} {wr : List α → Prop} {D : Ends} (p : PS X st (tAsg (RJ F g (rN A) we) (gName i))) (hr : ∀ xs, JSs X F (g.set i (.val (tK A) xs)) rest D (wr xs)) : JSs X F g (st :: rest) D (we fun xs => wLet xs wr) :=
  pssW (pss_cons p (pssE hr)) fun D' σ H ⟨e, o, q⟩ => ⟨o, wr, q, fun xs v H1 p s ⟨l, vs, ev, h0, h1, r⟩ => ⟨xs, e, (o.step s).set ⟨v, rfl, l, vs, ev, h1, Paired.imp (fun _ _ r => A.same rm_le r) r⟩, p⟩⟩
/-- from here on the list of cell j is not changed any more -/
theorem js_frz {j : Nat} {p : Addr} {sts : List Stmt} {xs : List α} {w : Prop} {D : Ends} (hs : g.s[i]? = some (.at p)) (hj : g.c[j]? = some (.lst p A xs)) (h : JSs X F ⟨g.s.set i (.val (tK A) xs), g.c.eraseIdx j⟩ sts D w) : JSs X F g sts D w :=
  pssW h fun D' σ H ⟨e, o, q⟩ => ⟨e, o.freeze hs hj, q⟩
end
end
end J
/-! A6: data compared, lists joined, cut, copied -/
namespace J
open PySem PySem.Spec L2
section
variable {X : Cx} {F : Fr} {g : Gm} {α β γ δ ρ τ : Type} {K : PySem.W.Frag}

/-! ### == of data -/
class Dat (K : PySem.W.Frag) (A : Ty α) [POk α] [DecidableEq α] where
  enc : α → PyData
  dp : ∀ {H : Hp} {v : V} {a : α}, A.rel H v a → Dp K H v (enc a)
  lay : ∀ a, POk.pok a → (enc a).canLay0 = true
  n : Nat
  dep : ∀ a, (enc a).depth ≤ n
  eqv : ∀ a b, PyData.eqv (enc a) (enc b) = decide (a = b)
instance : Dat K tI where
  enc := .int
  dp := fun h => by
    cases h
    exact .int _
  lay := fun _ _ => by simp [PyData.canLay0]
  n := 0
  dep := fun _ => by simp [PyData.depth]
  eqv := fun a b => by simp [PyData.eqv, Bool.beq_eq_decide_eq]
instance : Dat K tB where
  enc := .bool
  dp := fun h => by
    cases h
    exact .bl _
  lay := fun _ _ => by simp [PyData.canLay0]
  n := 0
  dep := fun _ => by simp [PyData.depth]
  eqv := fun a b => by simp [PyData.eqv, Bool.beq_eq_decide_eq]
instance : Dat K tS where
  enc := .str
  dp := fun h => by
    cases h
    exact .str _
  lay := fun a h => by
    have h' : PyData.strOk a = true := h
    simp [PyData.canLay0, h']
  n := 0
  dep := fun _ => by simp [PyData.depth]
  eqv := fun a b => by
    unfold PyData.eqv
    by_cases h : a = b
    · subst h
      simp
    · rw [decide_eq_false h]
      exact beq_false_of_ne h
instance {A : Ty α} {B : Ty β} [POk α] [DecidableEq α] [POk β] [DecidableEq β] [dA : Dat K A] [dB : Dat K B] : Dat K (tT K (a2 A B)) where
  enc := fun t => .tuple [dA.enc t.1, dB.enc t.2]
  dp := fun ⟨a, vs, e, hs, x, y, e2, h1, h2⟩ => by
    subst e e2
    exact .tup hs (.cons (dA.dp h1) (.cons (dB.dp h2) .nil))
  lay := fun t h => by
    simp [PyData.canLay0, PyData.canLayAll0, dA.lay _ h.1, dB.lay _ h.2]
  n := max dA.n dB.n + 1
  dep := fun t => by
    have h1 := dA.dep t.1
    have h2 := dB.dep t.2
    simp only [PyData.depth, PyData.depthAll]
    omega
  eqv := fun s t => by
    have h1 := dA.eqv s.1 t.1
    have h2 := dB.eqv s.2 t.2
    obtain ⟨a, b⟩ := s
    obtain ⟨c, d⟩ := t
    simp only [PyData.eqv, PyData.eqvAll, h1, h2]
    by_cases e1 : a = c <;> by_cases e2 : b = d <;> simp [e1, e2]
instance {A : Ty α} {B : Ty β} {C : Ty γ} [POk α] [DecidableEq α] [POk β] [DecidableEq β] [POk γ] [DecidableEq γ] [dA : Dat K A] [dB : Dat K B] [dC : Dat K C] : Dat K (tT K (a3 A B C)) where
  enc := fun t => .tuple [dA.enc t.1, dB.enc t.2.1, dC.enc t.2.2]
  dp := fun ⟨a, vs, e, hs, x, y, z, e2, h1, h2, h3⟩ => by
    subst e e2
    exact .tup hs (.cons (dA.dp h1) (.cons (dB.dp h2) (.cons (dC.dp h3) .nil)))
  lay := fun t h => by
    simp [PyData.canLay0, PyData.canLayAll0, dA.lay _ h.1, dB.lay _ h.2.1, dC.lay _ h.2.2]
  n := max dA.n (max dB.n dC.n) + 1
  dep := fun t => by
    have h1 := dA.dep t.1
    have h2 := dB.dep t.2.1
    have h3 := dC.dep t.2.2
    simp only [PyData.depth, PyData.depthAll]
    omega
  eqv := fun s t => by
    have h1 := dA.eqv s.1 t.1
    have h2 := dB.eqv s.2.1 t.2.1
    have h3 := dC.eqv s.2.2 t.2.2
    obtain ⟨a, b, c⟩ := s
    obtain ⟨d, e, f⟩ := t
    simp only [PyData.eqv, PyData.eqvAll, h1, h2, h3]
    by_cases e1 : a = d <;> by_cases e2 : b = e <;> by_cases e3 : c = f <;> simp [e1, e2, e3]
theorem all_dp {A : Ty α} [POk α] [DecidableEq α] [dA : Dat K A] {H : Hp} : ∀ {vs : List V} {xs : List α}, Paired (A.rel H) vs xs → DpAll K H vs (xs.map dA.enc)
  | _, _, .nil => .nil
  | _, _, .cons h r => .cons (dA.dp h) (all_dp r)
theorem all_lay {A : Ty α} [POk α] [DecidableEq α] [dA : Dat K A] : ∀ {xs : List α}, (∀ x ∈ xs, POk.pok x) → PyData.canLayAll0 (xs.map dA.enc) = true
  | [], _ => by simp [PyData.canLayAll0]
  | x :: r, h => by
    have h1 := dA.lay x (h x List.mem_cons_self)
    have h2 := all_lay (dA := dA) (xs := r) fun y hy => h y (List.mem_cons_of_mem _ hy)
    simp [PyData.canLayAll0, h1, h2]
theorem all_dep {A : Ty α} [POk α] [DecidableEq α] [dA : Dat K A] : ∀ (xs : List α), PyData.depthAll (xs.map dA.enc) ≤ dA.n
  | [] => by simp [PyData.depthAll]
  | x :: r => by
    have h1 := dA.dep x
    have h2 := all_dep (dA := dA) r
    simp only [List.map_cons, PyData.depthAll]
    omega
theorem all_eqv {A : Ty α} [POk α] [DecidableEq α] [dA : Dat K A] : ∀ (xs ys : List α), PyData.eqvAll (xs.map dA.enc) (ys.map dA.enc) = decide (xs = ys)
  | [], [] => by simp [PyData.eqvAll]
  | [], _ :: _ => by simp [PyData.eqvAll]
  | _ :: _, [] => by simp [PyData.eqvAll]
  | x :: r, y :: t => by
    have h1 := dA.eqv x y
    have h2 := all_eqv (dA := dA) r t
    simp only [List.map_cons, PyData.eqvAll, h1, h2]
    by_cases e1 : x = y <;> by_cases e2 : r = t <;> simp [e1, e2]
instance {A : Ty α} [POk α] [DecidableEq α] [dA : Dat K A] : Dat K (tL K A) where
  enc := fun xs => .list (xs.map dA.enc)
  dp := fun ⟨a, vs, e, hs, r⟩ => by
    subst e
    exact .lst hs (all_dp r)
  lay := fun xs h => by
    simp only [PyData.canLay0]
    exact all_lay h
  n := dA.n + 1
  dep := fun xs => by
    have := all_dep (dA := dA) xs
    simp only [PyData.depth]
    omega
  eqv := fun xs ys => by
    simp only [PyData.eqv]
    exact all_eqv xs ys
instance {A : Ty α} [POk α] [DecidableEq α] [dA : Dat K A] : Dat K (tK A) where
  enc := fun xs => .list (xs.map dA.enc)
  dp := fun ⟨a, vs, e, hs, r⟩ => by
    subst e
    exact .lst (.inl (.inl hs)) (all_dp r)
  lay := fun xs h => by
    simp only [PyData.canLay0]
    exact all_lay h
  n := dA.n + 1
  dep := fun xs => by
    have := all_dep (dA := dA) xs
    simp only [PyData.depth]
    omega
  eqv := fun xs ys => by
    simp only [PyData.eqv]
    exact all_eqv xs ys
instance {A : Ty α} [POk α] [DecidableEq α] [dA : Dat K A] : Dat K (tT K (aV A)) where
  enc := fun xs => .tuple (xs.map dA.enc)
  dp := fun ⟨a, vs, e, hs, r⟩ => by
    subst e
    exact .tup hs (all_dp r)
  lay := fun xs h => by
    simp only [PyData.canLay0]
    exact all_lay h
  n := dA.n + 1
  dep := fun xs => by
    have := all_dep (dA := dA) xs
    simp only [PyData.depth]
    omega
  eqv := fun xs ys => by
    simp only [PyData.eqv]
    exact all_eqv xs ys
theorem shaped_of {A : Ty α} [POk α] [DecidableEq α] [dA : Dat K A] (hn : dA.n ≤ 64) {a : α} (h : POk.pok a) : SeqAt.shaped (dA.enc a) = true := by
  have h1 := dA.lay a h
  have h2 := dA.dep a
  have h3 : decide ((dA.enc a).depth ≤ 64) = true := decide_eq_true (by omega)
  unfold SeqAt.shaped
  rw [h1, h3]
  rfl
section
variable {a b : Expr} {pos : Pos} {A : Ty α} {wa wb : (α → Prop) → Prop}
theorem eqD_r {A : Ty α} [POk α] [DecidableEq α] [dA : Dat K A] (hn : dA.n ≤ 64) : CmpOk F g (rB A) (rB A) (rEqD K) (fun x y k => POk.pok x ∧ POk.pok y ∧ k (decide (x = y))) :=
  fun _ x y _ _ H v u P Q _ h1 h2 ⟨p1, p2, p⟩ q => ⟨_, _, dA.dp h1, dA.dp h2, shaped_of hn p1, shaped_of hn p2, by rw [dA.eqv]; exact q _ H p (Same.refl H)⟩
theorem neD_r {A : Ty α} [POk α] [DecidableEq α] [dA : Dat K A] (hn : dA.n ≤ 64) : CmpOk F g (rB A) (rB A) (rNeD K) (fun x y k => POk.pok x ∧ POk.pok y ∧ k (!decide (x = y))) :=
  fun _ x y _ _ H v u P Q _ h1 h2 ⟨p1, p2, p⟩ q => ⟨_, _, dA.dp h1, dA.dp h2, shaped_of hn p1, shaped_of hn p2, by rw [dA.eqv]; exact q _ H p (Same.refl H)⟩
variable [POk α] [DecidableEq α] [dA : Dat K A]
theorem je_eqD (hu : X.A.units + 64 < cLine) (ha : JE X F g a (rB A) wa) (hb : JE X F g b (rB A) wb) (hK : X.K = K := by rfl) (hn : Nat.ble dA.n 64 = true := by rfl) : JE X F g (.Compare a [.Eq] [b] pos) (rO tB) (fun k => wa fun x => wb fun y => (POk.pok x ∧ POk.pok y ∧ k (decide (x = y)))) := by
  subst hK
  exact je_cmpR (C := fun x y k => POk.pok x ∧ POk.pok y ∧ k (decide (x = y))) (op_eqD hu) (eqD_r (Nat.le_of_ble_eq_true hn)) ha hb (nomark _)
theorem je_neD (hu : X.A.units + 64 < cLine) (ha : JE X F g a (rB A) wa) (hb : JE X F g b (rB A) wb) (hK : X.K = K := by rfl) (hn : Nat.ble dA.n 64 = true := by rfl) : JE X F g (.Compare a [.NotEq] [b] pos) (rO tB) (fun k => wa fun x => wb fun y => (POk.pok x ∧ POk.pok y ∧ k (!decide (x = y)))) := by
  subst hK
  exact je_cmpR (C := fun x y k => POk.pok x ∧ POk.pok y ∧ k (!decide (x = y))) (op_neD hu) (neD_r (Nat.le_of_ble_eq_true hn)) ha hb (nomark _)
theorem jt_eqD (hu : X.A.units + 64 < cLine) (ha : JE X F g a (rB A) wa) (hb : JE X F g b (rB A) wb) (hK : X.K = K := by rfl) (hn : Nat.ble dA.n 64 = true := by rfl) : JT X F g (.Compare a [.Eq] [b] pos) (fun Ya No => wa fun x => wb fun y => (POk.pok x ∧ POk.pok y ∧ (((decide (x = y)) = true → Ya) ∧ ((decide (x = y)) = false → No)))) := by
  subst hK
  exact jt_cmpR (C := fun x y k => POk.pok x ∧ POk.pok y ∧ k (decide (x = y))) (op_eqD hu) (eqD_r (Nat.le_of_ble_eq_true hn)) ha hb (nomark _)
theorem jt_neD (hu : X.A.units + 64 < cLine) (ha : JE X F g a (rB A) wa) (hb : JE X F g b (rB A) wb) (hK : X.K = K := by rfl) (hn : Nat.ble dA.n 64 = true := by rfl) : JT X F g (.Compare a [.NotEq] [b] pos) (fun Ya No => wa fun x => wb fun y => (POk.pok x ∧ POk.pok y ∧ (((!decide (x = y)) = true → Ya) ∧ ((!decide (x = y)) = false → No)))) := by
  subst hK
  exact jt_cmpR (C := fun x y k => POk.pok x ∧ POk.pok y ∧ k (!decide (x = y))) (op_neD hu) (neD_r (Nat.le_of_ble_eq_true hn)) ha hb (nomark _)
end
/-! ### lists made of lists -/
section
variable {a b e : Expr} {pos p : Pos} {A : Ty α} {wa wb : (List α → Prop) → Prop}
theorem je_cat (ha : JE X F g a (rEK A) wa) (hb : JE X F g b (rEK A) wb) : JE X F g (.BinOp a .Add b pos) (rN A) (fun k => wa fun x => wb fun y => (x.length + y.length ≤ 1000000 ∧ k (x ++ y))) :=
  je_opR (S := rEK A) (T := rEK A) (R := rN A) (C := fun x y k => x.length + y.length ≤ 1000000 ∧ k (x ++ y)) op_cat (fun _ x y _ _ H v u P Q k ⟨l, vs, e1, h1, r1⟩ ⟨m, us, e2, h2, r2⟩ ⟨w1, w2⟩ q =>
    ⟨l, m, vs, us, e1, e2, h1, h2, Nat.le_trans (by rw [Paired.len r1, Paired.len r2]; exact w1) (by decide : 1000000 ≤ sizeLine), fun z hz => q (x ++ y) _ _ w2 (same_upd hz) ⟨z, _, rfl, hz, k.bs_new hz, Paired.app (Paired.imp (fun _ _ r => A.same (k.rm_new hz) r) r1) (Paired.imp (fun _ _ r => A.same (k.rm_new hz) r) r2)⟩⟩) ha hb
/-- arguments of any reading -/
def RA1 {ρ : Type} (F : Fr) (g : Gm) (S : Res ρ) (w : (ρ → Prop) → Prop) : TA := fun σ H Q => g.Ok F σ H ∧ ∃ P, w P ∧ ∀ t v H', P t → Same H H' → S.rel H (g.bs F H') H' v t → Q [v] H'
theorem ja_1 {S : Res ρ} {w : (ρ → Prop) → Prop} (ha : JE X F g e S w) (hs : starEach [e] X.env = (false, eval e X.env) :: starEach [] X.env) : PA X [e] (RA1 F g S w) :=
  paW (pa_cons ha pa_nil hs) fun σ H Q ⟨k, P, w, q⟩ => ⟨k, _, w, fun x v H1 w1 s1 r1 => q x v H1 w1 s1 r1⟩
theorem je_listL (hg : Gl X "list") (hm : X.mg "list" = none) (ha : JE X F g e (rE X.K A) wa) (he : starEach [e] X.env = (false, eval e X.env) :: starEach [] X.env := by rfl) (hpl : (backTo pos (starEach [] X.env)).any (·.1) = false := by rfl) :
    JE X F g (.Call (.Name "list" p) [e] [] pos) (rN A) wa :=
  peW (pe_callTy call_list_of hg hm (by decide +kernel) (ja_1 ha he) (by decide) (by decide) he hpl) fun σ H Q ⟨k, P, w, q⟩ => ⟨k, P, w, fun xs v H1 w1 s1 ⟨a, us, ev, hs, hp⟩ => ⟨a, us, by rw [ev], .inl hs, fun l hl => q xs _ _ w1 (s1.trans (same_upd hl)) ⟨l, us, rfl, s1.free hl, (k.step s1).bs_new hl, Paired.imp (fun _ _ r => A.same ((k.step s1).rm_new hl) r) hp⟩⟩⟩
theorem je_listT (hg : Gl X "list") (hm : X.mg "list" = none) (ha : JE X F g e (rO (tT X.K (aV A))) wa) (he : starEach [e] X.env = (false, eval e X.env) :: starEach [] X.env := by rfl) (hpl : (backTo pos (starEach [] X.env)).any (·.1) = false := by rfl) :
    JE X F g (.Call (.Name "list" p) [e] [] pos) (rN A) wa :=
  peW (pe_callTy call_list_of hg hm (by decide +kernel) (ja_1 ha he) (by decide) (by decide) he hpl) fun σ H Q ⟨k, P, w, q⟩ => ⟨k, P, w, fun xs v H1 w1 s1 ⟨a, us, ev, hs, hp⟩ => ⟨a, us, by rw [ev], .inr ((k.step s1).le.sqT' hs), fun l hl => q xs _ _ w1 (s1.trans (same_upd hl)) ⟨l, us, rfl, s1.free hl, (k.step s1).bs_new hl, Paired.imp (fun _ _ r => A.same ((k.step s1).rm_new hl) r) hp⟩⟩⟩
theorem je_tupleL (hg : Gl X "tuple") (hm : X.mg "tuple" = none) (ha : JE X F g e (rE X.K A) wa) (he : starEach [e] X.env = (false, eval e X.env) :: starEach [] X.env := by rfl) (hpl : (backTo pos (starEach [] X.env)).any (·.1) = false := by rfl) :
    JE X F g (.Call (.Name "tuple" p) [e] [] pos) (rO (tT X.K (aV A))) wa :=
  peW (pe_callTy call_tuple_of hg hm (by decide +kernel) (ja_1 ha he) (by decide) (by decide) he hpl) fun σ H Q ⟨k, P, w, q⟩ => ⟨k, P, w, fun xs v H1 w1 s1 ⟨a, us, ev, hs, hp⟩ => ⟨a, us, by rw [ev], .inl ⟨hs, fun l hl => q xs _ _ w1 (s1.trans (same_upd hl)) ⟨l, us, rfl, .inl (.inl ((k.step s1).bs_new hl)), Paired.imp (fun _ _ r => A.same (Gm.mono (same_upd hl)) r) hp⟩⟩⟩⟩
theorem je_listR {n : Expr} {w : (Int → Prop) → Prop} {p2 pos2 : Pos} (hg : Gl X "list") (hm : X.mg "list" = none) (hgr : Gl X "range") (hmr : X.mg "range" = none) (hn : JE X F g n (rO tI) w) (na0 : starEach [n] X.env = (false, eval n X.env) :: starEach [] X.env := by rfl) (hc : X.calm = true := by rfl)
    (na : starEach [.Call (.Name "range" p2) [n] [] pos2] X.env = (false, eval (.Call (.Name "range" p2) [n] [] pos2) X.env) :: starEach [] X.env := by rfl) : JE X F g (.Call (.Name "list" p) [.Call (.Name "range" p2) [n] [] pos2] [] pos) (rN tI) (fun k => w fun i => (-1000000 ≤ i ∧ i ≤ 1000000) ∧ k (rangeI 0 i)) :=
  peW (pe_listRg hc hg hm (prg_1 hgr hmr hn na0) na) fun σ H Q ⟨k, P, w, q⟩ => ⟨k, _, w, fun i v H1 ⟨w1, w2⟩ s1 r1 => ⟨i, r1, ⟨by omega, by omega, by omega, by omega, by omega⟩, fun l hl => q (rangeI 0 i) _ _ w2 (s1.trans (same_upd hl)) ⟨l, _, rfl, s1.free hl, (k.step s1).bs_new hl, by
    have e : rgV 0 i = (rangeI 0 i).map V.int := by
      unfold rgV rangeI
      rw [List.map_map]
      rfl
    rw [e]
    exact paired_ints _⟩⟩⟩
theorem je_sum {w : (List Int → Prop) → Prop} (hg : Gl X "sum") (hm : X.mg "sum" = none) (ha : JE X F g e (rB (tL X.K tI)) w) (hc : X.calm = true := by rfl) (he : starEach [e] X.env = (false, eval e X.env) :: starEach [] X.env := by rfl) (hpl : (backTo pos (starEach [] X.env)).any (·.1) = false := by rfl) :
    JE X F g (.Call (.Name "sum" p) [e] [] pos) (rO tI) (fun k => w fun xs => k xs.sum) :=
  je_callB (T := aC (tL X.K tI) aN) (C := fun t k => k t.1.sum) (cr_sum hc) (fun _ t H vs P Q _ ⟨v, r, e1, ⟨a, us, ev, hs, hp⟩, e2⟩ c q => ⟨a, t.1, by rw [e1, (e2 : r = []), ev], by rw [← paired_int hp]; exact hs, q _ _ H c (Same.refl H) rfl⟩) hg hm (by decide +kernel) (jb_cons ha jb_nil he) (by decide) (by decide) he hpl
theorem je_sorted {w : (List Int → Prop) → Prop} (hg : Gl X "sorted") (hm : X.mg "sorted" = none) (ha : JE X F g e (rB (tL X.K tI)) w) (he : starEach [e] X.env = (false, eval e X.env) :: starEach [] X.env := by rfl) (hpl : (backTo pos (starEach [] X.env)).any (·.1) = false := by rfl) :
    JE X F g (.Call (.Name "sorted" p) [e] [] pos) (rN tI) (fun k => w fun xs => ∀ ys : List Int, ys.Perm xs → ys.Pairwise (· ≤ ·) → k ys) :=
  je_callB (T := aC (tL X.K tI) aN) (R := rN tI) (C := fun t k => ∀ ys : List Int, ys.Perm t.1 → ys.Pairwise (· ≤ ·) → k ys) cr_sortedI (fun _ t H vs P Q k ⟨v, r, e1, ⟨a, us, ev, hs, hp⟩, e2⟩ c q => ⟨a, t.1, by rw [e1, (e2 : r = []), ev], by rw [← paired_int hp]; exact hs, fun ys l h1 h2 hl => q ys _ _ (c ys h1 h2) (same_upd hl) ⟨l, _, rfl, hl, k.bs_new hl, paired_ints ys⟩⟩) hg hm (by decide +kernel) (jb_cons ha jb_nil he) (by decide) (by decide) he hpl
end
/-! ### slices -/
theorem sIxJ_eq (n d : Nat) (o : Option Int) : HT.sIx n d o = sIxJ n d o := by cases o <;> rfl
theorem cut_pair {F : V → α → Prop} {vs : List V} {xs : List α} (h : Paired F vs xs) (lo hi : Option Int) : Paired F (cutV vs lo hi) (cutI xs lo hi) := by
  unfold cutV cutI
  rw [sIxJ_eq, sIxJ_eq, Paired.len h]
  exact Paired.take _ (Paired.drop _ h)
def RP (F : Fr) (g : Gm) (w : (Option Int → Prop) → Prop) : TO := fun σ H Q => g.Ok F σ H ∧ ∃ P, w P ∧ ∀ o H', P o → Same H H' → Q o H'
theorem poW {o : Option Expr} {t t' : TO} (h : PO X o t) (k : ∀ σ H Q, t' σ H Q → t σ H Q) : PO X o t' := ⟨fun p s σ H Q I q => h.run p s σ H Q I (k _ _ _ q)⟩
theorem jp_none : PO X none (RP F g fun k => k none) := poW po_none fun σ H Q ⟨k, P, w, q⟩ => q none H w (Same.refl H)
theorem jp_some {e : Expr} {w : (Int → Prop) → Prop} (h : JE X F g e (rO tI) w) : PO X (some e) (RP F g fun k => w fun i => k (some i)) :=
  poW (po_some h) fun σ H Q ⟨k, P, w, q⟩ => ⟨k, _, w, fun i v H1 p s r => ⟨i, r, q (some i) H1 p s⟩⟩
theorem je_slL {e : Expr} {lo hi : Option Expr} {p2 pos : Pos} {A : Ty α} {w : (List α → Prop) → Prop} {wl wh : (Option Int → Prop) → Prop} (he : JE X F g e (rE X.K A) w) (hl : PO X lo (RP F g wl)) (hh : PO X hi (RP F g wh)) :
    JE X F g (.Subscript e (.Slice lo hi none p2) pos) (rN A) (fun k => w fun xs => wl fun i => wh fun j => k (cutI xs i j)) :=
  peW (pe_slice sl_list he hl hh) fun σ H Q ⟨k, P, w, q⟩ => ⟨k, _, w, fun xs v H1 w1 s1 r1 => ⟨k.step s1, _, w1, fun i H2 w2 s2 => ⟨k.step (s1.trans s2), _, w2, fun j H3 w3 s3 => by
    obtain ⟨a, us, ev, hs, hp⟩ := (rE X.K A).same (Gm.mono (s2.trans s3)) (s2.trans s3) r1
    have k3 := k.step (s1.trans (s2.trans s3))
    exact ⟨a, us, ev, hs, fun l hl => q _ _ _ w3 ((s1.trans (s2.trans s3)).trans (same_upd hl)) ⟨l, _, rfl, (s1.trans (s2.trans s3)).free hl, k3.bs_new hl, cut_pair (Paired.imp (fun _ _ r => A.same (k3.rm_new hl) r) hp) i j⟩⟩⟩⟩⟩
theorem je_revL {e : Expr} {A : Ty α} {w : (List α → Prop) → Prop} {k : Nat} {p1 p2 p3 pos : Pos} (he : JE X F g e (rE X.K A) w) : JE X F g (.Subscript e (.Slice none none (some (.UnaryOp .USub (.Constant (.int 1) k p1) p2)) p3) pos) (rN A) (fun k => w fun xs => k xs.reverse) :=
  peW (pe_revL he) fun σ H Q ⟨k, P, w, q⟩ => ⟨k, _, w, fun xs v H1 w1 s1 ⟨a, us, ev, hs, hp⟩ => ⟨a, us, ev, hs, fun l hl => q _ _ _ w1 (s1.trans (same_upd hl)) ⟨l, _, rfl, s1.free hl, (k.step s1).bs_new hl, Paired.rev (Paired.imp (fun _ _ r => A.same ((k.step s1).rm_new hl) r) hp)⟩⟩⟩
/-! ### in a list or a tuple of flat things -/
class Flat (A : Ty α) [DecidableEq α] : Prop where
  flat : ∀ {H : Hp} {v : V} {a : α}, A.rel H v a → flatV v = true
  eqv : ∀ {H : Hp} {v u : V} {a b : α}, A.rel H v a → A.rel H u b → eqV v u = decide (a = b)
instance : Flat tI := ⟨fun h => by cases h; rfl, fun {H v u a b} h k => by
  cases h
  cases k
  show (a == b) = decide (a = b)
  exact Bool.beq_eq_decide_eq a b⟩
instance : Flat tS := ⟨fun h => by cases h; rfl, fun {H v u a b} h k => by
  cases h
  cases k
  show (a == b) = decide (a = b)
  by_cases e : a = b
  · subst e
    rw [decide_eq_true rfl]
    exact beq_self_eq_true a
  · rw [decide_eq_false e]
    exact beq_false_of_ne e⟩
theorem all_flat {A : Ty α} [DecidableEq α] [fA : Flat A] {H : Hp} : ∀ {vs : List V} {xs : List α}, Paired (A.rel H) vs xs → vs.all flatV = true
  | _, _, .nil => rfl
  | _, _, .cons h r => by rw [List.all_cons, fA.flat h, all_flat r]; rfl
theorem inV_eq {A : Ty α} [DecidableEq α] [fA : Flat A] {H : Hp} {v : V} {a : α} (h : A.rel H v a) : ∀ {vs : List V} {xs : List α}, Paired (A.rel H) vs xs → inV v vs = decide (a ∈ xs)
  | _, _, .nil => by
    show false = _
    rw [decide_eq_false (by simp)]
  | _, _, .cons (a := u) (b := b) hu r => by
    have ih := inV_eq h r
    unfold inV at ih ⊢
    rw [List.any_cons, ih, fA.eqv hu h]
    by_cases e : b = a
    · subst e
      simp
    · have e' : ¬ a = b := fun z => e z.symm
      simp [e, e']
section
variable {a b : Expr} {pos : Pos} {A : Ty α} [DecidableEq α] [fA : Flat A] {wa : (α → Prop) → Prop} {wb : (List α → Prop) → Prop}
theorem inL_r (neg : Bool) : CmpOk F g (rO A) (rB (tL K A)) (rIn K neg) (fun x y k => k (if neg then !memJ x y else memJ x y)) :=
  fun _ x y _ _ H v u P Q k h1 ⟨l, us, ev, hs, hp⟩ p q => ⟨l, us, ev, .inl hs, fA.flat h1, all_flat hp, by rw [inV_eq (A.same k.le h1) hp]; exact q _ H p (Same.refl H)⟩
theorem inT_r (neg : Bool) : CmpOk F g (rO A) (rB (tT K (aV A))) (rIn K neg) (fun x y k => k (if neg then !memJ x y else memJ x y)) :=
  fun _ x y _ _ H v u P Q k h1 ⟨l, us, ev, hs, hp⟩ p q => ⟨l, us, ev, .inr hs, fA.flat h1, all_flat hp, by rw [inV_eq (A.same k.le h1) hp]; exact q _ H p (Same.refl H)⟩
theorem je_inL (ha : JE X F g a (rO A) wa) (hb : JE X F g b (rB (tL X.K A)) wb) (hm : behindInMarks .In b = false := by rfl) : JE X F g (.Compare a [.In] [b] pos) (rO tB) (fun k => wa fun x => wb fun y => k (memJ x y)) := je_cmpR (C := fun x y k => k (memJ x y)) op_in_seq (inL_r false) ha hb hm
theorem je_niL (ha : JE X F g a (rO A) wa) (hb : JE X F g b (rB (tL X.K A)) wb) (hm : behindInMarks .NotIn b = false := by rfl) : JE X F g (.Compare a [.NotIn] [b] pos) (rO tB) (fun k => wa fun x => wb fun y => k (!memJ x y)) := je_cmpR (C := fun x y k => k (!memJ x y)) op_notIn_seq (inL_r true) ha hb hm
theorem je_inT (ha : JE X F g a (rO A) wa) (hb : JE X F g b (rB (tT X.K (aV A))) wb) (hm : behindInMarks .In b = false := by rfl) : JE X F g (.Compare a [.In] [b] pos) (rO tB) (fun k => wa fun x => wb fun y => k (memJ x y)) := je_cmpR (C := fun x y k => k (memJ x y)) op_in_seq (inT_r false) ha hb hm
theorem je_niT (ha : JE X F g a (rO A) wa) (hb : JE X F g b (rB (tT X.K (aV A))) wb) (hm : behindInMarks .NotIn b = false := by rfl) : JE X F g (.Compare a [.NotIn] [b] pos) (rO tB) (fun k => wa fun x => wb fun y => k (!memJ x y)) := je_cmpR (C := fun x y k => k (!memJ x y)) op_notIn_seq (inT_r true) ha hb hm
theorem jt_inL (ha : JE X F g a (rO A) wa) (hb : JE X F g b (rB (tL X.K A)) wb) (hm : behindInMarks .In b = false := by rfl) : JT X F g (.Compare a [.In] [b] pos) (fun Ya No => wa fun x => wb fun y => (((memJ x y) = true → Ya) ∧ ((memJ x y) = false → No))) := jt_cmpR (C := fun x y k => k (memJ x y)) op_in_seq (inL_r false) ha hb hm
theorem jt_niL (ha : JE X F g a (rO A) wa) (hb : JE X F g b (rB (tL X.K A)) wb) (hm : behindInMarks .NotIn b = false := by rfl) : JT X F g (.Compare a [.NotIn] [b] pos) (fun Ya No => wa fun x => wb fun y => (((!memJ x y) = true → Ya) ∧ ((!memJ x y) = false → No))) := jt_cmpR (C := fun x y k => k (!memJ x y)) op_notIn_seq (inL_r true) ha hb hm
theorem jt_inT (ha : JE X F g a (rO A) wa) (hb : JE X F g b (rB (tT X.K (aV A))) wb) (hm : behindInMarks .In b = false := by rfl) : JT X F g (.Compare a [.In] [b] pos) (fun Ya No => wa fun x => wb fun y => (((memJ x y) = true → Ya) ∧ ((memJ x y) = false → No))) := jt_cmpR (C := fun x y k => k (memJ x y)) op_in_seq (inT_r false) ha hb hm
theorem jt_niT (ha : JE X F g a (rO A) wa) (hb : JE X F g b (rB (tT X.K (aV A))) wb) (hm : behindInMarks .NotIn b = false := by rfl) : JT X F g (.Compare a [.NotIn] [b] pos) (fun Ya No => wa fun x => wb fun y => (((!memJ x y) = true → Ya) ∧ ((!memJ x y) = false → No))) := jt_cmpR (C := fun x y k => k (!memJ x y)) op_notIn_seq (inT_r true) ha hb hm
end
end
end J
/-! A7: lists changed by place, pop, small written dicts, is of bools, signs of a text -/
namespace J
open PySem PySem.Spec L2
section
variable {X : Cx} {F : Fr} {g : Gm} {α β γ δ ρ τ : Type} {K : PySem.W.Frag} {rest : List Stmt} {pos : Pos}
theorem ixW_N {n : Nat} {i : Int} {m : Nat} (h : ixW n i = some m) : ixN n i = some m := by
  unfold ixW at h
  unfold ixN
  by_cases h0 : 0 ≤ i
  · rw [if_pos h0]
    by_cases h1 : i < (n : Int)
    · rw [if_pos ⟨h0, h1⟩] at h
      rw [if_pos h1]
      exact h
    · rw [if_neg (by omega), if_neg (by omega)] at h
      cases h
  · rw [if_neg h0]
    rw [if_neg (by omega)] at h
    by_cases h1 : 0 ≤ i + (n : Int)
    · rw [if_pos ⟨by omega, h1⟩] at h
      rw [if_pos (by omega)]
      exact h
    · rw [if_neg (by omega)] at h
      cases h
theorem bs_mut {H : Hp} {j : Nat} {p : Addr} {A : Ty α} {xs ys : List α} {o : HO} (hj : g.c[j]? = some (.lst p A xs)) : (⟨g.s, g.c.set j (.lst p A ys)⟩ : Gm).bs F (upd H p o) = g.bs F H := by
  show bsA F ((g.c.set j (.lst p A ys)).filterMap Cell.addr) _ = bsA F g.ad H
  rw [ad_set (c' := .lst p A ys) hj rfl]
  exact bsA_upd (Gm.mem_ad (List.mem_of_getElem? hj) rfl)
/-- xs[k] = e -/
theorem js_setL {st : Stmt} {i j : Nat} {l : Addr} {A : Ty α} {xs : List α} {we : (α → Prop) → Prop} {wi : (Int → Prop) → Prop} {wr : List α → Prop} {D : Ends} (hp : PS X st (tAsg (RJ F g (rO A) we) (gSub (tVar i) (RJ F g (rO tI) wi) rSetL)))
    (hr : ∀ ys, JSs X F ⟨g.s, g.c.set j (.lst l A ys)⟩ rest D (wr ys)) (hs : g.s[i]? = some (.at l)) (hc : g.c[j]? = some (.lst l A xs)) :
    JSs X F g (st :: rest) D (we fun a => wi fun k => ∃ m, ixW xs.length k = some m ∧ wLet (xs.set m a) wr) := by
  refine pssW (pss_cons hp (pssE hr)) fun D' σ H ⟨e, k, w⟩ => ?_
  refine ⟨k, _, w, fun a v H1 w1 s1 ra => ?_⟩
  have k1 := k.step s1
  refine ⟨.ref l, k1.ref hs, k1, _, w1, fun n u H2 ⟨m, hm, w2⟩ s2 rn => ?_⟩
  have k2 := k1.step s2
  obtain ⟨vs, hl, pr⟩ := k2.cell hc
  have en : ixN vs.length n = some m := ixW_N (by rw [Paired.len pr]; exact hm)
  exact ⟨l, vs, n, m, rfl, rn, hl, en, xs.set m a, e, k2.mut hc (Paired.set (A.same (Gm.mono s2) ra) m pr), w2⟩
/-- ys.append(xs.pop(e)) -/
theorem js_appPop {call : Expr} {i j i2 j2 : Nat} {l l2 : Addr} {A : Ty α} {xs ys : List α} {we : (Int → Prop) → Prop} {wr : α → List α → Prop} {D : Ends}
    (hm : PE X call (tBM X.K "list" rAppend (tVar i) (tCons (tBM X.K "list" rPopAt (tVar i2) (tCons (RJ F g (rO tI) we) tNil)) tNil)))
    (hr : ∀ x zs, JSs X F ⟨g.s, (g.c.set j2 (.lst l2 A zs)).set j (.lst l A (ys ++ [x]))⟩ rest D (wr x zs)) (hs : g.s[i]? = some (.at l)) (hc : g.c[j]? = some (.lst l A ys)) (hs2 : g.s[i2]? = some (.at l2)) (hc2 : g.c[j2]? = some (.lst l2 A xs)) (hj : j2 ≠ j)
    (hsw : swapsWith call none pos.line X.env = pure false := by rfl) :
    JSs X F g (.Expr call pos :: rest) D (we fun k => (0 ≤ k ∧ k < (xs.length : Int)) ∧ ys.length < 1000000 ∧ xs.length < 1000000 ∧ ∃ x, xs[k.toNat]? = some x ∧ wLet (xs.eraseIdx k.toNat) (wr x)) := by
  refine pssW (pss_cons (ps_expr hm hsw) (pssE (t := fun (p : α × List α) => RS F ⟨g.s, (g.c.set j2 (.lst l2 A p.2)).set j (.lst l A (ys ++ [p.1]))⟩ D (wr p.1 p.2)) fun p => hr p.1 p.2)) fun D' σ H ⟨e, k, w⟩ => ?_
  obtain ⟨us, hl, pr⟩ := k.cell hc
  obtain ⟨us2, hl2, pr2⟩ := k.cell hc2
  refine ⟨_, k.ref hs, .inl ⟨rfl, us, .inl (.inl hl)⟩, _, k.ref hs2, .inl ⟨rfl, us2, .inl (.inl hl2)⟩, k, _, w, fun n v H1 ⟨⟨n0, n1⟩, y1, x1, x, hx, w1⟩ s1 rn => ?_⟩
  have k1 := k.step s1
  obtain ⟨vs, gl, qr⟩ := k1.cell hc
  obtain ⟨vs2, gl2, qr2⟩ := k1.cell hc2
  obtain ⟨u, hu, ru⟩ := Paired.at qr2 hx
  have e2 := Paired.len qr2
  have sq : seqIndex? n vs2.length = some n.toNat := by
    unfold seqIndex?
    have h1 : ¬ n < 0 := by omega
    have h2 : n < (vs2.length : Int) := by omega
    simp only [if_neg h1]
    rw [if_pos (by simp [n0, h2])]
  have ne : l ≠ l2 := fun z => by
    subst z
    exact hj (addr_of_get hc rfl k.nd j2 _ hc2 rfl)
  have er : Paired (A.rel (g.bs F H1)) (vs2.eraseIdx n.toNat) (xs.eraseIdx n.toNat) := by
    rw [List.eraseIdx_eq_take_drop_succ, List.eraseIdx_eq_take_drop_succ]
    exact Paired.app (Paired.take _ qr2) (Paired.drop _ qr2)
  have k2 := k1.mut hc2 er
  have gl' : (upd H1 l2 (.lst (vs2.eraseIdx n.toNat))) l = some (.lst vs) := by rw [upd_ne ne]; exact gl
  have hc' : (g.c.set j2 (.lst l2 A (xs.eraseIdx n.toNat)))[j]? = some (.lst l A ys) := by rw [List.getElem?_set_ne hj]; exact hc
  obtain ⟨vs', gl3, qr3⟩ := k2.cell hc'
  rw [gl'] at gl3
  have ev : vs = vs' := by
    injection gl3 with z
    injection z
  subst ev
  refine ⟨l2, vs2, n, n.toNat, u, rfl, by rw [(rn : v = _)], gl2, by omega, by omega, sq, hu, l, vs, u, rfl, rfl, gl', ?_, (x, xs.eraseIdx n.toNat), e, ?_⟩
  · rw [Paired.len qr]
    exact Nat.lt_of_lt_of_le y1 (by decide)
  · exact ⟨k2.mut hc' (Paired.app qr3 (.cons (by rw [bs_mut hc2]; exact ru) .nil)), w1⟩
/-- x = xs.pop() -/
theorem js_asgPop0 {i j i2 : Nat} {l : Addr} {A : Ty α} {xs : List α} {x : Str} {px : Pos} {call : Expr} {wr : α → Prop} {D : Ends} (hm : PE X call (tBM0 X.K "list" rPop (tVar i)))
    (hr : ∀ a, JSs X F ((⟨g.s, g.c.set j (.lst l A xs.dropLast)⟩ : Gm).set i2 (.val A a)) rest D (wr a)) (hs : g.s[i]? = some (.at l)) (hc : g.c[j]? = some (.lst l A xs)) (hN : X.N.Nodup) (hi : X.N[i2]? = some x := by rfl) (hx : Loc X.env.scope x := by first | exact Or.inl rfl | exact Or.inr rfl)
    (hsw : swapsWith call (some (.Name x px)) pos.line X.env = pure false := by rfl) (hf : X.fn x = true ∨ X.env.scope.names.lookup x = some .local := by first | exact .inl rfl | exact .inr rfl) :
    JSs X F g (.Assign [.Name x px] call pos :: rest) D (∃ a, xs.getLast? = some a ∧ wr a) := by
  refine pssW (pss_cons (ps_set hN hi hx hm hsw hf) (pssE hr)) fun D' σ H ⟨e, k, a, ha, w⟩ => ?_
  obtain ⟨us, hl, pr⟩ := k.cell hc
  rw [List.getLast?_eq_getElem?] at ha
  obtain ⟨u, hu, ru⟩ := Paired.at pr ha
  have e1 := Paired.len pr
  have dr : Paired (A.rel (g.bs F H)) us.dropLast xs.dropLast := by
    rw [List.dropLast_eq_take, List.dropLast_eq_take, e1]
    exact Paired.take _ pr
  refine ⟨_, k.ref hs, .inl ⟨rfl, us, .inl (.inl hl)⟩, l, us, u, rfl, rfl, hl, by rw [e1]; exact hu, a, e, ?_, w⟩
  exact (k.mut hc dr).set (t := .val A a) ⟨u, rfl, by rw [bs_mut hc]; exact ru⟩
/-! e is True .. -/
section
variable {a b : Expr} {wa wb : (Bool → Prop) → Prop}
theorem isB_r : CmpOk F g (rO tB) (rO tB) rIsB (fun x y k => k (decide (x = y))) := fun _ x y _ _ H v u P Q _ h1 h2 p q => ⟨x, y, h1, h2, q _ H p (Same.refl H)⟩
theorem notB_r : CmpOk F g (rO tB) (rO tB) rNotB (fun x y k => k (!decide (x = y))) := fun _ x y _ _ H v u P Q _ h1 h2 p q => ⟨x, y, h1, h2, q _ H p (Same.refl H)⟩
theorem je_isB (ha : JE X F g a (rO tB) wa) (hb : JE X F g b (rO tB) wb) : JE X F g (.Compare a [.Is] [b] pos) (rO tB) (fun k => wa fun x => wb fun y => k (decide (x = y))) := je_cmpR (C := fun x y k => k (decide (x = y))) op_isBl isB_r ha hb (nomark _)
theorem je_isnB (ha : JE X F g a (rO tB) wa) (hb : JE X F g b (rO tB) wb) : JE X F g (.Compare a [.IsNot] [b] pos) (rO tB) (fun k => wa fun x => wb fun y => k (!decide (x = y))) := je_cmpR (C := fun x y k => k (!decide (x = y))) op_notBl notB_r ha hb (nomark _)
theorem jt_isB (ha : JE X F g a (rO tB) wa) (hb : JE X F g b (rO tB) wb) : JT X F g (.Compare a [.Is] [b] pos) (fun A B => wa fun x => wb fun y => (decide (x = y) = true → A) ∧ (decide (x = y) = false → B)) := jt_cmpR (C := fun x y k => k (decide (x = y))) op_isBl isB_r ha hb (nomark _)
theorem jt_isnB (ha : JE X F g a (rO tB) wa) (hb : JE X F g b (rO tB) wb) : JT X F g (.Compare a [.IsNot] [b] pos) (fun A B => wa fun x => wb fun y => ((!decide (x = y)) = true → A) ∧ ((!decide (x = y)) = false → B)) := jt_cmpR (C := fun x y k => k (!decide (x = y))) op_notBl notB_r ha hb (nomark _)
end
/-- {k1: v1, k2: v2}[e], texts -/
theorem je_dict2 {k1 k2 v1 v2 : Str} {j1 j2 j3 j4 : Nat} {p1 p2 p3 p4 pd : Pos} {e : Expr} {we : (Str → Prop) → Prop} (hu : X.A.units + 1 < cLine) (hne : k1 ≠ k2) (he : JE X F g e (rO tS) we) (hs : NoSl e := by exact fun _ _ => rfl) :
    JE X F g (.Subscript (.Dict [some (.Constant (.str k1) j1 p1), some (.Constant (.str k2) j2 p2)] [.Constant (.str v1) j3 p3, .Constant (.str v2) j4 p4] pd) e pos) (rO tS) (fun k => we fun x => (x = k1 ∧ k v1) ∨ (x = k2 ∧ k v2)) :=
  peW (pe_dget hu (pe_disp (pps_cons pe_str pe_str (pps_cons pe_str pe_str pps_nil)) rfl rfl (fun z => by cases z) (by show 2 ≤ 15; omega)) he hs) fun σ H Q ⟨k, P, w, q⟩ => by
    intro p hp
    refine ⟨upd_same, [(Sum.inr k1, .str v1), (Sum.inr k2, .str v2)], rfl, by show 2 ≤ 15; omega, ?_⟩
    rw [upd_upd]
    have em : mergeK [] [((Sum.inr k1 : Key), V.str v1), (Sum.inr k2, .str v2)] = [((Sum.inr k1 : Key), V.str v1), (Sum.inr k2, .str v2)] := by
      have h : ¬ ((Sum.inr k1 : Key) = Sum.inr k2) := fun z => hne (Sum.inr.inj z)
      simp [mergeK, putK, h]
    rw [em]
    have sm : Same H (upd H p (.dK [((Sum.inr k1 : Key), V.str v1), (Sum.inr k2, .str v2)])) := same_upd hp
    refine ⟨k.step sm, _, w, fun x v H1 wx s1 rx => ?_⟩
    have hd : H1 p = some (.dK [((Sum.inr k1 : Key), V.str v1), (Sum.inr k2, .str v2)]) := s1 _ _ upd_same
    have ev : v = kV (Sum.inr x) := rx
    rcases wx with ⟨e1, wx⟩ | ⟨e1, wx⟩
    · refine ⟨p, .str v1, rfl, ?_, q v1 _ H1 wx (sm.trans s1) rfl⟩
      have z := DGet.k (k := Sum.inr x) hd
      have ez : valV [((Sum.inr k1 : Key), V.str v1), (Sum.inr k2, .str v2)] (Sum.inr x) = some (.str v1) := by
        rw [e1]
        simp [valV]
      rw [ez, ← ev] at z
      exact z
    · refine ⟨p, .str v2, rfl, ?_, q v2 _ H1 wx (sm.trans s1) rfl⟩
      have z := DGet.k (k := Sum.inr x) hd
      have ez : valV [((Sum.inr k1 : Key), V.str v1), (Sum.inr k2, .str v2)] (Sum.inr x) = some (.str v2) := by
        rw [e1]
        have h : ¬ ((Sum.inr k1 : Key) = Sum.inr k2) := fun z => hne (Sum.inr.inj z)
        simp [valV, h]
      rw [ez, ← ev] at z
      exact z
/-- the signs of a text -/
theorem ji_S {tg iter : Expr} {we : (Str → Prop) → Prop} {vs : List Nat} (he : JE X F g iter (rO tS) we) : PI X tg iter (RI F g tS (fun k => we fun z => k (signsJ z)) vs) :=
  piW (pi_str he) fun σ H R ⟨k, P, w, q⟩ => ⟨k, _, w, fun z v H1 p s r => ⟨z, r, q (signsJ z) (Its z) [] H1 p s (fun c hc => by cases hc) (k.step s) fun σ' H' _ _ => ⟨fun i x e => by
    unfold signsJ at e
    rw [List.getElem?_map] at e
    cases h : z.cps.toList[i]? with
    | none =>
      rw [h] at e
      cases e
    | some c =>
      rw [h] at e
      have e' := Option.some.inj e
      have hc : z.cps[i]? = some c := by
        rw [← Array.getElem?_toList]
        exact h
      have hi : i < z.cps.size := (Array.getElem?_eq_some_iff.mp hc).1
      refine ⟨hi, fun u H2 ⟨e1, d, hd, eu⟩ => ⟨by rw [e1]; exact Same.refl _, ?_⟩⟩
      rw [hc] at hd
      have := Option.some.inj hd
      subst this
      show u = .str x
      rw [eu, ← e'], fun i hi => by
    unfold signsJ at hi
    rw [List.length_map, Array.length_toList] at hi
    exact hi⟩⟩⟩
/-! in a list of data -/
section
variable {a b : Expr} {A : Ty α} {wa : (α → Prop) → Prop} {wb : (List α → Prop) → Prop} [POk α] [DecidableEq α]
theorem any_eqv [dA : Dat K A] (x : α) : ∀ ys : List α, ((ys.map dA.enc).any fun z => PyData.eqv z (dA.enc x)) = decide (x ∈ ys)
  | [] => by simp
  | y :: r => by
    have ih := any_eqv (dA := dA) x r
    rw [List.map_cons, List.any_cons, ih, dA.eqv]
    by_cases e : y = x
    · subst e
      simp
    · have e' : ¬ x = y := fun z => e z.symm
      simp [e, e']
theorem inD_r [dA : Dat K A] (hn : dA.n + 1 ≤ 64) : CmpOk F g (rB A) (rB (tL K A)) (rInD K) (fun x y k => POk.pok x ∧ POk.pok y ∧ k (memJ x y)) :=
  fun _ x y _ _ H v u P Q _ h1 h2 ⟨p1, p2, p⟩ q => by
    obtain ⟨l, vs, e, hs, hp⟩ := h2
    subst e
    have hs2 : SeqAt.shaped (.list (y.map dA.enc)) = true := by
      have l1 : PyData.canLay0 (.list (y.map dA.enc)) = true := by
        simp only [PyData.canLay0]
        exact all_lay p2
      have l2 : (PyData.list (y.map dA.enc)).depth ≤ 64 := by
        have := all_dep (dA := dA) y
        simp only [PyData.depth]
        omega
      unfold SeqAt.shaped
      rw [l1, decide_eq_true l2]
      rfl
    exact ⟨dA.enc x, y.map dA.enc, dA.dp h1, .lst hs (all_dp hp), shaped_of (by omega) p1, hs2, by rw [any_eqv]; exact q _ H p (Same.refl H)⟩
theorem niD_r [dA : Dat K A] (hn : dA.n + 1 ≤ 64) : CmpOk F g (rB A) (rB (tL K A)) (rNotInD K) (fun x y k => POk.pok x ∧ POk.pok y ∧ k (!memJ x y)) :=
  fun _ x y _ _ H v u P Q _ h1 h2 ⟨p1, p2, p⟩ q => by
    obtain ⟨l, vs, e, hs, hp⟩ := h2
    subst e
    have hs2 : SeqAt.shaped (.list (y.map dA.enc)) = true := by
      have l1 : PyData.canLay0 (.list (y.map dA.enc)) = true := by
        simp only [PyData.canLay0]
        exact all_lay p2
      have l2 : (PyData.list (y.map dA.enc)).depth ≤ 64 := by
        have := all_dep (dA := dA) y
        simp only [PyData.depth]
        omega
      unfold SeqAt.shaped
      rw [l1, decide_eq_true l2]
      rfl
    exact ⟨dA.enc x, y.map dA.enc, dA.dp h1, .lst hs (all_dp hp), shaped_of (by omega) p1, hs2, by rw [any_eqv]; exact q _ H p (Same.refl H)⟩
variable [dA : Dat K A]
theorem je_inD (hu : X.A.units + 65 < cLine) (ha : JE X F g a (rB A) wa) (hb : JE X F g b (rB (tL K A)) wb) (hK : X.K = K := by rfl) (hn : Nat.ble (dA.n + 1) 64 = true := by rfl) (hm : behindInMarks .In b = false := by rfl) : JE X F g (.Compare a [.In] [b] pos) (rO tB) (fun k => wa fun x => wb fun y => (POk.pok x ∧ POk.pok y ∧ k (memJ x y))) := by
  subst hK
  exact je_cmpR (C := fun x y k => POk.pok x ∧ POk.pok y ∧ k (memJ x y)) (op_inD hu) (inD_r (Nat.le_of_ble_eq_true hn)) ha hb hm
theorem je_niD (hu : X.A.units + 65 < cLine) (ha : JE X F g a (rB A) wa) (hb : JE X F g b (rB (tL K A)) wb) (hK : X.K = K := by rfl) (hn : Nat.ble (dA.n + 1) 64 = true := by rfl) (hm : behindInMarks .NotIn b = false := by rfl) : JE X F g (.Compare a [.NotIn] [b] pos) (rO tB) (fun k => wa fun x => wb fun y => (POk.pok x ∧ POk.pok y ∧ k (!memJ x y))) := by
  subst hK
  exact je_cmpR (C := fun x y k => POk.pok x ∧ POk.pok y ∧ k (!memJ x y)) (op_notInD hu) (niD_r (Nat.le_of_ble_eq_true hn)) ha hb hm
theorem jt_inD (hu : X.A.units + 65 < cLine) (ha : JE X F g a (rB A) wa) (hb : JE X F g b (rB (tL K A)) wb) (hK : X.K = K := by rfl) (hn : Nat.ble (dA.n + 1) 64 = true := by rfl) (hm : behindInMarks .In b = false := by rfl) : JT X F g (.Compare a [.In] [b] pos) (fun Ya No => wa fun x => wb fun y => (POk.pok x ∧ POk.pok y ∧ (((memJ x y) = true → Ya) ∧ ((memJ x y) = false → No)))) := by
  subst hK
  exact jt_cmpR (C := fun x y k => POk.pok x ∧ POk.pok y ∧ k (memJ x y)) (op_inD hu) (inD_r (Nat.le_of_ble_eq_true hn)) ha hb hm
theorem jt_niD (hu : X.A.units + 65 < cLine) (ha : JE X F g a (rB A) wa) (hb : JE X F g b (rB (tL K A)) wb) (hK : X.K = K := by rfl) (hn : Nat.ble (dA.n + 1) 64 = true := by rfl) (hm : behindInMarks .NotIn b = false := by rfl) : JT X F g (.Compare a [.NotIn] [b] pos) (fun Ya No => wa fun x => wb fun y => (POk.pok x ∧ POk.pok y ∧ (((!memJ x y) = true → Ya) ∧ ((!memJ x y) = false → No)))) := by
  subst hK
  exact jt_cmpR (C := fun x y k => POk.pok x ∧ POk.pok y ∧ k (!memJ x y)) (op_notInD hu) (niD_r (Nat.le_of_ble_eq_true hn)) ha hb hm
end
theorem hu65 {A : Around} {k : Nat} (h : Room k A) : A.units + 65 < cLine := by
  have := h.un
  omega
end
end J
/-! A8: instances that are made once and then read -/
namespace J
open PySem PySem.Spec L2 PyProof.Rows ClX
section
variable {X : Cx} {F : Fr} {g : Gm} {α β γ ρ τ κ : Type}
/-- an instance of C with the fields ns -/
def tC (C : Addr) (ns : List Str) (U : ATy κ) : Ty κ := ⟨fun H v t => ∃ a dx vs, v = .ref a ∧ H a = some (.ins C dx (ns.zip vs)) ∧ vs.length = ns.length ∧ U.rel H vs t, fun s ⟨a, dx, vs, e, h, l, r⟩ => ⟨a, dx, vs, e, s _ _ h, l, U.same s r⟩⟩
def a1 (A : Ty α) : ATy α := ⟨fun H vs t => ∃ x, vs = [x] ∧ A.rel H x t, fun s ⟨x, e, h1⟩ => ⟨x, e, A.same s h1⟩⟩
section
variable {C f p : Addr} {ns : List Str} {U : ATy κ} {A : Ty α} {B : Ty β} {e : Expr} {es : List Expr} {fl m x : Str} {pos apos np : Pos} {n : Nat} {fd : FuncData} {ps : List Str} {T : ATy τ} {R : Res ρ}
/-- e.fl -/
theorem je_fld {h : κ → α} {w : (κ → Prop) → Prop} (he : JE X F g e (rO (tC C ns U)) w) (c : Cls X.K C) (na : NoAttr X.K C fl) (hl : ∀ H vs t, U.rel H vs t → ∃ v, (ns.zip vs).lookup fl = some v ∧ A.rel H v (h t)) (hb : attributeBase e fl X.env (eval e X.env) = eval e X.env := by rfl) :
    JE X F g (.Attribute e fl pos) (rO A) (fun k => w fun t => k (h t)) :=
  peW (pe_fld he hb) fun σ H Q ⟨k, P, w, q⟩ => ⟨k, _, w, fun t v H1 p s ⟨a, dx, vs, e1, h1, _, r⟩ => by
    obtain ⟨y, hy, ry⟩ := hl _ _ _ r
    exact ⟨a, C, dx, _, y, e1, (k.step s).le _ _ h1, c, na, hy, q (h t) y H1 p s ry⟩⟩
/-- a property -/
theorem je_prop {w : κ × Unit → (ρ → Prop) → Prop} {wa : (κ → Prop) → Prop} (he : JE X F g e (rO (tC C ns U)) wa) (c : Cls X.K C) (hp : PropOf X.K C fl p f) (Fn : FnOk X.prog X.w X.K X.mg X.base CX0 n f fd ps (spJ (aC (tC C ns U) aN) R w)) (hr : Room (n + 1) X.A) (hb : Binds X.K fd ps [])
    (hab : attributeBase e fl X.env (eval e X.env) = eval e X.env := by rfl) : JE X F g (.Attribute e fl pos) R (fun k => wa fun t => w (t, ()) k) :=
  peW (pe_prop he c hp Fn hr hb .nil pass0 hab) fun σ H Q ⟨k, P, w, q⟩ => ⟨k, _, w, fun t v H1 w1 s1 r1 => by
    obtain ⟨a, dx, vs, e1, h1, hl, ht⟩ := r1
    have k1 := k.step s1
    exact ⟨a, dx, _, e1, k1.le _ _ h1, (t, ()), P, k1.fr, rfl, ⟨.ref a, [], rfl, ⟨a, dx, vs, rfl, h1, hl, ht⟩, rfl⟩, w1, fun r v H2 p s2 r2 => q r v H2 p (s1.trans s2) (R.pre s1 (R.same (k1.back s2) (Same.refl _) r2))⟩⟩
/-- o.m(e, ..): the arguments kept -/
theorem je_meth {w : κ × τ → (ρ → Prop) → Prop} {wo : (κ → Prop) → Prop} {wa : (τ → Prop) → Prop} {pl : Sem Bool} (he : JE X F g e (rO (tC C ns U)) wo) (c : Cls X.K C) (hm : Meth X.K C m f) (Fn : FnOk X.prog X.w X.K X.mg X.base CX0 n f fd ps (spJ (aC (tC C ns U) T) R w)) (hr : Room n X.A) (hb : Binds X.K fd ps [])
    {a0 : Expr} (ha : JA X F g (a0 :: es) T wa) (hl : ∀ vs : List V, vs.length = ns.length → (ns.zip vs).lookup m = none)
    (hst : starEach (a0 :: es) X.env = (false, eval a0 X.env) :: starEach es X.env := by rfl) (hpl : (backTo pos (starEach es X.env)).any (·.1) = false := by rfl)
    (ht : eval (.Call (.Attribute e m apos) (a0 :: es) [] pos) X.env = (do
      let ov ← eval e X.env
      standAt apos.atName
      let (f, first) ← holding [ov] (getMethod ov m pl)
      callWith pos f first (backTo pos (starEach (a0 :: es) X.env)) (backToKw pos (keywordEach [] X.env))) := by rfl) :
    JE X F g (.Call (.Attribute e m apos) (a0 :: es) [] pos) R (fun k => wo fun o => wa fun t => w (o, t) k) :=
  peW (pe_meth he c hm Fn hr hb .nil pass0 ha hst hpl ht) fun σ H Q ⟨k, P, w, q⟩ => ⟨k, _, w, fun o v H1 w1 s1 r1 => by
    obtain ⟨a, dx, vs, e1, h1, hn, ho⟩ := r1
    exact ⟨a, dx, _, e1, (k.step s1).le _ _ h1, hl vs hn, k.step s1, _, w1, fun t us H2 w2 s2 r2 => ⟨(o, t), P, (k.step (s1.trans s2)).fr, rfl, ⟨v, us, by rw [List.append_nil, e1], ⟨a, dx, vs, e1, Gm.mono s2 _ _ h1, hn, U.same (Gm.mono s2) ho⟩, r2⟩, w2, fun r v H3 p s3 r3 => q r v H3 p (s1.trans (s2.trans s3)) (R.pre (s1.trans s2) (R.same ((k.step (s1.trans s2)).back s3) (Same.refl _) r3))⟩⟩⟩
/-- the arguments read alone -/
theorem je_methb [hR : RIm R] {w : κ × τ → (ρ → Prop) → Prop} {wo : (κ → Prop) → Prop} {wa : (τ → Prop) → Prop} {pl : Sem Bool} (he : JE X F g e (rO (tC C ns U)) wo) (c : Cls X.K C) (hm : Meth X.K C m f) (Fn : FnOk X.prog X.w X.K X.mg X.base CX0 n f fd ps (spJ (aC (tC C ns U) T) R w)) (hr : Room n X.A) (hb : Binds X.K fd ps [])
    {a0 : Expr} (ha : JAb X F g (a0 :: es) T wa) (hl : ∀ vs : List V, vs.length = ns.length → (ns.zip vs).lookup m = none)
    (hst : starEach (a0 :: es) X.env = (false, eval a0 X.env) :: starEach es X.env := by rfl) (hpl : (backTo pos (starEach es X.env)).any (·.1) = false := by rfl)
    (ht : eval (.Call (.Attribute e m apos) (a0 :: es) [] pos) X.env = (do
      let ov ← eval e X.env
      standAt apos.atName
      let (f, first) ← holding [ov] (getMethod ov m pl)
      callWith pos f first (backTo pos (starEach (a0 :: es) X.env)) (backToKw pos (keywordEach [] X.env))) := by rfl) :
    JE X F g (.Call (.Attribute e m apos) (a0 :: es) [] pos) R (fun k => wo fun o => wa fun t => w (o, t) k) :=
  peW (pe_meth he c hm Fn hr hb .nil pass0 ha hst hpl ht) fun σ H Q ⟨k, P, w, q⟩ => ⟨k, _, w, fun o v H1 w1 s1 r1 => by
    obtain ⟨a, dx, vs, e1, h1, hn, ho⟩ := r1
    have l1 := (k.step s1).le
    exact ⟨a, dx, _, e1, l1 _ _ h1, hl vs hn, k.step s1, _, w1, fun t us H2 w2 s2 r2 => ⟨(o, t), P, Fr.all H2, rfl, ⟨v, us, by rw [List.append_nil, e1], ⟨a, dx, vs, e1, s2 _ _ (l1 _ _ h1), hn, U.same (l1.trans s2) ho⟩, r2⟩, w2, fun r v H3 p s3 r3 => q r v H3 p (s1.trans (s2.trans s3)) (R.pre (s1.trans s2) ((k.step (s1.trans s2)).backB s3 r3))⟩⟩⟩
/-- o.m() -/
theorem je_meth0 {w : κ × Unit → (ρ → Prop) → Prop} {wo : (κ → Prop) → Prop} {pl : Sem Bool} (he : JE X F g e (rO (tC C ns U)) wo) (c : Cls X.K C) (hm : Meth X.K C m f) (Fn : FnOk X.prog X.w X.K X.mg X.base CX0 n f fd ps (spJ (aC (tC C ns U) aN) R w)) (hr : Room n X.A) (hb : Binds X.K fd ps [])
    (hl : ∀ vs : List V, vs.length = ns.length → (ns.zip vs).lookup m = none)
    (ht : eval (.Call (.Attribute e m apos) [] [] pos) X.env = (do
      let ov ← eval e X.env
      standAt apos.atName
      let (f, first) ← holding [ov] (getMethod ov m pl)
      callWith pos f first (backTo pos (starEach [] X.env)) (backToKw pos (keywordEach [] X.env))) := by rfl) :
    JE X F g (.Call (.Attribute e m apos) [] [] pos) R (fun k => wo fun o => w (o, ()) k) :=
  peW (pe_meth0 he c hm Fn hr hb .nil pass0 ht) fun σ H Q ⟨k, P, w, q⟩ => ⟨k, _, w, fun o v H1 w1 s1 r1 => by
    obtain ⟨a, dx, vs, e1, h1, hn, ho⟩ := r1
    have k1 := k.step s1
    exact ⟨a, dx, _, e1, k1.le _ _ h1, hl vs hn, (o, ()), P, k1.fr, rfl, ⟨v, [], by rw [e1]; rfl, ⟨a, dx, vs, e1, h1, hn, ho⟩, rfl⟩, w1, fun r v H3 p s3 r3 => q r v H3 p (s1.trans s3) (R.pre s1 (R.same (k1.back s3) (Same.refl _) r3))⟩⟩
/-! ### the making -/
/-- what __init__ promises: at a new instance; F.H is the heap ahead of it -/
def spI (C : Addr) (ns : List Str) (T : ATy τ) (U : ATy κ) (w : τ → (κ → Prop) → Prop) : Sp := fun vs H Q _ => ∃ (x dx : Addr) (ws : List V) (t : τ) (P : κ → Prop) (F : Fr), vs = .ref x :: ws ∧ F.H x = none ∧ F.H dx = none ∧ dx ≠ x ∧ H = upd (upd F.H dx (.own x)) x (.ins C dx []) ∧ T.rel F.B ws t ∧ w t P ∧
  ∀ u H2, P u → Same F.H H2 → (tC C ns U).rel (F.out H2) (.ref x) u → Q .non H2
theorem je_make {w : τ → (κ → Prop) → Prop} {wa : (τ → Prop) → Prop} (M : Mk X.K C f) (Fn : FnOk X.prog X.w X.K X.mg X.base CX0 n f fd ps (spI C ns T U w)) (hr : Room (n + 1) X.A) (hg : Gl X x) (hm : X.mg x = some (.ref C)) (hb : Binds X.K fd ps [])
    {a0 : Expr} (ha : JA X F g (a0 :: es) T wa) (hdb : (x == ("__debug__" : Str)) = false := by decide) (he : starEach (a0 :: es) X.env = (false, eval a0 X.env) :: starEach es X.env := by rfl) (hpl : (backTo pos (starEach es X.env)).any (·.1) = false := by rfl) :
    JE X F g (.Call (.Name x np) (a0 :: es) [] pos) (rO (tC C ns U)) (fun k => wa fun t => w t k) :=
  peW (pe_make M Fn hr hg hm hb .nil pass0 ha hdb he hpl) fun σ H Q ⟨k, P, w, q⟩ => ⟨k, _, w, fun t vs H1 w1 s1 r1 x dx hx hdx hne => ⟨x, dx, vs, t, P, (k.step s1).fr, by rw [List.append_nil], hx, hdx, hne, rfl, r1, w1, fun u H2 p s2 r2 => ⟨rfl, q u (.ref x) H2 p (s1.trans s2) ((tC C ns U).same ((k.step s1).back s2) r2)⟩⟩⟩
/-- within __init__: what stands at its start -/
theorem init_ok {F : Fr} {x dx : Addr} {σ : L2.St} {sl : List Slot} (hx : F.H x = none) (hdx : F.H dx = none) (hne : dx ≠ x) (hp : Par F.B σ sl) : (⟨sl, [.ins x dx C [] aN ()]⟩ : Gm).Ok F σ (upd (upd F.H dx (.own x)) x (.ins C dx [])) := by
  have s1 : Same F.H (upd (upd F.H dx (.own x)) x (.ins C dx [])) := (same_upd hdx).trans (same_upd (by rw [upd_ne (Ne.symm hne)]; exact hx))
  refine ⟨s1, Par.imp (fun _ _ h => Slot.ok_same (fun a o z => ?_) h) hp, (by show List.Nodup [x]; simp), fun c hc => ?_⟩
  · refine bsA_ofB (fun m => ?_) z
    have e : a = x := List.mem_singleton.mp m
    rw [e] at z
    have := F.le _ _ z
    rw [hx] at this
    cases this
  · cases List.mem_singleton.mp hc
    exact ⟨hx, [], upd_same, rfl, rfl⟩
def aSnoc (U : ATy κ) (A : Ty α) : ATy (κ × α) := ⟨fun H vs t => ∃ us v, vs = us ++ [v] ∧ U.rel H us t.1 ∧ A.rel H v t.2, fun s ⟨us, v, e, h1, h2⟩ => ⟨us, v, e, U.same s h1, A.same s h2⟩⟩
theorem putF_zip {f : Str} {v : V} : ∀ {ns : List Str} {vs : List V}, vs.length = ns.length → f ∉ ns → putF f v (ns.zip vs) = (ns ++ [f]).zip (vs ++ [v])
  | [], [], _, _ => rfl
  | n :: ns, u :: vs, h, hf => by
    show (if n = f then (n, v) :: ns.zip vs else (n, u) :: putF f v (ns.zip vs)) = (n, u) :: (ns ++ [f]).zip (vs ++ [v])
    rw [if_neg (fun z => hf (by rw [z]; exact List.mem_cons_self)), putF_zip (Nat.succ.inj h) (fun z => hf (List.mem_cons_of_mem _ z))]
  | [], _ :: _, h, _ => by cases h
  | _ :: _, [], h, _ => by cases h
/-- self.f = e -/
theorem js_fld {i j : Nat} {x dx : Addr} {t : κ} {we : (α → Prop) → Prop} {wr : α → Prop} {rest : List Stmt} {D : Ends} {sx : Str} {p2 p3 : Pos} (c : Cls X.K C) (na : NoAttr X.K C fl) (he : JE X F g e (rO A) we)
    (hr : ∀ a, JSs X F ⟨g.s, g.c.set j (.ins x dx C (ns ++ [fl]) (aSnoc U A) (t, a))⟩ rest D (wr a)) (hs : g.s[i]? = some (.at x)) (hc : g.c[j]? = some (.ins x dx C ns U t)) (hf : fl ∉ ns := by decide) (hn : ns.length < 1000 := by decide)
    (hN : X.N[i]? = some sx := by rfl) (hv : Vis X.env.scope sx := by first | exact Or.inl rfl | exact Or.inr (Or.inl rfl) | exact Or.inr (Or.inr rfl)) (hd : (sx == ("__debug__" : Str)) = false := by decide) (hcd : (sx == ("__classdict__" : Str)) = false := by decide)
    (hsw : swapsWith e (some (.Attribute (.Name sx p2) fl p3)) pos.line X.env = pure false := by rfl) :
    JSs X F g (.Assign [.Attribute (.Name sx p2) fl p3] e pos :: rest) D (we fun a => wLet a wr) :=
  pssW (pss_cons (ps_fld (f := fl) (pe_var hN hv hd hcd) he hsw) (pssE hr)) fun D' σ H ⟨e, k, w⟩ => ⟨k, _, w, fun a v H1 w1 s1 ra => by
    have k1 := k.step s1
    have m := List.mem_of_getElem? hc
    obtain ⟨n0, vs, hx, hl, hu⟩ := k1.cells _ m
    refine ⟨_, k1.ref hs, x, C, dx, _, rfl, hx, c, na, ?_, a, e, ?_, w1⟩
    · rw [List.length_zip]
      omega
    · rw [putF_zip hl hf]
      exact k1.mutC hc rfl rfl ⟨n0, vs ++ [v], upd_same, by rw [List.length_append, List.length_append, hl]; rfl, vs, v, rfl, hu, ra⟩⟩
/-- at the end of __init__ -/
theorem init_end {F : Fr} {σ : L2.St} {H : Hp} {x dx : Addr} {V : ATy τ} {t : τ} {u : κ} {j : Nat} (k : g.Ok F σ H) (hc : g.c[j]? = some (.ins x dx C ns V t)) (hv : ∀ H vs, V.rel H vs t → U.rel H vs u) : (tC C ns U).rel (F.out H) (.ref x) u := by
  have m := List.mem_of_getElem? hc
  obtain ⟨n0, vs, hx, hl, hu⟩ := k.cells _ m
  exact ⟨x, dx, vs, rfl, bsA_of (fun z => by cases z) n0 hx, hl, U.same Gm.out (hv _ _ hu)⟩
/-! ### the class itself -/
/-- C.fl, a constant -/
theorem je_cval {mc : Value} {v : V} {u : Value} {a : α} (hg : Gl X x) (hm : X.mg x = some (.ref C)) (r : CRead X.K C mc) (k : CVal X.K C mc fl v u) (ha : ∀ H, A.rel H v a) (hdb : (x == ("__debug__" : Str)) = false := by decide)
    (hb : attributeBase (.Name x np) fl X.env (eval (.Name x np) X.env) = eval (.Name x np) X.env := by rfl) : JE X F g (.Attribute (.Name x np) fl pos) (rO A) (fun k => k a) :=
  peW (pe_cval (pe_glob hg hm (v := .ref C) rfl hdb) hb) fun σ H Q ⟨k', P, w, q⟩ => ⟨C, mc, v, u, rfl, r, k, q a v H w (Same.refl H) (ha _)⟩
end
end
/-- C.m is a staticmethod: its record at p, its def at f -/
structure SMet (K : PySem.W.Frag) (C : Addr) (mc : Value) (m : Str) (p f : Addr) : Prop where
  at_ : PySem.W.findCls K (.ref C) mc m = some (.get (.builtin "staticmethod.__get__") (.ref p) .none (.ref C))
  rc : ∃ rest, PySem.W.recIn K p "staticmethod" = some (.ref f :: rest)
  hd : PySem.W.handedIn (.ref f) = true
  kp : PySem.W.keepIn K (.ref f) = true
section
variable {X : Cx} {CX : CXT} {C p f : Addr} {mc : Value} {m : Str} {k : Nat} {fd : FuncData} {ps : List Str} {sp : Sp} {E : XK} {o e : Expr} {es : List Expr} {ta : TE} {t : TA} {apos pos : Pos} {pl : Sem Bool}
def tSMeth (C : Addr) (sp : Sp) (E : XK) (ta : TE) (t : TA) : TE := fun σ H Q => ta σ H fun x H1 => x = .ref C ∧ t σ H1 fun vs H2 => sp vs H2 Q E
theorem pe_smeth (he : PE X o ta) (r : CRead X.K C mc) (c : SMet X.K C mc m p f) (Fn : FnOk X.prog X.w X.K X.mg X.base CX k f fd ps sp) (hr : Room k X.A) (hb : Binds X.K fd ps []) (hx : Passes CX X E) (ha : PA X (e :: es) t)
    (hst : starEach (e :: es) X.env = (false, eval e X.env) :: starEach es X.env := by rfl) (hpl : (backTo pos (starEach es X.env)).any (·.1) = false := by rfl)
    (ht : eval (.Call (.Attribute o m apos) (e :: es) [] pos) X.env = (do
      let ov ← eval o X.env
      standAt apos.atName
      let (f, first) ← holding [ov] (getMethod ov m pl)
      callWith pos f first (backTo pos (starEach (e :: es) X.env)) (backToKw pos (keywordEach [] X.env))) := by rfl) :
    PE X (.Call (.Attribute o m apos) (e :: es) [] pos) (tSMeth C sp E ta t) := by
  refine ⟨fun pins s σ H Q I h => ?_⟩
  refine PySem.W.methodCall_KW (pl := pl) (thn (he.run pins s σ H _ I h) fun u s1 ⟨x, H1, I1, rx, ex, q⟩ => ?_) ht
  subst ex
  obtain rfl : u = Value.ref C := rx
  obtain ⟨rest, hp⟩ := c.rc
  refine PySem.W.method_cls I1.kIn r.ga (PySem.W.cls_bind I1.kIn r.rd c.at_ (wpAny_call (PySem.W.sm_get (s := { s1 with toks := s1.toks + 1 }) I1.kIn hp (PySem.W.handed_on c.hd ?_))))
  have I2 := I1.tok (s1.toks + 1)
  refine PySem.W.callWith_K (first := []) (h₀ := X.base) I.ok.mod.kin c.kp (thn (ha.run pos pins _ σ H1 _ I2 q) fun us s2 ⟨vs, H2, I3, rv, q2⟩ => ⟨I3.kIn, ?_⟩) hst hpl
  exact run_fn Fn hr hb .nil hx I3 rv (by rw [List.append_nil]; exact q2)
end
section
variable {X : Cx} {F : Fr} {g : Gm} {α β γ ρ τ κ : Type} {C p f : Addr} {mc : Value} {m x : Str} {n : Nat} {fd : FuncData} {ps : List Str} {e : Expr} {es : List Expr} {apos pos np : Pos} {pl : Sem Bool} {T : ATy τ} {R : Res ρ}
theorem je_smeth {w : τ → (ρ → Prop) → Prop} {wa : (τ → Prop) → Prop} (hg : Gl X x) (hm : X.mg x = some (.ref C)) (r : CRead X.K C mc) (c : SMet X.K C mc m p f) (Fn : FnOk X.prog X.w X.K X.mg X.base CX0 n f fd ps (spJ T R w)) (hr : Room n X.A) (hb : Binds X.K fd ps []) (ha : JA X F g (e :: es) T wa)
    (hdb : (x == ("__debug__" : Str)) = false := by decide) (hst : starEach (e :: es) X.env = (false, eval e X.env) :: starEach es X.env := by rfl) (hpl : (backTo pos (starEach es X.env)).any (·.1) = false := by rfl)
    (ht : eval (.Call (.Attribute (.Name x np) m apos) (e :: es) [] pos) X.env = (do
      let ov ← eval (.Name x np) X.env
      standAt apos.atName
      let (f, first) ← holding [ov] (getMethod ov m pl)
      callWith pos f first (backTo pos (starEach (e :: es) X.env)) (backToKw pos (keywordEach [] X.env))) := by rfl) :
    JE X F g (.Call (.Attribute (.Name x np) m apos) (e :: es) [] pos) R (fun k => wa fun t => w t k) :=
  peW (pe_smeth (E := fun _ _ _ => False) (pe_glob hg hm (v := .ref C) rfl hdb) r c Fn hr hb pass0 ha hst hpl ht) fun σ H Q ⟨k, P, w, q⟩ => ⟨rfl, k, _, w, fun t vs H1 w1 s1 r1 => ⟨t, P, (k.step s1).fr, rfl, r1, w1, fun r v H2 p s2 r2 => q r v H2 p (s1.trans s2) (R.pre s1 (R.same ((k.step s1).back s2) (Same.refl _) r2))⟩⟩
end
/-! ### own operators -/
section
variable {X : Cx} {CX : CXT} {k : Nat} {C f : Addr} {fd : FuncData} {ps : List Str} {sp : Sp} {E : XK} {a b : Expr} {pos : Pos} {ta tb : TE}
def rIxO (C : Addr) (sp : Sp) (E : XK) : R2 := fun x y H Q => ∃ a dx fs, x = .ref a ∧ H a = some (.ins C dx fs) ∧ sp [.ref a, y] H Q E
theorem pe_subO (c : Cls X.K C) (hm : Meth X.K C "__getitem__" f) (hf : PySem.W.fnIn X.K f = true) (Fn : FnOk X.prog X.w X.K X.mg X.base CX k f fd ps sp) (hr : Room (k + 1) X.A) (hb : Binds X.K fd ps []) (hx : Passes CX X E) (ha : PE X a ta) (hbb : PE X b tb)
    (hs : ∀ x i, subscripted b true (.ref x) i = runValue (.builtin "lifetime.subscript" ⟨[.ref x, i], []⟩)) : PE X (.Subscript a b pos) (tOp (rIxO C sp E) ta tb) := by
  refine ⟨fun pins s σ H Q I h => ?_⟩
  refine Subscript_ (binT ha hbb I h fun v u s2 x y H2 I2 rx ry q => ?_)
  obtain ⟨o, dx, fs, rfl, ea, q⟩ := q
  obtain rfl : v = Value.ref o := rx
  obtain ⟨mA, O, _, _, _, _⟩ := ins_get I2.hok ea
  obtain ⟨od, J, _⟩ := O.look
  obtain ⟨m, fr⟩ := I2.fr
  refine PySem.W.sub_K fr I2.mod.kin J hm.at_ hf hm.fn (wpAny_call (codeAny_mono (Fn.run X.A.in1 X.stack s2 H2 ⟨[.ref o, u], []⟩ [.ref o, u] [.ref o, y] Q E hr.in1 I2.env0.in1 (hb _ [.ref o, u] I2.kIn ?_) (.cons rfl (.cons ry .nil)) q) fun r s' hq => ?_)) (hs _ _)
  · exact (Fn.len _ _ _ _ q)
  · cases r with
    | error er => exact hx pins σ H2 s2 er s' I2 hq
    | ok fl =>
      cases fl with
      | ret u' =>
        exact I2.after hq
      | next => exact False.elim hq
      | brk => exact False.elim hq
      | cont => exact False.elim hq
/-- an operator of a class between two of its instances -/
def rBinO (C : Addr) (sp : Sp) (E : XK) : R2 := fun x y H Q => ∃ a dx fs b dy gs, x = .ref a ∧ H a = some (.ins C dx fs) ∧ y = .ref b ∧ H b = some (.ins C dy gs) ∧ sp [.ref a, .ref b] H (fun v H' => (∀ u, RelV v u → u ≠ .notImplemented) ∧ Q v H') E
theorem op_own {op : Operator} (hm : Meth X.K C (PySem.dunder op.info.2) f) (hs : PySem.W.selfFirst X.K C = true) (Fn : FnOk X.prog X.w X.K X.mg X.base CX k f fd ps sp) (hr : Room k X.A) (hb : Binds X.K fd ps []) (hx : Passes CX X E) : OpR X (binaryOp op) (rBinO C sp E) := by
  intro pins s σ H x y v u Q I rx ry q
  obtain ⟨o, dx, fs, o2, dy, gs, rfl, ea, rfl, eb, q⟩ := q
  obtain rfl : v = Value.ref o := rx
  obtain rfl : u = Value.ref o2 := ry
  obtain ⟨mA, O, _, _, _, _⟩ := ins_get I.hok ea
  obtain ⟨od, J, _⟩ := O.look
  obtain ⟨mB, O2, _, _, _, _⟩ := ins_get I.hok eb
  obtain ⟨od2, J2, _⟩ := O2.look
  obtain ⟨m, fr⟩ := I.fr
  refine PySem.W.binop_K fr I.mod.kin J J2.type hs hm.at_ hm.fn (wpAny_mono (wpAny_call (codeAny_mono (Fn.run X.A X.stack s H ⟨[.ref o, .ref o2], []⟩ [.ref o, .ref o2] [.ref o, .ref o2] _ E hr I.env0 (hb _ [.ref o, .ref o2] I.kIn ?_) (.cons rfl (.cons rfl .nil)) q) (R' := fun r s' => match r with | .ok (.ret u) => PySem.W.CmpBack (EP X pins σ Q) u s' | .ok _ => False | .error e => X.xe e s') fun r s' hq => ?_)) (fun u s' h => h) (fun e s' h => h))
  · exact (Fn.len _ _ _ _ q)
  · cases r with
    | error er => exact hx pins σ H s er s' I hq
    | ok fl =>
      cases fl with
      | ret u' =>
        obtain ⟨v, H', I', rv, hn, hQ⟩ := I.after hq
        have hne := hn _ rv
        show PySem.W.CmpBack _ u' s'
        unfold PySem.W.CmpBack
        split
        · exact absurd rfl hne
        · exact ⟨v, H', I', rv, hQ⟩
      | next => exact False.elim hq
      | brk => exact False.elim hq
      | cont => exact False.elim hq
end
end J
/-! A9: more operators, chains, own ==, zip, texts -/
namespace J
open PySem PySem.Spec L2 PyProof.Rows ClX RZ
section
variable {X : Cx} {F : Fr} {g : Gm} {α β γ ρ τ κ : Type}
/-! ### own == -/
section
variable {CX : CXT} {k : Nat} {C f : Addr} {fd : FuncData} {ps : List Str} {sp : Sp} {E : XK} {a b : Expr} {pos : Pos}
theorem op_eqOwn (hu : X.A.units < cLine) (hm : Meth X.K C "__eq__" f) (Fn : FnOk X.prog X.w X.K X.mg X.base CX k f fd ps sp) (hr : Room k X.A) (hb : Binds X.K fd ps []) (hx : Passes CX X E) : OpR X (compareOp .Eq) (rBinO C sp E) := by
  intro pins s σ H x y v u Q I rx ry q
  obtain ⟨o, dx, fs, o2, dy, gs, rfl, ea, rfl, eb, q⟩ := q
  obtain rfl : v = Value.ref o := rx
  obtain rfl : u = Value.ref o2 := ry
  obtain ⟨mA, O, _, _, _, _⟩ := ins_get I.hok ea
  obtain ⟨od, J, _⟩ := O.look
  obtain ⟨mB, O2, _, _, _, _⟩ := ins_get I.hok eb
  obtain ⟨od2, J2, _⟩ := O2.look
  obtain ⟨m, fr⟩ := I.fr
  show wpAny _ _ (richCompare .Eq (.ref o) (.ref o2)) _ _ _
  refine PySem.W.cmp_K hu fr I.mod.kin J J2.type (by unfold PySem.W.notFirst; simp) hm.at_ hm.fn (wpAny_mono (wpAny_call (codeAny_mono (Fn.run X.A X.stack s H ⟨[.ref o, .ref o2], []⟩ [.ref o, .ref o2] [.ref o, .ref o2] _ E hr I.env0 (hb _ [.ref o, .ref o2] I.kIn ?_) (.cons rfl (.cons rfl .nil)) q) (R' := fun r s' => match r with | .ok (.ret u) => PySem.W.CmpBack (EP X pins σ Q) u s' | .ok _ => False | .error e => X.xe e s') fun r s' hq => ?_)) (fun u s' h => h) (fun e s' h => h))
  · exact (Fn.len _ _ _ _ q)
  · cases r with
    | error er => exact hx pins σ H s er s' I hq
    | ok fl =>
      cases fl with
      | ret u' =>
        obtain ⟨v, H', I', rv, hn, hQ⟩ := I.after hq
        have hne := hn _ rv
        show PySem.W.CmpBack _ u' s'
        unfold PySem.W.CmpBack
        split
        · exact absurd rfl hne
        · exact ⟨v, H', I', rv, hQ⟩
      | next => exact False.elim hq
      | brk => exact False.elim hq
      | cont => exact False.elim hq
variable {ns : List Str} {U : ATy κ} {R : Res ρ}
theorem bin_r {w : κ × κ × Unit → (ρ → Prop) → Prop} (hR : ∀ H B H' v a, R.rel H B H' v a → ∀ u, RelV v u → u ≠ .notImplemented) : ∀ (σ : L2.St) (x y : κ) (Ha Hb H : Hp) (v u : V) (P : ρ → Prop) (Q : VK), g.Ok F σ H → (rO (tC C ns U)).rel Ha (g.bs F H) H v x → (rO (tC C ns U)).rel Hb (g.bs F H) H u y → w (x, y, ()) P →
    (∀ z v' H', P z → Same H H' → R.rel H (g.bs F H') H' v' z → Q v' H') → rBinO C (spJ (aC (tC C ns U) (aC (tC C ns U) aN)) R w) (fun _ _ _ => False) v u H Q := fun σ x y Ha Hb H v u P Q k h1 h2 p q => by
  obtain ⟨a, dx, vs, e1, g1, l1, u1⟩ := id h1
  obtain ⟨b, dy, us, e2, g2, l2, u2⟩ := id h2
  exact ⟨a, dx, _, b, dy, _, e1, k.le _ _ g1, e2, k.le _ _ g2, (x, y, ()), P, k.fr, rfl, ⟨.ref a, [.ref b], rfl, by rw [← e1]; exact h1, .ref b, [], rfl, by rw [← e2]; exact h2, rfl⟩, p, fun r v' H' pr s rr =>
    ⟨hR _ _ _ _ _ rr, q r v' H' pr s (R.same (k.back s) (Same.refl _) rr)⟩⟩
theorem nni_ref {H B H' : Hp} {v : V} {a : κ} : (rO (tC C ns U)).rel H B H' v a → ∀ u, RelV v u → u ≠ .notImplemented := fun ⟨x, _, _, e, _⟩ u r z => by
  subst e
  obtain rfl : u = Value.ref x := r
  cases z
theorem nni_bl {H B H' : Hp} {v : V} {a : Bool} : (rO tB).rel H B H' v a → ∀ u, RelV v u → u ≠ .notImplemented := fun e u r z => by
  have e' : v = .bl a := e
  subst e'
  obtain rfl : u = Value.bool a := r
  cases z
/-- one * two and the like, of the class's own -/
theorem je_binO {op : Operator} {ns' : List Str} {C' : Addr} {κ' : Type} {U' : ATy κ'} {w : κ × κ × Unit → (κ' → Prop) → Prop} {wa wb : (κ → Prop) → Prop} (ha : JE X F g a (rO (tC C ns U)) wa) (hb' : JE X F g b (rO (tC C ns U)) wb) (hm : Meth X.K C (PySem.dunder op.info.2) f) (hs : PySem.W.selfFirst X.K C = true)
    (Fn : FnOk X.prog X.w X.K X.mg X.base CX0 k f fd ps (spJ (aC (tC C ns U) (aC (tC C ns U) aN)) (rO (tC C' ns' U')) w)) (hr : Room k X.A) (hb : Binds X.K fd ps []) : JE X F g (.BinOp a op b pos) (rO (tC C' ns' U')) (fun k => wa fun x => wb fun y => w (x, y, ()) k) :=
  je_opR (C := fun x y k => w (x, y, ()) k) (op_own hm hs Fn hr hb pass0) (bin_r fun _ _ _ _ _ h => nni_ref h) ha hb'
theorem je_eqO {w : κ × κ × Unit → (Bool → Prop) → Prop} {wa wb : (κ → Prop) → Prop} (hu : X.A.units < cLine) (ha : JE X F g a (rO (tC C ns U)) wa) (hb' : JE X F g b (rO (tC C ns U)) wb) (hm : Meth X.K C "__eq__" f)
    (Fn : FnOk X.prog X.w X.K X.mg X.base CX0 k f fd ps (spJ (aC (tC C ns U) (aC (tC C ns U) aN)) (rO tB) w)) (hr : Room k X.A) (hb : Binds X.K fd ps []) : JE X F g (.Compare a [.Eq] [b] pos) (rO tB) (fun k => wa fun x => wb fun y => w (x, y, ()) k) :=
  je_cmpR (C := fun x y k => w (x, y, ()) k) (op_eqOwn hu hm Fn hr hb pass0) (fun σ x y Ha Hb H v u P Q k h1 h2 p q => bin_r (R := rO tB) (fun _ _ _ _ _ h => nni_bl h) σ x y Ha Hb H v u P Q k h1 h2 p fun z v' H' pz s r => by
    have e : v' = .bl z := r
    rw [e]
    exact q z H' pz s) ha hb' (nomark _)
theorem jt_eqO {w : κ × κ × Unit → (Bool → Prop) → Prop} {wa wb : (κ → Prop) → Prop} (hu : X.A.units < cLine) (ha : JE X F g a (rO (tC C ns U)) wa) (hb' : JE X F g b (rO (tC C ns U)) wb) (hm : Meth X.K C "__eq__" f)
    (Fn : FnOk X.prog X.w X.K X.mg X.base CX0 k f fd ps (spJ (aC (tC C ns U) (aC (tC C ns U) aN)) (rO tB) w)) (hr : Room k X.A) (hb : Binds X.K fd ps []) : JT X F g (.Compare a [.Eq] [b] pos) (fun Ya No => wa fun x => wb fun y => w (x, y, ()) fun z => (z = true → Ya) ∧ (z = false → No)) :=
  jt_cmpR (C := fun x y k => w (x, y, ()) k) (op_eqOwn hu hm Fn hr hb pass0) (fun σ x y Ha Hb H v u P Q k h1 h2 p q => bin_r (R := rO tB) (fun _ _ _ _ _ h => nni_bl h) σ x y Ha Hb H v u P Q k h1 h2 p fun z v' H' pz s r => by
    have e : v' = .bl z := r
    rw [e]
    exact q z H' pz s) ha hb' (nomark _)
/-- o[e] by the class's own __getitem__ -/
theorem je_subO {A : Ty α} {w : κ × α × Unit → (ρ → Prop) → Prop} {wo : (κ → Prop) → Prop} {wa : (α → Prop) → Prop} (ho : JE X F g a (rO (tC C ns U)) wo) (c : Cls X.K C) (hm : Meth X.K C "__getitem__" f) (hf : PySem.W.fnIn X.K f = true)
    (Fn : FnOk X.prog X.w X.K X.mg X.base CX0 k f fd ps (spJ (aC (tC C ns U) (aC A aN)) R w)) (hr : Room (k + 1) X.A) (hb : Binds X.K fd ps []) (ha : JE X F g b (rO A) wa)
    (hs : ∀ x i, subscripted b true (.ref x) i = runValue (.builtin "lifetime.subscript" ⟨[.ref x, i], []⟩) := by intro _ _; rfl) : JE X F g (.Subscript a b pos) R (fun k => wo fun o => wa fun y => w (o, y, ()) k) :=
  peW (pe_subO (E := fun _ _ _ => False) c hm hf Fn hr hb pass0 ho ha hs) fun σ H Q ⟨k, P, w, q⟩ => ⟨k, _, w, fun o v H1 w1 s1 r1 => ⟨k.step s1, _, w1, fun y u H2 w2 s2 r2 => by
    obtain ⟨i, dx, vs, e1, h1, hl, hu⟩ := r1
    have k2 := k.step (s1.trans s2)
    exact ⟨i, dx, _, e1, k2.le _ _ (Gm.mono s2 _ _ h1), (o, y, ()), P, k2.fr, rfl, ⟨.ref i, [u], rfl, ⟨i, dx, vs, rfl, Gm.mono s2 _ _ h1, hl, U.same (Gm.mono s2) hu⟩, ⟨u, [], rfl, r2, rfl⟩⟩, w2, fun r v' H3 p s3 r3 => q r v' H3 p (s1.trans (s2.trans s3)) (R.pre (s1.trans s2) (R.same (k2.back s3) (Same.refl _) r3))⟩⟩⟩
/-- isinstance(e, C) of an instance of C -/
theorem je_isC {x : Str} {e : Expr} {p p2 pos : Pos} {w : (κ → Prop) → Prop} (hg : Gl X "isinstance") (hm : X.mg "isinstance" = none) (he : JE X F g e (rO (tC C ns U)) w) (ic : C8.InsC X.K C) (hgx : Gl X x) (hmx : X.mg x = some (.ref C)) (hdb : (x == ("__debug__" : Str)) = false := by decide)
    (hst : starEach [e, .Name x p2] X.env = (false, eval e X.env) :: starEach [.Name x p2] X.env := by rfl) (hst2 : starEach [.Name x p2] X.env = (false, eval (.Name x p2) X.env) :: starEach [] X.env := by rfl) (hpl : (backTo pos (starEach [.Name x p2] X.env)).any (·.1) = false := by rfl) :
    JE X F g (.Call (.Name "isinstance" p) [e, .Name x p2] [] pos) (rO tB) (fun k => w fun _ => k true) :=
  peW (pe_callB (C8.call_isC ic) hg hm (by decide +kernel) (pa_cons he (pa_cons (pe_glob hgx hmx (v := .ref C) rfl hdb) pa_nil hst2) hst) (by decide) (by decide) hst hpl) fun σ H Q ⟨k, P, w, q⟩ => ⟨k, _, w, fun a v H1 w1 s1 ⟨i, dx, vs, e1, h1, _⟩ =>
    ⟨i, dx, _, by rw [e1], (k.step s1).le _ _ h1, q true _ H1 w1 s1 rfl⟩⟩
end
/-! ### bits -/
section
variable {a b c e o : Expr} {pos apos p : Pos} {wa wb wc : (Int → Prop) → Prop}
theorem bitOr_J {i j : Int} (hi : 0 ≤ i) (hj : 0 ≤ j) : Builtin.bitOr i j = orJ i j := L2.bitOr_nn hi hj
theorem bitAnd_J {i j : Int} (hi : 0 ≤ i) (hj : 0 ≤ j) : Builtin.bitAnd i j = andJ i j := by
  obtain ⟨m, rfl⟩ := Int.eq_ofNat_of_zero_le hi
  obtain ⟨n, rfl⟩ := Int.eq_ofNat_of_zero_le hj
  rfl
theorem xor_sum : ∀ m n : Nat, (m ^^^ n) + 2 * (m &&& n) = m + n := by
  intro m
  induction m using Nat.strongRecOn with
  | ind m ih =>
    intro n
    by_cases h0 : m = 0
    · subst h0
      simp
    · have e := ih (m / 2) (by omega) (n / 2)
      have h1 : (m ^^^ n) / 2 = m / 2 ^^^ n / 2 := Nat.xor_div_two
      have h2 : (m &&& n) / 2 = m / 2 &&& n / 2 := Nat.and_div_two
      have e := ih (m / 2) (by omega) (n / 2)
      rw [← h1, ← h2] at e
      have h3 : (m ^^^ n) % 2 = m % 2 ^^^ n % 2 := Nat.xor_mod_two_pow (n := 1)
      have h4 : (m &&& n) % 2 = m % 2 &&& n % 2 := Nat.and_mod_two_pow (n := 1)
      rcases Nat.mod_two_eq_zero_or_one m with a | a <;> rcases Nat.mod_two_eq_zero_or_one n with b | b <;> rw [a, b] at h3 h4 <;> simp only [Nat.xor_self, Nat.zero_xor, Nat.xor_zero, Nat.and_self, Nat.zero_and, Nat.and_zero] at h3 h4 <;> omega
theorem bitXor_J {i j : Int} (hi : 0 ≤ i) (hj : 0 ≤ j) : Builtin.bitXor i j = xorJ i j := by
  have e : Builtin.bitXor i j = orJ i j - andJ i j := by rw [← bitOr_J hi hj, ← bitAnd_J hi hj]; rfl
  have e2 : Builtin.bitOr i j = i + j - Builtin.bitAnd i j := PyProof.Rows.bitOr_and i j
  rw [bitOr_J hi hj, bitAnd_J hi hj] at e2
  have e3 := xor_sum i.toNat j.toNat
  rw [e, e2]
  unfold andJ xorJ
  omega
theorem je_or2 (ha : JE X F g a (rO tI) wa) (hb : JE X F g b (rO tI) wb) : JE X F g (.BinOp a .BitOr b pos) (rO tI) (fun k => wa fun x => wb fun y => (0 ≤ x ∧ 0 ≤ y) ∧ k (orJ x y)) :=
  je_opR (C := fun x y k => (0 ≤ x ∧ 0 ≤ y) ∧ k (orJ x y)) op_or (fun _ x y _ _ H v u P Q k h1 h2 w q => ⟨x, y, h1, h2, by show Q (.int (Builtin.bitOr x y)) H; rw [bitOr_J w.1.1 w.1.2]; exact q _ _ H w.2 (Same.refl H) rfl⟩) ha hb
theorem je_and2 (ha : JE X F g a (rO tI) wa) (hb : JE X F g b (rO tI) wb) : JE X F g (.BinOp a .BitAnd b pos) (rO tI) (fun k => wa fun x => wb fun y => (0 ≤ x ∧ 0 ≤ y) ∧ k (andJ x y)) :=
  je_opR (C := fun x y k => (0 ≤ x ∧ 0 ≤ y) ∧ k (andJ x y)) op_and (fun _ x y _ _ H v u P Q k h1 h2 w q => ⟨x, y, h1, h2, by show Q (.int (Builtin.bitAnd x y)) H; rw [bitAnd_J w.1.1 w.1.2]; exact q _ _ H w.2 (Same.refl H) rfl⟩) ha hb
theorem je_xor2 (ha : JE X F g a (rO tI) wa) (hb : JE X F g b (rO tI) wb) : JE X F g (.BinOp a .BitXor b pos) (rO tI) (fun k => wa fun x => wb fun y => (0 ≤ x ∧ 0 ≤ y) ∧ k (xorJ x y)) :=
  je_opR (C := fun x y k => (0 ≤ x ∧ 0 ≤ y) ∧ k (xorJ x y)) op_xor (fun _ x y _ _ H v u P Q k h1 h2 w q => ⟨x, y, h1, h2, by show Q (.int (Builtin.bitXor x y)) H; rw [bitXor_J w.1.1 w.1.2]; exact q _ _ H w.2 (Same.refl H) rfl⟩) ha hb
theorem je_shr (ha : JE X F g a (rO tI) wa) (hb : JE X F g b (rO tI) wb) : JE X F g (.BinOp a .RShift b pos) (rO tI) (fun k => wa fun x => wb fun y => 0 ≤ y ∧ k (x / 2 ^ y.toNat)) :=
  je_opR (C := fun x y k => 0 ≤ y ∧ k (x / 2 ^ y.toNat)) op_shr (fun _ x y _ _ H v u P Q k h1 h2 w q => ⟨x, y, h1, h2, w.1, q _ _ H w.2 (Same.refl H) rfl⟩) ha hb
theorem je_shl (ha : JE X F g a (rO tI) wa) (hb : JE X F g b (rO tI) wb) : JE X F g (.BinOp a .LShift b pos) (rO tI) (fun k => wa fun x => wb fun y => (0 ≤ y ∧ y ≤ 1000000 ∧ x.natAbs < 2 ^ 64) ∧ k (x * 2 ^ y.toNat)) :=
  je_opR (C := fun (x y : Int) k => (0 ≤ y ∧ y ≤ 1000000 ∧ x.natAbs < 2 ^ 64) ∧ k (x * 2 ^ y.toNat)) op_shl (fun _ x y _ _ H v u P Q k h1 h2 w q => ⟨x, y, h1, h2, w.1, q _ _ H w.2 (Same.refl H) rfl⟩) ha hb
theorem je_bits (ho : JE X F g o (rO tI) wa) (hbase : attributeBase o "bit_length" X.env (eval o X.env) = eval o X.env := by rfl) (hline : (apos.endLine == pos.line) = true := by rfl) : JE X F g (.Call (.Attribute o "bit_length" apos) [] [] pos) (rO tI) (fun k => wa fun x => k (Builtin.Int.intBits x : Nat)) :=
  peW (pe_bits ho hbase hline) fun σ H Q ⟨k, P, w, q⟩ => ⟨k, _, w, fun x v H1 w1 s1 r1 => ⟨x, r1, q _ _ H1 w1 s1 rfl⟩⟩
/-! ### max, min -/
theorem je_max2 (hg : Gl X "max") (hm : X.mg "max" = none) (ha : JE X F g a (rO tI) wa) (hb : JE X F g b (rO tI) wb) (hc : X.calm = true := by rfl) (he : starEach [a, b] X.env = (false, eval a X.env) :: starEach [b] X.env := by rfl) (he2 : starEach [b] X.env = (false, eval b X.env) :: starEach [] X.env := by rfl) (hpl : (backTo pos (starEach [b] X.env)).any (·.1) = false := by rfl) :
    JE X F g (.Call (.Name "max" p) [a, b] [] pos) (rO tI) (fun k => wa fun x => wb fun y => k (if y > x then y else x)) :=
  je_callB (T := aC tI (aC tI aN)) (C := fun t k => k (if t.2.1 > t.1 then t.2.1 else t.1)) (call_max2 hc) (fun _ t H vs P Q k ⟨v, r, e1, r1, v2, r', e2, r2, e3⟩ c q => ⟨t.1, t.2.1, by rw [e1, e2, (e3 : r' = []), (r1 : v = _), (r2 : v2 = _)], q _ _ H c (Same.refl H) rfl⟩) hg hm (by decide +kernel) (jb_cons (je_b ha) (jb_cons (je_b hb) jb_nil he2) he) (by decide) (by decide) he hpl
theorem je_min2 (hg : Gl X "min") (hm : X.mg "min" = none) (ha : JE X F g a (rO tI) wa) (hb : JE X F g b (rO tI) wb) (hc : X.calm = true := by rfl) (he : starEach [a, b] X.env = (false, eval a X.env) :: starEach [b] X.env := by rfl) (he2 : starEach [b] X.env = (false, eval b X.env) :: starEach [] X.env := by rfl) (hpl : (backTo pos (starEach [b] X.env)).any (·.1) = false := by rfl) :
    JE X F g (.Call (.Name "min" p) [a, b] [] pos) (rO tI) (fun k => wa fun x => wb fun y => k (if y < x then y else x)) :=
  je_callB (T := aC tI (aC tI aN)) (C := fun t k => k (if t.2.1 < t.1 then t.2.1 else t.1)) (call_min2 hc) (fun _ t H vs P Q k ⟨v, r, e1, r1, v2, r', e2, r2, e3⟩ c q => ⟨t.1, t.2.1, by rw [e1, e2, (e3 : r' = []), (r1 : v = _), (r2 : v2 = _)], q _ _ H c (Same.refl H) rfl⟩) hg hm (by decide +kernel) (jb_cons (je_b ha) (jb_cons (je_b hb) jb_nil he2) he) (by decide) (by decide) he hpl
theorem je_minL {w : (List Int → Prop) → Prop} (hg : Gl X "min") (hm : X.mg "min" = none) (ha : JE X F g e (rB (tL X.K tI)) w) (hc : X.calm = true := by rfl) (he : starEach [e] X.env = (false, eval e X.env) :: starEach [] X.env := by rfl) (hpl : (backTo pos (starEach [] X.env)).any (·.1) = false := by rfl) :
    JE X F g (.Call (.Name "min" p) [e] [] pos) (rO tI) (fun k => w fun xs => 0 < xs.length ∧ ∀ m, m ∈ xs → (∀ y, y ∈ xs → m ≤ y) → k m) :=
  je_callB (T := aC (tL X.K tI) aN) (C := fun t k => 0 < t.1.length ∧ ∀ m, m ∈ t.1 → (∀ y, y ∈ t.1 → m ≤ y) → k m) (cr_min hc) (fun _ t H vs P Q k ⟨v, r, e1, ⟨a, us, ev, hs, hp⟩, e2⟩ c q => ⟨a, t.1, by rw [e1, (e2 : r = []), ev], by rw [← paired_int hp]; exact hs, c.1, fun m h1 h2 => q _ _ H (c.2 m h1 h2) (Same.refl H) rfl⟩) hg hm (by decide +kernel) (jb_cons ha jb_nil he) (by decide) (by decide) he hpl
/-! ### chains of comparisons of ints -/
theorem lt_r : CmpOk F g (rO tI) (rO tI) (fun x y H Q => ∃ i j, x = .int i ∧ y = .int j ∧ Q (.bl (decide (i < j))) H) (fun x y k => k (decide (x < y))) := fun _ x y _ _ H v u P Q k h1 h2 p q => ⟨x, y, h1, h2, q _ H p (Same.refl H)⟩
theorem le_r : CmpOk F g (rO tI) (rO tI) (fun x y H Q => ∃ i j, x = .int i ∧ y = .int j ∧ Q (.bl (decide (i ≤ j))) H) (fun x y k => k (decide (x ≤ y))) := fun _ x y _ _ H v u P Q k h1 h2 p q => ⟨x, y, h1, h2, q _ H p (Same.refl H)⟩
theorem chain_core {op op' : CmpOp} {r r' : R2} {f f' : Int → Int → Bool} (hr : CmpOk F g (rO tI) (rO tI) r (fun x y k => k (f x y))) (hr' : CmpOk F g (rO tI) (rO tI) r' (fun x y k => k (f' x y))) {σ : L2.St} {H : Hp} {Q : VK} {P : Bool → Prop} {P0 : Prop}
    (k : g.Ok F σ H) (w : wa fun x => wb fun y => (f x y = true → wc fun z => P (f' y z)) ∧ (f x y = false → P0)) (q : ∀ z H', P z → Same H H' → Q (.bl z) H') (q0 : P0 → ∀ H', Same H H' → Q (.bl false) H') :
    tChain r r' (RJ F g (rO tI) wa) (RJ F g (rO tI) wb) (RJ F g (rO tI) wc) σ H Q :=
  ⟨k, _, w, fun x v H1 w1 s1 r1 => ⟨k.step s1, _, w1, fun y u H2 w2 s2 r2 => hr σ x y H H1 H2 v u (fun b => b = f x y) _ (k.step (s1.trans s2)) r1 r2 rfl fun z H3 ez s3 => ⟨z, rfl, by
    subst ez
    cases e : f x y with
    | true =>
      rw [if_pos rfl]
      exact ⟨k.step (s1.trans (s2.trans s3)), _, w2.1 e, fun t v' H4 w4 s4 r4 => hr' σ y t H1 H3 H4 u v' P Q (k.step (s1.trans (s2.trans (s3.trans s4)))) r2 r4 w4 fun z' H5 p5 s5 => q z' H5 p5 (s1.trans (s2.trans (s3.trans (s4.trans s5))))⟩
    | false =>
      rw [if_neg (by decide)]
      exact q0 (w2.2 e) H3 (s1.trans (s2.trans s3))⟩⟩⟩
variable (ha : JE X F g a (rO tI) wa) (hb : JE X F g b (rO tI) wb) (hc : JE X F g c (rO tI) wc)
include ha hb hc
theorem jt_chain {op op' : CmpOp} {r r' : R2} {f f' : Int → Int → Bool} (ho : OpR X (compareOp op) r) (ho' : OpR X (compareOp op') r') (hr : CmpOk F g (rO tI) (rO tI) r (fun x y k => k (f x y))) (hr' : CmpOk F g (rO tI) (rO tI) r' (fun x y k => k (f' x y))) (hm : lastMarks [op, op'] [b, c] = false) :
    JT X F g (.Compare a [op, op'] [b, c] pos) (fun Ya No => wa fun x => wb fun y => (f x y = true → wc fun z => (f' y z = true → Ya) ∧ (f' y z = false → No)) ∧ (f x y = false → No)) :=
  ptW (pt_chain ho ho' ha hb hc hm) fun σ H Q ⟨k, Ya, No, w, qa, qb⟩ => chain_core (op := op) (op' := op') (P := fun t => (t = true → Ya) ∧ (t = false → No)) (P0 := No) hr hr' k w (fun z H' p s => ⟨z, rfl, by
      cases z with
      | true => exact qa (p.1 rfl) H' s
      | false => exact qb (p.2 rfl) H' s⟩) fun p H' s => ⟨false, rfl, qb p H' s⟩
theorem jt_leLt (hm : lastMarks [.LtE, .Lt] [b, c] = false := by with_unfolding_all rfl) : JT X F g (.Compare a [.LtE, .Lt] [b, c] pos) (fun Ya No => wa fun x => wb fun y => (decide (x ≤ y) = true → wc fun z => (decide (y < z) = true → Ya) ∧ (decide (y < z) = false → No)) ∧ (decide (x ≤ y) = false → No)) := jt_chain ha hb hc op_le op_lt le_r lt_r hm
theorem jt_leLe (hm : lastMarks [.LtE, .LtE] [b, c] = false := by with_unfolding_all rfl) : JT X F g (.Compare a [.LtE, .LtE] [b, c] pos) (fun Ya No => wa fun x => wb fun y => (decide (x ≤ y) = true → wc fun z => (decide (y ≤ z) = true → Ya) ∧ (decide (y ≤ z) = false → No)) ∧ (decide (x ≤ y) = false → No)) := jt_chain ha hb hc op_le op_le le_r le_r hm
theorem jt_ltLt (hm : lastMarks [.Lt, .Lt] [b, c] = false := by with_unfolding_all rfl) : JT X F g (.Compare a [.Lt, .Lt] [b, c] pos) (fun Ya No => wa fun x => wb fun y => (decide (x < y) = true → wc fun z => (decide (y < z) = true → Ya) ∧ (decide (y < z) = false → No)) ∧ (decide (x < y) = false → No)) := jt_chain ha hb hc op_lt op_lt lt_r lt_r hm
end
end
end J
/-! A10: zip, copies of lists, slices of tuples and texts, displays with stars -/
namespace J
open PySem PySem.Spec L2 PyProof.Rows ClX RZ
section
variable {X : Cx} {F : Fr} {g : Gm} {α β γ ρ τ κ : Type}
/-! ### zip -/
theorem zip_get {xs : List α} {ys : List β} {i : Nat} {p : α × β} (h : (xs.zip ys)[i]? = some p) : xs[i]? = some p.1 ∧ ys[i]? = some p.2 := by
  rw [List.getElem?_zip_eq_some] at h
  exact h
theorem itz_at {as : List Addr} {K : PySem.W.Frag} {l m : Addr} {vs us : List V} {xs : List α} {ys : List β} {A : Ty α} {B : Ty β} {H : Hp} (hf : ∀ T, H T = none → T ∉ as ∧ F.H T = none) (h1 : SqL K H l vs) (h2 : SqL K H m us) (r1 : Paired (A.rel (bsA F as H)) vs xs) (r2 : Paired (B.rel (bsA F as H)) us ys) :
    ItAt F as (Itz K l m) (tT K (a2 A B)) (xs.zip ys) H :=
  ⟨fun i p e => by
    obtain ⟨e1, e2⟩ := zip_get e
    obtain ⟨v, hv, rv⟩ := Paired.at r1 e1
    obtain ⟨u, hu, ru⟩ := Paired.at r2 e2
    refine ⟨⟨vs, us, v, u, h1, h2, hv, hu⟩, fun t H' ⟨T, x, y, et, hT, eH, hx, hy⟩ => ?_⟩
    obtain rfl : x = v := Option.some.inj ((hx vs h1).symm.trans hv)
    obtain rfl : y = u := Option.some.inj ((hy us h2).symm.trans hu)
    subst eH
    obtain ⟨n1, n2⟩ := hf T hT
    exact ⟨same_upd hT, T, _, et, .inl (.inl (bsA_of n1 n2 upd_same)), x, y, rfl, A.same (bsA_mono (same_upd hT)) rv, B.same (bsA_mono (same_upd hT)) ru⟩, fun i hi => by
    rw [List.length_zip] at hi
    exact ⟨vs, us, h1, h2, by rw [Paired.len r1, Paired.len r2]; omega⟩⟩
theorem itzT_at {as : List Addr} {K : PySem.W.Frag} {l m : Addr} {vs us : List V} {xs : List α} {ys : List β} {A : Ty α} {B : Ty β} {H : Hp} (hf : ∀ T, H T = none → T ∉ as ∧ F.H T = none) (h1 : SqT K H l vs) (h2 : SqT K H m us) (r1 : Paired (A.rel (bsA F as H)) vs xs) (r2 : Paired (B.rel (bsA F as H)) us ys) :
    ItAt F as (ItzT K l m) (tT K (a2 A B)) (xs.zip ys) H :=
  ⟨fun i p e => by
    obtain ⟨e1, e2⟩ := zip_get e
    obtain ⟨v, hv, rv⟩ := Paired.at r1 e1
    obtain ⟨u, hu, ru⟩ := Paired.at r2 e2
    refine ⟨⟨vs, us, v, u, h1, h2, hv, hu⟩, fun t H' ⟨T, x, y, et, hT, eH, hx, hy⟩ => ?_⟩
    obtain rfl : x = v := Option.some.inj ((hx vs h1).symm.trans hv)
    obtain rfl : y = u := Option.some.inj ((hy us h2).symm.trans hu)
    subst eH
    obtain ⟨n1, n2⟩ := hf T hT
    exact ⟨same_upd hT, T, _, et, .inl (.inl (bsA_of n1 n2 upd_same)), x, y, rfl, A.same (bsA_mono (same_upd hT)) rv, B.same (bsA_mono (same_upd hT)) ru⟩, fun i hi => by
    rw [List.length_zip] at hi
    exact ⟨vs, us, h1, h2, by rw [Paired.len r1, Paired.len r2]; omega⟩⟩
section
variable {elts : List Expr} {kk : Nat} {tpos p pos : Pos} {e e2 : Expr} {A : Ty α} {B : Ty β} {wa : (List α → Prop) → Prop} {wb : (List β → Prop) → Prop} {vs : List Nat}
/-- over zip(a, b), two tuples -/
theorem ji_zipT (hg : Gl X "zip") (hm : X.mg "zip" = none) (ha : JE X F g e (rO (tT X.K (aV A))) wa) (hb : JE X F g e2 (rO (tT X.K (aV B))) wb)
    (hs : starEach [e, e2] X.env = (false, eval e X.env) :: starEach [e2] X.env := by rfl) (hs2 : starEach [e2] X.env = (false, eval e2 X.env) :: starEach [] X.env := by rfl) (hpl : (backTo pos (starEach [e2] X.env)).any (·.1) = false := by rfl) :
    PI X (.Tuple elts kk tpos) (.Call (.Name "zip" p) [e, e2] [] pos) (RI F g (tT X.K (a2 A B)) (fun k => wa fun xs => wb fun ys => k (xs.zip ys)) vs) :=
  piW (pi_zipA hg hm (pa_cons ha (pa_cons hb pa_nil hs2) hs) hs hpl) fun σ H R ⟨k, P, w, q⟩ => ⟨k, _, w, fun xs v H1 w1 s1 r1 => ⟨k.step s1, _, w1, fun ys u H2 w2 s2 r2 => by
    have k2 := k.step (s1.trans s2)
    have r1' := (tT X.K (aV A)).same (Gm.mono s2) r1
    obtain ⟨l, us, ev, hq, hr⟩ := r1'
    obtain ⟨m, ws, eu, hq2, hr2⟩ := r2
    refine ⟨l, m, us, ws, by rw [ev, eu], .inr ⟨k2.le.sqT' hq, k2.le.sqT' hq2, q (xs.zip ys) _ [.fix (tT X.K (aV A)) v xs, .fix (tT X.K (aV B)) u ys] H2 w2 (s1.trans s2) (fun c hc => ?_) ((k2.fixed ((⟨m, ws, eu, hq2, hr2⟩ : (tT X.K (aV B)).rel _ u ys))).fixed (⟨l, us, ev, hq, hr⟩ : (tT X.K (aV A)).rel _ v xs)) fun σ' H' l' o => ?_⟩⟩
    · rcases List.mem_cons.mp hc with rfl | hc
      · rfl
      · cases List.mem_singleton.mp hc
        rfl
    · obtain ⟨l2, w2, e2, h2, r2⟩ := (show (tT X.K (aV A)).rel _ v xs from o.cells (.fix (tT X.K (aV A)) v xs) (List.mem_append_right _ (List.mem_append_left _ List.mem_cons_self)))
      obtain ⟨m2, w3, e3, h3, r3⟩ := (show (tT X.K (aV B)).rel _ u ys from o.cells (.fix (tT X.K (aV B)) u ys) (List.mem_append_right _ (List.mem_append_left _ (List.mem_cons_of_mem _ List.mem_cons_self))))
      rw [ev] at e2
      rw [eu] at e3
      cases e2
      cases e3
      exact itzT_at (fun T hT => ⟨o.fresh hT, o.same.free hT⟩) (o.le.sqT' h2) (o.le.sqT' h3) r2 r3⟩⟩
theorem ji_zipL (hg : Gl X "zip") (hm : X.mg "zip" = none) (ha : JE X F g e (rO (tK A)) wa) (hb : JE X F g e2 (rO (tK B)) wb)
    (hs : starEach [e, e2] X.env = (false, eval e X.env) :: starEach [e2] X.env := by rfl) (hs2 : starEach [e2] X.env = (false, eval e2 X.env) :: starEach [] X.env := by rfl) (hpl : (backTo pos (starEach [e2] X.env)).any (·.1) = false := by rfl) :
    PI X (.Tuple elts kk tpos) (.Call (.Name "zip" p) [e, e2] [] pos) (RI F g (tT X.K (a2 A B)) (fun k => wa fun xs => wb fun ys => k (xs.zip ys)) vs) :=
  piW (pi_zipA hg hm (pa_cons ha (pa_cons hb pa_nil hs2) hs) hs hpl) fun σ H R ⟨k, P, w, q⟩ => ⟨k, _, w, fun xs v H1 w1 s1 r1 => ⟨k.step s1, _, w1, fun ys u H2 w2 s2 r2 => by
    have k2 := k.step (s1.trans s2)
    have r1' := (tK A).same (Gm.mono s2) r1
    obtain ⟨l, us, ev, hq, hr⟩ := r1'
    obtain ⟨m, ws, eu, hq2, hr2⟩ := r2
    refine ⟨l, m, us, ws, by rw [ev, eu], .inl ⟨.inl (.inl (k2.le _ _ hq)), .inl (.inl (k2.le _ _ hq2)), q (xs.zip ys) _ [.fix (tK A) v xs, .fix (tK B) u ys] H2 w2 (s1.trans s2) (fun c hc => ?_) ((k2.fixed ((⟨m, ws, eu, hq2, hr2⟩ : (tK B).rel _ u ys))).fixed (⟨l, us, ev, hq, hr⟩ : (tK A).rel _ v xs)) fun σ' H' l' o => ?_⟩⟩
    · rcases List.mem_cons.mp hc with rfl | hc
      · rfl
      · cases List.mem_singleton.mp hc
        rfl
    · obtain ⟨l2, w2, e2, h2, r2⟩ := (show (tK A).rel _ v xs from o.cells (.fix (tK A) v xs) (List.mem_append_right _ (List.mem_append_left _ List.mem_cons_self)))
      obtain ⟨m2, w3, e3, h3, r3⟩ := (show (tK B).rel _ u ys from o.cells (.fix (tK B) u ys) (List.mem_append_right _ (List.mem_append_left _ (List.mem_cons_of_mem _ List.mem_cons_self))))
      rw [ev] at e2
      rw [eu] at e3
      cases e2
      cases e3
      exact itz_at (fun T hT => ⟨o.fresh hT, o.same.free hT⟩) (.inl (.inl (o.le _ _ h2))) (.inl (.inl (o.le _ _ h3))) r2 r3⟩⟩
end
/-! ### copies of a list -/
section
variable {a b e : Expr} {pos p : Pos} {A : Ty α} {wa : (List α → Prop) → Prop} {wb : (Int → Prop) → Prop}
theorem flat_rep {γ δ : Type} {R : γ → δ → Prop} {vs : List γ} {xs : List δ} (h : Paired R vs xs) : ∀ n : Nat, Paired R (List.replicate n vs).flatten (List.replicate n xs).flatten
  | 0 => .nil
  | n + 1 => by
    rw [List.replicate_succ, List.replicate_succ, List.flatten_cons, List.flatten_cons]
    exact Paired.app h (flat_rep h n)
theorem je_rep (ha : JE X F g a (rEK A) wa) (hb : JE X F g b (rO tI) wb) : JE X F g (.BinOp a .Mult b pos) (rN A) (fun k => wa fun xs => wb fun n => (-1000000 ≤ n ∧ n ≤ 1000000 ∧ xs.length * n.toNat ≤ 1000000) ∧ k (List.replicate n.toNat xs).flatten) :=
  je_opR (S := rEK A) (T := rO tI) (R := rN A) (C := fun xs n k => (-1000000 ≤ n ∧ n ≤ 1000000 ∧ xs.length * n.toNat ≤ 1000000) ∧ k (List.replicate n.toNat xs).flatten) op_rep (fun _ x n _ _ H v u P Q k ⟨l, vs, e1, h1, r1⟩ h2 ⟨w1, w2⟩ q =>
    ⟨l, n, vs, e1, h2, h1, by omega, by omega, Nat.le_trans (by rw [Paired.len r1]; exact w1.2.2) (by decide : 1000000 ≤ sizeLine), fun z hz => q _ _ _ w2 (same_upd hz) ⟨z, _, rfl, hz, k.bs_new hz, flat_rep (Paired.imp (fun _ _ r => A.same (k.rm_new hz) r) r1) _⟩⟩) ha hb
/-- tuple(a tuple) -/
theorem je_tupleT (hg : Gl X "tuple") (hm : X.mg "tuple" = none) (ha : JE X F g e (rO (tT X.K (aV A))) wa) (he : starEach [e] X.env = (false, eval e X.env) :: starEach [] X.env := by rfl) (hpl : (backTo pos (starEach [] X.env)).any (·.1) = false := by rfl) :
    JE X F g (.Call (.Name "tuple" p) [e] [] pos) (rO (tT X.K (aV A))) wa :=
  peW (pe_callTy call_tuple_of hg hm (by decide +kernel) (ja_1 ha he) (by decide) (by decide) he hpl) fun σ H Q ⟨k, P, w, q⟩ => ⟨k, P, w, fun xs v H1 w1 s1 r => by
    obtain ⟨a, us, ev, hs, hp⟩ := id r
    exact ⟨a, us, by rw [ev], .inr ⟨(k.step s1).le.sqT' hs, by rw [← ev]; exact q xs v H1 w1 s1 r⟩⟩⟩
/-- t[lo:hi] of a tuple -/
theorem je_slT {lo hi : Option Expr} {p2 : Pos} {wl wh : (Option Int → Prop) → Prop} (he : JE X F g e (rO (tT X.K (aV A))) wa) (hl : PO X lo (RP F g wl)) (hh : PO X hi (RP F g wh)) :
    JE X F g (.Subscript e (.Slice lo hi none p2) pos) (rO (tT X.K (aV A))) (fun k => wa fun xs => wl fun i => wh fun j => k (cutI xs i j)) :=
  peW (pe_slice sl_tupA he hl hh) fun σ H Q ⟨k, P, w, q⟩ => ⟨k, _, w, fun xs v H1 w1 s1 r1 => ⟨k.step s1, _, w1, fun i H2 w2 s2 => ⟨k.step (s1.trans s2), _, w2, fun j H3 w3 s3 => by
    have s13 := s1.trans (s2.trans s3)
    have k3 := k.step s13
    have r3 := (tT X.K (aV A)).same (Gm.mono (s2.trans s3)) r1
    obtain ⟨a, us, ev, hs, hp⟩ := id r3
    refine ⟨a, us, ev, k3.le.sqT' hs, fun hw => ?_, fun _ l hl => q _ _ _ w3 (s13.trans (same_upd hl)) ⟨l, _, rfl, .inl (.inl (k3.bs_new hl)), cut_pair (Paired.imp (fun _ _ r => A.same (Gm.mono (same_upd hl)) r) hp) i j⟩⟩
    rw [← ev]
    have e : cutI xs i j = xs := by
      have ln := Paired.len hp
      rw [sIxJ_eq, sIxJ_eq, ln] at hw
      unfold cutI
      rw [hw.1, hw.2]
      simp
    refine q _ v H3 w3 s13 ?_
    rw [e]
    exact r3⟩⟩⟩
end
/-! ### texts -/
section
variable {a b e o : Expr} {pos apos p : Pos} {wo : (Str → Prop) → Prop}
theorem paired_str {vs : List V} {xs : List Str} (h : Paired (fun (v : V) (a : Str) => v = .str a) vs xs) : vs = xs.map V.str := by
  induction h with
  | nil => rfl
  | cons x _ ih => rw [x, ih]; rfl
theorem je_join {we : (List Str → Prop) → Prop} (ho : JE X F g o (rO tS) wo) (he : JE X F g e (rE X.K tS) we) (hs : starEach [e] X.env = [(false, eval e X.env)] := by rfl) (hbase : attributeBase o "join" X.env (eval o X.env) = eval o X.env := by rfl) (hline : (apos.endLine == pos.line) = true := by rfl) :
    JE X F g (.Call (.Attribute o "join" apos) [e] [] pos) (rO tS) (fun k => wo fun a => we fun ys => ((ys.map (·.length)).sum + ys.length * a.length ≤ 16777216 ∧ k (Str.join a ys))) :=
  peW (pe_join ho he hs hbase hline) fun σ H Q ⟨k, P, w, q⟩ => ⟨k, _, w, fun a v H1 w1 s1 r1 => ⟨⟨a, r1⟩, k.step s1, _, w1, fun ys u H2 ⟨w2, w3⟩ s2 r2 => by
    obtain ⟨p, us, ev, hq, hp⟩ := r2
    exact ⟨a, p, ys, r1, by rw [ev], .inl (by rw [← paired_str hp]; exact hq), w2, by rw [TL.join_eq]; exact q _ _ H2 w3 (s1.trans s2) rfl⟩⟩⟩
theorem je_addS {wa wb : (Str → Prop) → Prop} (ha : JE X F g a (rO tS) wa) (hb : JE X F g b (rO tS) wb) : JE X F g (.BinOp a .Add b pos) (rO tS) (fun k => wa fun x => wb fun y => (x.length + y.length ≤ 1000000 ∧ k (x ++ y))) :=
  je_opR (S := rO tS) (T := rO tS) (R := rO tS) (C := fun x y k => x.length + y.length ≤ 1000000 ∧ k (x ++ y)) op_add_str (fun _ x y _ _ H v u P Q k h1 h2 ⟨w1, w2⟩ q => ⟨x, y, h1, h2, Nat.le_trans w1 (by decide), q _ _ H w2 (Same.refl H) rfl⟩) ha hb
theorem je_countS {we : (Str → Prop) → Prop} (ho : JE X F g o (rO tS) wo) (he : JE X F g e (rO tS) we) (hs : starEach [e] X.env = [(false, eval e X.env)] := by rfl) (hbase : attributeBase o "count" X.env (eval o X.env) = eval o X.env := by rfl) (hline : (apos.endLine == pos.line) = true := by rfl) :
    JE X F g (.Call (.Attribute o "count" apos) [e] [] pos) (rO tI) (fun k => wo fun a => we fun b => k (Txt.count a b)) :=
  peW (pe_m1 PySem.F.slot_str_count PySem.F.type_str_count mt_count ho he hs hbase hline) fun σ H Q ⟨k, P, w, q⟩ => ⟨k, _, w, fun a v H1 w1 s1 r1 => ⟨⟨a, r1⟩, k.step s1, _, w1, fun b u H2 w2 s2 r2 => ⟨a, b, r1, by rw [(r2 : u = _)], q _ _ H2 w2 (s1.trans s2) rfl⟩⟩⟩
/-- z[lo:hi] -/
theorem je_slS {lo hi : Option Expr} {p2 : Pos} {wl wh : (Option Int → Prop) → Prop} (he : JE X F g e (rO tS) wo) (hl : PO X lo (RP F g wl)) (hh : PO X hi (RP F g wh)) :
    JE X F g (.Subscript e (.Slice lo hi none p2) pos) (rO tS) (fun k => wo fun z => wl fun i => wh fun j => (z.length ≤ 1000000 ∧ k (Txt.slice z i j))) :=
  peW (pe_slice C8.sl_txt he hl hh) fun σ H Q ⟨k, P, w, q⟩ => ⟨k, _, w, fun xs v H1 w1 s1 r1 => ⟨k.step s1, _, w1, fun i H2 w2 s2 => ⟨k.step (s1.trans s2), _, w2, fun j H3 w3 s3 => ⟨xs, r1, Nat.le_trans w3.1 (by decide), q _ _ _ w3.2 (s1.trans (s2.trans s3)) rfl⟩⟩⟩⟩
theorem je_lenS (hg : Gl X "len") (hm : X.mg "len" = none) (ha : JE X F g e (rO tS) wo) (he : starEach [e] X.env = (false, eval e X.env) :: starEach [] X.env := by rfl) (hpl : (backTo pos (starEach [] X.env)).any (·.1) = false := by rfl) :
    JE X F g (.Call (.Name "len" p) [e] [] pos) (rO tI) (fun k => wo fun z => (z.length ≤ 1000000 ∧ k (z.length : Int))) :=
  je_callB (T := aC tS aN) (C := fun t k => t.1.length ≤ 1000000 ∧ k (t.1.length : Int)) call_len_str (fun _ t H vs P Q k ⟨v, r, e1, r1, e2⟩ c q => ⟨t.1, by rw [e1, (e2 : r = []), (r1 : v = _)], Nat.le_trans c.1 (by decide), q _ _ H c.2 (Same.refl H) rfl⟩) hg hm PySem.boot_len (jb_cons (je_b ha) jb_nil he) (by decide) (by decide) he hpl
/-- z[::-1] -/
theorem je_revS {k : Nat} {p1 p2 p3 : Pos} (he : JE X F g e (rO tS) wo) : JE X F g (.Subscript e (.Slice none none (some (.UnaryOp .USub (.Constant (.int 1) k p1) p2)) p3) pos) (rO tS) (fun k => wo fun z => (z.length ≤ 1000000 ∧ k (revJ z))) := by
  refine ⟨fun pins s σ H Q I ⟨kk, P, w, q⟩ => ?_⟩
  refine Subscript_ (thn (he.run pins s σ H (fun v H1 => ∃ z, v = .str z ∧ z.length ≤ 1000000 ∧ P (revJ z) ∧ Same H H1) I ⟨kk, _, w, fun z v H1 w1 s1 r1 => ⟨z, r1, w1.1, w1.2, s1⟩⟩) fun v s1 ⟨x, H1, I1, r1, q1⟩ => ?_)
  obtain ⟨z, ex, hz, pz, sm⟩ := q1
  subst ex
  obtain ⟨tk, rfl⟩ := r1
  have hst : PO X (some (.UnaryOp .USub (.Constant (.int 1) k p1) p2)) (tPart (tUn (rU fun i => .int (-i)) (L2.tC (.int 1)))) := po_some (pe_un un_neg pe_int)
  refine wpAny_Slice (thn (po_none.run pins s1 σ H1 (fun o H2 => o = none ∧ H2 = H1) I1 ⟨rfl, rfl⟩) fun vl s2 ⟨l, H2, I2, pl, el, e2⟩ => ?_)
  subst el e2
  refine thn (po_none.run pins s2 σ H2 (fun o H3 => o = none ∧ H3 = H2) I2 ⟨rfl, rfl⟩) fun vu s3 ⟨u, H3, I3, pu, eu, e3⟩ => ?_
  subst eu e3
  refine thn (hst.run pins s3 σ H3 (fun o H4 => o = some (-1) ∧ H4 = H3) I3 ⟨1, rfl, -1, rfl, rfl, rfl⟩) fun vs s4 ⟨o, H4, I4, ps, eo, e4⟩ => ?_
  subst eo e4
  have I5 : Inv X pins σ H4 { s4 with heap := s4.heap.push { cls := .type "slice", data := .fields #[vl, vu, vs] } } := I4.kept (t' := s4.toks) fun b ob q => Heap.get?_push_of_some _ q
  obtain ⟨l1, rfl, h1⟩ := IsPart.raw pl
  obtain ⟨u1, rfl, h2⟩ := IsPart.raw pu
  obtain ⟨o1, rfl, h3⟩ := IsPart.raw ps
  show wpAny (model X.prog X.w) X.A (subscriptTail e (.Slice none none (some (.UnaryOp .USub (.Constant (.int 1) k p1) p2)) p3) (.str z tk) (.ref s4.heap.objs.size)) (EP X pins σ Q) X.xe _
  refine tail_any (ops := [.ref s4.heap.objs.size, .str z tk]) (typeIs_str _ _ _) (PySem.F.slot_str_getitem.lookup) ?_ (by with_unfolding_all rfl)
  refine wpAny_getItem_str_slice (l := l1) (u := u1) (st := o1) ⟨_, Heap.get?_push_size _ rfl, rfl, rfl⟩ (by rw [h3]; rfl) ?_
  unfold sliceMade slicePicked
  rw [h1, h2, h3]
  have hc : ¬ ((((some (-1 : Int)).getD 1 == 1) && (Builtin.Str.strSliceIndices none none ((some (-1 : Int)).getD 1) z.length).length == z.length) = true) := by
    show ¬ ((((-1 : Int) == 1) && _) = true)
    simp
  rw [if_neg hc]
  have e1 : (⟨((Builtin.Str.strSliceIndices none none ((some (-1 : Int)).getD 1) z.length).filterMap (z.cps[·]?)).toArray⟩ : Str) = revJ z := by
    show (⟨((Builtin.Str.strSliceIndices none none (-1) z.length).filterMap (z.cps[·]?)).toArray⟩ : Str) = revJ z
    rw [picked_rev]
    unfold revJ
    congr 1
    apply Array.toList_inj.mp
    rw [List.toList_toArray, Array.toList_reverse, filterMap_get z.cps _ (fun i hi => by
      obtain ⟨k, hk, rfl⟩ := List.mem_map.mp hi
      have hk' : k < z.length := List.mem_range.mp hk
      show z.length - 1 - k < z.length
      omega), List.map_map]
    refine List.ext_getElem (by simp [Str.length]) fun i i1 i2 => ?_
    have hi : i < z.cps.size := by simpa using i2
    rw [List.getElem_reverse]
    simp only [List.getElem_map, List.getElem_range, Function.comp, Array.getD, Str.length]
    rw [dif_pos (by omega)]
    rfl
  rw [e1]
  exact ⟨Nat.le_trans (by show z.cps.reverse.size ≤ 1000000; rw [Array.size_reverse]; exact hz) (by decide), .str _, H4, I5.tok _, ⟨_, rfl⟩, q (revJ z) _ H4 pz sm rfl⟩
end
end
end J
/-! A11: small bridges for the generator -/
namespace J
open PySem PySem.Spec L2
section
variable {X : Cx} {F : Fr} {g : Gm} {α β γ δ ρ τ κ : Type}
/-- a parameter at the def's start -/
theorem fr_in {A : Ty α} {s : List Slot} {H : Hp} {v : V} {a : α} (r : A.rel F.B v a) : A.rel (Gm.bs F ⟨s, []⟩ H) v a := A.same (fun _ _ h => bsA_ofB (fun z => by cases z) h) r
theorem sn1 {A : Ty α} {a : α} : ∀ H vs, (aSnoc aN A).rel H vs ((), a) → (a1 A).rel H vs a := fun H vs ⟨us, v, e, h0, h1⟩ => ⟨v, by rw [e, (h0 : us = [])]; rfl, h1⟩
theorem sn2 {A : Ty α} {B : Ty β} {a : α} {b : β} : ∀ H vs, (aSnoc (aSnoc aN A) B).rel H vs (((), a), b) → (a2 A B).rel H vs (a, b) := fun H vs ⟨us, v, e, ⟨ws, u, e2, h0, h1⟩, h2⟩ => ⟨u, v, by rw [e, e2, (h0 : ws = [])]; rfl, h1, h2⟩
theorem sn3 {A : Ty α} {B : Ty β} {C : Ty γ} {a : α} {b : β} {c : γ} : ∀ H vs, (aSnoc (aSnoc (aSnoc aN A) B) C).rel H vs ((((), a), b), c) → (a3 A B C).rel H vs (a, b, c) :=
  fun H vs ⟨us, v, e, ⟨ws, u, e2, ⟨xs, t, e3, h0, h1⟩, h2⟩, h3⟩ => ⟨t, u, v, by rw [e, e2, e3, (h0 : xs = [])]; rfl, h1, h2, h3⟩
theorem sn4 {A : Ty α} {B : Ty β} {C : Ty γ} {E : Ty δ} {a : α} {b : β} {c : γ} {d : δ} : ∀ H vs, (aSnoc (aSnoc (aSnoc (aSnoc aN A) B) C) E).rel H vs (((((), a), b), c), d) → (a4 A B C E).rel H vs (a, b, c, d) :=
  fun H vs ⟨us, v, e, ⟨ws, u, e2, ⟨xs, t, e3, ⟨ys, r, e4, h0, h1⟩, h2⟩, h3⟩, h4⟩ => ⟨r, t, u, v, by rw [e, e2, e3, e4, (h0 : ys = [])]; rfl, h1, h2, h3, h4⟩
theorem js_endI {P : κ → Prop} {u : κ} {nx bk ct : L2.St → Hp → Prop} {rt : VK} (h : ∀ σ H, g.Ok F σ H → P u → nx σ H) : JSs X F g [] ⟨nx, rt, bk, ct⟩ (P u) := pssW pss_nil fun D σ H ⟨e, o, q⟩ => e.nx _ _ (h σ H o q)
end
end J
/-! A12: sets of ints; the first two of a triple -/
namespace J
open PySem PySem.Spec L2 PyProof.Rows
section
variable {X : Cx} {F : Fr} {g : Gm} {α β γ ρ τ κ : Type} {rest : List Stmt} {pos : Pos}
def setJ (w : World) (p : Addr) (xs : List Int) : HO := SetO w p (fun j => memJ j xs) xs.length
theorem setJ_nil {w : World} {p : Addr} : setJ w p [] = SetO w p (fun _ => false) 0 := by
  unfold setJ
  congr 1
theorem setJ_add {w : World} {p : Addr} {xs : List Int} {k : Int} : setJ w p (addJ xs k) = SetO w p (fun j => memJ j xs || decide (j = k)) (if memJ k xs = true then xs.length else xs.length + 1) := by
  unfold setJ addJ
  by_cases h : memJ k xs = true
  · rw [if_pos h, if_pos h]
    congr 1
    funext j
    by_cases e : j = k
    · subst e
      rw [h]
      rfl
    · rw [decide_eq_false e, Bool.or_false]
  · rw [if_neg h, if_neg h]
    congr 1
    · funext j
      unfold memJ
      by_cases e : j = k <;> by_cases m : j ∈ xs <;> simp [e, m]
    · rw [List.length_append]
      rfl
theorem kit_self {K : PySem.W.Frag} {C : Addr} : PySem.W.kitOne K (.ref C) (.ref C) = some true := by
  unfold PySem.W.kitOne
  rw [if_pos]
  exact beq_self_eq_true _
/-- x = set() -/
theorem js_asgSet {i : Nat} {x : Str} {px np cp : Pos} {wr : Prop} {D : Ends} (hg : Gl X "set") (hm : X.mg "set" = none) (hr : ∀ p, JSs X F ((g.push (.raw p (setJ X.w p []))).set i (.at p)) rest D wr) (hN : X.N.Nodup) (hi : X.N[i]? = some x := by rfl) (hx : Loc X.env.scope x := by first | exact Or.inl rfl | exact Or.inr rfl)
    (hs : swapsWith (.Call (.Name "set" np) [] [] cp) (some (.Name x px)) pos.line X.env = pure false := by rfl) (hf : X.fn x = true ∨ X.env.scope.names.lookup x = some .local := by first | exact .inl rfl | exact .inr rfl) :
    JSs X F g (.Assign [.Name x px] (.Call (.Name "set" np) [] [] cp) pos :: rest) D wr :=
  pssW (pss_cons (ps_set hN hi hx (pe_callTy0 cr_set0 hg hm (by decide +kernel)) hs hf) (pssE hr)) fun D' σ H ⟨e, k, w⟩ => ⟨rfl, fun p hp => ⟨p, e, (k.push (c := .raw p (setJ X.w p [])) (same_upd hp) rfl hp ⟨k.same.free hp, rfl, by rw [setJ_nil]; exact upd_same⟩).set (t := .at p) rfl, w⟩⟩
def rS (w : World) : Res (List Int) := ⟨fun _ _ H v xs => ∃ p, v = .ref p ∧ H p = some (setJ w p xs), fun _ s ⟨p, e, h⟩ => ⟨p, e, s _ _ h⟩, fun _ h => h⟩
theorem Gm.Ok.raw {σ : L2.St} {H : Hp} (k : g.Ok F σ H) {j : Nat} {p : Addr} {o : HO} (hc : g.c[j]? = some (.raw p o)) : H p = some o := (k.cells _ (List.mem_of_getElem? hc)).2.2
theorem je_cellS {i j : Nat} {p : Addr} {xs : List Int} {x : Str} (hs : g.s[i]? = some (.at p)) (hc : g.c[j]? = some (.raw p (setJ X.w p xs))) (hN : X.N[i]? = some x := by rfl) (hv : Vis X.env.scope x := by first | exact Or.inl rfl | exact Or.inr (Or.inl rfl) | exact Or.inr (Or.inr rfl))
    (hd : (x == ("__debug__" : Str)) = false := by decide) (hcd : (x == ("__classdict__" : Str)) = false := by decide) : JE X F g (.Name x pos) (rS X.w) (fun k => k xs) :=
  peW (pe_var hN hv hd hcd) fun σ H Q ⟨k, P, w, q⟩ => ⟨.ref p, k.ref hs, q xs (.ref p) H w (Same.refl H) ⟨p, rfl, k.raw hc⟩⟩
section
variable {a b : Expr} {wa : (Int → Prop) → Prop} {wb : (List Int → Prop) → Prop}
theorem inS_r {w : World} : CmpOk F g (rO tI) (rS w) (rSIn w) (fun x y k => k (memJ x y)) := fun _ x y _ _ H v u P Q k h1 ⟨p, e, h⟩ pz q => ⟨x, p, _, _, h1, e, h, q _ H pz (Same.refl H)⟩
theorem niS_r {w : World} : CmpOk F g (rO tI) (rS w) (rSNotIn w) (fun x y k => k (!memJ x y)) := fun _ x y _ _ H v u P Q k h1 ⟨p, e, h⟩ pz q => ⟨x, p, _, _, h1, e, h, q _ H pz (Same.refl H)⟩
theorem je_inS (ha : JE X F g a (rO tI) wa) (hb : JE X F g b (rS X.w) wb) (hm : behindInMarks .In b = false := by rfl) : JE X F g (.Compare a [.In] [b] pos) (rO tB) (fun k => wa fun x => wb fun y => k (memJ x y)) := je_cmpR (C := fun x y k => k (memJ x y)) or_sin inS_r ha hb hm
theorem je_niS (ha : JE X F g a (rO tI) wa) (hb : JE X F g b (rS X.w) wb) (hm : behindInMarks .NotIn b = false := by rfl) : JE X F g (.Compare a [.NotIn] [b] pos) (rO tB) (fun k => wa fun x => wb fun y => k (!memJ x y)) := je_cmpR (C := fun x y k => k (!memJ x y)) or_snotin niS_r ha hb hm
theorem jt_inS (ha : JE X F g a (rO tI) wa) (hb : JE X F g b (rS X.w) wb) (hm : behindInMarks .In b = false := by rfl) : JT X F g (.Compare a [.In] [b] pos) (fun Ya No => wa fun x => wb fun y => (((memJ x y) = true → Ya) ∧ ((memJ x y) = false → No))) := jt_cmpR (C := fun x y k => k (memJ x y)) or_sin inS_r ha hb hm
theorem jt_niS (ha : JE X F g a (rO tI) wa) (hb : JE X F g b (rS X.w) wb) (hm : behindInMarks .NotIn b = false := by rfl) : JT X F g (.Compare a [.NotIn] [b] pos) (fun Ya No => wa fun x => wb fun y => (((!memJ x y) = true → Ya) ∧ ((!memJ x y) = false → No))) := jt_cmpR (C := fun x y k => k (!memJ x y)) or_snotin niS_r ha hb hm
end
/-- xs.add(e) -/
theorem js_setAdd {i j : Nat} {p : Addr} {xs : List Int} {call : Expr} {we : (Int → Prop) → Prop} {wr : List Int → Prop} {D : Ends} (hm : PE X call (tSAdd X.w (tVar i) (tCons (RJ F g (rO tI) we) tNil)))
    (hr : ∀ ys, JSs X F ⟨g.s, g.c.set j (.raw p (setJ X.w p ys))⟩ rest D (wr ys)) (hs : g.s[i]? = some (.at p)) (hc : g.c[j]? = some (.raw p (setJ X.w p xs))) (hsw : swapsWith call none pos.line X.env = pure false := by rfl) :
    JSs X F g (.Expr call pos :: rest) D (we fun a => xs.length < 4000 ∧ wLet (addJ xs a) wr) := by
  refine pssW (pss_cons (ps_expr hm hsw) (pssE hr)) fun D' σ H ⟨e, k, w⟩ => ?_
  refine ⟨_, k.ref hs, ⟨p, _, _, rfl, k.raw hc⟩, k, _, w, fun a v H1 ⟨hl, w1⟩ s1 ra => ?_⟩
  have k1 := k.step s1
  have ev : v = .int a := ra
  refine ⟨p, a, _, _, rfl, by rw [ev], k1.raw hc, by unfold scanBound; omega, addJ xs a, e, ?_, w1⟩
  refine k1.mutC hc rfl rfl ⟨(k1.ad_some (Gm.mem_ad (List.mem_of_getElem? hc) rfl)).1, rfl, ?_⟩
  rw [setJ_add]
  exact upd_same
/-- r[:2] of a triple -/
theorem je_cut3 {e : Expr} {A : Ty α} {C : Ty γ} {w : (α × α × γ → Prop) → Prop} {j : Nat} {p1 p2 : Pos} (he : JE X F g e (rO (tT X.K (a3 A A C))) w) :
    JE X F g (.Subscript e (.Slice none (some (.Constant (.int 2) j p1)) none p2) pos) (rO (tT X.K (aV A))) (fun k => w fun t => k [t.1, t.2.1]) :=
  peW (pe_slice sl_tupA he jp_none (jp_some je_int)) fun σ H Q ⟨k, P, w, q⟩ => ⟨k, _, w, fun t v H1 w1 s1 r1 => ⟨k.step s1, (fun o => o = none ∧ P [t.1, t.2.1]), ⟨rfl, w1⟩, fun i H2 ⟨ei, w2⟩ s2 => ⟨k.step (s1.trans s2), (fun o => o = some 2 ∧ P [t.1, t.2.1]), ⟨rfl, w2⟩, fun o H3 ⟨eo, w3⟩ s3 => by
    subst ei eo
    have s13 := s1.trans (s2.trans s3)
    have k3 := k.step s13
    obtain ⟨a, us, ev, hs, x, y, z, e2, h1, h2, h3⟩ := (tT X.K (a3 A A C)).same (Gm.mono (s2.trans s3)) r1
    subst e2
    refine ⟨a, _, ev, k3.le.sqT' hs, fun hw => ?_, fun _ l hl => q _ _ _ w3 (s13.trans (same_upd hl)) ⟨l, _, rfl, .inl (.inl (k3.bs_new hl)), ?_⟩⟩
    · exact absurd hw.2 (show ¬ ((2 : Nat) = 3) by decide)
    · exact .cons (A.same (Gm.mono (same_upd hl)) h1) (.cons (A.same (Gm.mono (same_upd hl)) h2) .nil)⟩⟩⟩
end
end J
/-! A13: own operators with a number on the right -/
namespace J
open PySem PySem.Spec L2 PyProof.Rows ClX RZ
section
variable {X : Cx} {F : Fr} {g : Gm} {α β γ ρ τ κ : Type}
variable {CX : CXT} {k : Nat} {C f : Addr} {fd : FuncData} {ps : List Str} {sp : Sp} {E : XK} {a b : Expr} {pos : Pos}
/-- what an operator of a class needs with a number on the right -/
structure PowOk (K : PySem.W.Frag) (C : Addr) (nm : String) : Prop where
  sf : PySem.W.selfFirst K C = true
  r : PySem.W.findIn K (.ref C) (dunderR nm) = some none
  a : ∃ fo, PySem.W.findIn K (.type "int") (PySem.dunder nm) = some fo
  b : ∃ ro, PySem.W.findIn K (.type "int") (dunderR nm) = some ro
  s : PySem.W.subIn K (.type "int") (.ref C) = some false
def rPowO (C : Addr) (sp : Sp) (E : XK) : R2 := fun x y H Q => ∃ a dx fs i, x = .ref a ∧ H a = some (.ins C dx fs) ∧ y = .int i ∧ sp [.ref a, .int i] H (fun v H' => (∀ u, RelV v u → u ≠ .notImplemented) ∧ Q v H') E
theorem op_pow {op : Operator} (hm : Meth X.K C (PySem.dunder op.info.2) f) (hs : PowOk X.K C op.info.2) (Fn : FnOk X.prog X.w X.K X.mg X.base CX k f fd ps sp) (hr : Room k X.A) (hb : Binds X.K fd ps []) (hx : Passes CX X E) : OpR X (binaryOp op) (rPowO C sp E) := by
  intro pins s σ H x y v u Q I rx ry q
  obtain ⟨o, dx, fs, i, rfl, ea, rfl, q⟩ := q
  obtain rfl : v = Value.ref o := rx
  obtain ⟨mA, O, _, _, _, _⟩ := ins_get I.hok ea
  obtain ⟨od, J, _⟩ := O.look
  obtain ⟨m, fr⟩ := I.fr
  obtain ⟨fo, h1⟩ := hs.a
  obtain ⟨ro, h2⟩ := hs.b
  obtain ⟨t, rfl⟩ := id ry
  refine PySem.W.ksp_binT fr I.mod.kin J (T := "int") rfl hs.sf hm.at_ hm.fn hs.r (.inl rfl) h1 h2 hs.s (wpAny_mono (wpAny_call (codeAny_mono (Fn.run X.A X.stack s H ⟨[.ref o, .int i t], []⟩ [.ref o, .int i t] [.ref o, .int i] _ E hr I.env0 (hb _ [.ref o, .int i t] I.kIn ?_) (.cons rfl (.cons ry .nil)) q) (R' := fun r s' => match r with | .ok (.ret u) => PySem.W.CmpBack (EP X pins σ Q) u s' | .ok _ => False | .error e => X.xe e s') fun r s' hq => ?_)) (fun u s' h => h) (fun e s' h => h))
  · exact (Fn.len _ _ _ _ q)
  · cases r with
    | error er => exact hx pins σ H s er s' I hq
    | ok fl =>
      cases fl with
      | ret u' =>
        obtain ⟨v, H', I', rv, hn, hQ⟩ := I.after hq
        have hne := hn _ rv
        show PySem.W.CmpBack _ u' s'
        unfold PySem.W.CmpBack
        split
        · exact absurd rfl hne
        · exact ⟨v, H', I', rv, hQ⟩
      | next => exact False.elim hq
      | brk => exact False.elim hq
      | cont => exact False.elim hq
variable {ns : List Str} {U : ATy κ}
/-- table ** number -/
theorem je_powO {op : Operator} {ns' : List Str} {C' : Addr} {κ' : Type} {U' : ATy κ'} {w : κ × Int × Unit → (κ' → Prop) → Prop} {wa : (κ → Prop) → Prop} {wb : (Int → Prop) → Prop} (ha : JE X F g a (rO (tC C ns U)) wa) (hb' : JE X F g b (rO tI) wb) (hm : Meth X.K C (PySem.dunder op.info.2) f) (hs : PowOk X.K C op.info.2)
    (Fn : FnOk X.prog X.w X.K X.mg X.base CX0 k f fd ps (spJ (aC (tC C ns U) (aC tI aN)) (rO (tC C' ns' U')) w)) (hr : Room k X.A) (hb : Binds X.K fd ps []) : JE X F g (.BinOp a op b pos) (rO (tC C' ns' U')) (fun k => wa fun x => wb fun y => w (x, y, ()) k) :=
  je_opR (C := fun x y k => w (x, y, ()) k) (op_pow hm hs Fn hr hb pass0) (fun σ x y Ha Hb H v u P Q kk h1 h2 p q => by
    obtain ⟨a, dx, vs, e1, g1, l1, u1⟩ := id h1
    have e2 : u = .int y := h2
    exact ⟨a, dx, _, y, e1, kk.le _ _ g1, e2, (x, y, ()), P, kk.fr, rfl, ⟨.ref a, [.int y], rfl, by rw [← e1]; exact h1, .int y, [], rfl, rfl, rfl⟩, p, fun r v' H' pr s rr =>
      ⟨nni_ref rr, q r v' H' pr s ((rO (tC C' ns' U')).same (kk.back s) (Same.refl _) rr)⟩⟩) ha hb'
end
end J
/-! A14: for over enumerate(a tuple) -/
namespace L2
open PySem PySem.Spec PyProof.Rows
open AutoSeq1 (wpAny_loadPart')
theorem meets_enumerate_newT (l : Addr) (items : Array Value) (n : Nat) (dct : Option Addr) (sl : Array (Option Value)) :
    Meets (Builtin.«enumerate.__new__» ⟨[.type "enumerate", .ref l], []⟩) (fun _ R s => s.heap.get? l = some { cls := .type "tuple", dict := dct, data := .seq items n, slots := sl } ∧
      R (.ok (.ret (.ref (s.heap.push { cls := .type "tuple_iterator", data := .fields #[.ref l, .int 0 0] }).objs.size)))
        { s with heap := (s.heap.push { cls := .type "tuple_iterator", data := .fields #[.ref l, .int 0 0] }).push { cls := .type "enumerate", data := .fields #[.none, .bool false, .ref s.heap.objs.size, rawInt 0, .none, .none] } }) :=
  .of_wp fun prog w A R s h => by
    obtain ⟨hp, g, d, tk, os⟩ := s; obtain ⟨hl, h⟩ := h
    have hsub := sub_enumerate
    have hL : Heap.IsTuple (Shared.heap ⟨hp, g, d, tk, os⟩) l items := ⟨_, hl, rfl, n, rfl⟩
    wp_walk using wpAny_loadPart' hl
    refine wpAny_stack_any fun st => wpAny_pure ?_
    split
    · rename_i c _ _ _ _ _
      cases (c == Value.type "enumerate")
      · wp_walk using wpAny_loadPart' hl, wpAny_pyIter_tuple hL
        exact ⟨_, rfl, h⟩
      · wp_walk using wpAny_loadPart' hl, wpAny_pyIter_tuple hL
        exact ⟨_, rfl, h⟩
    · wp_walk using wpAny_loadPart' hl, wpAny_pyIter_tuple hL
      exact ⟨_, rfl, h⟩

section
variable {prog : Program} {w : World} {A : Around} {E : Value → Shared → Prop} {s : Shared}
theorem call_enumerate_tup {l : Addr} {items : Array Value} {Q : Value → Shared → Prop} (hL : s.heap.IsTuple l items)
    (h : ∀ h', IsEnum h' (s.heap.objs.size + 1) s.heap.objs.size 0 .none → h'.IsTupleIter s.heap.objs.size l 0 → h'.objs.size = s.heap.objs.size + 2 →
      (∀ b o, s.heap.get? b = some o → h'.get? b = some o) → Q (.ref (s.heap.objs.size + 1)) { s with heap := h' }) :
    wpAny (model prog w) A (call (.type "enumerate") [.ref l]) Q E s := by
  obtain ⟨⟨c, dct, dt, sl⟩, hl, hc, n, hd⟩ := hL
  replace hc : c = .type "tuple" := hc
  replace hd : dt = .seq items n := hd
  subst hc hd
  refine callType_new F.called_enumerate (by decide) (F.typeCall_enumerate_1 _) (F.newCall_enumerate_1 _) (fun obj => F.args_object_init_2 obj _) F.entry_enumerate_new
    (meets_enumerate_newT l items n dct sl) ⟨hl, ?_⟩
  have hz : (s.heap.push { cls := .type "tuple_iterator", data := .fields #[.ref l, .int 0 0] }).objs.size = s.heap.objs.size + 1 := Heap.size_push ..
  show _ ∧ _
  rw [hz]
  have he : IsEnum ((s.heap.push { cls := .type "tuple_iterator", data := .fields #[.ref l, .int 0 0] }).push
      { cls := .type "enumerate", data := .fields #[.none, .bool false, .ref s.heap.objs.size, rawInt 0, .none, .none] }) (s.heap.objs.size + 1) s.heap.objs.size 0 .none := by
    have := Heap.get?_push_size (s.heap.push { cls := .type "tuple_iterator", data := .fields #[.ref l, .int 0 0] })
      (o := { cls := .type "enumerate", data := .fields #[.none, .bool false, .ref s.heap.objs.size, rawInt 0, .none, .none] }) rfl
    rw [hz] at this; exact this
  refine ⟨⟨_, he, rfl⟩, h _ he ⟨_, Heap.get?_push_of_some _ (Heap.get?_push_size _ rfl), rfl, rfl⟩ (by rw [Heap.size_push, hz]) fun b o x => Heap.get?_push_of_some _ (Heap.get?_push_of_some _ x)⟩
end
/-- the tuple at a, each item in a new pair with its place -/
def IteT (K : PySem.W.Frag) (a : Addr) : It :=
  ⟨fun i H => ∃ (xs : List V) (x : V), SqT K H a xs ∧ xs[i]? = some x, fun i H v H' => ∃ T x, v = .ref T ∧ H T = none ∧ H' = upd H T (.tup [.int (i : Nat), x]) ∧ ∀ xs, SqT K H a xs → xs[i]? = some x, fun i H => ∃ xs : List V, SqT K H a xs ∧ xs.length ≤ i⟩
theorem enum_ne_tup {h : Heap} {e it a : Addr} {i : Int} {old : Value} {items : Array Value} (he : IsEnum h e it i old) (p : h.IsTuple a items) : e ≠ a := fun z => by
  subst z
  obtain ⟨o, ho, hc, _⟩ := p
  have he' : h.get? e = some _ := he
  rw [ho] at he'
  have e := Option.some.inj he'
  rw [e] at hc
  exact absurd (Value.type.inj hc) (by decide)
theorem tupit_ne_tup {h : Heap} {it t a : Addr} {i : Nat} {items : Array Value} (hi : h.IsTupleIter it t i) (p : h.IsTuple a items) : a ≠ it := fun z => by
  subst z
  obtain ⟨o, ho, hc, _⟩ := p
  obtain ⟨o', ho', hc', _⟩ := hi
  rw [ho] at ho'
  cases ho'
  rw [hc] at hc'
  exact absurd (Value.type.inj hc') (by decide)
theorem enum_endT {prog : Program} {w : World} {A : Around} {E : Value → Shared → Prop} {s : Shared} {e it l : Addr} {i : Nat} {items : Array Value} {old : Value} {Q : Option Value → Shared → Prop} (hh : A.handled = none)
    (he : IsEnum s.heap e it i old) (hit : s.heap.IsTupleIter it l i) (hl : s.heap.IsTuple l items) (hx : items[i]? = none)
    (hQ : ∀ h', Heap.ExtBut it s.heap h' → Q none { s with heap := h' }) : wpAny (model prog w) A (pyNext (.ref e)) Q E s := by
  have hT : s.TypeIs (.ref e) "enumerate" := ⟨_, he, rfl⟩
  unfold pyNext
  refine wpAny_bind (wpAny_attempt (wpAny_callSpecial?_slot (name := Str.ofString "__next__") hT F.slot_enumerate_next
    (wpAny_call_entry F.slot_enumerate_next hT F.entry_enumerate_next ?_ (F.args_enumerate_next_1 _))))
  show wpAny _ _ (field (.ref e) 2 >>= _) _ _ _
  refine wpAny_bind (wpAny_field he rfl (x := .ref it) rfl ?_)
  refine wpAny_bind (wpAny_nextOf_tuple_end hh hit hl hx fun h' x he' hx' => ?_)
  obtain ⟨o, ho, hc⟩ := hx'
  refine wpAny_bind (wpAny_isInstance (T := "StopIteration") (b := true) ⟨o, ho, hc⟩ isSubtype_stop ?_)
  exact wpAny_pure (hQ _ he')
theorem turn_enumT {P : Program} {w : World} {K : PySem.W.Frag} {elts : List Expr} {kk : Nat} {tpos : Pos} (a e it : Addr) :
    Turn P w K (.Tuple elts kk tpos) (IteT K a) [e, it] e (fun i h => (∃ old, IsEnum h e it ((i : Nat) : Int) old) ∧ h.IsTupleIter it a i ∧ e ≠ it) where
  mem := by simp
  obj := fun i h st b hb => by
    obtain ⟨⟨old, he⟩, ⟨o, ho, hc, hd⟩, _⟩ := st
    have e' : b = e ∨ b = it := by simpa using hb
    rcases e' with z | z
    · rw [z]; exact ⟨_, he, fun v q => nomatch q⟩
    · rw [z]; exact ⟨o, ho, fun v q => by rw [hd] at q; cases q⟩
  keep := fun i h h' st k => let ⟨⟨old, he⟩, hi, hne⟩ := st; ⟨⟨old, k e (by simp) _ he⟩, hi.at fun o q => k it (by simp) o q, hne⟩
  item := by
    intro X hP hw hK hc i pins s σ H E I hf st hg
    subst hP hw hK
    obtain ⟨⟨old, he⟩, hit, hne⟩ := st
    obtain ⟨xs, x, hq, hx⟩ := hg
    obtain ⟨its, rv, p, hz⟩ := I.tuple hq
    have p' : s.heap.IsTuple a its.toArray := p
    obtain ⟨u, hu, ru⟩ := rv.get hx
    have hlt : i < its.toArray.size := by
      have := (List.getElem?_eq_some_iff.mp hu).1
      simpa using this
    have hel : e < s.heap.objs.size := Heap.lt_size he
    have hil : it < s.heap.objs.size := by obtain ⟨_, q, _⟩ := hit; exact Heap.lt_size q
    have n1 := enum_ne_tup he p'
    have n2 := tupit_ne_tup hit p'
    have D := Draws.tuple (prog := X.prog) (w := X.w) (A := X.A.in1) (I.ok.hd hc) it a n2 its.toArray
    refine wpAny_pyNext_enum_itemD D he ⟨hit, p'⟩ hlt hne (by simp [hne, n1]) fun x' h' tk hP ho hit' hT hsz hk => ?_
    obtain rfl : u = x' := by
      have h1 : its.toArray[i]? = some u := by simpa using hu
      rw [h1] at hP
      exact Option.some.inj hP
    refine ⟨_, rfl, wpAny_letOwnedTupleGo_enum (s := { s with heap := h', toks := tk + 1 }) ho fun h'' he' sb => ?_⟩
    have hT2 : h''.get? s.heap.objs.size = some { cls := .type "tuple", data := .seq #[.int i tk, u] } := (sb.2 _ (Nat.ne_of_gt hel)).trans hT
    have new : ObjOk X.prog X.w (upd H s.heap.objs.size (.tup [.int (i : Nat), x])) h'' s.heap.objs.size (.tup [.int (i : Nat), x]) :=
      ⟨by show 2 ≤ sizeLine; decide, [.int i tk, u], .cons ⟨_, rfl⟩ (.cons ru .nil), ⟨_, hT2, rfl, _, rfl⟩⟩
    have I1 : Inv X pins σ (upd H s.heap.objs.size (.tup [.int (i : Nat), x])) { s with heap := h'', toks := tk + 1 } :=
      I.turnedNew (ch := [e, it]) (fun b ob hb q => (sb.2 b (fun z => hb (by simp [z]))).trans (hk b ob (fun z => hb (by simp [z])) (fun z => hb (by simp [z])) q)) hf (Nat.le_refl _) new
    refine ⟨.ref s.heap.objs.size, _, I1, rfl, ⟨_, x, rfl, I.hok.fresh (Nat.le_refl _), rfl, fun ys hy => by rw [I.tuple_inj hy hq]; exact hx⟩, ⟨⟨u, ?_⟩, hit'.1.at fun o q => (sb.2 it (Ne.symm hne)).trans q, hne⟩, fun b hb => ?_⟩
    · have e1 : ((i + 1 : Nat) : Int) = (i : Int) + 1 := by omega
      rw [e1]; exact he'
    · have hb' : b < s.heap.objs.size := by
        have e' : b = e ∨ b = it := by simpa using hb
        rcases e' with z | z
        · rw [z]; exact hel
        · rw [z]; exact hil
      rw [upd_ne (Nat.ne_of_lt hb')]
      exact (hf b hb).1
  done := by
    intro X hP hw hK hc i pins s σ H E I hf st hg
    subst hP hw hK
    obtain ⟨⟨old, he⟩, hit, hne⟩ := st
    obtain ⟨xs, hq, hx⟩ := hg
    obtain ⟨its, rv, p, hz⟩ := I.tuple hq
    have p' : s.heap.IsTuple a its.toArray := p
    obtain ⟨f0, f1, f2, f3, f4, f5⟩ := hf it (by simp)
    have hl := rv.length
    exact enum_endT (I.ok.hd hc) he hit p' (by simp; omega) fun h' eb => ⟨rfl, I.turned (t' := s.toks) (fun b o hb q => eb b o hb q) f0 f1 f3 f4 f5⟩
  self := fun A i s Q E st h => let ⟨⟨_, he⟩, _⟩ := st; wpAny_pyIter_enum he h

def iEnumT (K : PySem.W.Frag) (ta : TA) : TI := fun σ H R => ta σ H fun vs H1 => ∃ a xs, vs = [.ref a] ∧ SqT K H1 a xs ∧ R (IteT K a) H1
theorem pi_enumT {X : Cx} {e : Expr} {ta : TA} {p pos tpos : Pos} {elts : List Expr} {kk : Nat} (hg : Gl X "enumerate") (hm : X.mg "enumerate" = none) (ha : PA X [e] ta) (hs : starEach [e] X.env = [(false, eval e X.env)] := by rfl) :
    PI X (.Tuple elts kk tpos) (.Call (.Name "enumerate" p) [e] [] pos) (iEnumT X.K ta) := by
  refine ⟨fun pins s σ H R I h => ?_⟩
  refine Call_ (ld_blt I hg hm boot_enumerate (PyProof.Rows.callWith_type1 (thn (ha.run pos pins s σ H _ I h) fun us s1 ⟨vs, H1, I1, r1, q1⟩ => ?_) hs rfl))
  obtain ⟨a, xs, ex, hq, q⟩ := q1
  subst ex
  cases r1 with
  | cons r rr =>
    cases rr
    cases r
    obtain ⟨its, rv, p', hz⟩ := I1.tuple hq
    refine call_enumerate_tup (show s1.heap.IsTuple a its.toArray from p') fun h' he hit hsz hk => wpAny_pyIter_enum he ?_
    have I2 : Inv X pins σ H1 { s1 with heap := h' } := I1.kept (t' := s1.toks) hk
    refine ⟨s1.heap.objs.size + 1, [s1.heap.objs.size + 1, s1.heap.objs.size], _, _, H1, rfl, I2, turn_enumT a (s1.heap.objs.size + 1) s1.heap.objs.size, ⟨⟨.none, he⟩, hit, Nat.succ_ne_self _⟩, fun b hb => ?_, q⟩
    have e' : b = s1.heap.objs.size + 1 ∨ b = s1.heap.objs.size := by simpa using hb
    have hle : s1.heap.objs.size ≤ b := by
      rcases e' with z | z
      · rw [z]; exact Nat.le_add_right _ _
      · rw [z]; exact Nat.le_refl _
    exact I1.fpOk hle (I1.hok.fresh hle)
end L2
namespace J
open PySem PySem.Spec L2 PyProof.Rows ClX RZ
section
variable {X : Cx} {F : Fr} {g : Gm} {α β γ ρ τ κ : Type}
theorem enumJ_len (xs : List α) : (enumJ xs).length = xs.length := by
  unfold enumJ rangeI
  rw [List.length_zip, List.length_map, List.length_range]
  omega
theorem enumJ_get {xs : List α} {i : Nat} {p : Int × α} (h : (enumJ xs)[i]? = some p) : p.1 = (i : Int) ∧ xs[i]? = some p.2 := by
  unfold enumJ at h
  obtain ⟨h1, h2⟩ := zip_get h
  refine ⟨?_, h2⟩
  unfold rangeI at h1
  rw [List.getElem?_map] at h1
  obtain ⟨j, hj, e⟩ := Option.map_eq_some_iff.mp h1
  have := List.getElem?_eq_some_iff.mp hj
  obtain ⟨_, e2⟩ := this
  rw [List.getElem_range] at e2
  omega
theorem forE_core {K : PySem.W.Frag} {l : Addr} {S : τ → Gm} {xs : List α} {A : Ty α} {b : Int × α → τ → (τ → Prop) → (τ → Prop) → Prop} {wr : τ → Prop} (hp : ∀ s σ H, (S s).Ok F σ H → ∃ vs, SqT K H l vs ∧ Paired (A.rel ((S s).bs F H)) vs xs)
    {gT : TG} {tb : TS} {D : Ends} {σ : L2.St} {H : Hp} {s0 : τ} (h0 : (S s0).Ok F σ H) (hw : wFor b wr (enumJ xs) s0) (hD : ∀ σ H s, (S s).Ok F σ H → wr s → D.nx σ H)
    (hb : ∀ (N : τ → Prop) (x : Int × α) v s σ H, (S s).Ok F σ H → (tT K (a2 tI A)).rel ((S s).bs F H) v x → b x s N wr → gT v σ H fun σ2 H2 => tb ⟨phi F S N, D.rt, D.nx, phi F S N⟩ σ2 H2) :
    ∃ W : Nat → Nat → L2.St → Hp → Prop, (∃ m, W 0 m σ H) ∧ ∀ i m σ H, W i m σ H →
      ((IteT K l).stop i H ∧ D.nx σ H) ∨ ((IteT K l).go i H ∧ ∃ N : L2.St → Hp → Prop, (∀ σ' H', N σ' H' → ∃ m', m' < m ∧ W (i + 1) m' σ' H') ∧ ∀ x H', (IteT K l).yld i H x H' → gT x σ H' fun σ2 H2 => tb { D with nx := N, ct := N, bk := D.nx } σ2 H2) := by
  have hlen := enumJ_len xs
  refine ⟨fun i m σ H => m = xs.length - i ∧ i ≤ xs.length ∧ ∃ s, (S s).Ok F σ H ∧ wFor b wr ((enumJ xs).drop i) s, ⟨xs.length, by simp, Nat.zero_le _, s0, h0, hw⟩, ?_⟩
  rintro i m σ H ⟨rfl, hi, s, o, w⟩
  obtain ⟨vs, hq, hpr⟩ := hp s σ H o
  by_cases hlt : i < xs.length
  · have hlt' : i < (enumJ xs).length := by rw [hlen]; exact hlt
    obtain ⟨e1, hx⟩ := enumJ_get (List.getElem?_eq_getElem hlt')
    obtain ⟨v, hv, rv⟩ := Paired.at hpr hx
    rw [List.drop_eq_getElem_cons hlt'] at w
    refine .inr ⟨⟨vs, v, hq, hv⟩, phi F S fun s' => wFor b wr ((enumJ xs).drop (i + 1)) s', fun σ' H' ⟨s', o', w'⟩ => ⟨xs.length - (i + 1), by omega, rfl, hlt, s', o', w'⟩, fun x H' y => ?_⟩
    obtain ⟨T, x2, et, hT, eH, hx2⟩ := y
    obtain rfl : x2 = v := Option.some.inj ((hx2 vs hq).symm.trans hv)
    subst eH et
    have s1 : Same H (upd H T (.tup [.int (i : Nat), x2])) := same_upd hT
    have k1 := o.step s1
    have n1 := o.fresh hT
    have n2 := o.same.free hT
    refine hb _ _ _ s _ _ k1 ⟨T, _, rfl, .inl (.inl (bsA_of n1 n2 upd_same)), .int (i : Nat), x2, rfl, ?_, A.same (bsA_mono s1) rv⟩ w
    show V.int (i : Nat) = V.int _
    rw [e1]
  · have e : i = xs.length := by omega
    refine .inl ⟨⟨vs, hq, by rw [Paired.len hpr]; omega⟩, hD σ H s o ?_⟩
    rw [List.drop_of_length_le (by omega)] at w
    exact w
section
variable {tg iter : Expr} {body rest : List Stmt} {pos : Pos} {A : Ty α} {gT : TG} {tr : Gm → Int × α → Gm} {b : Int × α → τ → (τ → Prop) → (τ → Prop) → Prop} {wr : τ → Prop} {s0 : τ} {wl : (List α → Prop) → Prop} {rt : VK} {nx bk ct : L2.St → Hp → Prop}
/-- for i, x in enumerate(a tuple) -/
theorem js_forET {S : V → List α → τ → Gm} {j : Nat} {elts : List Expr} {kk : Nat} {tpos p pr : Pos} (hg0 : Gl X "enumerate") (hm : X.mg "enumerate" = none) (hl : JE X F g iter (rO (tT X.K (aV A))) wl) (hS : ∀ v xs, Sub (g.push (.fix (tT X.K (aV A)) v xs)) (S v xs s0)) (hc : ∀ v xs s, (S v xs s).c[j]? = some (.fix (tT X.K (aV A)) v xs))
    (hg : PG X (.Tuple elts kk tpos) gT) (ht : TgOk (tT X.K (a2 tI A)) gT tr) (hb : ∀ v xs (N B : τ → Prop) a s, JSs X F (tr (S v xs s) a) body ⟨phi F (S v xs) N, rt, phi F (S v xs) B, phi F (S v xs) N⟩ (b a s N B)) (hr : ∀ v xs s, JSs X F (S v xs s) rest ⟨nx, rt, bk, ct⟩ (wr s))
    (hpo : PassesOwn (model X.prog X.w) X.A X.env X.xe) (hca : X.calm = true := by rfl) (hst : starEach [iter] X.env = (false, eval iter X.env) :: starEach [] X.env := by rfl) (hst2 : starEach [iter] X.env = [(false, eval iter X.env)] := by rfl) (hfs : ∀ y, foldedSetIterable (.Call (.Name "enumerate" p) [iter] [] pr) X.env y = pure y := by intro _; rfl) :
    JSs X F g (.For (.Tuple elts kk tpos) (.Call (.Name "enumerate" p) [iter] [] pr) body [] pos :: rest) ⟨nx, rt, bk, ct⟩ (wl fun xs => wLet xs fun xs => wFor b wr (enumJ xs) s0) := by
  refine pssW (pss_cons (ps_for hpo hca (pi_enumT hg0 hm (pa_cons hl pa_nil hst) hst2) hg (pssE (t := fun (q : V × List α × (τ → Prop) × (Int × α) × τ) => RS F (tr (S q.1 q.2.1 q.2.2.2.2) q.2.2.2.1) ⟨phi F (S q.1 q.2.1) q.2.2.1, rt, phi F (S q.1 q.2.1) wr, phi F (S q.1 q.2.1) q.2.2.1⟩ (b q.2.2.2.1 q.2.2.2.2 q.2.2.1 wr)) fun q => hb q.1 q.2.1 q.2.2.1 wr q.2.2.2.1 q.2.2.2.2) hfs)
    (pssE (t := fun (q : V × List α × τ) => RS F (S q.1 q.2.1 q.2.2) ⟨nx, rt, bk, ct⟩ (wr q.2.2)) fun q => hr q.1 q.2.1 q.2.2)) fun D σ H ⟨e, k, w⟩ => ?_
  refine ⟨k, _, w, fun xs v H1 w1 s1 r => ?_⟩
  obtain ⟨l, vs, ev, hq, hr1⟩ := id r
  refine ⟨l, vs, by rw [ev], (k.step s1).le.sqT' hq, ?_⟩
  refine forE_core (A := A) (D := ⟨_, D.rt, D.bk, D.ct⟩) (S := S v xs) (fun s σ H o => ?_) ((hS v xs).ok ((k.step s1).fixed r)) w1 ?_ fun N x u s σ H o ru q => ?_
  · obtain ⟨l2, us, e2, h2, r2⟩ := (show (tT X.K (aV A)).rel ((S v xs s).bs F H) v xs from o.cells _ (List.mem_of_getElem? (hc v xs s)))
    rw [ev] at e2
    have e3 : l = l2 := V.ref.inj e2
    subst e3
    exact ⟨us, o.le.sqT' h2, r2⟩
  · exact fun σ H s o q => ⟨(v, xs, s), e, o, q⟩
  exact ht F _ σ H u x _ o ru fun σ' o' => ⟨(v, xs, N, x, s), ⟨fun _ _ z => z, e.rt, fun _ _ ⟨s, o, q⟩ => ⟨(v, xs, s), e, o, q⟩, fun _ _ z => z⟩, o', q⟩
end
end
end J
/-! A15: sorted of a tuple of numbers -/
namespace SrtO
open PySem PyProof.Rows Srt
section
variable {prog : Program} {w : World} {A : Around} {E : Value → Shared → Prop} {s : Shared}
theorem collect_tupJ {l : Addr} {vs : List Value} {Q : List Value → Shared → Prop} (hl : s.heap.IsTuple l vs.toArray)
    (h : Q vs { s with heap := (s.heap.push (seqObj "list" #[] 0)).update s.heap.objs.size (Obj.mapSeq (· ++ vs.toArray)) }) (hsz : vs.length ≤ sizeLine) :
    wpAny (model prog w) A (collect (.ref l)) Q E s := by
  obtain ⟨o, ho, hc, n, hd⟩ := id hl
  unfold collect
  refine wpAny_bind (wpAny_runValue (codeAny_builtin entry_proto_collect' ?_))
  show wpAny _ _ (do again (.builtin "list.__iadd__" ⟨[← newList [], .ref l], []⟩)) _ _ s
  refine wpAny_bind (wpAny_newList (wpAny_pure ⟨Code.quiet_builtin _ (by decide +kernel), codeAny_builtin entry_list_iadd' ?_⟩))
  show wpAny _ _ (Builtin.List.listExtendWith (.ref s.heap.objs.size) (.ref l) (.ref s.heap.objs.size)) _ _ { s with heap := s.heap.push (seqObj "list" #[] 0) }
  unfold Builtin.List.listExtendWith
  have ho' : (s.heap.push (seqObj "list" #[] 0)).get? l = some o := Heap.get?_push_of_some _ ho
  refine wpAny_bind (wpAny_typeOf (T := "tuple") ⟨o, ho', hc⟩ ?_)
  have ht : (Value.type "tuple" == Value.type "tuple") = true := by rfl
  rw [if_pos (by rw [ht]; simp)]
  refine wpAny_bind (listItems_at ho' hd ?_)
  refine wpAny_bind (listItems_at (xs := #[]) (n := 0) (Heap.get?_push_size _ rfl) rfl ?_)
  rw [if_neg (by simp)]
  refine wpAny_bind (listUpdate_at (xs := #[]) (n := 0) (Heap.get?_push_size _ rfl) rfl ?_ (Nat.zero_le _) (by show (#[] ++ vs.toArray).size ≤ sizeLine + 1; simp only [Array.size_append, List.size_toArray, List.length_nil]; omega))
  refine wpAny_pure ?_
  show wpAny (model prog w) A (do
      let o ← load s.heap.objs.size
      match o.data with
      | .seq xs _ => pure xs.toList
      | _ => unsupported "internal:collect") Q E { s with heap := (s.heap.push (seqObj "list" #[] 0)).update s.heap.objs.size (Obj.mapSeq (· ++ vs.toArray)) }
  refine wpAny_bind (wpAny_load (get?_update_seq (Heap.get?_push_size _ rfl) _) ?_)
  show wpAny _ _ (pure ((#[] : Array Value) ++ vs.toArray).toList) Q E _
  rw [show ((#[] : Array Value) ++ vs.toArray).toList = vs by simp]
  exact wpAny_pure h
theorem sorted_ordT {l : Addr} {vs : List Value} {ltv : Value → Value → Bool} {Q : Value → Shared → Prop} (O : Swo ltv) (hl : s.heap.IsTuple l vs.toArray) (hz : vs.length ≤ sizeLine)
    (hS : 2 ≤ vs.length → ∀ (h₁ : Heap) (a : Addr), h₁.get? a = some (seqObj "list" vs.toArray 0) → (∀ b o, s.heap.get? b = some o → b ≠ a ∧ h₁.get? b = some o) → SortableO prog w A.in1.in1 { s with heap := h₁ } a vs ltv)
    (h : ∀ out : List Value, Srtd ltv out → Stb ltv out vs → Q (.ref (s.heap.objs.size + 1)) { s with heap := sortedAll s.heap vs out.toArray }) :
    wpAny (model prog w) A (call (.builtin "sorted") [.ref l]) Q E s := by
  refine Calls.call_function_entry kind_sorted plain_sorted entry_sorted (args_sorted1 _) ?_
  unfold Builtin.«sorted»
  refine wpAny_bind (m := checkCount "sorted" 1 1 _) (wpAny_pure ?_)
  refine wpAny_bind (collect_tupJ hl ?_ hz)
  refine wpAny_bind (wpAny_newList ?_ hz)
  have hsz : ((s.heap.push (seqObj "list" #[] 0)).update s.heap.objs.size (Obj.mapSeq (· ++ vs.toArray))).objs.size = s.heap.objs.size + 1 := by
    rw [Heap.size_update, size_push']
  have hoL : (((s.heap.push (seqObj "list" #[] 0)).update s.heap.objs.size (Obj.mapSeq (· ++ vs.toArray))).push (seqObj "list" vs.toArray 0)).get? (s.heap.objs.size + 1) = some (seqObj "list" vs.toArray 0) := by
    rw [← hsz]; exact Heap.get?_push_size _ rfl
  have keep : ∀ b o, s.heap.get? b = some o → b ≠ s.heap.objs.size + 1 ∧ (((s.heap.push (seqObj "list" #[] 0)).update s.heap.objs.size (Obj.mapSeq (· ++ vs.toArray))).push (seqObj "list" vs.toArray 0)).get? b = some o := fun b o q => by
    have hlt : b < s.heap.objs.size := Heap.lt_size q
    refine ⟨Nat.ne_of_lt (Nat.lt_succ_of_lt hlt), Heap.get?_push_of_some _ ?_⟩
    rw [Heap.get?_update_ne _ _ _ _ (Nat.ne_of_lt hlt)]
    exact Heap.get?_push_of_some _ q
  show wpAny _ _ _ _ _ { s with heap := ((s.heap.push (seqObj "list" #[] 0)).update s.heap.objs.size (Obj.mapSeq (· ++ vs.toArray))).push (seqObj "list" vs.toArray 0) }
  rw [hsz]
  refine wpAny_bind (wpAny_holding (wpAny_call_entry slot_list_sort ⟨_, hoL, rfl⟩ entry_list_sort (list_sort_ord O hoL hz (fun h2 => hS h2 _ _ hoL keep) fun out hs hb => ⟨_, rfl, ?_⟩) (args_list_sort _)))
  exact wpAny_pure ⟨_, rfl, h out hs hb⟩
end
end SrtO
namespace L2
open PySem PySem.Spec PyProof.Rows
def rSortedIT (K : PySem.W.Frag) : List V → Hp → VK → Prop := fun vs H Q => ∃ (a : Addr) (ns : List Int), vs = [V.ref a] ∧ SqT K H a (ns.map V.int) ∧
  ∀ (ns' : List Int) (p : Addr), ns'.Perm ns → ns'.Pairwise (· ≤ ·) → H p = none → Q (.ref p) (upd H p (.lst (ns'.map V.int)))
section
variable {X : Cx}
theorem cr_sortedIT : CallR X (.builtin "sorted") (rSortedIT X.K) := by
  intro pins s σ H vs us Q I r h
  obtain ⟨a, ns, rfl, hs, q⟩ := h
  obtain ⟨its, rv, hl, hz⟩ := I.tuple hs
  rw [Vals.ref1 r]
  have hi := rv.ints
  refine SrtO.sorted_ordT SrtO.swo_int (show s.heap.IsTuple a its.toArray from hl) (by rw [← rv.length]; exact hz) (fun h2 h₁ a' _ _ => SrtO.ints_sortable hi h2) fun out h1 h2 => ?_
  obtain ⟨k1, k2, k3⟩ := SrtO.ints_out hi h1 h2
  obtain ⟨ep, he'⟩ := PyProof.Rows.sortedAll_at s.heap its out.toArray
  have hlen : ((out.map SrtO.iv).map V.int).length ≤ sizeLine := by
    rw [List.length_map, k2.length_eq]
    rw [List.length_map] at hz
    exact hz
  exact ⟨.ref _, upd H (s.heap.objs.size + 1) (.lst ((out.map SrtO.iv).map V.int)), I.laid (t' := s.toks) (fun _ _ => PyProof.Rows.sortedAll_old) (Nat.le_succ _) ⟨hlen, out, ep, vals_of_ints k1, he'⟩, rfl, q _ _ k2 k3 (I.hok.fresh (Nat.le_succ _))⟩
end
end L2
namespace J
open PySem PySem.Spec L2 PyProof.Rows ClX RZ
section
variable {X : Cx} {F : Fr} {g : Gm} {e : Expr} {p pos : Pos}
theorem je_sortedT {w : (List Int → Prop) → Prop} (hg : Gl X "sorted") (hm : X.mg "sorted" = none) (ha : JE X F g e (rO (tT X.K (aV tI))) w) (he : starEach [e] X.env = (false, eval e X.env) :: starEach [] X.env := by rfl) (hpl : (backTo pos (starEach [] X.env)).any (·.1) = false := by rfl) :
    JE X F g (.Call (.Name "sorted" p) [e] [] pos) (rN tI) (fun k => w fun xs => ∀ ys : List Int, ys.Perm xs → ys.Pairwise (· ≤ ·) → k ys) :=
  je_callB (T := aC (tT X.K (aV tI)) aN) (R := rN tI) (C := fun t k => ∀ ys : List Int, ys.Perm t.1 → ys.Pairwise (· ≤ ·) → k ys) cr_sortedIT (fun _ t H vs P Q k ⟨v, r, e1, ⟨a, us, ev, hs, hp⟩, e2⟩ c q => ⟨a, t.1, by rw [e1, (e2 : r = []), ev], by rw [← paired_int hp]; exact hs, fun ys l h1 h2 hl => q ys _ _ (c ys h1 h2) (same_upd hl) ⟨l, _, rfl, hl, k.bs_new hl, paired_ints ys⟩⟩) hg hm (by decide +kernel) (jb_cons (je_b ha) jb_nil he) (by decide) (by decide) he hpl
end
end J
/-! A16: own errors without fields: raised, let through, caught -/
namespace L2
open PySem PySem.Spec PyProof.Rows
section
variable {X : Cx} {CX : CXT} {k : Nat} {f C : Addr} {fd : FuncData} {ps : List Str} {sp : Sp} {E : St → XK} {x m : Str} {p pos apos : Pos} {e o : Expr} {es : List Expr} {ta : TE} {t : TA}
theorem run_makeS {pins : List (Addr × Obj)} {σ : St} {H : Hp} {s : Shared} {Q : VK} {us : List Value} {vs : List V} (M : Mk X.K C f) (F : FnOk X.prog X.w X.K X.mg X.base CX k f fd ps sp) (hr : Room (k + 1) X.A) (hb : Binds X.K fd ps [])
    (hx : PassesAt CX X σ (E σ)) (I : Inv X pins σ H s) (r : Vals vs us)
    (h : ∀ x dx, H x = none → H dx = none → dx ≠ x → sp (.ref x :: vs) (upd (upd H dx (.own x)) x (.ins C dx [])) (fun v H2 => v = .non ∧ Q (.ref x) H2) (E σ)) :
    wpAny (model X.prog X.w) X.A (call (.ref C) us) (EP X pins σ Q) X.xe s := by
  have hq := h (s.heap.objs.size + 1) s.heap.objs.size (I.hok.fresh (Nat.le_succ _)) (I.hok.fresh (Nat.le_refl _)) (Nat.ne_of_lt (Nat.lt_succ_self _))
  have I2 := Inv.made (C := C) I
  have r2 : Vals (V.ref (s.heap.objs.size + 1) :: vs) (Value.ref (s.heap.objs.size + 1) :: us) := .cons rfl r
  have hl : (Value.ref (s.heap.objs.size + 1) :: us).length = ps.length := by
    have e := r2.length
    rw [F.len _ _ _ _ hq] at e
    exact e.symm
  have hbb := hb _ (Value.ref (s.heap.objs.size + 1) :: us) I2.kIn (by rw [List.append_nil]; exact hl)
  rw [List.append_nil] at hbb
  refine wpAny_call (make_map (f := f) I.kIn M.makes M.init (beq_iff_eq.mp M.fn) (codeAny_mono (F.run _ X.stack _ _ ⟨Value.ref (s.heap.objs.size + 1) :: us, []⟩ (Value.ref (s.heap.objs.size + 1) :: us) _ _ (E σ) (hr.make C us [])
    (I2.env0.make C us []) hbb r2 hq) fun r s' hq' => ?_))
  cases r with
  | error e => exact hx pins _ _ e s' I2 hq'
  | ok fl =>
    cases fl with
    | ret u =>
      obtain ⟨v, H', I3, rv, ev, q3⟩ := I2.after hq'
      subst ev
      exact ⟨rv, ⟨V.ref (s.heap.objs.size + 1), H', I3, rfl, q3⟩⟩
    | next => exact False.elim hq'
    | brk => exact False.elim hq'
    | cont => exact False.elim hq'
def tMakeS (C : Addr) (sp : Sp) (E : St → XK) (t : TA) : TE := fun σ H Q => t σ H fun vs H1 => ∀ x dx, H1 x = none → H1 dx = none → dx ≠ x →
  sp (.ref x :: vs) (upd (upd H1 dx (.own x)) x (.ins C dx [])) (fun v H2 => v = .non ∧ Q (.ref x) H2) (E σ)
theorem pe_makeS (M : Mk X.K C f) (F : FnOk X.prog X.w X.K X.mg X.base CX k f fd ps sp) (hr : Room (k + 1) X.A) (hg : Gl X x) (hm : X.mg x = some (.ref C)) (hb : Binds X.K fd ps []) (hx : ∀ σ, PassesAt CX X σ (E σ))
    (ha : PA X (e :: es) t) (hdb : (x == ("__debug__" : Str)) = false := by decide) (he : starEach (e :: es) X.env = (false, eval e X.env) :: starEach es X.env := by rfl) (hpl : (backTo pos (starEach es X.env)).any (·.1) = false := by rfl) :
    PE X (.Call (.Name x p) (e :: es) [] pos) (tMakeS C sp E t) := by
  refine ⟨fun pins s σ H Q I h => ?_⟩
  refine wpAny_Call_Name_kw (ld_glob I hg hm ?_ hdb)
  refine PySem.W.callWith_K (h₀ := X.base) I.ok.mod.kin M.kp (thn (ha.run pos pins s σ H _ I h) fun us s1 ⟨vs, H1, I1, r, q⟩ => ⟨I1.kIn, ?_⟩) he hpl
  exact run_makeS M F hr hb (hx σ) I1 r q
def tMethSJ (C : Addr) (m : Str) (sp : Sp) (E : St → XK) (ta : TE) (t : TA) : TE := fun σ H Q => ta σ H fun x H1 => ∃ a dx fs, x = .ref a ∧ H1 a = some (.ins C dx fs) ∧ fs.lookup m = none ∧
  t σ H1 fun vs H2 => sp (x :: vs) H2 Q (E σ)
theorem pe_methSJ {pl : Sem Bool} (he : PE X o ta) (c : Cls X.K C) (hm : Meth X.K C m f) (F : FnOk X.prog X.w X.K X.mg X.base CX k f fd ps sp) (hr : Room k X.A) (hb : Binds X.K fd ps []) (hx : ∀ σ, PassesAt CX X σ (E σ)) (ha : PA X (e :: es) t)
    (hst : starEach (e :: es) X.env = (false, eval e X.env) :: starEach es X.env := by rfl) (hpl : (backTo pos (starEach es X.env)).any (·.1) = false := by rfl)
    (ht : eval (.Call (.Attribute o m apos) (e :: es) [] pos) X.env = (do
      let ov ← eval o X.env
      standAt apos.atName
      let (f, first) ← holding [ov] (getMethod ov m pl)
      callWith pos f first (backTo pos (starEach (e :: es) X.env)) (backToKw pos (keywordEach [] X.env))) := by rfl) :
    PE X (.Call (.Attribute o m apos) (e :: es) [] pos) (tMethSJ C m sp E ta t) := by
  refine ⟨fun pins s σ H Q I h => ?_⟩
  refine PySem.W.methodCall_KW (pl := pl) (thn (he.run pins s σ H _ I h) fun u s1 ⟨x, H1, I1, rx, a, dx, fs, ex, ea, l, q⟩ => ?_) ht
  subst ex
  obtain rfl : u = Value.ref a := rx
  refine getmeth_ok I1 ea c hm l ?_
  refine PySem.W.callWith_K (first := [.ref a]) (h₀ := X.base) I.ok.mod.kin hm.kp (thn (ha.run pos pins s1 σ H1 _ I1 q) fun us s2 ⟨vs, H2, I2, r, q2⟩ => ⟨I2.kIn, ?_⟩) hst hpl
  exact run_fnS (us := .ref a :: us) (vs := .ref a :: vs) F hr hb (hx σ) I2 (.cons rfl r) q2
end
end L2
namespace J
open PySem PySem.Spec L2 PyProof.Rows ClX RZ
section
variable {X : Cx} {F : Fr} {g : Gm} {α β γ ρ τ κ : Type}
/-- the error's class at EC: what is raised, where N holds -/
def spIX (C : Addr) (ns : List Str) (T : ATy τ) (U : ATy κ) (EC : Addr) (w : τ → (κ → Prop) → Prop → Prop) : Sp := fun vs H Q E => ∃ (x dx : Addr) (ws : List V) (t : τ) (P : κ → Prop) (N : Prop) (F : Fr), vs = .ref x :: ws ∧ F.H x = none ∧ F.H dx = none ∧ dx ≠ x ∧ H = upd (upd F.H dx (.own x)) x (.ins C dx []) ∧ T.rel F.B ws t ∧ w t P N ∧
  (∀ u H2, P u → Same F.H H2 → (tC C ns U).rel (F.out H2) (.ref x) u → Q .non H2) ∧ (N → ∀ H2, Same F.H H2 → E (.ref EC) none H2)
def spJX {τ ρ : Type} (T : ATy τ) (R : Res ρ) (EC : Addr) (w : τ → (ρ → Prop) → Prop → Prop) : Sp := fun vs H Q E => ∃ (t : τ) (P : ρ → Prop) (N : Prop) (F : Fr), F.H = H ∧ T.rel F.B vs t ∧ w t P N ∧ RtOk F R P Q ∧ (N → ∀ H2, Same F.H H2 → E (.ref EC) none H2)
variable {f C EC : Addr} {m x : Str} {n : Nat} {fd : FuncData} {ps ns : List Str} {e : Expr} {es : List Expr} {apos pos np : Pos} {pl : Sem Bool} {T : ATy τ} {U : ATy κ} {R : Res ρ} {W : WX} {N : Prop}
theorem je_makeX {w : τ → (κ → Prop) → Prop → Prop} {wa : (τ → Prop) → Prop} (tk : Takes X W) (hW : ∀ σ H, g.Ok F σ H → N → W (.ref EC) none σ H) (M : Mk X.K C f) (Fn : FnOk X.prog X.w X.K X.mg X.base (L2.CX X.prog X.w) n f fd ps (spIX C ns T U EC w)) (hr : Room (n + 1) X.A) (hg : Gl X x) (hm : X.mg x = some (.ref C)) (hb : Binds X.K fd ps [])
    {a0 : Expr} (ha : JA X F g (a0 :: es) T wa) (hdb : (x == ("__debug__" : Str)) = false := by decide) (he : starEach (a0 :: es) X.env = (false, eval a0 X.env) :: starEach es X.env := by rfl) (hpl : (backTo pos (starEach es X.env)).any (·.1) = false := by rfl) :
    JE X F g (.Call (.Name x np) (a0 :: es) [] pos) (rO (tC C ns U)) (fun k => wa fun t => w t k N) :=
  peW (pe_makeS (E := WE W) M Fn hr hg hm hb (fun σ => passAt tk σ) ha hdb he hpl) fun σ H Q ⟨k, P, w, q⟩ => ⟨k, _, w, fun t vs H1 w1 s1 r1 x dx hx hdx hne => ⟨x, dx, vs, t, P, N, (k.step s1).fr, rfl, hx, hdx, hne, rfl, r1, w1, (fun u H2 p s2 r2 => ⟨rfl, q u (.ref x) H2 p (s1.trans s2) ((tC C ns U).same ((k.step s1).back s2) r2)⟩), fun nn H2 s2 => hW σ H2 (k.step (s1.trans s2)) nn⟩⟩
theorem je_methX {w : κ × τ → (ρ → Prop) → Prop → Prop} {wo : (κ → Prop) → Prop} {wa : (τ → Prop) → Prop} {a0 : Expr} (tk : Takes X W) (hW : ∀ σ H, g.Ok F σ H → N → W (.ref EC) none σ H) (he : JE X F g e (rO (tC C ns U)) wo) (c : Cls X.K C) (hm : Meth X.K C m f) (Fn : FnOk X.prog X.w X.K X.mg X.base (L2.CX X.prog X.w) n f fd ps (spJX (aC (tC C ns U) T) R EC w)) (hr : Room n X.A) (hb : Binds X.K fd ps []) (ha : JA X F g (a0 :: es) T wa)
    (hl : ∀ vs : List V, vs.length = ns.length → (ns.zip vs).lookup m = none)
    (hst : starEach (a0 :: es) X.env = (false, eval a0 X.env) :: starEach es X.env := by rfl) (hpl : (backTo pos (starEach es X.env)).any (·.1) = false := by rfl)
    (ht : eval (.Call (.Attribute e m apos) (a0 :: es) [] pos) X.env = (do
      let ov ← eval e X.env
      standAt apos.atName
      let (f, first) ← holding [ov] (getMethod ov m pl)
      callWith pos f first (backTo pos (starEach (a0 :: es) X.env)) (backToKw pos (keywordEach [] X.env))) := by rfl) :
    JE X F g (.Call (.Attribute e m apos) (a0 :: es) [] pos) R (fun k => wo fun o => wa fun t => w (o, t) k N) :=
  peW (pe_methSJ (E := WE W) he c hm Fn hr hb (fun σ => passAt tk σ) ha hst hpl ht) fun σ H Q ⟨k, P, w, q⟩ => ⟨k, _, w, fun o v H1 w1 s1 r1 => by
    obtain ⟨a, dx, vs, e1, h1, hn, ho⟩ := r1
    exact ⟨a, dx, _, e1, (k.step s1).le _ _ h1, hl vs hn, k.step s1, _, w1, fun t us H2 w2 s2 r2 => ⟨(o, t), P, N, (k.step (s1.trans s2)).fr, rfl, ⟨v, us, by rw [e1], ⟨a, dx, vs, e1, Gm.mono s2 _ _ h1, hn, U.same (Gm.mono s2) ho⟩, r2⟩, w2, (fun r v H3 p s3 r3 => q r v H3 p (s1.trans (s2.trans s3)) (R.pre (s1.trans s2) (R.same ((k.step (s1.trans s2)).back s3) (Same.refl _) r3))), fun nn H3 s3 => hW σ H3 (k.step (s1.trans (s2.trans s3))) nn⟩⟩⟩
/-- raise EC("..") -/
theorem js_raiseX {ex : Expr} {rest : List Stmt} {D : Ends} (hc : X.calm = true) (tk : Takes X W) (hW : ∀ σ H, g.Ok F σ H → N → W (.ref EC) none σ H) (he : PMk X ex (fun _ H Q => Q (.ref EC) none H)) : JSs X F g (.Raise (some ex) none pos :: rest) D N :=
  pssW (pss_cons (ps_raise hc tk he) pss_never) fun D' σ H ⟨e, k, nn⟩ => hW σ H k nn

/-- the error that the suite holds -/
def tRf (a : Addr) : Ty Unit := ⟨fun _ v _ => v = .ref a, fun _ h => h⟩
theorem Gm.Ok.clr {F : Fr} {σ : L2.St} {H : Hp} (k : g.Ok F σ H) {i : Nat} (o : Option V) : (g.set i .any).Ok F (σ.set i o) H :=
  ⟨k.same, Par.set (t := .any) trivial i k.slots, k.nd, k.cells⟩
theorem set_selfJ {α : Type 1} {l : List α} {i : Nat} {a : α} (h : l[i]? = some a) : l.set i a = l := by
  obtain ⟨hi, e⟩ := List.getElem?_eq_some_iff.mp h
  rw [← e]
  exact List.set_getElem_self hi
theorem set_any2 {g : Gm} {i : Nat} {t : Slot} (h : g.s[i]? = some .any) : (g.set i t).set i .any = g := by
  show (⟨(g.s.set i t).set i .any, g.c⟩ : Gm) = g
  rw [List.set_set, set_selfJ h]
/-- at the end of a part of a try -/
theorem js_endZ {Z : L2.St → Hp → Prop} {R : Prop} {bk ct : L2.St → Hp → Prop} {rt : VK} (h : ∀ σ H, g.Ok F σ H → Z σ H) : JSs X F g [] ⟨fun σ H => Z σ H ∧ R, rt, bk, ct⟩ R := pssW pss_nil fun D σ H ⟨e, o, q⟩ => e.nx _ _ ⟨h σ H o, q⟩
theorem clr_try {F : Fr} {i : Nat} {t : Slot} (hany : g.s[i]? = some .any) {σ : L2.St} {H : Hp} (k : (g.set i t).Ok F σ H) : g.Ok F (σ.set i none) H := by
  have := k.clr (i := i) none
  rw [set_any2 hany] at this
  exact this
theorem js_tryX {i : Nat} {nE xC : Str} {c : Value} {body suite rest : List Stmt} {b₀ : Stmt} {nx bk ct : L2.St → Hp → Prop} {rt : VK} {wr : Prop} {ws' : Prop → Prop} {wb : Prop → Prop → Prop} {pos' : Pos} (hs : X.stack = X.env :: X.outer) (hf : X.env.frame = some X.env.locals) (hN : X.N.Nodup) (hi : X.N[i]? = some nE) (hln : X.env.kindOf nE = some .local) (hc : Names X xC c)
    (hex : PySem.W.exmOne X.K (.ref EC) c = some true) (hany : g.s[i]? = some .any)
    (hb : ∀ (R N : Prop) (W : WX) (pn : List (Addr × Obj)) (xe : Value → Shared → Prop), Takes (X.tr pn xe) W → (∀ σ H, g.Ok F σ H → N → W (.ref EC) none σ H) → JSs (X.tr pn xe) F g body ⟨fun σ H => g.Ok F σ H ∧ R, rt, fun _ _ => False, fun _ _ => False⟩ (wb R N))
    (hC : ExcC X.K EC)
    (hsu : ∀ (R : Prop) (a : Addr) (oe : Obj) (pn : List (Addr × Obj)), CallR (X.suite a ((a, oe) :: pn)) (.builtin "isinstance") (rIsE X.K EC a) → JSs (X.suite a ((a, oe) :: pn)) F (g.set i (.val (tRf a) ())) (b₀ :: suite) ⟨fun σ H => g.Ok F (σ.set i none) H ∧ R, rt, fun _ _ => False, fun _ _ => False⟩ (ws' R))
    (hr : JSs X F g rest ⟨nx, rt, bk, ct⟩ wr) : JSs X F g (.Try body [.ExceptHandler (some (.Name xC np)) (some nE) (b₀ :: suite) pos'] [] [] pos :: rest) ⟨nx, rt, bk, ct⟩ (wCut wr fun R => wCut (ws' R) fun N => wb R N) := by
  refine pssW (pss_cons (ps_try_as (np := np) (pos := pos) (tb := fun W => fun D σ H => ∃ q : Prop × Prop, (∀ σ H, g.Ok F σ H → q.2 → W (.ref EC) none σ H) ∧ RS F g ⟨fun σ H => g.Ok F σ H ∧ q.1, rt, fun _ _ => False, fun _ _ => False⟩ (wb q.1 q.2) D σ H)
    (ts := fun a cls d => fun D σ H => cls = .ref EC ∧ d = none ∧ ∃ R : Prop, RS F (g.set i (.val (tRf a) ())) ⟨fun σ H => g.Ok F (σ.set i none) H ∧ R, rt, fun _ _ => False, fun _ _ => False⟩ (ws' R) D σ H)
    (Wout := fun _ _ _ _ => False) hs hf hN hi hln hc takes0 (fun W pn xe tk _ => ?_) (fun a oe cls d pn hz hv => ?_)) hr) fun D σ H ⟨e, k, w⟩ => ?_
  · exact ⟨fun p s σ H D I ⟨q, hW, h⟩ => (hb q.1 q.2 W pn xe tk hW).run p s σ H D I h⟩
  · refine ⟨fun p s σ H D I ⟨e1, e2, R, h⟩ => ?_⟩
    subst e1 e2
    exact (hsu R a oe pn (call_isE hC hz hv)).run p s σ H D I h
  · refine ⟨(wr, ws' wr), fun σ H k n => ⟨true, hex, fun _ a ha => ⟨rfl, rfl, wr, ⟨fun σ H ⟨k, r⟩ => ⟨e, k, r⟩, e.rt, fun _ _ z => z.elim, fun _ _ z => z.elim⟩, k.set (t := .val (tRf a) ()) ⟨_, rfl, rfl⟩, n⟩, fun z => by cases z⟩, ⟨⟨fun σ H ⟨k, r⟩ => ⟨e, k, r⟩, e.rt, fun _ _ z => z.elim, fun _ _ z => z.elim⟩, k, w⟩⟩

/-! ### isinstance of the error -/
theorem kit_yes {K : PySem.W.Frag} {C D : Addr} (h1 : PySem.W.isClsIn K D = true) (h2 : PySem.W.typeIn K (.ref D) = some (.type "type")) (h3 : PySem.W.subIn K (.ref C) (.ref D) = some true) : PySem.W.kitOne K (.ref C) (.ref D) = some true := by
  unfold PySem.W.kitOne
  split
  · rfl
  · unfold PySem.W.kitCls
    have h1' : (PySem.W.clsIn K D).isSome = true := h1
    dsimp only
    rw [if_pos (by rw [h1', h2]; rfl)]
    exact h3
theorem kit_no {K : PySem.W.Frag} {C D : Addr} (h1 : PySem.W.isClsIn K D = true) (h2 : PySem.W.typeIn K (.ref D) = some (.type "type")) (h3 : PySem.W.subIn K (.ref C) (.ref D) = some false) (h4 : PySem.W.subIn K (.ref C) (.ref C) = some true) : PySem.W.kitOne K (.ref C) (.ref D) = some false := by
  unfold PySem.W.kitOne
  split
  · rename_i e
    have e1 := beq_iff_eq.mp e
    rw [← e1, h4] at h3
    cases h3
  · unfold PySem.W.kitCls
    have h1' : (PySem.W.clsIn K D).isSome = true := h1
    dsimp only
    rw [if_pos (by rw [h1', h2]; rfl)]
    exact h3
theorem kit_tyE {K : PySem.W.Frag} {C : Addr} {T : String} {b : Bool} (h1 : PySem.W.kitMeta T = true) (h3 : PySem.W.subIn K (.ref C) (.type T) = some b) : PySem.W.kitOne K (.ref C) (.type T) = some b := by
  unfold PySem.W.kitOne
  rw [if_neg (by intro z; cases beq_iff_eq.mp z)]
  unfold PySem.W.kitCls
  dsimp only
  rw [if_pos h1]
  exact h3
section
variable {a D : Addr} {oe : Obj} {pn : List (Addr × Obj)} {c : Expr} {p : Pos} {cV : V} {cv : Value} {b : Bool}
theorem je_isE {K : PySem.W.Frag} (hI : CallR X (.builtin "isinstance") (rIsE K EC a)) (hg : Gl X "isinstance") (hm : X.mg "isinstance" = none) {w : (Unit → Prop) → Prop} (ha : JE X F g e (rO (tRf a)) w) (hT : PE X c (L2.tC cV)) (hcv : ∀ u, RelV cV u → u = cv) (hk : PySem.W.kitOne K (.ref EC) cv = some b)
    (he : starEach [e, c] X.env = (false, eval e X.env) :: starEach [c] X.env := by rfl) (he2 : starEach [c] X.env = (false, eval c X.env) :: starEach [] X.env := by rfl) (hpl : (backTo pos (starEach [c] X.env)).any (·.1) = false := by rfl) :
    JE X F g (.Call (.Name "isinstance" p) [e, c] [] pos) (rO tB) (fun k => w fun _ => k b) :=
  peW (pe_callB hI hg hm (by decide +kernel) (pa_cons ha (pa_cons hT pa_nil he2) he) (by decide) (by decide) he hpl) fun σ H Q ⟨k, P, w, q⟩ => ⟨k, _, w, fun x v H1 w1 s1 r1 =>
    ⟨cV, cv, b, by rw [(r1 : v = _)], hcv, hk, q b _ H1 w1 s1 rfl⟩⟩
theorem je_isER {K : PySem.W.Frag} {D : Addr} (b : Bool) (hI : CallR X (.builtin "isinstance") (rIsE K EC a)) (hg : Gl X "isinstance") (hm : X.mg "isinstance" = none) {w : (Unit → Prop) → Prop} (ha : JE X F g e (rO (tRf a)) w) (hT : PE X c (L2.tC (.ref D))) (hk : PySem.W.kitOne K (.ref EC) (.ref D) = some b)
    (he : starEach [e, c] X.env = (false, eval e X.env) :: starEach [c] X.env := by rfl) (he2 : starEach [c] X.env = (false, eval c X.env) :: starEach [] X.env := by rfl) (hpl : (backTo pos (starEach [c] X.env)).any (·.1) = false := by rfl) :
    JE X F g (.Call (.Name "isinstance" p) [e, c] [] pos) (rO tB) (fun k => w fun _ => wLet b k) := je_isE hI hg hm ha hT (fun _ r => r) hk he he2 hpl
theorem je_isET {K : PySem.W.Frag} {T : String} (b : Bool) (hI : CallR X (.builtin "isinstance") (rIsE K EC a)) (hg : Gl X "isinstance") (hm : X.mg "isinstance" = none) {w : (Unit → Prop) → Prop} (ha : JE X F g e (rO (tRf a)) w) (hT : PE X c (L2.tC (.ty T))) (hk : PySem.W.kitOne K (.ref EC) (.type T) = some b)
    (he : starEach [e, c] X.env = (false, eval e X.env) :: starEach [c] X.env := by rfl) (he2 : starEach [c] X.env = (false, eval c X.env) :: starEach [] X.env := by rfl) (hpl : (backTo pos (starEach [c] X.env)).any (·.1) = false := by rfl) :
    JE X F g (.Call (.Name "isinstance" p) [e, c] [] pos) (rO tB) (fun k => w fun _ => wLet b k) := je_isE hI hg hm ha hT (fun _ r => r) hk he he2 hpl
end
end
end J
namespace J
open PySem PySem.Spec L2 PyProof.Rows ClX RZ
section
variable {X : Cx} {F : Fr} {g : Gm} {α : Type} {rest : List Stmt} {pos : Pos}
abbrev rInsJ : V → List V → Hp → VK → Prop := fun x vs H Q => ∃ (l : Addr) (xs : List V) (i : Int) (y : V), x = .ref l ∧ vs = [.int i, y] ∧ H l = some (.lst xs) ∧ xs.length < sizeLine ∧ 0 ≤ i ∧ i < 2 ^ 63 ∧
    Q .non (upd H l (.lst (xs.take i.toNat ++ [y] ++ xs.drop i.toNat)))
/-- xs.insert(k, e) -/
theorem js_ins {i j : Nat} {l : Addr} {A : Ty α} {xs : List α} {call : Expr} {wk : (Int → Prop) → Prop} {we : (α → Prop) → Prop} {wr : List α → Prop} {D : Ends} (hm : PE X call (tBM X.K "list" rInsJ (tVar i) (tCons (RJ F g (rO tI) wk) (tCons (RJ F g (rO A) we) tNil))))
    (hr : ∀ ys, JSs X F ⟨g.s, g.c.set j (.lst l A ys)⟩ rest D (wr ys)) (hs : g.s[i]? = some (.at l)) (hc : g.c[j]? = some (.lst l A xs)) (hsw : swapsWith call none pos.line X.env = pure false := by rfl) :
    JSs X F g (.Expr call pos :: rest) D (wk fun n => we fun a => (xs.length < 1000000 ∧ 0 ≤ n ∧ n < 1000000) ∧ wLet (xs.take n.toNat ++ [a] ++ xs.drop n.toNat) wr) := by
  refine pssW (pss_cons (ps_expr hm hsw) (pssE hr)) fun D' σ H ⟨e, k, q⟩ => ?_
  obtain ⟨vs, hp, r⟩ := k.cell hc
  refine ⟨_, k.ref hs, .inl ⟨rfl, vs, .inl (.inl hp)⟩, k, _, q, fun n u H1 p s rn => ⟨k.step s, _, p, fun a v H2 p2 s2 ra => ⟨l, vs, n, v, rfl, by rw [(rn : u = _)], (s.trans s2) _ _ hp, ?_, p2.1.2.1, by have := p2.1.2.2; omega, xs.take n.toNat ++ [a] ++ xs.drop n.toNat, e, ?_⟩⟩⟩
  · rw [Paired.len r]
    exact Nat.lt_of_lt_of_le p2.1.1 (by decide)
  · have r2 := Paired.imp (fun _ _ z => A.same (Gm.mono (s.trans s2)) z) r
    exact ⟨((k.step (s.trans s2)).mut hc (Paired.app (Paired.app (Paired.take _ r2) (.cons ra .nil)) (Paired.drop _ r2))), p2.2⟩
end
end J
/-! A17: an own operator that may raise -/
namespace L2
open PySem PySem.Spec PyProof.Rows ClX
section
variable {X : Cx} {CX : CXT} {k : Nat} {C f : Addr} {fd : FuncData} {ps : List Str} {sp : Sp} {E : St → XK} {a b : Expr} {pos : Pos} {ta tb : TE}
def rBinOS (C : Addr) (sp : Sp) (E : XK) : R2 := fun x y H Q => ∃ a dx fs b dy gs, x = .ref a ∧ H a = some (.ins C dx fs) ∧ y = .ref b ∧ H b = some (.ins C dy gs) ∧ sp [.ref a, .ref b] H (fun v H' => (∀ u, RelV v u → u ≠ .notImplemented) ∧ Q v H') E
theorem pe_binOS {op : Operator} (hm : Meth X.K C (PySem.dunder op.info.2) f) (hs : PySem.W.selfFirst X.K C = true) (Fn : FnOk X.prog X.w X.K X.mg X.base CX k f fd ps sp) (hr : Room k X.A) (hb : Binds X.K fd ps []) (hx : ∀ σ, PassesAt CX X σ (E σ)) (ha : PE X a ta) (hbb : PE X b tb) :
    PE X (.BinOp a op b pos) (fun σ H Q => ta σ H fun x H1 => tb σ H1 fun y H2 => rBinOS C sp (E σ) x y H2 Q) := by
  refine ⟨fun pins s0 σ H0 Q I0 h => ?_⟩
  refine wpAny_BinOp (binT ha hbb I0 h fun v u s x y H I rx ry q => ?_)
  obtain ⟨o, dx, fs, o2, dy, gs, rfl, ea, rfl, eb, q⟩ := q
  obtain rfl : v = Value.ref o := rx
  obtain rfl : u = Value.ref o2 := ry
  obtain ⟨mA, O, _, _, _, _⟩ := ins_get I.hok ea
  obtain ⟨od, J, _⟩ := O.look
  obtain ⟨mB, O2, _, _, _, _⟩ := ins_get I.hok eb
  obtain ⟨od2, J2, _⟩ := O2.look
  obtain ⟨m, fr⟩ := I.fr
  refine PySem.W.binop_K fr I.mod.kin J J2.type hs hm.at_ hm.fn (wpAny_mono (wpAny_call (codeAny_mono (Fn.run X.A X.stack s H ⟨[.ref o, .ref o2], []⟩ [.ref o, .ref o2] [.ref o, .ref o2] _ (E σ) hr I.env0 (hb _ [.ref o, .ref o2] I.kIn ?_) (.cons rfl (.cons rfl .nil)) q) (R' := fun r s' => match r with | .ok (.ret u) => PySem.W.CmpBack (EP X _ σ Q) u s' | .ok _ => False | .error e => X.xe e s') fun r s' hq => ?_)) (fun u s' h => h) (fun e s' h => h))
  · exact (Fn.len _ _ _ _ q)
  · cases r with
    | error er => exact hx σ _ H s er s' I hq
    | ok fl =>
      cases fl with
      | ret u' =>
        obtain ⟨v, H', I', rv, hn, hQ⟩ := I.after hq
        have hne := hn _ rv
        show PySem.W.CmpBack _ u' s'
        unfold PySem.W.CmpBack
        split
        · exact absurd rfl hne
        · exact ⟨v, H', I', rv, hQ⟩
      | next => exact False.elim hq
      | brk => exact False.elim hq
      | cont => exact False.elim hq
end
end L2
namespace J
open PySem PySem.Spec L2 PyProof.Rows ClX RZ
section
variable {X : Cx} {F : Fr} {g : Gm} {α β γ ρ τ κ : Type} {C f EC : Addr} {n : Nat} {fd : FuncData} {ps ns : List Str} {U : ATy κ} {W : WX} {N : Prop} {a b : Expr} {pos : Pos}
theorem je_binOX {op : Operator} {ns' : List Str} {C' : Addr} {κ' : Type} {U' : ATy κ'} {w : κ × κ × Unit → (κ' → Prop) → Prop → Prop} {wa wb : (κ → Prop) → Prop} (tk : Takes X W) (hW : ∀ σ H, g.Ok F σ H → N → W (.ref EC) none σ H) (ha : JE X F g a (rO (tC C ns U)) wa) (hb' : JE X F g b (rO (tC C ns U)) wb) (hm : Meth X.K C (PySem.dunder op.info.2) f) (hs : PySem.W.selfFirst X.K C = true)
    (Fn : FnOk X.prog X.w X.K X.mg X.base (L2.CX X.prog X.w) n f fd ps (spJX (aC (tC C ns U) (aC (tC C ns U) aN)) (rO (tC C' ns' U')) EC w)) (hr : Room n X.A) (hb : Binds X.K fd ps []) : JE X F g (.BinOp a op b pos) (rO (tC C' ns' U')) (fun k => wa fun x => wb fun y => w (x, y, ()) k N) :=
  peW (pe_binOS (E := WE W) hm hs Fn hr hb (fun σ => passAt tk σ) ha hb') fun σ H Q ⟨k, P, w, q⟩ => ⟨k, _, w, fun x v H1 w1 s1 r1 => ⟨k.step s1, _, w1, fun y u H2 w2 s2 r2 => by
    have k2 := k.step (s1.trans s2)
    have r1' := (tC C ns U).same (Gm.mono s2) r1
    obtain ⟨o, dx, vs, e1, g1, l1, u1⟩ := id r1'
    obtain ⟨o2, dy, us, e2, g2, l2, u2⟩ := id r2
    exact ⟨o, dx, _, o2, dy, _, e1, k2.le _ _ g1, e2, k2.le _ _ g2, (x, y, ()), P, N, k2.fr, rfl, ⟨.ref o, [.ref o2], rfl, by rw [← e1]; exact r1', .ref o2, [], rfl, by rw [← e2]; exact r2, rfl⟩, w2, (fun r v' H' pr s rr =>
      ⟨nni_ref rr, q r v' H' pr ((s1.trans s2).trans s) ((rO (tC C' ns' U')).same (k2.back s) (Same.refl _) rr)⟩), fun nn H' s => hW σ H' (k2.step s) nn⟩⟩⟩
end
end J
namespace J
open PySem PySem.Spec L2 PyProof.Rows ClX RZ
section
variable {X : Cx} {F : Fr} {g : Gm} {α : Type} {A : Ty α} {e : Expr} {es : List Expr} {p pos : Pos} {wa u : (List α → Prop) → Prop}
theorem ja_starT (he : JE X F g e (rO (tT X.K (aV A))) wa) (hr : JA X F g es (aV A) u) (hs : starEach (.Starred e p :: es) X.env = (true, eval e X.env) :: starEach es X.env := by rfl) : JA X F g (.Starred e p :: es) (aV A) (fun k => wa fun xs => u fun t => k (xs ++ t)) :=
  paW (StX.pa_star he hr hs) fun σ H Q ⟨k, P, w, q⟩ => ⟨k, _, w, fun xs v H1 w1 s1 r1 => by
    obtain ⟨l, us, ev, hq, hp⟩ := id r1
    exact ⟨l, us, ev, .inl ((k.step s1).le.sqT' hq), k.step s1, _, w1, fun t vs H2 w2 s2 r2 => q (xs ++ t) (us ++ vs) H2 w2 (s1.trans s2) (Paired.app (Paired.imp (fun _ _ r => A.same (Gm.mono s2) r) hp) r2)⟩⟩
theorem ja_starL (he : JE X F g e (rE X.K A) wa) (hr : JA X F g es (aV A) u) (hs : starEach (.Starred e p :: es) X.env = (true, eval e X.env) :: starEach es X.env := by rfl) : JA X F g (.Starred e p :: es) (aV A) (fun k => wa fun xs => u fun t => k (xs ++ t)) :=
  paW (StX.pa_star he hr hs) fun σ H Q ⟨k, P, w, q⟩ => ⟨k, _, w, fun xs v H1 w1 s1 r1 => by
    obtain ⟨l, us, ev, hq, hp⟩ := id r1
    exact ⟨l, us, ev, .inr hq, k.step s1, _, w1, fun t vs H2 w2 s2 r2 => q (xs ++ t) (us ++ vs) H2 w2 (s1.trans s2) (Paired.app (Paired.imp (fun _ _ r => A.same (Gm.mono s2) r) hp) r2)⟩⟩
theorem je_lstS (h : JA X F g es (aV A) u) : JE X F g (.List es pos) (rN A) (fun k => u fun t => t.length ≤ 1000000 ∧ k t) :=
  peW (pe_lst h) fun σ H Q ⟨k, P, w, q⟩ => ⟨k, _, w, fun t vs H1 p s1 r1 => ⟨Nat.le_trans (by rw [Paired.len r1]; exact p.1) (by decide : 1000000 ≤ sizeLine), fun l hl => q t (.ref l) _ p.2 (s1.trans (same_upd hl)) ⟨l, vs, rfl, s1.free hl, (k.step s1).bs_new hl, Paired.imp (fun _ _ r => A.same ((k.step s1).rm_new hl) r) r1⟩⟩⟩
end
end J
/-! A18: new instances, list.index -/
namespace J
open PySem PySem.Spec L2 PyProof.Rows ClX RZ
section
variable {X : Cx} {F : Fr} {g : Gm} {α β γ ρ τ κ : Type}
/-- a new instance -/
def rC (C : Addr) (ns : List Str) (U : ATy κ) : Res κ := ⟨fun H B _ v u => ∃ p, v = .ref p ∧ H p = none ∧ (tC C ns U).rel B v u, fun s _ ⟨p, e, h0, h1⟩ => ⟨p, e, h0, (tC C ns U).same s h1⟩, fun s ⟨p, e, h0, h1⟩ => ⟨p, e, s.free h0, h1⟩⟩
instance {C : Addr} {ns : List Str} {U : ATy κ} [hU : AIm U] : RIm (rC C ns U) := ⟨fun ⟨p, e, h0, a, dx, vs, e1, h1, hl, hu⟩ s i n => ⟨p, e, h0, a, dx, vs, e1, n _ _ (by
  rw [e] at e1
  cases e1
  exact h0) h1, hl, hU.imm i (U.same s hu)⟩⟩
variable {f C : Addr} {m x : Str} {n : Nat} {fd : FuncData} {ps ns : List Str} {e : Expr} {es : List Expr} {apos pos np : Pos} {pl : Sem Bool} {T : ATy τ} {U : ATy κ}
theorem je_nc {w : (κ → Prop) → Prop} (h : JE X F g e (rC C ns U) w) : JE X F g e (rO (tC C ns U)) w := je_res h fun _ _ _ _ _ _ ⟨_, _, _, r⟩ => r
theorem je_makeC {w : τ → (κ → Prop) → Prop} {wa : (τ → Prop) → Prop} (M : Mk X.K C f) (Fn : FnOk X.prog X.w X.K X.mg X.base CX0 n f fd ps (spI C ns T U w)) (hr : Room (n + 1) X.A) (hg : Gl X x) (hm : X.mg x = some (.ref C)) (hb : Binds X.K fd ps [])
    {a0 : Expr} (ha : JA X F g (a0 :: es) T wa) (hdb : (x == ("__debug__" : Str)) = false := by decide) (he : starEach (a0 :: es) X.env = (false, eval a0 X.env) :: starEach es X.env := by rfl) (hpl : (backTo pos (starEach es X.env)).any (·.1) = false := by rfl) :
    JE X F g (.Call (.Name x np) (a0 :: es) [] pos) (rC C ns U) (fun k => wa fun t => w t k) :=
  peW (pe_make M Fn hr hg hm hb .nil pass0 ha hdb he hpl) fun σ H Q ⟨k, P, w, q⟩ => ⟨k, _, w, fun t vs H1 w1 s1 r1 x dx hx hdx hne => ⟨x, dx, vs, t, P, (k.step s1).fr, by rw [List.append_nil], hx, hdx, hne, rfl, r1, w1, fun u H2 p s2 r2 => ⟨rfl, q u (.ref x) H2 p (s1.trans s2) ⟨x, rfl, s1.free hx, (tC C ns U).same ((k.step s1).back s2) r2⟩⟩⟩⟩
variable {EC : Addr} {W : WX} {N : Prop}
theorem je_makeXC {w : τ → (κ → Prop) → Prop → Prop} {wa : (τ → Prop) → Prop} (tk : Takes X W) (hW : ∀ σ H, g.Ok F σ H → N → W (.ref EC) none σ H) (M : Mk X.K C f) (Fn : FnOk X.prog X.w X.K X.mg X.base (L2.CX X.prog X.w) n f fd ps (spIX C ns T U EC w)) (hr : Room (n + 1) X.A) (hg : Gl X x) (hm : X.mg x = some (.ref C)) (hb : Binds X.K fd ps [])
    {a0 : Expr} (ha : JA X F g (a0 :: es) T wa) (hdb : (x == ("__debug__" : Str)) = false := by decide) (he : starEach (a0 :: es) X.env = (false, eval a0 X.env) :: starEach es X.env := by rfl) (hpl : (backTo pos (starEach es X.env)).any (·.1) = false := by rfl) :
    JE X F g (.Call (.Name x np) (a0 :: es) [] pos) (rC C ns U) (fun k => wa fun t => w t k N) :=
  peW (pe_makeS (E := WE W) M Fn hr hg hm hb (fun σ => passAt tk σ) ha hdb he hpl) fun σ H Q ⟨k, P, w, q⟩ => ⟨k, _, w, fun t vs H1 w1 s1 r1 x dx hx hdx hne => ⟨x, dx, vs, t, P, N, (k.step s1).fr, rfl, hx, hdx, hne, rfl, r1, w1, (fun u H2 p s2 r2 => ⟨rfl, q u (.ref x) H2 p (s1.trans s2) ⟨x, rfl, s1.free hx, (tC C ns U).same ((k.step s1).back s2) r2⟩⟩), fun nn H2 s2 => hW σ H2 (k.step (s1.trans s2)) nn⟩⟩
/-- xs.index(e), numbers -/
theorem je_idx {call : Expr} {wo : (List Int → Prop) → Prop} {we : (Int → Prop) → Prop} (hm : PE X call (tBM X.K "list" (rIndex X.K) (RJ F g (rE X.K tI) wo) (tCons (RJ F g (rO tI) we) tNil))) :
    JE X F g call (rO tI) (fun k => wo fun xs => we fun y => ∃ j : Nat, xs[j]? = some y ∧ (∀ (m : Nat) (z : Int), m < j → xs[m]? = some z → z ≠ y) ∧ k (j : Int)) :=
  peW hm fun σ H Q ⟨k, P, w, q⟩ => ⟨k, _, w, fun xs v H1 w1 s1 r1 => by
    obtain ⟨a, us, ev, hq, hp⟩ := id r1
    have eu : us = xs.map V.int := (paired_int hp)
    subst ev
    refine ⟨.inl ⟨rfl, us, hq⟩, k.step s1, _, w1, fun y u H2 w2 s2 r2 => ?_⟩
    obtain ⟨j, h1, h2, h3⟩ := w2
    have ey : u = .int y := r2
    refine ⟨a, us, u, j, .int y, rfl, rfl, s2.seq hq, by rw [ey]; rfl, ?_, ?_, ?_, ?_, q _ _ H2 h3 (s1.trans s2) rfl⟩
    · rw [eu]
      refine List.all_eq_true.mpr fun z hz => ?_
      obtain ⟨i, _, e⟩ := List.mem_map.mp hz
      rw [← e]
      rfl
    · rw [eu, List.getElem?_map, h1]
      rfl
    · rw [ey]
      show (y == y) = true
      simp
    · intro m z' hm hz
      rw [eu, List.getElem?_map] at hz
      obtain ⟨i, hi, e⟩ := Option.map_eq_some_iff.mp hz
      rw [← e, ey]
      have := h2 m i hm hi
      show (i == y) = false
      simpa using this⟩
end
end J
/-! A19: comprehensions over range(a, b) with numbers of any size -/
namespace L2
open PySem PySem.Spec PyProof.Rows
theorem turn_long {P : Program} {w : World} {K : PySem.W.Frag} {tg : Expr} (it : Addr) (lo : Int) (n : Nat) : Turn P w K tg (Itr lo n) [it] it (fun i h => IsLongIter h it (lo + (i : Nat) * 1) ((n : Int) - (i : Nat)) 1) where
  mem := by simp
  obj := fun i h st b hb => by
    have e : b = it := by simpa using hb
    subst e
    exact ⟨_, st, fun v z => by
      have z' : Data.fields _ = Data.cell v := z
      cases z'⟩
  keep := fun i h h' st k => k it (by simp) _ st
  item := by
    intro X hP hw hK hc i pins s σ H E I hf st hg
    subst hP hw hK
    obtain ⟨f0, f1, f2, f3, f4, f5⟩ := hf it (by simp)
    have W := Walks.longrange (prog := X.prog) (w := X.w) (I.ok.hd hc) it lo 1 n
    refine W.item i s _ _ hg st fun v h' tk hv st' kk => ?_
    obtain ⟨t, rfl⟩ := hv
    have I1 : Inv X pins σ H { s with heap := h', toks := tk } := I.turned (fun b o hb e => kk b o (by simpa using hb) e) f0 f1 f3 f4 f5
    refine ⟨_, rfl, go_of (s := { s with heap := h', toks := tk }) (n := "longrange_iterator") st' rfl rfl (by decide) ⟨.int (lo + i), H, I1, ⟨t, ?_⟩, ⟨rfl, rfl⟩, st', fun b hb => (hf b hb).1⟩⟩
    rw [Int.mul_one]
  done := by
    intro X hP hw hK hc i pins s σ H E I hf st hg
    subst hP hw hK
    obtain ⟨f0, f1, f2, f3, f4, f5⟩ := hf it (by simp)
    exact wpAny_pyNext_long_end (I.ok.hd hc) st (by have : n ≤ i := hg; omega) fun h' eb => ⟨rfl, I.turned (t' := s.toks) (fun b o hb e => eb b o hb e) f0 f1 f3 f4 f5⟩
  self := fun _ _ _ _ _ st h => wpAny_pyIter_longiter st h
section
variable {X : Cx} {tg : Expr}
theorem range_itL {pins : List (Addr × Obj)} {σ : St} {H : Hp} {s : Shared} {R : It → Hp → Prop} {E : Value → Shared → Prop} {lo hi : Int} {t u v : Tok} {tk : Nat} (I : Inv X pins σ H s)
    (q : R (Itr lo (hi - lo).toNat) H) : wpAny (model X.prog X.w) X.A (pyIter (.ref s.heap.objs.size)) (PIE X pins σ tg R) E { s with heap := s.heap.push { cls := .type "range", data := .fields #[.int lo t, .int hi u, .int 1 v] }, toks := tk } := by
  have I1 : Inv X pins σ H { s with heap := s.heap.push { cls := .type "range", data := .fields #[.int lo t, .int hi u, .int 1 v] }, toks := tk } := I.kept fun b o e => Heap.get?_push_of_some _ e
  have fin : ∀ b ∈ [(s.heap.push { cls := .type "range", data := .fields #[.int lo t, .int hi u, .int 1 v] }).objs.size], FpOk X pins H b := fun b hb => by
    have e : b = (s.heap.push { cls := .type "range", data := .fields #[.int lo t, .int hi u, .int 1 v] }).objs.size := by simpa using hb
    subst e
    exact I1.fpOk (Nat.le_refl _) (I1.hok.fresh (Nat.le_refl _))
  have e1 : lo + ((0 : Nat) : Int) * 1 = lo := by simp
  have e2 : (((hi - lo).toNat : Nat) : Int) - ((0 : Nat) : Int) = Builtin.Range.rangeSize lo hi 1 := by rw [rangeSize_one]; split <;> omega
  cases hsm : Builtin.Range.small lo hi 1 with
  | true =>
    refine wpAny_pyIter_range (IsRange.new ..) hsm ?_
    refine ⟨(s.heap.push { cls := .type "range", data := .fields #[.int lo t, .int hi u, .int 1 v] }).objs.size, [(s.heap.push { cls := .type "range", data := .fields #[.int lo t, .int hi u, .int 1 v] }).objs.size], _, _, H, rfl,
      I1.kept (t' := tk) fun b o e => Heap.get?_push_of_some _ e, turn_range _ lo (hi - lo).toNat, ?_, fin, q⟩
    show IsRangeIter _ _ (lo + ((0 : Nat) : Int) * 1) ((((hi - lo).toNat : Nat) : Int) - ((0 : Nat) : Int)) 1
    rw [e1, e2]
    exact Heap.get?_push_size _ rfl
  | false =>
    refine wpAny_pyIter_longrange (IsRange.new ..) hsm ?_
    refine ⟨(s.heap.push { cls := .type "range", data := .fields #[.int lo t, .int hi u, .int 1 v] }).objs.size, [(s.heap.push { cls := .type "range", data := .fields #[.int lo t, .int hi u, .int 1 v] }).objs.size], _, _, H, rfl,
      I1.kept (t' := tk) fun b o e => Heap.get?_push_of_some _ e, turn_long _ lo (hi - lo).toNat, ?_, fin, q⟩
    show IsLongIter _ _ (lo + ((0 : Nat) : Int) * 1) ((((hi - lo).toNat : Nat) : Int) - ((0 : Nat) : Int)) 1
    rw [e1, e2]
    exact Heap.get?_push_size _ rfl
def iRng2L (ta : TA) : TI := fun σ H R => ta σ H fun vs H1 => ∃ i j : Int, vs = [.int i, .int j] ∧ R (Itr i (j - i).toNat) H1
theorem pi_range2L {a b : Expr} {ta : TA} {p pos : Pos} (hg : Gl X "range") (hm : X.mg "range" = none) (ha : PA X [a, b] ta) (hs : starEach [a, b] X.env = [(false, eval a X.env), (false, eval b X.env)] := by rfl) (hs2 : starEach [b] X.env = [(false, eval b X.env)] := by rfl) :
    PI X tg (.Call (.Name "range" p) [a, b] [] pos) (iRng2L ta) := by
  refine ⟨fun pins s σ H R I h => ?_⟩
  refine Call_ (ld_blt I hg hm boot_range (PyProof.Rows.callWith_type1 (thn (ha.run pos pins s σ H _ I h) fun us s1 ⟨vs, H1, I1, r1, q1⟩ => ?_) (by rw [hs, hs2]) (by rw [hs2]; rfl)))
  obtain ⟨i, j, e, q⟩ := q1
  subst e
  cases r1 with
  | cons r rr =>
    cases rr with
    | cons r' rr =>
      cases rr
      obtain ⟨t, rfl⟩ := r
      obtain ⟨t', rfl⟩ := r'
      exact call_range_2 (range_itL I1 q)
end
end L2
namespace J
open PySem PySem.Spec L2 PyProof.Rows ClX RZ
section
variable {X : Cx} {F : Fr} {g : Gm} {tg : Expr} {vs : List Nat}
theorem ji_R3 {e e2 : Expr} {p pr : Pos} {we we2 : (Int → Prop) → Prop} (hg0 : Gl X "range") (hm : X.mg "range" = none) (he : JE X F g e (rO tI) we) (he2 : JE X F g e2 (rO tI) we2)
    (hs : starEach [e, e2] X.env = [(false, eval e X.env), (false, eval e2 X.env)] := by rfl) (hs2 : starEach [e2] X.env = [(false, eval e2 X.env)] := by rfl) (hst : starEach [e2] X.env = (false, eval e2 X.env) :: starEach [] X.env := by rfl) (hst1 : starEach [e, e2] X.env = (false, eval e X.env) :: starEach [e2] X.env := by rfl) :
    PI X tg (.Call (.Name "range" p) [e, e2] [] pr) (RI F g tI (fun k => we fun n => we2 fun m => m - n ≤ 1000000 ∧ k (rangeI n m)) vs) :=
  piW (pi_range2L hg0 hm (pa_cons he (pa_cons he2 pa_nil hst) hst1) hs hs2) fun σ H R ⟨k, P, w, q⟩ => ⟨k, _, w, fun n v H1 w1 s1 r1 => ⟨k.step s1, _, w1, fun m v2 H2 ⟨w2, w3⟩ s2 r2 => ⟨n, m, by rw [(r1 : v = _), (r2 : v2 = _)],
    q (rangeI n m) (Itr n (m - n).toNat) [] H2 w3 (s1.trans s2) (fun c hc => by cases hc) (k.step (s1.trans s2)) fun σ' H' l' o => itr_at⟩⟩⟩
end
end J
/-! A20: a list taken apart into two names; what is kept and never read -/
namespace J
open PySem PySem.Spec L2 PyProof.Rows ClX RZ
section
variable {X : Cx} {F : Fr} {g : Gm} {α β γ ρ τ κ : Type} {rest : List Stmt} {pos : Pos}
/-- kept, never looked at -/
def tAny : Ty Unit := ⟨fun _ _ _ => True, fun _ _ => trivial⟩
theorem je_any {e : Expr} {R : Res ρ} {w : (ρ → Prop) → Prop} (h : JE X F g e R w) : JE X F g e (rO tAny) (fun k => w fun _ => k ()) :=
  peW h fun σ H Q ⟨k, P, w, q⟩ => ⟨k, _, w, fun _ v H1 w1 s1 _ => q () v H1 w1 s1 trivial⟩
/-- a, b = a list of two -/
theorem js_asgL2 {i j : Nat} {e e1 e2 : Expr} {kt : Nat} {tpos : Pos} {A : Ty α} {we : (List α → Prop) → Prop} {wr : α → α → Prop} {D : Ends} (he : JE X F g e (rO (tK A)) we) (hp : PGs X [e1, e2] (gCons (gName i) (gCons (gName j) gNil))) (hr : ∀ a b, JSs X F ((g.set i (.val A a)).set j (.val A b)) rest D (wr a b))
    (hc : X.calm = true := by rfl) (hn : (assignEach [e1, e2] X.env).length = 2 := by rfl) (hst : (assignEach [e1, e2] X.env).findIdx? (·.1) = none := by rfl)
    (hs : swapsWithSole [.Tuple [e1, e2] kt tpos] e pos.line X.env = pure false := by rfl) (hw : swappedStores [.Tuple [e1, e2] kt tpos] e X.env = pure none := by rfl) (hm : (assignEach [.Tuple [e1, e2] kt tpos] X.env).map (·.2) = [assign (.Tuple [e1, e2] kt tpos) X.env] := by rfl) :
    JSs X F g (.Assign [.Tuple [e1, e2] kt tpos] e pos :: rest) D (we fun xs => ∃ a b, xs = [a, b] ∧ wr a b) :=
  pssW (pss_cons (ps_asg he (pg_lst hc hp hn hst) hs hw hm) (pssE (t := fun (q : α × α) => RS F ((g.set i (.val A q.1)).set j (.val A q.2)) D (wr q.1 q.2)) fun q => hr q.1 q.2)) fun D' σ H ⟨e, o, q⟩ => ⟨o, _, q, fun xs v H1 p s r => by
    obtain ⟨a, b, rfl, p⟩ := p
    obtain ⟨l, us, ev, hq, hp⟩ := r
    cases hp with
    | cons r1 hp =>
      cases hp with
      | cons r2 hp =>
        cases hp
        have k1 : (g.set i (.val A a)).Ok F (σ.set i (some _)) H1 := (o.step s).set (t := .val A a) ⟨_, rfl, r1⟩
        have k2 := k1.set (i := j) (t := .val A b) ⟨_, rfl, r2⟩
        exact ⟨l, _, ev, .inl (.inl ((o.step s).le _ _ hq)), rfl, _, [_], rfl, _, [], rfl, rfl, (a, b), e, k2, p⟩⟩
end
end J
/-! A21: own errors with fields: super().__init__(text), the fields' stores -/
namespace L2
open PySem PySem.Spec PyProof.Rows PySem.W

theorem lk_of_mem {y : Str} {u : Value} : ∀ {l : List (Str × Value)}, (l.map (·.1)).Nodup → (y, u) ∈ l → l.lookup y = some u
  | [], _, h => by cases h
  | (a, b) :: l, nd, h => by
    rw [List.map_cons, List.nodup_cons] at nd
    rcases List.mem_cons.mp h with e | e
    · cases e
      simp [List.lookup]
    · have ne : y ≠ a := fun z => nd.1 (z ▸ List.mem_map_of_mem (f := (·.1)) e)
      have : (y == a) = false := by simpa using ne
      simp only [List.lookup, this]
      exact lk_of_mem nd.2 e

/-- a method whose scope holds __class__ free, nothing captured -/
structure SupScope (N P : List Str) (sc : Scope) : Prop where
  kind : sc.kind = .function
  co : sc.isCoroutine = false
  gen : sc.isGenerator = false
  nd : N.Nodup
  pre : N.take P.length = P
  par : ∀ x ∈ P, sc.names.lookup x = some .local
  nocell : ∀ y ∈ sc.names, y.2 ≠ .cell
  free : ∀ y ∈ sc.names, y.2 = .free → y.1 = "__class__"

def cxSup (CX : CXT) (P : Program) (w : World) (K : PySem.W.Frag) (mg : Str → Option Value) (base : Heap) (N : List Str) (qual : Str) (scope : Scope) (f cc : Addr) (cd : Value) (A : Around) (outer : List Env) (s : Shared) (H : Hp) (E : XK) : Cx where
  prog := P
  w := w
  K := K
  mg := mg
  base := base
  A := A.deeper (envX qual scope s.heap.objs.size f cd [("__class__", cc)])
  N := N
  s_0 := s
  H_0 := H
  env := envX qual scope s.heap.objs.size f cd [("__class__", cc)]
  outer := outer
  stack := envX qual scope s.heap.objs.size f cd [("__class__", cc)] :: outer
  ex := []
  calm := true
  fn := fun x => x != "__class__"
  pn := []
  xe := fun e s' => wpAny (model P w) (A.deeper (envX qual scope s.heap.objs.size f cd [("__class__", cc)])) (leaving (envX qual scope s.heap.objs.size f cd [("__class__", cc)]) e) (fun _ s'' => CX outer H s E e s'') (fun e' s'' => CX outer H s E e' s'') s'

theorem lk1 {x : Str} {c cc : Addr} (h : List.lookup x [(("__class__" : Str), cc)] = some c) : x = "__class__" ∧ c = cc := by
  by_cases e : x = "__class__"
  · subst e
    simp [List.lookup] at h
    exact ⟨rfl, h.symm⟩
  · have : (x == ("__class__" : Str)) = false := by simpa using e
    simp [List.lookup, this] at h

theorem inv_sup {CX : CXT} {P : Program} {w : World} {K : PySem.W.Frag} {mg : Str → Option Value} {base : Heap} {N ps : List Str} {qual : Str} {scope : Scope} {f cc : Addr} {cd : Value} {A : Around} {outer : List Env} {s : Shared} {H : Hp} {E : XK} {us : List Value} {vs : List V} {h1 : Heap} {tk : Nat} {vc : Option Value}
    (S : SupScope N ps scope) (hd : A.handled = none) (e0 : Env0 P w K mg base A outer s H) (hl : vs.length = ps.length) (r : Vals vs us) (hc : base.IsCell cc vc)
    (hns : h1.Ns s.heap.objs.size (fun x => (ps.zip us).reverse.lookup x)) (hk : ∀ b o, s.heap.get? b = some o → h1.get? b = some o) :
    Inv (cxSup CX P w K mg base N qual scope f cc cd A outer s H E) [] (start N vs) H { s with heap := h1, toks := tk } := by
  have hpl : ps.length ≤ N.length := by have := congrArg List.length S.pre; rw [List.length_take] at this; omega
  obtain ⟨oc, hoc, hod⟩ := id hc
  obtain ⟨b1, b2⟩ := e0.bs _ _ hoc
  have noA : ∀ b : Addr, b ∉ (cxSup CX P w K mg base N qual scope f cc cd A outer s H E).ex := fun b z => absurd (show b ∈ ([] : List Addr) from z) (by simp)
  have hcs : cc ≠ s.heap.objs.size := Nat.ne_of_lt (Heap.lt_size b1)
  refine ⟨⟨e0.mod, S.kind, rfl, rfl, Nat.le_refl _, fun y z c h1 h2 => ?_, fun y hy => ?_, fun y c hf h => ?_, fun _ => hd, Around.frames_deeper e0.frames, .inr ⟨rfl, rfl⟩, fun b z => absurd z (noA b), e0.bs, e0.bsz, fun b _ _ => noA b, fun b z => absurd z (noA b), e0.funs, e0.frf⟩,
    rfl, e0.bare, Un.kept hk, ⟨_, hns, fun i y v h1 h2 h3 => ?_⟩, fun y c h => ?_, e0.hok.fresh (Nat.le_refl _), fun y c h => ?_, fun p hp => absurd (show p ∈ ([] : List (Addr × Obj)) from hp) (by simp), e0.hok.kept hk, ?_⟩
  · exact (lk1 h1).1.trans (lk1 h2).1.symm
  · have hy : scope.names.lookup y = some .cell ∨ scope.names.lookup y = some .free := hy
    rcases hy with hy | hy
    · exact absurd rfl (S.nocell _ (PySem.mem_of_lookup hy))
    · obtain rfl : y = "__class__" := S.free _ (PySem.mem_of_lookup hy) rfl
      exact ⟨cc, rfl⟩
  · have hf : (y != ("__class__" : Str)) = true := hf
    rw [(lk1 h).1] at hf
    exact absurd hf (by decide)
  · have hi : i < vs.length := by
      unfold start at h2
      by_cases hi : i < vs.length
      · exact hi
      · rw [List.getElem?_append_right (by simpa using hi)] at h2
        rw [List.getElem?_replicate] at h2
        split at h2 <;> cases h2
    have ha : vs[i]? = some v := by
      unfold start at h2
      rw [List.getElem?_append_left (by simpa using hi), List.getElem?_map] at h2
      cases e : vs[i]? with
      | none => rw [e] at h2; cases h2
      | some a => rw [e] at h2; cases h2; rfl
    obtain ⟨u, hu, rv⟩ := r.get ha
    have hp : ps[i]? = some y := by
      rw [← S.pre, List.getElem?_take_of_lt (by omega)]; exact h1
    have ndP : ps.Nodup := by rw [← S.pre]; exact S.nd.sublist (List.take_sublist _ _)
    refine ⟨u, rv, .inl ⟨S.par y (List.mem_of_getElem? hp), ?_⟩⟩
    have hlen : us.length = ps.length := by rw [← r.length]; exact hl
    have hz : (ps.zip us)[i]? = some (y, u) := by
      rw [List.getElem?_zip_eq_some]
      exact ⟨hp, hu⟩
    refine lk_of_mem ?_ (List.mem_reverse.mpr (List.mem_of_getElem? hz))
    rw [List.map_reverse]
    refine (List.reverse_perm _).nodup_iff.mpr ?_
    rw [List.map_fst_zip (Nat.le_of_eq hlen.symm)]
    exact ndP
  · obtain ⟨rfl, rfl⟩ := lk1 h
    exact ⟨vc, oc, hk _ _ b1, hod⟩
  · obtain ⟨rfl, rfl⟩ := lk1 h
    exact b2
  · unfold start
    show _ = N.length
    rw [List.length_append, List.length_map, List.length_replicate]
    omega

/-- what the class C says of super().__init__ in D's __init__ -/
structure SupCl (K : Frag) (C D : Addr) : Prop where
  T : OexC K C
  sup : ks_superIn K C D "__init__" = some (some (.builtin "ValueError.__init__"))
  isV : subIn K (.ref C) (.type "ValueError") = some true
  isD : mroIn K C (.ref D) = some true

section
variable {CX : CXT} {P : Program} {w : World} {K : PySem.W.Frag} {mg : Str → Option Value} {base : Heap} {k : Nat} {f cc D cda : Addr} {name qual : Str} {params : Arguments} {rest : List Stmt} {scope : Scope} {dV kV doc pm ct oc cl ccl : Value} {an od cld cdd : Option Addr}
  {osl csl ccs : Array (Option Value)} {N ps : List Str} {sp : Sp} {p0 p1 p2 p3 p4 : Pos} {e : Expr} {ar : Arg} {vsc : Array Value} {file : Str} {tf : Tok} {cdD : ClassData} {pl : Sem Bool}
/-- def __init__(self, ..): super().__init__(e); rest -/
theorem fn_sup (lk : K.lookup f = some ⟨oc, od, .func (fnX name qual params (.Expr (.Call (.Attribute (.Call (.Name "super" p0) [] [] p1) "__init__" p2) [e] [] p3) p4 :: rest) scope [("__class__", cc)] dV kV doc pm an (.ref cda) ct), osl⟩)
    (hcd : codeIn K (.ref cda) qual = true) (S : SupScope N ps scope)
    (hcell : K.lookup cc = some ⟨cl, cld, .cell (some (.ref D)), csl⟩) (hcode : K.lookup cda = some ⟨ccl, cdd, .fields vsc, ccs⟩) (hvs : vsc[2]? = some (.str file tf)) (hfile : ((P.main.file : Str) == file) = true)
    (hD : clsIn K D = some cdD) (hp : (params.posonlyargs ++ params.args).head? = some ar) (hN : N[0]? = some ar.arg)
    (hks : scope.names.lookup ("super" : Str) = some .globalImplicit) (hkc : scope.names.lookup ("__class__" : Str) = some .free) (hka : scope.names.lookup ar.arg = some .local)
    (htop : (P.main.scope.names.lookup ("super" : Str)).isSome = false) (hms : mg "super" = none) (hop : nsIn K cStatics "thirdparty.any" = some none)
    (he : ∀ L, eval (.Call (.Attribute (.Call (.Name "super" p0) [] [] p1) "__init__" p2) [e] [] p3) (envX qual scope L f (.ref cda) [("__class__", cc)]) = (do
      let ov ← attributeBase (.Call (.Name "super" p0) [] [] p1) "__init__" (envX qual scope L f (.ref cda) [("__class__", cc)]) (eval (.Call (.Name "super" p0) [] [] p1) (envX qual scope L f (.ref cda) [("__class__", cc)]))
      standAt p2.atName
      let (f', first) ← holding [ov] (getMethod ov "__init__" pl)
      callWith p3 f' first (backTo p3 (starEach [e] (envX qual scope L f (.ref cda) [("__class__", cc)]))) []))
    (hi : ∀ L, interactive (envX qual scope L f (.ref cda) [("__class__", cc)]) = false)
    (hsw : ∀ L, swapsWith (.Call (.Attribute (.Call (.Name "super" p0) [] [] p1) "__init__" p2) [e] [] p3) none p4.line (envX qual scope L f (.ref cda) [("__class__", cc)]) = pure false)
    (hst : ∀ env : Env, starEach [e] env = (false, eval e env) :: starEach [] env)
    (len : ∀ vs H Q E, sp vs H Q E → vs.length = ps.length)
    (hbody : ∀ (A : Around) (outer : List Env) (s : Shared) (H : Hp) (vs : List V) (Q : VK) (E : XK), Room k (A.deeper (envX qual scope s.heap.objs.size f (.ref cda) [("__class__", cc)])) → sp vs H Q E →
      ∃ (ta : TA) (t : TS) (a C : Addr), vs[0]? = some (.ref a) ∧ H a = some (exo a C none) ∧ SupCl K C D ∧ PA (cxSup CX P w K mg base N qual scope f cc (.ref cda) A outer s H E) [e] ta ∧ PSs (cxSup CX P w K mg base N qual scope f cc (.ref cda) A outer s H E) rest t ∧
        ta (start N vs) H (fun vs' H1 => vs'.length ≤ 1 ∧ H1 a = some (exo a C none) ∧ t { nx := fun _ H' => Q .non H', rt := Q } (start N vs) H1)) :
    FnOk P w K mg base CX (k + 1) f (fnX name qual params (.Expr (.Call (.Attribute (.Call (.Name "super" p0) [] [] p1) "__init__" p2) [e] [] p3) p4 :: rest) scope [("__class__", cc)] dV kV doc pm an (.ref cda) ct) ps sp := by
  refine ⟨len, fun A outer s H args us vs Q E hr e0 hb r hsp => ?_⟩
  have hl := len _ _ _ _ hsp
  have KX : K.In s.heap := e0.mod.kin.keeps fun b o e => (e0.bs b o e).1
  have lim : s.heap.NoLimit := e0.mod.nolimit.keeps fun b o e => (e0.bs b o e).1
  refine ks_codeAny_call_defAt hr.depth (KX _ _ lk) rfl lim (codeRec_of KX hcd) rfl hb S.nocell (fun y hy => S.par _ (List.of_mem_zip hy).1) (fun h1 hns hk => ?_) S.co S.gen S.kind
  obtain ⟨ta, t, a, C, hv0, hHa, SC, hpa, hps, hq⟩ := hbody A outer s H vs Q E (hr.deeper _) hsp
  have I : Inv (cxSup CX P w K mg base N qual scope f cc (.ref cda) A outer s H E) [] (start N vs) H { s with heap := h1, toks := s.toks + (ps.zip us).length } := inv_sup S hr.hd e0 hl r ⟨_, e0.mod.kin _ _ hcell, rfl⟩ hns hk
  obtain ⟨nm, q, Nn, bs, bm, sn, sub, ab, col, dd, k0, k1, k2, k3, k5, hC, hbm⟩ := SC.T.cls
  obtain ⟨oD, hD1, hD2⟩ : ∃ oD, K.lookup D = some oD ∧ oD.data = .cls cdD := by
    unfold clsIn at hD
    split at hD
    · rename_i c d cd' sl ho
      cases hD
      exact ⟨_, ho, rfl⟩
    · cases hD
  show _root_.PySem.wpAt _ _ _ (execs (.Expr (.Call (.Attribute (.Call (.Name "super" p0) [] [] p1) "__init__" p2) [e] [] p3) p4 :: rest) (envX qual scope s.heap.objs.size f (.ref cda) [("__class__", cc)])) _ _ _
  refine ks_wpAt_execs_cons (ks_wpAt_Expr_any (ks_wpAt_MethodCall (pl := pl) ?_ (he _)) (hi _) (hsw _))
  have X := I.kIn
  refine ks_wpAt_super_base (env := envX qual scope s.heap.objs.size f (.ref cda) [("__class__", cc)]) hks hkc (by decide) rfl (X _ _ lk) rfl hp rfl (X _ _ hcode) rfl hvs hfile htop ?_
  obtain ⟨mb, b1, b2⟩ := I.mod.blt
  refine ks_loadName_global (env := envX qual scope s.heap.objs.size f (.ref cda) [("__class__", cc)]) S.kind hks (Calls.loadGlobal_builtin (I.mod.glob.keeps I.bk) hms (b1.keeps I.bk) ((b2 "super" (by decide)).trans PyProof.Rows.Boot.«super») ⟨rfl, ?_⟩)
  refine wpAny_loadName_free (env := envX qual scope s.heap.objs.size f (.ref cda) [("__class__", cc)]) S.kind hkc rfl ⟨_, X _ _ hcell, rfl⟩ ?_
  obtain ⟨m, hm, hlk⟩ := id I.loc
  have hs0 : (start N vs)[0]? = some (some (.ref a)) := by
    obtain ⟨hlt, hv⟩ := List.getElem?_eq_some_iff.mp hv0
    unfold start
    rw [List.getElem?_append_left (by simpa using hlt), List.getElem?_map, hv0]
    rfl
  obtain ⟨ua, ra, lka⟩ := hlk 0 _ _ hN hs0 (.inl hka)
  obtain rfl : ua = Value.ref a := ra
  have hma : m ar.arg = some (.ref a) := by
    rcases lka with ⟨_, z⟩ | ⟨z, _⟩
    · exact z
    · rcases z with z | z <;> · have z : scope.names.lookup ar.arg = _ := z
                                rw [hka] at z
                                cases z
  refine wpAny_loadName_local (env := envX qual scope s.heap.objs.size f (.ref cda) [("__class__", cc)]) S.kind hka hm hma ?_
  refine ks_wpAny_isType_cls (X _ _ hD1) hD2 ⟨rfl, ?_⟩
  obtain ⟨t1, ho⟩ := exo_at I.hok hHa
  have hcl : clsIn K C = some { name := nm, bases := bs, mro := .ref C :: bm, ns := Nn, qualname := q, hasDict := true, slotNames := sn, subclasses := sub, abstract := ab, collection := col, hasDel := false } := by unfold clsIn; rw [hC] <;> rfl
  refine ks_wpAny_call_super (X _ _ hD1) hD2 ho rfl (fun c z => by cases z) (looks_mroIn X SC.isD) (fun h2 e2 k2 => ?_)
  have I2 := I.kept (t' := s.toks + (ps.zip us).length) k2
  have ho2 := k2 _ _ ho
  have X2 := I2.kIn
  have J2 : InstAt h2 a { cls := .ref C, dict := none, data := .fields #[.ref t1, .none, .none, .none, .bool false, .none] } C none := ⟨ho2, rfl, rfl, trivial⟩
  have hm' := SC.sup
  unfold ks_superIn at hm'
  rw [hcl] at hm'
  refine kxs_getMethod kxs_ValueError e2 (looks_opaque X2 hop) (l₀ := .ref C :: bm) ?_ rfl X2 hm' (J2.type.andThen (looks_subIn X2 SC.isV)) (ks_ne X2 J2 hcl) (by decide) ?_
  · exact fun A Q E s k q => wpAny_bind ((looks_clsIn X2 hcl) A _ E s k (wpAny_pure q))
  have I3 := ClX.pin_new (t' := s.toks + (ps.zip us).length + 1) (a := h2.objs.size) (o := kxs_mw "ValueError.__init__" a) (h' := h2.push (kxs_mw "ValueError.__init__" a)) I2 (fun b u z => Heap.get?_push_of_some _ z) (Nat.le_refl _) (Heap.get?_push_at rfl rfl) (fun v z => by cases z)
  show wpAny _ _ (callWith p3 (.ref h2.objs.size) [] (backTo p3 (starEach [e] (envX qual scope s.heap.objs.size f (.ref cda) [("__class__", cc)]))) []) _ _ _
  have run := hpa.run p3 _ _ (start N vs) H _ I3 hq
  change wpAny _ _ (spliced (backTo p3 (starEach [e] (envX qual scope s.heap.objs.size f (.ref cda) [("__class__", cc)])))) _ _ _ at run
  rw [hst] at run ⊢
  refine kxs_callWith (i := "ValueError.__init__") (x := a) rfl (Calls.evalArgs_plain ?_)
  refine wpAny_mono run (fun us' s4 z => ?_) (fun _ _ z => z)
  obtain ⟨vs', H1, I4, r4, hlen, hH1, hq4⟩ := z
  have hu := (I4.pin _ (List.mem_append_right _ List.mem_cons_self)).1
  refine ⟨hu, ?_⟩
  obtain ⟨t4, ho4⟩ := exo_at I4.hok hH1
  have hz : us'.length ≤ sizeLine := by
    rw [← Paired.length r4]
    exact Nat.le_trans hlen (by decide)
  obtain ⟨hh, g, d, tk, os⟩ := s4
  refine wpAny_call (codeAny_of_tree ?_)
  show wpAny _ ((cxSup CX P w K mg base N qual scope f cc (.ref cda) A outer s H E).A.in1) (callAny (.ref h2.objs.size) ⟨us', []⟩) _ _ _
  simp only [callAny]
  refine wpAny_bind (wpAny_load hu ?_)
  simp only [kxs_mw, show (Value.type "method-wrapper" == Value.type "method" || Value.type "method-wrapper" == Value.type "builtin_function_or_method" || Value.type "method-wrapper" == Value.type "method-wrapper") = true by decide, if_true]
  refine KFB.if_so (by decide) ?_
  refine wpAny_bind (check_bound_init F.excBase_ValueError.toExcCallFacts (I4.kIn _ _ hC) ho4 rfl ?_)
  refine wpAny_bind (wpAny_pure (wpAny_pure ?_))
  refine ⟨plainId_quiet F.excBase_ValueError.init.plain _, codeAny_builtin F.excBase_ValueError.initEntry ?_⟩
  refine exc_init_tree (cls := .ref C) (t0 := t4) (dv := none) (c2 := .none) (c3 := .none) (b4 := .bool false) ho4 hz (fun h' k5 e5 t5 => ?_)
  have J := I4.write (t' := tk) (x := a) (e := a) (o := exo a C none) (by rw [hH1]; exact True.intro) (.inl rfl) k5 ⟨_, e5⟩ (exo_ok e5)
  have eu : upd H1 a (exo a C none) = H1 := by
    funext b
    by_cases hb : b = a
    · rw [hb, upd_same, hH1]
    · rw [upd_ne hb]
  rw [eu] at J
  refine wpAt_of_wpAny ?_
  refine wpAny_mono (hps.run _ _ (start N vs) H1 _ (ClX.unpin J) hq4) (fun fl s' hs => ?_) fun e s' hs => hs
  have fin : ∀ {σ' : St} {H' : Hp} {v : V} {u : Value}, Inv (cxSup CX P w K mg base N qual scope f cc (.ref cda) A outer s H E) [] σ' H' s' → RelV v u → Q v H' → CE outer P w H s Q u s' :=
    fun {σ' H' v u} J rv q => ⟨v, H', J.os, J.bare, J.base, J.hok, rv, q⟩
  cases fl with
  | ret u =>
    obtain ⟨v, σ', H', J, rv, q⟩ := hs
    exact fin J rv q
  | next =>
    obtain ⟨σ', H', J, q⟩ := hs
    exact fin (v := V.non) (u := Value.none) J rfl q
  | brk =>
    obtain ⟨_, _, _, q⟩ := hs
    exact False.elim q
  | cont =>
    obtain ⟨_, _, _, q⟩ := hs
    exact False.elim q
end
end L2
namespace L2
open PySem PySem.Spec PyProof.Rows PySem.W

/-! ### the text of the message -/
def PartJ (σ : St) (t : TE) : Prop := ∀ (H : Hp) (Q : VK), (∀ (z : Str) (H2 : Hp), z.length ≤ 200 → Same H H2 → Q (.str z) H2) → t σ H Q
theorem msg_run {σ : St} : ∀ (ts : List TE), (∀ t ∈ ts, PartJ σ t) → ∀ (acc : Str) (H : Hp) (Q : Str → Hp → Prop), acc.length + 200 * ts.length ≤ 100000 → (∀ out H2, Same H H2 → Q out H2) → tJs ts acc σ H Q
  | [], _, acc, H, Q, _, h => h acc H (Same.refl _)
  | t :: ts, hp, acc, H, Q, hl, h => hp t List.mem_cons_self H _ fun z H2 hz s => ⟨z, rfl, by
      have e : (acc ++ z).length = acc.length + z.length := by
        show (acc.cps ++ z.cps).size = _
        rw [Array.size_append]
        rfl
      rw [List.length_cons] at hl
      rw [e]
      exact Nat.le_trans (by omega : acc.length + z.length ≤ 100000) (by decide), msg_run ts (fun t ht => hp t (List.mem_cons_of_mem _ ht)) (acc ++ z) H2 Q (by
      have e : (acc ++ z).length = acc.length + z.length := by
        show (acc.cps ++ z.cps).size = _
        rw [Array.size_append]
        rfl
      rw [List.length_cons] at hl
      rw [e]
      omega) fun out H3 s3 => h out H3 (s.trans s3)⟩
theorem part_str {σ : St} {m : Str} (h : m.length ≤ 200) : PartJ σ (tC (.str m)) := fun H Q q => q m H h (Same.refl _)
theorem part_fmt {σ : St} {t : TE} (h : PartJ σ t) : PartJ σ (tFmt t) := fun H Q q => h H _ fun z H2 hz s => .inl ⟨z, rfl, Nat.le_trans hz (by decide), q z H2 hz s⟩

/-- an own __init__'s promise: the instance at a is an exception of the class C that gets the fields fs -/
def spErr (C : Addr) (n : Nat) (fs : List V → List (Str × V)) : Sp := fun vs H Q _ => ∃ (a : Addr) (is : List Int), vs = .ref a :: is.map V.int ∧ is.length = n ∧ H a = some (exo a C none) ∧
  ∀ (d : Addr) (H' : Hp), H d = none → d ≠ a → H' a = some (exo a C (some d)) → H' d = some (exd d (fs (is.map V.int))) → (∀ b o, b ≠ a → H b = some o → H' b = some o) → Q .non H'

section
variable {CX : CXT} {P : Program} {w : World} {K : PySem.W.Frag} {mg : Str → Option Value} {base : Heap} {k : Nat} {f cc D C cda : Addr} {name qual f1 f2 : Str} {params : Arguments} {scope : Scope} {dV kV doc pm ct oc cl ccl : Value} {an od cld cdd : Option Addr}
  {osl csl ccs : Array (Option Value)} {N ps : List Str} {p0 p1 p2 p3 p4 p5 q1 q2 q3 q4 r1 r2 r3 r4 : Pos} {v1 v2 : Expr} {vr : List Expr} {ar : Arg} {vsc : Array Value} {file : Str} {tf : Tok} {cdD : ClassData} {pl : Sem Bool}
/-- one field -/
theorem err1 (lk : K.lookup f = some ⟨oc, od, .func (fnX name qual params [.Expr (.Call (.Attribute (.Call (.Name "super" p0) [] [] p1) "__init__" p2) [.JoinedStr (v1 :: v2 :: vr) p5] [] p3) p4, .Assign [.Attribute (.Name "self" q1) f1 q2] (.Name f1 q3) q4] scope [("__class__", cc)] dV kV doc pm an (.ref cda) ct), osl⟩)
    (hcd : codeIn K (.ref cda) qual = true) (S : SupScope ["self", f1] ["self", f1] scope)
    (hcell : K.lookup cc = some ⟨cl, cld, .cell (some (.ref D)), csl⟩) (hcode : K.lookup cda = some ⟨ccl, cdd, .fields vsc, ccs⟩) (hvs : vsc[2]? = some (.str file tf)) (hfile : ((P.main.file : Str) == file) = true)
    (hD : clsIn K D = some cdD) (hp : (params.posonlyargs ++ params.args).head? = some ar) (har : ar.arg = "self")
    (hks : scope.names.lookup ("super" : Str) = some .globalImplicit) (hkc : scope.names.lookup ("__class__" : Str) = some .free)
    (htop : (P.main.scope.names.lookup ("super" : Str)).isSome = false) (hms : mg "super" = none) (hop : nsIn K cStatics "thirdparty.any" = some none)
    (SC : SupCl K C D) (hno : findIn K (.ref C) f1 = some none) (hl0 : scope.names.lookup ("self" : Str) = some .local) (hl1 : scope.names.lookup f1 = some .local)
    (he : ∀ L, eval (.Call (.Attribute (.Call (.Name "super" p0) [] [] p1) "__init__" p2) [.JoinedStr (v1 :: v2 :: vr) p5] [] p3) (envX qual scope L f (.ref cda) [("__class__", cc)]) = (do
      let ov ← attributeBase (.Call (.Name "super" p0) [] [] p1) "__init__" (envX qual scope L f (.ref cda) [("__class__", cc)]) (eval (.Call (.Name "super" p0) [] [] p1) (envX qual scope L f (.ref cda) [("__class__", cc)]))
      standAt p2.atName
      let (f', first) ← holding [ov] (getMethod ov "__init__" pl)
      callWith p3 f' first (backTo p3 (starEach [.JoinedStr (v1 :: v2 :: vr) p5] (envX qual scope L f (.ref cda) [("__class__", cc)]))) []))
    (hi : ∀ L, interactive (envX qual scope L f (.ref cda) [("__class__", cc)]) = false)
    (hsw : ∀ L, swapsWith (.Call (.Attribute (.Call (.Name "super" p0) [] [] p1) "__init__" p2) [.JoinedStr (v1 :: v2 :: vr) p5] [] p3) none p4.line (envX qual scope L f (.ref cda) [("__class__", cc)]) = pure false)
    (hs1 : ∀ L, swapsWith (.Name f1 q3) (some (.Attribute (.Name "self" q1) f1 q2)) q4.line (envX qual scope L f (.ref cda) [("__class__", cc)]) = pure false) (hd1 : (f1 == ("__debug__" : Str)) = false) (hd2 : (f1 == ("__classdict__" : Str)) = false)
    (hparts : ∀ (A : Around) (outer : List Env) (s : Shared) (H : Hp) (E : XK), Room k (A.deeper (envX qual scope s.heap.objs.size f (.ref cda) [("__class__", cc)])) → ∃ ts, PJ (cxSup CX P w K mg base ["self", f1] qual scope f cc (.ref cda) A outer s H E) (v1 :: v2 :: vr) ts ∧ ts.length ≤ 400 ∧
      ∀ σ : St, (∃ i : Int, σ[1]? = some (some (.int i))) → ∀ t ∈ ts, PartJ σ t) :
    FnOk P w K mg base CX (k + 1) f (fnX name qual params [.Expr (.Call (.Attribute (.Call (.Name "super" p0) [] [] p1) "__init__" p2) [.JoinedStr (v1 :: v2 :: vr) p5] [] p3) p4, .Assign [.Attribute (.Name "self" q1) f1 q2] (.Name f1 q3) q4] scope [("__class__", cc)] dV kV doc pm an (.ref cda) ct)
      ["self", f1] (spErr C 1 fun is => [f1].zip is) := by
  refine fn_sup lk hcd S hcell hcode hvs hfile hD hp (by rw [har]; rfl) hks hkc (by rw [har]; exact hl0) htop hms hop he hi hsw (fun _ => rfl) ?_ ?_
  · rintro vs H Q E ⟨a, is, rfl, hl, _⟩
    simp [hl]
  · rintro A outer s H vs Q E hr ⟨a, is, rfl, hl, hHa, hq⟩
    obtain ⟨ts, hts, hn, hpart⟩ := hparts A outer s H E hr
    match is, hl with
    | [i], _ =>
      refine ⟨_, _, a, C, rfl, hHa, SC, pa_cons (pe_joined (pos := p5) hts) pa_nil rfl,
        pss_cons (ps_ost (f := f1) (pe_var (i := 0) (x := "self") rfl (.inl hl0)) (pe_var (i := 1) (x := f1) rfl (.inl hl1) hd1 hd2) (hs1 _)) pss_nil, ?_⟩
      refine msg_run ts (hpart _ ⟨i, rfl⟩) _ _ _ (by show 0 + 200 * ts.length ≤ 100000; omega) fun out H2 s2 => ?_
      refine ⟨Nat.le_refl _, s2 _ _ hHa, ?_⟩
      refine ⟨.int i, rfl, .ref a, rfl, a, C, rfl, SC.T, hno, .inl ⟨s2 _ _ hHa, fun dx hdx hne => ?_⟩⟩
      refine hq dx _ (s2.free hdx) hne upd_same ?_ fun b o hb ho => ?_
      · rw [upd_ne hne, upd_same]
        rfl
      · rw [upd_ne hb, upd_ne (ne_of_none (s2 _ _ ho) hdx)]
        exact s2 _ _ ho
/-- two fields -/
theorem err2 (lk : K.lookup f = some ⟨oc, od, .func (fnX name qual params [.Expr (.Call (.Attribute (.Call (.Name "super" p0) [] [] p1) "__init__" p2) [.JoinedStr (v1 :: v2 :: vr) p5] [] p3) p4, .Assign [.Attribute (.Name "self" q1) f1 q2] (.Name f1 q3) q4, .Assign [.Attribute (.Name "self" r1) f2 r2] (.Name f2 r3) r4] scope [("__class__", cc)] dV kV doc pm an (.ref cda) ct), osl⟩)
    (hcd : codeIn K (.ref cda) qual = true) (S : SupScope ["self", f1, f2] ["self", f1, f2] scope)
    (hcell : K.lookup cc = some ⟨cl, cld, .cell (some (.ref D)), csl⟩) (hcode : K.lookup cda = some ⟨ccl, cdd, .fields vsc, ccs⟩) (hvs : vsc[2]? = some (.str file tf)) (hfile : ((P.main.file : Str) == file) = true)
    (hD : clsIn K D = some cdD) (hp : (params.posonlyargs ++ params.args).head? = some ar) (har : ar.arg = "self")
    (hks : scope.names.lookup ("super" : Str) = some .globalImplicit) (hkc : scope.names.lookup ("__class__" : Str) = some .free)
    (htop : (P.main.scope.names.lookup ("super" : Str)).isSome = false) (hms : mg "super" = none) (hop : nsIn K cStatics "thirdparty.any" = some none)
    (SC : SupCl K C D) (hno : findIn K (.ref C) f1 = some none) (hno2 : findIn K (.ref C) f2 = some none) (hl0 : scope.names.lookup ("self" : Str) = some .local) (hl1 : scope.names.lookup f1 = some .local) (hl2 : scope.names.lookup f2 = some .local)
    (he : ∀ L, eval (.Call (.Attribute (.Call (.Name "super" p0) [] [] p1) "__init__" p2) [.JoinedStr (v1 :: v2 :: vr) p5] [] p3) (envX qual scope L f (.ref cda) [("__class__", cc)]) = (do
      let ov ← attributeBase (.Call (.Name "super" p0) [] [] p1) "__init__" (envX qual scope L f (.ref cda) [("__class__", cc)]) (eval (.Call (.Name "super" p0) [] [] p1) (envX qual scope L f (.ref cda) [("__class__", cc)]))
      standAt p2.atName
      let (f', first) ← holding [ov] (getMethod ov "__init__" pl)
      callWith p3 f' first (backTo p3 (starEach [.JoinedStr (v1 :: v2 :: vr) p5] (envX qual scope L f (.ref cda) [("__class__", cc)]))) []))
    (hi : ∀ L, interactive (envX qual scope L f (.ref cda) [("__class__", cc)]) = false)
    (hsw : ∀ L, swapsWith (.Call (.Attribute (.Call (.Name "super" p0) [] [] p1) "__init__" p2) [.JoinedStr (v1 :: v2 :: vr) p5] [] p3) none p4.line (envX qual scope L f (.ref cda) [("__class__", cc)]) = pure false)
    (hs1 : ∀ L, swapsWith (.Name f1 q3) (some (.Attribute (.Name "self" q1) f1 q2)) q4.line (envX qual scope L f (.ref cda) [("__class__", cc)]) = pure false) (hs2 : ∀ L, swapsWith (.Name f2 r3) (some (.Attribute (.Name "self" r1) f2 r2)) r4.line (envX qual scope L f (.ref cda) [("__class__", cc)]) = pure false) (hd1 : (f1 == ("__debug__" : Str)) = false) (hd2 : (f1 == ("__classdict__" : Str)) = false) (hd3 : (f2 == ("__debug__" : Str)) = false) (hd4 : (f2 == ("__classdict__" : Str)) = false)
    (hparts : ∀ (A : Around) (outer : List Env) (s : Shared) (H : Hp) (E : XK), Room k (A.deeper (envX qual scope s.heap.objs.size f (.ref cda) [("__class__", cc)])) → ∃ ts, PJ (cxSup CX P w K mg base ["self", f1, f2] qual scope f cc (.ref cda) A outer s H E) (v1 :: v2 :: vr) ts ∧ ts.length ≤ 400 ∧
      ∀ σ : St, (∃ i : Int, σ[1]? = some (some (.int i))) → (∃ i : Int, σ[2]? = some (some (.int i))) → ∀ t ∈ ts, PartJ σ t) :
    FnOk P w K mg base CX (k + 1) f (fnX name qual params [.Expr (.Call (.Attribute (.Call (.Name "super" p0) [] [] p1) "__init__" p2) [.JoinedStr (v1 :: v2 :: vr) p5] [] p3) p4, .Assign [.Attribute (.Name "self" q1) f1 q2] (.Name f1 q3) q4, .Assign [.Attribute (.Name "self" r1) f2 r2] (.Name f2 r3) r4] scope [("__class__", cc)] dV kV doc pm an (.ref cda) ct)
      ["self", f1, f2] (spErr C 2 fun is => ([f1, f2].zip is).reverse) := by
  refine fn_sup lk hcd S hcell hcode hvs hfile hD hp (by rw [har]; rfl) hks hkc (by rw [har]; exact hl0) htop hms hop he hi hsw (fun _ => rfl) ?_ ?_
  · rintro vs H Q E ⟨a, is, rfl, hl, _⟩
    simp [hl]
  · rintro A outer s H vs Q E hr ⟨a, is, rfl, hl, hHa, hq⟩
    obtain ⟨ts, hts, hn, hpart⟩ := hparts A outer s H E hr
    match is, hl with
    | [i, j], _ =>
      refine ⟨_, _, a, C, rfl, hHa, SC, pa_cons (pe_joined (pos := p5) hts) pa_nil rfl,
        pss_cons (ps_ost (f := f1) (pe_var (i := 0) (x := "self") rfl (.inl hl0)) (pe_var (i := 1) (x := f1) rfl (.inl hl1) hd1 hd2) (hs1 _)) (pss_cons (ps_ost (f := f2) (pe_var (i := 0) (x := "self") rfl (.inl hl0)) (pe_var (i := 2) (x := f2) rfl (.inl hl2) hd3 hd4) (hs2 _)) pss_nil), ?_⟩
      refine msg_run ts (hpart _ ⟨i, rfl⟩ ⟨j, rfl⟩) _ _ _ (by show 0 + 200 * ts.length ≤ 100000; omega) fun out H2 s2 => ?_
      refine ⟨Nat.le_refl _, s2 _ _ hHa, ?_⟩
      refine ⟨.int i, rfl, .ref a, rfl, a, C, rfl, SC.T, hno, .inl ⟨s2 _ _ hHa, fun dx hdx hne => ?_⟩⟩
      refine ⟨.int j, rfl, .ref a, rfl, a, C, rfl, SC.T, hno2, .inr ⟨dx, _, upd_same, by rw [upd_ne hne, upd_same], by show 1 ≤ 900; decide, ?_⟩⟩
      refine hq dx _ (s2.free hdx) hne (by rw [upd_ne (Ne.symm hne), upd_same]) (by rw [upd_same]; rfl) fun b o hb ho => ?_
      have nd := ne_of_none (s2 _ _ ho) hdx
      rw [upd_ne nd, upd_ne hb, upd_ne nd]
      exact s2 _ _ ho
end
end L2
/-! A22: errors with fields, raised, let through, caught -/
namespace L2
open PySem PySem.Spec PyProof.Rows PySem.W
/-! ### isinstance of an error that has a dict -/
section
variable {prog : Program} {w : World} {A : Around} {E : Value → Shared → Prop} {s : Shared} {K : Frag} {x D : Addr} {ox : Obj} {od : Option Obj}
theorem findObj_dataD {C : Addr} {name : Str} {a g : Value} (hc : (clsIn K C).isSome = true) (ha : findIn K (.ref C) name = some (some a)) (hg : specialIn K a "__get__" = some (some g)) (ht : takesIn K a = some true) : findObj K C od name = some (.bind g a) := by
  obtain ⟨cd, hc⟩ := Option.isSome_iff_exists.mp hc
  unfold findObj
  rw [hc, Option.bind_some, ha, Option.bind_some]
  simp [hg, ht]
theorem kin_classD {Q : Option Value → Shared → Prop} (hga : findIn K (.ref D) "__getattribute__" = some (some (.builtin "BaseException.__getattribute__"))) (hgt : findIn K (.ref D) "__getattr__" = some none) (hsub : subIn K (.ref D) (.type "BaseException") = some true)
    (hdct : hasDictIn K D = true) (ha : findIn K (.ref D) "__class__" = some (some (.builtin "object.__class__")))
    (hn : specialIn K (.builtin "object.__class__") "__get__" = some (some (.builtin "getset_descriptor.__get__"))) (htk : takesIn K (.builtin "object.__class__") = some true) (hm : mroIn K D (.type "object") = some true)
    (X : K.In s.heap) (I : InstAt s.heap x ox D od) (h : Q (some (.ref D)) { s with toks := s.toks + 1 }) : wpAny (model prog w) A (getAttr? (.ref x) "__class__") Q E s := by
  have hf : findObj K D od "__class__" = some (.bind (.builtin "getset_descriptor.__get__") (.builtin "object.__class__")) := findObj_dataD (by obtain ⟨cd, hc, _⟩ := any_some hdct; rw [hc]; rfl) ha hn htk
  obtain ⟨hp, g, d, t, os⟩ := s
  have L0 := I.type (M := model prog w)
  have L1 := looks_findIn (M := model prog w) X hga
  have L2 := looks_findIn (M := model prog w) X hgt
  have L3 := looks_find (M := model prog w) X I hf
  have sub : Looks (model prog w) hp (isInstance (.ref x) (.type "BaseException")) true := L0.andThen (looks_subIn X hsub)
  have hx0 : (false && onTheHeap (Value.builtin "BaseException.__getattribute__")) = false := rfl
  have hx2 : (Value.builtin "BaseException.__getattribute__" == Value.builtin "object.__getattribute__") = false := by decide +kernel
  have hx1 : (onTheHeap (Value.ref D) && Value.builtin "BaseException.__getattribute__" == Value.builtin "object.__getattribute__") = false := by rw [hx2]; rfl
  unfold getAttr? getAttrBy? getAttrBy
  refine wpAny_bind (wpAny_mkText (wpAny_bind (wpAny_attempt (wpAny_holding (wpAny_bind (L0.at (wpAny_bind (L1.at ?_))))))))
  show wpAny _ _ (if (onTheHeap (Value.ref D) && Value.builtin "BaseException.__getattribute__" == Value.builtin "object.__getattribute__") = true then _ else _) _ _ _
  rw [hx1, if_neg Bool.false_ne_true]
  unfold getAttrByItsOwn hookBefore
  refine wpAny_bind ?_
  rw [if_pos (show onTheHeap (Value.ref D) = true from rfl)]
  refine L2.at ?_
  refine wpAny_bind (wpAny_attempt (wpAny_holding ?_))
  unfold callGetattribute
  rw [hx0, if_neg Bool.false_ne_true]
  unfold boundAndCalled
  rw [PySem.F.excAttr_ValueError.ga.bind (.ref x)]
  refine wpAny_bind (wpAny_pure ?_)
  show wpAny _ _ (call (.builtin "BaseException.__getattribute__") [.ref x, .str "__class__" t]) _ _ _
  refine wpAny_call (codeAny_call_builtin PySem.F.excAttr_ValueError.ga.plain PySem.F.entry_bexc_ga ?_)
  refine @check_slot (model prog w) _ _ ⟨hp, g, d, t + 1, os⟩ "BaseException.__getattribute__" "BaseException" "__getattribute__" (.ref x) [.str "__class__" t] [] _ (by decide +kernel) (by decide +kernel) sub (PySem.F.args_bexc_ga (.ref x) (.str "__class__" t)) ?_
  unfold Builtin.«object.__getattribute__»
  refine wpAny_bind (wpAny_of_eq (a := ((Value.ref x : Value), [Value.str "__class__" t])) (by first | rfl | (simp only [slotArgs]; rfl)) ?_)
  refine wpAny_bind (wpAny_pure (wpAny_bind (L0.at (wpAny_bind (L3.at ?_)))))
  show wpAny _ _ (holding [Value.builtin "object.__class__"] (call (.builtin "getset_descriptor.__get__") [.builtin "object.__class__", .ref x, .ref D]) >>= ret) _ _ _
  refine wpAny_bind (wpAny_holding (wpAny_call (class_get (s := ⟨hp, g, d, t + 1, os⟩) (ox := ox) (od := od) X I hm ?_)))
  refine wpAny_pure ?_
  show wpAny _ _ (handedOut (.ref D)) _ _ _
  rw [handedOut_of (v := .ref D) rfl]
  first
    | exact wpAny_pure (wpAny_pure h)
    | exact wpAny_pure h
    | exact wpAny_pure (wpAny_bind (wpAny_pure (wpAny_pure h)))
theorem kitx_excD (hga : findIn K (.ref D) "__getattribute__" = some (some (.builtin "BaseException.__getattribute__"))) (hgt : findIn K (.ref D) "__getattr__" = some none) (hsub : subIn K (.ref D) (.type "BaseException") = some true) (hdct : hasDictIn K D = true) (ha : findIn K (.ref D) "__class__" = some (some (.builtin "object.__class__")))
    (hn : specialIn K (.builtin "object.__class__") "__get__" = some (some (.builtin "getset_descriptor.__get__"))) (htk : takesIn K (.builtin "object.__class__") = some true) (hm : mroIn K D (.type "object") = some true) :
    KitX K (.ref x) (.ref D) (fun h => InstAt h x ox D od) where
  ty := fun _ _ _ I => I.type
  it := fun _ _ X _ => by
    obtain ⟨cdD, hcD, _⟩ := any_some hdct
    unfold clsIn at hcD
    split at hcD
    · rename_i c' d' cd' sl' ho
      intro A' Q' E' s' k q
      unfold isType loadHead
      exact wpAny_bind (wpAny_loadPart (k _ _ (X _ _ ho)) (wpAny_pure q))
    · cases hcD
  ne := fun h tp dd its n sl X htp => by
    obtain ⟨cdD, hcD, _⟩ := any_some hdct
    refine Bool.eq_false_iff.mpr fun q => ?_
    have e : D = tp := Value.ref.inj (beq_iff_eq.mp q)
    subst e
    unfold clsIn at hcD
    split at hcD
    · rename_i c' d' cd' sl' ho
      have z := (X _ _ ho).symm.trans htp
      cases z
    · cases hcD
  ca := fun X I k => kin_classD hga hgt hsub hdct ha hn htk hm X I k
end
/-- the error's record: none, or a dict that holds its fields -/
def ErrOk (en : Nat → Int → Int → List (Str × V)) (c : Nat) (p q : Int) (d : Option Addr) (H : Hp) : Prop := match en c p q with
  | [] => d = none
  | fs => ∃ dd, d = some dd ∧ H dd = some (.xd fs)
theorem ErrOk.same {en : Nat → Int → Int → List (Str × V)} {c : Nat} {p q : Int} {d : Option Addr} {H H' : Hp} (s : Same H H') (h : ErrOk en c p q d H) : ErrOk en c p q d H' := by
  unfold ErrOk at h ⊢
  split at h
  · exact h
  · obtain ⟨dd, e, z⟩ := h
    exact ⟨dd, e, s _ _ z⟩
theorem ErrOk.mk {en : Nat → Int → Int → List (Str × V)} {c : Nat} {p q : Int} {dd : Addr} {H : Hp} {f : Str × V} {fs : List (Str × V)} (e : en c p q = f :: fs) (h : H dd = some (.xd (f :: fs))) : ErrOk en c p q (some dd) H := by
  unfold ErrOk
  rw [e]
  exact ⟨dd, rfl, h⟩
theorem ErrOk.nil {en : Nat → Int → Int → List (Str × V)} {c : Nat} {p q : Int} {H : Hp} (e : en c p q = []) : ErrOk en c p q none H := by
  unfold ErrOk
  rw [e]
theorem ErrOk.get {en : Nat → Int → Int → List (Str × V)} {c : Nat} {p q : Int} {d : Option Addr} {H : Hp} {f : Str × V} {fs : List (Str × V)} (e : en c p q = f :: fs) (h : ErrOk en c p q d H) : ∃ dd, d = some dd ∧ H dd = some (.xd (en c p q)) := by
  unfold ErrOk at h
  rw [e] at h
  obtain ⟨dd, h1, h2⟩ := h
  exact ⟨dd, h1, by rw [e]; exact h2⟩
/-- isinstance(e, c), e the error that the suite holds -/
def rIsF (K : PySem.W.Frag) (en : Nat → Int → Int → List (Str × V)) (c : Nat) (p q : Int) (D a : Addr) (d : Option Addr) : List V → Hp → VK → Prop := fun xs H Q => ∃ (t : V) (tv : Value) (b : Bool), xs = [.ref a, t] ∧ (∀ u, RelV t u → u = tv) ∧ PySem.W.kitOne K (.ref D) tv = some b ∧ ErrOk en c p q d H ∧ Q (.bl b) H
theorem call_isF {X : Cx} {en : Nat → Int → Int → List (Str × V)} {c : Nat} {p q : Int} {a D : Addr} {d : Option Addr} {oe : Obj} {pn : List (Addr × Obj)} (C : ExcC X.K D) (hz : Zc (.ref D) d oe) (hf : ∃ vs, oe.data = .fields vs) : CallR (X.suite a ((a, oe) :: pn)) (.builtin "isinstance") (rIsF X.K en c p q D a d) := by
  intro pins s σ H xs us Q I r h
  obtain ⟨t, tv, b, rfl, hcv, e, ho, q⟩ := h
  cases r with
  | cons rx rr =>
    cases rr with
    | cons rt rr =>
      cases rr
      cases rx
      have ec := hcv _ rt
      subst ec
      obtain ⟨hget, _⟩ := I.pin (a, oe) (List.mem_append.mpr (.inl List.mem_cons_self))
      obtain ⟨vs, hv⟩ := hf
      have J : ∃ od, PySem.W.InstAt s.heap a oe D od := by
        obtain ⟨oc, od, oda, osl⟩ := oe
        obtain ⟨h1, h2⟩ := hz
        dsimp only at h1 h2 hv
        subst h1 h2 hv
        unfold ErrOk at ho
        split at ho
        · subst ho
          exact ⟨none, hget, rfl, rfl, trivial⟩
        · obtain ⟨dd, ed, hx⟩ := ho
          subst ed
          have hx : ObjOk X.prog X.w H s.heap dd (.xd _) := I.hok dd _ hx
          obtain ⟨mA, hns, hr⟩ := hx
          obtain ⟨od, ho', _⟩ := lookIn_ns hns
          exact ⟨some od, hget, rfl, rfl, ho'⟩
      obtain ⟨od, J⟩ := J
      exact PySem.W.kia_one (kitx_excD C.hg C.hk C.hs C.hd C.ha C.hn C.ht C.hm) I.kIn J e (fun z => nomatch z) fun tk => ⟨.bl b, H, I.kept (t' := tk) fun _ _ z => z, rfl, q⟩
end L2
namespace J
open PySem PySem.Spec L2 PyProof.Rows ClX RZ
section
variable {X : Cx} {F : Fr} {g : Gm} {α β γ ρ τ κ : Type} {er : Nat → Addr} {en : Nat → Int → Int → List (Str × V)}
def spJF {τ ρ : Type} (T : ATy τ) (R : Res ρ) (er : Nat → Addr) (en : Nat → Int → Int → List (Str × V)) (w : τ → (ρ → Prop) → EK → Prop) : Sp := fun vs H Q E => ∃ (t : τ) (P : ρ → Prop) (N : EK) (F : Fr), F.H = H ∧ T.rel F.B vs t ∧ w t P N ∧ RtOk F R P Q ∧
  (∀ c p q, N c p q → ∀ d H2, Same F.H H2 → ErrOk en c p q d H2 → E (.ref (er c)) d H2)
def spIF (C : Addr) (ns : List Str) (T : ATy τ) (U : ATy κ) (er : Nat → Addr) (en : Nat → Int → Int → List (Str × V)) (w : τ → (κ → Prop) → EK → Prop) : Sp := fun vs H Q E => ∃ (x dx : Addr) (ws : List V) (t : τ) (P : κ → Prop) (N : EK) (F : Fr), vs = .ref x :: ws ∧ F.H x = none ∧ F.H dx = none ∧ dx ≠ x ∧ H = upd (upd F.H dx (.own x)) x (.ins C dx []) ∧ T.rel F.B ws t ∧ w t P N ∧
  (∀ u H2, P u → Same F.H H2 → (tC C ns U).rel (F.out H2) (.ref x) u → Q .non H2) ∧ (∀ c p q, N c p q → ∀ d H2, Same F.H H2 → ErrOk en c p q d H2 → E (.ref (er c)) d H2)
/-- the wish W takes what N asks -/
abbrev WishF (er : Nat → Addr) (en : Nat → Int → Int → List (Str × V)) (F : Fr) (g : Gm) (N : EK) (W : WX) : Prop := ∀ σ H, g.Ok F σ H → ∀ c p q, N c p q → ∀ d, ErrOk en c p q d H → W (.ref (er c)) d σ H
variable {f C : Addr} {m x : Str} {n : Nat} {fd : FuncData} {ps ns : List Str} {e : Expr} {es : List Expr} {apos pos np : Pos} {pl : Sem Bool} {T : ATy τ} {U : ATy κ} {R : Res ρ} {W : WX} {N : EK}
theorem je_callF {w : τ → (ρ → Prop) → EK → Prop} {wa : (τ → Prop) → Prop} {a0 : Expr} (tk : Takes X W) (hW : WishF er en F g N W) (Fn : FnOk X.prog X.w X.K X.mg X.base (L2.CX X.prog X.w) n f fd ps (spJF T R er en w)) (hr : Room n X.A) (hg : Gl X x) (hm : X.mg x = some (.ref f)) (hk : PySem.W.keepIn X.K (.ref f) = true) (hb : Binds X.K fd ps [])
    (ha : JA X F g (a0 :: es) T wa) (hdb : (x == ("__debug__" : Str)) = false := by decide) (he : starEach (a0 :: es) X.env = (false, eval a0 X.env) :: starEach es X.env := by rfl) (hpl : (backTo pos (starEach es X.env)).any (·.1) = false := by rfl) :
    JE X F g (.Call (.Name x np) (a0 :: es) [] pos) R (fun k => wa fun t => w t k N) :=
  peW (pe_callS (E := WE W) Fn hr hg hm hk hb (fun σ => passAt tk σ) ha hdb he hpl) fun σ H Q ⟨k, P, w, q⟩ => ⟨k, _, w, fun t vs H1 w1 s1 r1 => ⟨t, P, N, (k.step s1).fr, rfl, r1, w1, (fun r v H2 p s2 r2 => q r v H2 p (s1.trans s2) (R.pre s1 (R.same ((k.step s1).back s2) (Same.refl _) r2))), fun c p q nn d H2 s2 z => hW σ H2 (k.step (s1.trans s2)) c p q nn d z⟩⟩
theorem je_makeF {w : τ → (κ → Prop) → EK → Prop} {wa : (τ → Prop) → Prop} (tk : Takes X W) (hW : WishF er en F g N W) (M : Mk X.K C f) (Fn : FnOk X.prog X.w X.K X.mg X.base (L2.CX X.prog X.w) n f fd ps (spIF C ns T U er en w)) (hr : Room (n + 1) X.A) (hg : Gl X x) (hm : X.mg x = some (.ref C)) (hb : Binds X.K fd ps [])
    {a0 : Expr} (ha : JA X F g (a0 :: es) T wa) (hdb : (x == ("__debug__" : Str)) = false := by decide) (he : starEach (a0 :: es) X.env = (false, eval a0 X.env) :: starEach es X.env := by rfl) (hpl : (backTo pos (starEach es X.env)).any (·.1) = false := by rfl) :
    JE X F g (.Call (.Name x np) (a0 :: es) [] pos) (rO (tC C ns U)) (fun k => wa fun t => w t k N) :=
  peW (pe_makeS (E := WE W) M Fn hr hg hm hb (fun σ => passAt tk σ) ha hdb he hpl) fun σ H Q ⟨k, P, w, q⟩ => ⟨k, _, w, fun t vs H1 w1 s1 r1 x dx hx hdx hne => ⟨x, dx, vs, t, P, N, (k.step s1).fr, rfl, hx, hdx, hne, rfl, r1, w1, (fun u H2 p s2 r2 => ⟨rfl, q u (.ref x) H2 p (s1.trans s2) ((tC C ns U).same ((k.step s1).back s2) r2)⟩), fun c p q nn d H2 s2 z => hW σ H2 (k.step (s1.trans s2)) c p q nn d z⟩⟩
theorem je_methF {w : κ × τ → (ρ → Prop) → EK → Prop} {wo : (κ → Prop) → Prop} {wa : (τ → Prop) → Prop} {a0 : Expr} (tk : Takes X W) (hW : WishF er en F g N W) (he : JE X F g e (rO (tC C ns U)) wo) (c : Cls X.K C) (hm : Meth X.K C m f) (Fn : FnOk X.prog X.w X.K X.mg X.base (L2.CX X.prog X.w) n f fd ps (spJF (aC (tC C ns U) T) R er en w)) (hr : Room n X.A) (hb : Binds X.K fd ps []) (ha : JA X F g (a0 :: es) T wa)
    (hl : ∀ vs : List V, vs.length = ns.length → (ns.zip vs).lookup m = none)
    (hst : starEach (a0 :: es) X.env = (false, eval a0 X.env) :: starEach es X.env := by rfl) (hpl : (backTo pos (starEach es X.env)).any (·.1) = false := by rfl)
    (ht : eval (.Call (.Attribute e m apos) (a0 :: es) [] pos) X.env = (do
      let ov ← eval e X.env
      standAt apos.atName
      let (f, first) ← holding [ov] (getMethod ov m pl)
      callWith pos f first (backTo pos (starEach (a0 :: es) X.env)) (backToKw pos (keywordEach [] X.env))) := by rfl) :
    JE X F g (.Call (.Attribute e m apos) (a0 :: es) [] pos) R (fun k => wo fun o => wa fun t => w (o, t) k N) :=
  peW (pe_methSJ (E := WE W) he c hm Fn hr hb (fun σ => passAt tk σ) ha hst hpl ht) fun σ H Q ⟨k, P, w, q⟩ => ⟨k, _, w, fun o v H1 w1 s1 r1 => by
    obtain ⟨a, dx, vs, e1, h1, hn, ho⟩ := r1
    exact ⟨a, dx, _, e1, (k.step s1).le _ _ h1, hl vs hn, k.step s1, _, w1, fun t us H2 w2 s2 r2 => ⟨(o, t), P, N, (k.step (s1.trans s2)).fr, rfl, ⟨v, us, by rw [e1], ⟨a, dx, vs, e1, Gm.mono s2 _ _ h1, hn, U.same (Gm.mono s2) ho⟩, r2⟩, w2, (fun r v H3 p s3 r3 => q r v H3 p (s1.trans (s2.trans s3)) (R.pre (s1.trans s2) (R.same ((k.step (s1.trans s2)).back s3) (Same.refl _) r3))), fun c p q nn d H3 s3 z => hW σ H3 (k.step (s1.trans (s2.trans s3))) c p q nn d z⟩⟩⟩
/-- raise C(..), C's own __init__ storing fields -/
theorem js_raiseF {fI : Addr} {c k : Nat} {fs : List V → List (Str × V)} {a0 : Expr} {rest : List Stmt} {D : Ends} {wa : (τ → Prop) → Prop} {rp : Pos} {f1 : τ → Int} {f2 : τ → Int} (hc : X.calm = true) (tk : Takes X W) (hW : WishF er en F g N W)
    (TC : OexC X.K (er c)) (iC : PySem.W.findIn X.K (.ref (er c)) "__init__" = some (some (.ref fI))) (tI : PySem.W.typeIn X.K (.ref fI) = some (.type "function")) (F1 : FnOk X.prog X.w X.K X.mg X.base (L2.CX X.prog X.w) k fI fd ps (spErr (er c) n fs)) (hr : Room (k + 1) X.A) (hb : Binds X.K fd ps [])
    (hg : Gl X x) (hm : X.mg x = some (.ref (er c))) (ha : JA X F g (a0 :: es) T wa) (num : ∀ t H vs, T.rel H vs t → ∃ is : List Int, vs = is.map V.int ∧ is.length = n ∧ fs (is.map V.int) = en c (f1 t) (f2 t)) (hn : n ≤ 1000) (hne : ∀ p q, ∃ f l, en c p q = f :: l)
    (hdb : (x == ("__debug__" : Str)) = false := by decide) (he : starEach (a0 :: es) X.env = (false, eval a0 X.env) :: starEach es X.env := by rfl) (hpl : (backTo pos (starEach es X.env)).any (·.1) = false := by rfl) :
    JSs X F g (.Raise (some (.Call (.Name x np) (a0 :: es) [] pos)) none rp :: rest) D (wa fun t => N c (f1 t) (f2 t)) :=
  pssW (pss_cons (ps_raise hc tk (pmk_oex (dvs := []) TC iC tI F1 hr hb .nil passL hg hm ha hdb he hpl)) pss_never) fun D' σ H ⟨e, k, w⟩ => ⟨k, _, w, fun t vs H1 w1 s1 r1 => by
    obtain ⟨is, hvs, hl, hfs⟩ := num t _ vs r1
    subst hvs
    refine ⟨by rw [List.length_map]; omega, fun a ha => ⟨a, is, by rw [List.append_nil], hl, upd_same, fun d H' hd hda h1 h2 h3 => ⟨rfl, d, _, h1, h2, ?_, ?_⟩⟩⟩
    · rw [upd_ne hda] at hd
      exact hd
    · rw [upd_ne hda] at hd
      have hs : Same H1 (upd (del H' a) d (.xd (fs (is.map V.int)))) := fun b o hb => by
        have n1 : b ≠ a := ne_of_none hb ha
        rw [upd_ne (ne_of_none hb hd), del_ne n1]
        exact h3 b o n1 (by rw [upd_ne n1]; exact hb)
      obtain ⟨f, l, e2⟩ := hne (f1 t) (f2 t)
      exact hW σ _ (k.step (s1.trans hs)) c _ _ w1 _ (ErrOk.mk e2 (by rw [upd_same, hfs, e2]))⟩
/-- raise C("..") -/
theorem js_raiseF0 {ex : Expr} {rest : List Stmt} {D : Ends} {c : Nat} (hc : X.calm = true) (tk : Takes X W) (hW : WishF er en F g N W) (hne : en c 0 0 = []) (he : PMk X ex (fun _ H Q => Q (.ref (er c)) none H)) : JSs X F g (.Raise (some ex) none pos :: rest) D (N c 0 0) :=
  pssW (pss_cons (ps_raise hc tk he) pss_never) fun D' σ H ⟨e, k, nn⟩ => hW σ H k c 0 0 nn none (ErrOk.nil hne)

theorem errOk_imm {c : Nat} {p q : Int} {d : Option Addr} {H H' : Hp} (s : Imm H H') (h : ErrOk en c p q d H) : ErrOk en c p q d H' := by
  unfold ErrOk at h ⊢
  split at h
  · exact h
  · obtain ⟨dd, e, z⟩ := h
    exact ⟨dd, e, s _ _ rfl z⟩
/-- the error that the suite holds -/
def tEr (en : Nat → Int → Int → List (Str × V)) (c : Nat) (p q : Int) (a : Addr) (d : Option Addr) : Ty Unit := ⟨fun H v _ => v = .ref a ∧ ErrOk en c p q d H, fun s h => ⟨h.1, h.2.same s⟩⟩
theorem js_tryF {i : Nat} {nE xC : Str} {xc : Value} {body suite rest : List Stmt} {b₀ : Stmt} {nx bk ct : L2.St → Hp → Prop} {rt : VK} {wr : Prop} {wc : Prop → EK} {wb : Prop → EK → Prop} {pos' : Pos} {Wo : WX} (hs : X.stack = X.env :: X.outer) (hf : X.env.frame = some X.env.locals) (hN : X.N.Nodup) (hi : X.N[i]? = some nE) (hln : X.env.kindOf nE = some .local) (hc : Names X xC xc)
    (hany : g.s[i]? = some .any) (tko : Takes X Wo)
    (hb : ∀ (R : Prop) (N : EK) (W : WX) (pn : List (Addr × Obj)) (xe : Value → Shared → Prop), Takes (X.tr pn xe) W → WishF er en F g N W → JSs (X.tr pn xe) F g body ⟨fun σ H => g.Ok F σ H ∧ R, rt, fun _ _ => False, fun _ _ => False⟩ (wb R N))
    (hsu : ∀ (R : Prop) c p q, wc R c p q → (PySem.W.exmOne X.K (.ref (er c)) xc = some true ∧ ∃ ws : Prop, ws ∧ ∀ (a : Addr) (oe : Obj) (pn : List (Addr × Obj)) (d : Option Addr), Zc (.ref (er c)) d oe → (∃ vs, oe.data = .fields vs) →
        JSs (X.suite a ((a, oe) :: pn)) F (g.set i (.val (tEr en c p q a d) ())) (b₀ :: suite) ⟨fun σ H => g.Ok F (σ.set i none) H ∧ R, rt, fun _ _ => False, fun _ _ => False⟩ ws) ∨
      (PySem.W.exmOne X.K (.ref (er c)) xc = some false ∧ ∀ σ H, g.Ok F σ H → ∀ d, ErrOk en c p q d H → Wo (.ref (er c)) d σ H))
    (hr : JSs X F g rest ⟨nx, rt, bk, ct⟩ wr) : JSs X F g (.Try body [.ExceptHandler (some (.Name xC np)) (some nE) (b₀ :: suite) pos'] [] [] pos :: rest) ⟨nx, rt, bk, ct⟩ (wCut wr fun R => wLet (wc R) fun N => wb R N) := by
  refine pssW (pss_cons (ps_try_as (np := np) (pos := pos) (tb := fun W => fun D σ H => ∃ q : Prop × EK, WishF er en F g q.2 W ∧ RS F g ⟨fun σ H => g.Ok F σ H ∧ q.1, rt, fun _ _ => False, fun _ _ => False⟩ (wb q.1 q.2) D σ H)
    (ts := fun a cls d => fun D σ H => ∃ (R : Prop) (c : Nat) (p q : Int) (ws : Prop), cls = .ref (er c) ∧ (∀ (oe : Obj) (pn : List (Addr × Obj)), Zc (.ref (er c)) d oe → (∃ vs, oe.data = .fields vs) →
        JSs (X.suite a ((a, oe) :: pn)) F (g.set i (.val (tEr en c p q a d) ())) (b₀ :: suite) ⟨fun σ H => g.Ok F (σ.set i none) H ∧ R, rt, fun _ _ => False, fun _ _ => False⟩ ws) ∧ RS F (g.set i (.val (tEr en c p q a d) ())) ⟨fun σ H => g.Ok F (σ.set i none) H ∧ R, rt, fun _ _ => False, fun _ _ => False⟩ ws D σ H)
    (Wout := Wo) hs hf hN hi hln hc tko (fun W pn xe tk _ => ?_) (fun a oe cls d pn hz hv => ?_)) hr) fun D σ H ⟨e, k, w⟩ => ?_
  · exact ⟨fun p s σ H D I ⟨q, hW, h⟩ => (hb q.1 q.2 W pn xe tk hW).run p s σ H D I h⟩
  · refine ⟨fun p s σ H D I ⟨R, c, pp, qq, ws, e1, hj, h⟩ => ?_⟩
    subst e1
    exact (hj oe pn hz hv).run p s σ H D I h
  · refine ⟨(wr, wc wr), fun σ H k c p q nn d ho => ?_, ⟨⟨fun σ H ⟨k, r⟩ => ⟨e, k, r⟩, e.rt, fun _ _ z => z.elim, fun _ _ z => z.elim⟩, k, w⟩⟩
    rcases hsu wr c p q nn with ⟨hex, ws, hws, hj⟩ | ⟨hex, ho2⟩
    · exact ⟨true, hex, fun _ a ha => ⟨wr, c, p, q, ws, rfl, fun oe pn hz hv => hj a oe pn d hz hv, ⟨fun σ H ⟨k, r⟩ => ⟨e, k, r⟩, e.rt, fun _ _ z => z.elim, fun _ _ z => z.elim⟩, k.set (t := .val (tEr en c p q a d) ()) ⟨_, rfl, rfl, errOk_imm k.fx ho⟩, hws⟩, fun z => by cases z⟩
    · exact ⟨false, hex, ⟨fun z => (nomatch z), fun _ => ho2 σ H k d ho⟩⟩
/-! ### in the suite -/
variable {a D : Addr} {c : Nat} {p q : Int} {d : Option Addr} {oe : Obj} {pn : List (Addr × Obj)} {cl : Expr} {pp : Pos} {cV : V} {cv : Value} {b : Bool}
theorem je_isF {X : Cx} {K : PySem.W.Frag} (hI : CallR X (.builtin "isinstance") (rIsF K en c p q D a d)) (hg : Gl X "isinstance") (hm : X.mg "isinstance" = none) {w : (Unit → Prop) → Prop} (ha : JE X F g e (rO (tEr en c p q a d)) w) (hT : PE X cl (L2.tC cV)) (hcv : ∀ u, RelV cV u → u = cv) (hk : PySem.W.kitOne K (.ref D) cv = some b)
    (he : starEach [e, cl] X.env = (false, eval e X.env) :: starEach [cl] X.env := by rfl) (he2 : starEach [cl] X.env = (false, eval cl X.env) :: starEach [] X.env := by rfl) (hpl : (backTo pos (starEach [cl] X.env)).any (·.1) = false := by rfl) :
    JE X F g (.Call (.Name "isinstance" pp) [e, cl] [] pos) (rO tB) (fun k => w fun _ => wLet b k) :=
  peW (pe_callB hI hg hm (by decide +kernel) (pa_cons ha (pa_cons hT pa_nil he2) he) (by decide) (by decide) he hpl) fun σ H Q ⟨k, P, w, qq⟩ => ⟨k, _, w, fun x v H1 w1 s1 r1 =>
    ⟨cV, cv, b, by rw [(r1.1 : v = _)], hcv, hk, r1.2.same (k.leT s1), qq b _ H1 w1 s1 rfl⟩⟩
theorem je_isFR {X : Cx} {K : PySem.W.Frag} {D2 : Addr} (b : Bool) (hI : CallR X (.builtin "isinstance") (rIsF K en c p q D a d)) (hg : Gl X "isinstance") (hm : X.mg "isinstance" = none) {w : (Unit → Prop) → Prop} (ha : JE X F g e (rO (tEr en c p q a d)) w) (hT : PE X cl (L2.tC (.ref D2))) (hk : PySem.W.kitOne K (.ref D) (.ref D2) = some b)
    (he : starEach [e, cl] X.env = (false, eval e X.env) :: starEach [cl] X.env := by rfl) (he2 : starEach [cl] X.env = (false, eval cl X.env) :: starEach [] X.env := by rfl) (hpl : (backTo pos (starEach [cl] X.env)).any (·.1) = false := by rfl) :
    JE X F g (.Call (.Name "isinstance" pp) [e, cl] [] pos) (rO tB) (fun k => w fun _ => wLet b k) := je_isF hI hg hm ha hT (fun _ r => r) hk he he2 hpl
theorem je_isFT {X : Cx} {K : PySem.W.Frag} {T : String} (b : Bool) (hI : CallR X (.builtin "isinstance") (rIsF K en c p q D a d)) (hg : Gl X "isinstance") (hm : X.mg "isinstance" = none) {w : (Unit → Prop) → Prop} (ha : JE X F g e (rO (tEr en c p q a d)) w) (hT : PE X cl (L2.tC (.ty T))) (hk : PySem.W.kitOne K (.ref D) (.type T) = some b)
    (he : starEach [e, cl] X.env = (false, eval e X.env) :: starEach [cl] X.env := by rfl) (he2 : starEach [cl] X.env = (false, eval cl X.env) :: starEach [] X.env := by rfl) (hpl : (backTo pos (starEach [cl] X.env)).any (·.1) = false := by rfl) :
    JE X F g (.Call (.Name "isinstance" pp) [e, cl] [] pos) (rO tB) (fun k => w fun _ => wLet b k) := je_isF hI hg hm ha hT (fun _ r => r) hk he he2 hpl
/-- e.f -/
theorem je_xf {X : Cx} {fl : Str} {v : Int} {ff : Str × V} {fs : List (Str × V)} (hD : XfC X.K D) (hno : PySem.W.findIn X.K (.ref D) fl = some none) (hz : Zc (.ref D) d oe) (hv : ∃ vs, oe.data = .fields vs) {w : (Unit → Prop) → Prop} (ha : JE (X.suite a ((a, oe) :: pn)) F g e (rO (tEr en c p q a d)) w) (hen : en c p q = ff :: fs) (hl : (en c p q).lookup fl = some (.int v))
    (hb : attributeBase e fl X.env (eval e X.env) = eval e X.env := by rfl) :
    JE (X.suite a ((a, oe) :: pn)) F g (.Attribute e fl pos) (rO tI) (fun k => w fun _ => k v) :=
  peW (pe_xf (pn := pn) hD hno hz hv ha hb) fun σ H Q ⟨k, P, w, qq⟩ => ⟨k, _, w, fun x vv H1 w1 s1 r1 => by
    obtain ⟨dd, e1, e2⟩ := ErrOk.get hen (r1.2.same (k.leT s1))
    exact ⟨r1.1, rfl, dd, _, .int v, e1, e2, hl, qq v _ H1 w1 s1 rfl⟩⟩
/-- str(i) -/
theorem je_strI {X : Cx} {w : (Int → Prop) → Prop} (hg : Gl X "str") (hm : X.mg "str" = none) (ha : JE X F g e (rO tI) w) (he : starEach [e] X.env = (false, eval e X.env) :: starEach [] X.env := by rfl) (hpl : (backTo pos (starEach [] X.env)).any (·.1) = false := by rfl) :
    JE X F g (.Call (.Name "str" pp) [e] [] pos) (rO tS) (fun k => w fun n => n.natAbs.log2 < 1920 ∧ k (strI n)) :=
  je_callTy (T := aC tI aN) (C := fun t k => t.1.natAbs.log2 < 1920 ∧ k (strI t.1)) call_str_int (fun _ t H vs P Q k ⟨v, r, e1, r1, e2⟩ c q => ⟨t.1, by rw [e1, (e2 : r = []), (r1 : v = _)], c.1, q _ _ H c.2 (Same.refl H) rfl⟩) hg hm (by decide +kernel) (jb_cons (je_b ha) jb_nil he) (by decide) (by decide) he hpl
/-- _shown(x): a short text -/
theorem pe_shown {X : Cx} {w : Int → (Str → Prop) → Prop} {i : Nat} {x y : Str} (hw : ∀ (n : Int) (P : Str → Prop), (∀ z : Str, z.length ≤ 200 → P z) → w n P) (Fn : FnOk X.prog X.w X.K X.mg X.base CX0 n f fd ps (spJ (aC tI aN) (rO tS) fun t => w t.1)) (hr : Room n X.A) (hg : Gl X x) (hm : X.mg x = some (.ref f)) (hk : PySem.W.keepIn X.K (.ref f) = true) (hb : Binds X.K fd ps [])
    (hN : X.N[i]? = some y) (hv : Vis X.env.scope y) (hdb : (x == ("__debug__" : Str)) = false := by decide) (hd1 : (y == ("__debug__" : Str)) = false := by decide) (hd2 : (y == ("__classdict__" : Str)) = false := by decide) :
    ∃ t, PE X (.Call (.Name x np) [.Name y pp] [] pos) t ∧ ∀ σ : L2.St, (∃ j : Int, σ[i]? = some (some (.int j))) → PartJ σ t :=
  ⟨_, pe_call Fn hr hg hm hk hb .nil pass0 (pa_cons (pe_var hN hv hd1 hd2) pa_nil) hdb, fun σ ⟨j, hj⟩ H Q h => ⟨_, hj, (j, ()), fun z => z.length ≤ 200, Fr.all H, rfl, ⟨_, _, rfl, rfl, rfl⟩, hw _ _ (fun z hz => hz), fun r v H2 p s2 r2 => by
    obtain rfl : v = .str r := r2
    exact h r H2 p s2⟩⟩
end
end J
/-! A23: errors with fields: what the top has written of them -/
namespace L2
open PySem PySem.Spec PyProof.Rows PySem.W
structure SupFun (P : Program) (K : Frag) (mg : Str → Option Value) (x qual : Str) (st : Stmt) (f D : Addr) (fd : FuncData) : Prop where
  ex : ∃ (oc : Value) (od : Option Addr) (kV doc pm : Value) (an : Option Addr) (cda : Addr) (ct : Value) (osl : Array (Option Value)) (cc : Addr) (cl : Value) (cld : Option Addr) (csl : Array (Option Value)) (ccl : Value) (cdd : Option Addr) (ccs : Array (Option Value)) (vsc : Array Value) (file : Str) (tf : Tok),
    fd = fnX x qual (defArgs st) (defBody st) (defScope st) [("__class__", cc)] .none kV doc pm an (.ref cda) ct ∧ K.lookup f = some ⟨oc, od, .func fd, osl⟩ ∧ codeIn K (.ref cda) qual = true ∧ K.lookup cc = some ⟨cl, cld, .cell (some (.ref D)), csl⟩ ∧ K.lookup cda = some ⟨ccl, cdd, .fields vsc, ccs⟩ ∧ vsc[2]? = some (.str file tf) ∧ ((P.main.file : Str) == file) = true
  cD : isClsIn K D = true
  top : (P.main.scope.names.lookup ("super" : Str)).isSome = false
  ms : mg "super" = none
  op : nsIn K cStatics "thirdparty.any" = some none
theorem SupFun.binds {P : Program} {K : Frag} {mg : Str → Option Value} {x qual : Str} {st : Stmt} {f D : Addr} {fd : FuncData} {ps : List Str} (F : SupFun P K mg x qual st f D fd)
    (h : ∀ (cc : Addr) (kV doc pm : Value) (an : Option Addr) (cdv ct : Value) (us : List Value), us.length = ps.length → bindArgs (fnX x qual (defArgs st) (defBody st) (defScope st) [("__class__", cc)] .none kV doc pm an cdv ct) ⟨us, []⟩ = pure (ps.zip us)) : Binds K fd ps [] := by
  obtain ⟨oc, od, kV, doc, pm, an, cda, ct, osl, cc, cl, cld, csl, ccl, cdd, ccs, vsc, file, tf, rfl, _⟩ := F.ex
  exact .all (h cc kV doc pm an (.ref cda) ct)
section
variable {CX : CXT} {P : Program} {w : World} {K : Frag} {mg : Str → Option Value} {base : Heap} {k : Nat} {f D C : Addr} {x qual f1 f2 : Str} {st : Stmt} {fd : FuncData} {p0 p1 p2 p3 p4 p5 q1 q2 q3 q4 r1 r2 r3 r4 : Pos} {v1 v2 : Expr} {vr : List Expr} {ar : Arg} {pl : Sem Bool}
theorem SupFun.ok1 (F : SupFun P K mg x qual st f D fd) (S : SupScope ["self", f1] ["self", f1] (defScope st))
    (eb : defBody st = [.Expr (.Call (.Attribute (.Call (.Name "super" p0) [] [] p1) "__init__" p2) [.JoinedStr (v1 :: v2 :: vr) p5] [] p3) p4, .Assign [.Attribute (.Name "self" q1) f1 q2] (.Name f1 q3) q4])
    (hp : ((defArgs st).posonlyargs ++ (defArgs st).args).head? = some ar) (har : ar.arg = "self") (hks : (defScope st).names.lookup ("super" : Str) = some .globalImplicit) (hkc : (defScope st).names.lookup ("__class__" : Str) = some .free)
    (SC : SupCl K C D) (hno : findIn K (.ref C) f1 = some none)
    (he : ∀ cda cc L, eval (.Call (.Attribute (.Call (.Name "super" p0) [] [] p1) "__init__" p2) [.JoinedStr (v1 :: v2 :: vr) p5] [] p3) (envX qual (defScope st) L f (.ref cda) [("__class__", cc)]) = (do
      let ov ← attributeBase (.Call (.Name "super" p0) [] [] p1) "__init__" (envX qual (defScope st) L f (.ref cda) [("__class__", cc)]) (eval (.Call (.Name "super" p0) [] [] p1) (envX qual (defScope st) L f (.ref cda) [("__class__", cc)]))
      standAt p2.atName
      let (f', first) ← holding [ov] (getMethod ov "__init__" pl)
      callWith p3 f' first (backTo p3 (starEach [.JoinedStr (v1 :: v2 :: vr) p5] (envX qual (defScope st) L f (.ref cda) [("__class__", cc)]))) []))
    (hi : ∀ cda cc L, interactive (envX qual (defScope st) L f (.ref cda) [("__class__", cc)]) = false)
    (hsw : ∀ cda cc L, swapsWith (.Call (.Attribute (.Call (.Name "super" p0) [] [] p1) "__init__" p2) [.JoinedStr (v1 :: v2 :: vr) p5] [] p3) none p4.line (envX qual (defScope st) L f (.ref cda) [("__class__", cc)]) = pure false)
    (hs1 : ∀ cda cc L, swapsWith (.Name f1 q3) (some (.Attribute (.Name "self" q1) f1 q2)) q4.line (envX qual (defScope st) L f (.ref cda) [("__class__", cc)]) = pure false) (hd1 : (f1 == ("__debug__" : Str)) = false) (hd2 : (f1 == ("__classdict__" : Str)) = false)
    (hparts : ∀ (cda cc : Addr) (A : Around) (outer : List Env) (s : Shared) (H : Hp) (E : XK), Room k (A.deeper (envX qual (defScope st) s.heap.objs.size f (.ref cda) [("__class__", cc)])) → ∃ ts, PJ (cxSup CX P w K mg base ["self", f1] qual (defScope st) f cc (.ref cda) A outer s H E) (v1 :: v2 :: vr) ts ∧ ts.length ≤ 400 ∧
      ∀ σ : St, (∃ i : Int, σ[1]? = some (some (.int i))) → ∀ t ∈ ts, PartJ σ t) : FnOk P w K mg base CX (k + 1) f fd ["self", f1] (spErr C 1 fun is => [f1].zip is) := by
  obtain ⟨oc, od, kV, doc, pm, an, cda, ct, osl, cc, cl, cld, csl, ccl, cdd, ccs, vsc, file, tf, rfl, lk, hcd, hcell, hcode, hvs, hfile⟩ := F.ex
  obtain ⟨cdD, hD⟩ := Option.isSome_iff_exists.mp (show (clsIn K D).isSome = true from F.cD)
  rw [eb] at lk ⊢
  exact err1 lk hcd S hcell hcode hvs hfile hD hp har hks hkc F.top F.ms F.op SC hno (S.par "self" (by simp)) (S.par f1 (by simp)) (he cda cc) (hi cda cc) (hsw cda cc) (hs1 cda cc) hd1 hd2 (hparts cda cc)
theorem SupFun.ok2 (F : SupFun P K mg x qual st f D fd) (S : SupScope ["self", f1, f2] ["self", f1, f2] (defScope st))
    (eb : defBody st = [.Expr (.Call (.Attribute (.Call (.Name "super" p0) [] [] p1) "__init__" p2) [.JoinedStr (v1 :: v2 :: vr) p5] [] p3) p4, .Assign [.Attribute (.Name "self" q1) f1 q2] (.Name f1 q3) q4, .Assign [.Attribute (.Name "self" r1) f2 r2] (.Name f2 r3) r4])
    (hp : ((defArgs st).posonlyargs ++ (defArgs st).args).head? = some ar) (har : ar.arg = "self") (hks : (defScope st).names.lookup ("super" : Str) = some .globalImplicit) (hkc : (defScope st).names.lookup ("__class__" : Str) = some .free)
    (SC : SupCl K C D) (hno : findIn K (.ref C) f1 = some none) (hno2 : findIn K (.ref C) f2 = some none)
    (he : ∀ cda cc L, eval (.Call (.Attribute (.Call (.Name "super" p0) [] [] p1) "__init__" p2) [.JoinedStr (v1 :: v2 :: vr) p5] [] p3) (envX qual (defScope st) L f (.ref cda) [("__class__", cc)]) = (do
      let ov ← attributeBase (.Call (.Name "super" p0) [] [] p1) "__init__" (envX qual (defScope st) L f (.ref cda) [("__class__", cc)]) (eval (.Call (.Name "super" p0) [] [] p1) (envX qual (defScope st) L f (.ref cda) [("__class__", cc)]))
      standAt p2.atName
      let (f', first) ← holding [ov] (getMethod ov "__init__" pl)
      callWith p3 f' first (backTo p3 (starEach [.JoinedStr (v1 :: v2 :: vr) p5] (envX qual (defScope st) L f (.ref cda) [("__class__", cc)]))) []))
    (hi : ∀ cda cc L, interactive (envX qual (defScope st) L f (.ref cda) [("__class__", cc)]) = false)
    (hsw : ∀ cda cc L, swapsWith (.Call (.Attribute (.Call (.Name "super" p0) [] [] p1) "__init__" p2) [.JoinedStr (v1 :: v2 :: vr) p5] [] p3) none p4.line (envX qual (defScope st) L f (.ref cda) [("__class__", cc)]) = pure false)
    (hs1 : ∀ cda cc L, swapsWith (.Name f1 q3) (some (.Attribute (.Name "self" q1) f1 q2)) q4.line (envX qual (defScope st) L f (.ref cda) [("__class__", cc)]) = pure false)
    (hs2 : ∀ cda cc L, swapsWith (.Name f2 r3) (some (.Attribute (.Name "self" r1) f2 r2)) r4.line (envX qual (defScope st) L f (.ref cda) [("__class__", cc)]) = pure false) (hd1 : (f1 == ("__debug__" : Str)) = false) (hd2 : (f1 == ("__classdict__" : Str)) = false) (hd3 : (f2 == ("__debug__" : Str)) = false) (hd4 : (f2 == ("__classdict__" : Str)) = false)
    (hparts : ∀ (cda cc : Addr) (A : Around) (outer : List Env) (s : Shared) (H : Hp) (E : XK), Room k (A.deeper (envX qual (defScope st) s.heap.objs.size f (.ref cda) [("__class__", cc)])) → ∃ ts, PJ (cxSup CX P w K mg base ["self", f1, f2] qual (defScope st) f cc (.ref cda) A outer s H E) (v1 :: v2 :: vr) ts ∧ ts.length ≤ 400 ∧
      ∀ σ : St, (∃ i : Int, σ[1]? = some (some (.int i))) → (∃ i : Int, σ[2]? = some (some (.int i))) → ∀ t ∈ ts, PartJ σ t) : FnOk P w K mg base CX (k + 1) f fd ["self", f1, f2] (spErr C 2 fun is => ([f1, f2].zip is).reverse) := by
  obtain ⟨oc, od, kV, doc, pm, an, cda, ct, osl, cc, cl, cld, csl, ccl, cdd, ccs, vsc, file, tf, rfl, lk, hcd, hcell, hcode, hvs, hfile⟩ := F.ex
  obtain ⟨cdD, hD⟩ := Option.isSome_iff_exists.mp (show (clsIn K D).isSome = true from F.cD)
  rw [eb] at lk ⊢
  exact err2 lk hcd S hcell hcode hvs hfile hD hp har hks hkc F.top F.ms F.op SC hno hno2 (S.par "self" (by simp)) (S.par f1 (by simp)) (S.par f2 (by simp)) (he cda cc) (hi cda cc) (hsw cda cc) (hs1 cda cc) (hs2 cda cc) hd1 hd2 hd3 hd4 (hparts cda cc)
/-- a piece that is one int's text -/
abbrev FvOk (X : Cx) (i : Nat) (e : Expr) : Prop := ∃ t, PE X e t ∧ ∀ σ : St, (∃ j : Int, σ[i]? = some (some (.int j))) → PartJ σ t
theorem parts2 {X : Cx} {m : Str} {j : Nat} {e : Expr} {p p' : Pos} (hm : m.length ≤ 200) (h : FvOk X 1 e) : ∃ ts, PJ X [.Constant (.str m) j p, .FormattedValue e (-1) none p'] ts ∧ ts.length ≤ 400 ∧ ∀ σ : St, (∃ i : Int, σ[1]? = some (some (.int i))) → ∀ t ∈ ts, PartJ σ t := by
  obtain ⟨t, h1, h2⟩ := h
  refine ⟨_, .cons pe_str (.cons (pe_fmt h1) .nil), by simp, fun σ hi u hu => ?_⟩
  rcases List.mem_cons.mp hu with rfl | hu
  · exact part_str hm
  · rcases List.mem_cons.mp hu with rfl | hu
    · exact part_fmt (h2 σ hi)
    · cases hu
theorem parts3 {X : Cx} {m m2 : Str} {j j2 : Nat} {e : Expr} {p p' p2 : Pos} (hm : m.length ≤ 200) (h : FvOk X 1 e) (hm2 : m2.length ≤ 200) : ∃ ts, PJ X [.Constant (.str m) j p, .FormattedValue e (-1) none p', .Constant (.str m2) j2 p2] ts ∧ ts.length ≤ 400 ∧ ∀ σ : St, (∃ i : Int, σ[1]? = some (some (.int i))) → ∀ t ∈ ts, PartJ σ t := by
  obtain ⟨t, h1, h2⟩ := h
  refine ⟨_, .cons pe_str (.cons (pe_fmt h1) (.cons pe_str .nil)), by simp, fun σ hi u hu => ?_⟩
  rcases List.mem_cons.mp hu with rfl | hu
  · exact part_str hm
  · rcases List.mem_cons.mp hu with rfl | hu
    · exact part_fmt (h2 σ hi)
    · rcases List.mem_cons.mp hu with rfl | hu
      · exact part_str hm2
      · cases hu
theorem parts4 {X : Cx} {m m2 : Str} {j j2 : Nat} {e e2 : Expr} {p p' p2 p2' : Pos} (hm : m.length ≤ 200) (h : FvOk X 1 e) (hm2 : m2.length ≤ 200) (h' : FvOk X 2 e2) : ∃ ts, PJ X [.Constant (.str m) j p, .FormattedValue e (-1) none p', .Constant (.str m2) j2 p2, .FormattedValue e2 (-1) none p2'] ts ∧ ts.length ≤ 400 ∧
    ∀ σ : St, (∃ i : Int, σ[1]? = some (some (.int i))) → (∃ i : Int, σ[2]? = some (some (.int i))) → ∀ t ∈ ts, PartJ σ t := by
  obtain ⟨t, h1, h2⟩ := h
  obtain ⟨t', h1', h2'⟩ := h'
  refine ⟨_, .cons pe_str (.cons (pe_fmt h1) (.cons pe_str (.cons (pe_fmt h1') .nil))), by simp, fun σ hi hi2 u hu => ?_⟩
  rcases List.mem_cons.mp hu with rfl | hu
  · exact part_str hm
  · rcases List.mem_cons.mp hu with rfl | hu
    · exact part_fmt (h2 σ hi)
    · rcases List.mem_cons.mp hu with rfl | hu
      · exact part_str hm2
      · rcases List.mem_cons.mp hu with rfl | hu
        · exact part_fmt (h2' σ hi2)
        · cases hu
end
/-- what an own error class over ValueError must have -/
theorem oex_mk {K : Frag} {C : Addr} {nm q : Str} {N : Addr} {bs bm : List Value} {sn : List Str} {sub : List Value} {ab : Bool} {col : Option Bool} {dd : Option Addr} {k0 k1 k2 k3 k5 : Option Value} (l : K.lookup C = some (excClassObj nm q C N bs bm true sn sub ab col dd k0 k1 k2 k3 k5 "ValueError.__new__")) (hb : PySem.HandSPX.refsVE bm = true)
    (sa : findIn K (.ref C) "__setattr__" = some (some (.builtin "object.__setattr__"))) (ex : subIn K (.ref C) (.type "BaseException") = some true) (ty : typeIn K (.ref C) = some (.type "type")) (kC : keepIn K (.ref C) = true) : OexC K C :=
  ⟨⟨nm, q, N, bs, bm, sn, sub, ab, col, dd, k0, k1, k2, k3, k5, l, hb⟩, sa, ex, ty, kC⟩
theorem exm_sub {K : Frag} {C : Addr} {cls : Value} {b : Bool} (h1 : subIn K (.ref C) (.type "BaseException") = some true) (hdct : hasDictIn K C = true) (ht : typeIn K (.ref C) = some (.type "type")) (h4 : subIn K cls (.ref C) = some b) : exmOne K cls (.ref C) = some b := exm_ref h1 hdct ht h4
end L2
namespace J
open PySem PySem.Spec L2 PyProof.Rows ClX RZ
theorem num1 {c : Nat} {en : Nat → Int → Int → List (Str × V)} {f1 : Str} (h : ∀ i, en c i 0 = [(f1, .int i)]) : ∀ (t : Int × Unit) (H : Hp) (vs : List V), (aC tI aN).rel H vs t → ∃ is : List Int, vs = is.map V.int ∧ is.length = 1 ∧ (fun is : List V => [f1].zip is) (is.map V.int) = en c t.1 0 := fun t H vs ⟨v, r, e, r1, e2⟩ =>
  ⟨[t.1], by rw [e, (e2 : r = []), (r1 : v = _)]; rfl, rfl, by rw [h]; rfl⟩
theorem num2 {c : Nat} {en : Nat → Int → Int → List (Str × V)} {f1 f2 : Str} (h : ∀ i j, en c i j = [(f2, .int j), (f1, .int i)]) : ∀ (t : Int × Int × Unit) (H : Hp) (vs : List V), (aC tI (aC tI aN)).rel H vs t → ∃ is : List Int, vs = is.map V.int ∧ is.length = 2 ∧ (fun is : List V => ([f1, f2].zip is).reverse) (is.map V.int) = en c t.1 t.2.1 := fun t H vs ⟨v, r, e, r1, v2, r', e', r2, e2⟩ =>
  ⟨[t.1, t.2.1], by rw [e, e', (e2 : r' = []), (r1 : v = _), (r2 : v2 = _)]; rfl, rfl, by rw [h]; rfl⟩
section
variable {X : Cx} {F : Fr} {g : Gm} {α β γ ρ τ κ : Type} {C f : Addr} {n : Nat} {fd : FuncData} {ps ns : List Str} {U : ATy κ} {W : WX} {N : EK} {a b : Expr} {pos : Pos} {er : Nat → Addr} {en : Nat → Int → Int → List (Str × V)}
theorem je_binOF {op : Operator} {ns' : List Str} {C' : Addr} {κ' : Type} {U' : ATy κ'} {w : κ × κ × Unit → (κ' → Prop) → EK → Prop} {wa wb : (κ → Prop) → Prop} (tk : Takes X W) (hW : WishF er en F g N W) (ha : JE X F g a (rO (tC C ns U)) wa) (hb' : JE X F g b (rO (tC C ns U)) wb) (hm : Meth X.K C (PySem.dunder op.info.2) f) (hs : PySem.W.selfFirst X.K C = true)
    (Fn : FnOk X.prog X.w X.K X.mg X.base (L2.CX X.prog X.w) n f fd ps (spJF (aC (tC C ns U) (aC (tC C ns U) aN)) (rO (tC C' ns' U')) er en w)) (hr : Room n X.A) (hb : Binds X.K fd ps []) : JE X F g (.BinOp a op b pos) (rO (tC C' ns' U')) (fun k => wa fun x => wb fun y => w (x, y, ()) k N) :=
  peW (pe_binOS (E := WE W) hm hs Fn hr hb (fun σ => passAt tk σ) ha hb') fun σ H Q ⟨k, P, w, q⟩ => ⟨k, _, w, fun x v H1 w1 s1 r1 => ⟨k.step s1, _, w1, fun y u H2 w2 s2 r2 => by
    have k2 := k.step (s1.trans s2)
    have r1' := (tC C ns U).same (Gm.mono s2) r1
    obtain ⟨o, dx, vs, e1, g1, l1, u1⟩ := id r1'
    obtain ⟨o2, dy, us, e2, g2, l2, u2⟩ := id r2
    exact ⟨o, dx, _, o2, dy, _, e1, k2.le _ _ g1, e2, k2.le _ _ g2, (x, y, ()), P, N, k2.fr, rfl, ⟨.ref o, [.ref o2], rfl, by rw [← e1]; exact r1', .ref o2, [], rfl, by rw [← e2]; exact r2, rfl⟩, w2, (fun r v' H' pr s rr =>
      ⟨nni_ref rr, q r v' H' pr ((s1.trans s2).trans s) ((rO (tC C' ns' U')).same (k2.back s) (Same.refl _) rr)⟩), fun c p qq nn d H' s z => hW σ H' (k2.step s) c p qq nn d z⟩⟩⟩
end
end J
/-! A24: defs that raise nothing, called within an except suite -/
namespace L2
open PySem PySem.Spec PyProof.Rows L2H
structure FnQ (P : Program) (w : World) (K : PySem.W.Frag) (mg : Str → Option Value) (base : Heap) (CX : CXT) (k : Nat) (f : Addr) (fd : FuncData) (ps : List Str) (sp : Sp) : Prop where
  len : ∀ vs H Q E, sp vs H Q E → vs.length = ps.length
  run : ∀ (A : Around) (outer : List Env) (s : Shared) (H : Hp) (args : Args) (us : List Value) (vs : List V) (Q : VK) (E : XK), RoomH k A → Env0 P w K mg base A outer s H → BindsTo s fd args (ps.zip us) → Vals vs us → sp vs H Q E →
    codeAny (model P w) A (.call (.ref f) args) (CR CX outer P w H s Q E) s
def cxQ (CX : CXT) (P : Program) (w : World) (K : PySem.W.Frag) (mg : Str → Option Value) (base : Heap) (N : List Str) (qual : Str) (scope : Scope) (f : Addr) (cd : Value) (A : Around) (outer : List Env) (s : Shared) (H : Hp) (E : XK) : Cx :=
  { cxOf CX P w K mg base N qual scope f cd A outer s H E with calm := false }
theorem inv_startQ {CX : CXT} {P : Program} {w : World} {K : PySem.W.Frag} {mg : Str → Option Value} {base : Heap} {N ps : List Str} {qual : Str} {scope : Scope} {f : Addr} {cd : Value} {A : Around} {outer : List Env} {s s1 : Shared} {H : Hp} {E : XK} {us : List Value} {vs : List V}
    (S : FnScope N ps scope) (e0 : Env0 P w K mg base A outer s H) (hl : vs.length = ps.length) (r : Vals vs us)
    (x : InCallC s s.heap.objs.size (bindL (envOfC qual scope s.heap.objs.size f cd).kindOf (ps.zip us) fun _ => none) (cellsFrom (s.heap.objs.size + 1) scope.names []) (bindC (envOfC qual scope s.heap.objs.size f cd).kindOf (ps.zip us) fun _ => none) s1) :
    Inv (cxQ CX P w K mg base N qual scope f cd A outer s H E) [] (L2.start N vs) H s1 := by
  have hpl : ps.length ≤ N.length := by have := congrArg List.length S.pre; rw [List.length_take] at this; omega
  obtain ⟨h1, tk, rfl, hk⟩ := x.done
  have noA : ∀ b : Addr, b ∉ (cxQ CX P w K mg base N qual scope f cd A outer s H E).ex := fun b z => absurd (show b ∈ ([] : List Addr) from z) (by simp)
  refine ⟨⟨e0.mod, S.kind, rfl, rfl, Nat.le_refl _, fun y z c h1 h2 => ?_, fun y hy => ?_, fun y c _ h => ?_, (fun z => Bool.noConfusion (show false = true from z)), Around.frames_deeper e0.frames, .inr ⟨rfl, rfl⟩, fun b z => absurd z (noA b), e0.bs, e0.bsz, fun b _ _ => noA b, fun b z => absurd z (noA b), e0.funs, e0.frf⟩,
    rfl, e0.bare, Un.kept hk, ⟨_, x.toInCall.ns, fun i y v h1 h2 h3 => ?_⟩, fun y c h => ⟨_, x.cell y c h⟩, e0.hok.fresh (Nat.le_refl _), fun y c h => ?_, fun p hp => absurd (show p ∈ ([] : List (Addr × Obj)) from hp) (by simp), e0.hok.kept hk, ?_⟩
  · exact name_of_addr x.apart (PySem.mem_of_lookup h1) (PySem.mem_of_lookup h2)
  · have hy : scope.names.lookup y = some .cell ∨ scope.names.lookup y = some .free := hy
    rcases hy with hy | hy
    · exact cell_has hy
    · exact absurd rfl (S.nofree _ (PySem.mem_of_lookup hy))
  · exact Nat.le_of_lt (x.above y c (PySem.mem_of_lookup h))
  · have hi : i < vs.length := by
      unfold L2.start at h2
      by_cases hi : i < vs.length
      · exact hi
      · rw [List.getElem?_append_right (by simpa using hi)] at h2
        rw [List.getElem?_replicate] at h2
        split at h2 <;> cases h2
    have ha : vs[i]? = some v := by
      unfold L2.start at h2
      rw [List.getElem?_append_left (by simpa using hi), List.getElem?_map] at h2
      cases e : vs[i]? with
      | none => rw [e] at h2; cases h2
      | some a => rw [e] at h2; cases h2; rfl
    obtain ⟨u, hu, rv⟩ := r.get ha
    have hp : ps[i]? = some y := by
      rw [← S.pre, List.getElem?_take_of_lt (by omega)]; exact h1
    have ndP : ps.Nodup := by rw [← S.pre]; exact S.nd.sublist (List.take_sublist _ _)
    refine ⟨u, rv, ?_⟩
    rcases S.par y (List.mem_of_getElem? hp) with k | k
    · exact .inl ⟨k, bindL_get ndP hp hu k⟩
    · obtain ⟨c, e⟩ := cell_has (n := s.heap.objs.size + 1) k
      refine .inr ⟨.inl k, c, e, ?_⟩
      have q := x.cell y c e
      rw [bindC_get ndP hp hu (by show scope.names.lookup y ≠ _; rw [k]; decide)] at q
      exact q
  · exact e0.hok.fresh (Nat.le_of_lt (x.above y c (PySem.mem_of_lookup h)))
  · unfold L2.start
    show _ = N.length
    rw [List.length_append, List.length_map, List.length_replicate]
    omega
theorem fn_ofQ {CX : CXT} {P : Program} {w : World} {K : PySem.W.Frag} {mg : Str → Option Value} {base : Heap} {k : Nat} {f : Addr} {name qual : Str} {params : Arguments} {body : List Stmt} {scope : Scope} {dV kV doc pm cdv ct oc : Value} {an od : Option Addr}
    {osl : Array (Option Value)} {N ps : List Str} {sp : Sp} (lk : K.lookup f = some ⟨oc, od, .func (PySem.W.fnOf name qual params body scope dV kV doc pm an cdv ct), osl⟩) (hcd : PySem.W.codeIn K cdv qual = true) (S : FnScope N ps scope)
    (len : ∀ vs H Q E, sp vs H Q E → vs.length = ps.length)
    (hbody : ∀ (A : Around) (outer : List Env) (s : Shared) (H : Hp) (vs : List V) (Q : VK) (E : XK), RoomH k (A.deeper (envOfC qual scope s.heap.objs.size f cdv)) → sp vs H Q E →
      ∃ t, PSs (cxQ CX P w K mg base N qual scope f cdv A outer s H E) body t ∧ t { nx := fun _ H' => Q .non H', rt := Q } (L2.start N vs) H) :
    FnQ P w K mg base CX (k + 1) f (PySem.W.fnOf name qual params body scope dV kV doc pm an cdv ct) ps sp := by
  refine ⟨len, fun A outer s H args us vs Q E hr e0 hb r hsp => ?_⟩
  have hl := len _ _ _ _ hsp
  have KX : K.In s.heap := e0.mod.kin.keeps fun b o e => (e0.bs b o e).1
  have lim : s.heap.NoLimit := e0.mod.nolimit.keeps fun b o e => (e0.bs b o e).1
  have hkind : ∀ y ∈ ps.zip us, scope.names.lookup y.1 = some .local ∨ (scope.names.lookup y.1 = some .cell ∧ ((cellsFrom (s.heap.objs.size + 1) scope.names []).lookup y.1).isSome = true) := fun ⟨n, v⟩ hy => by
    rcases S.par n (List.of_mem_zip hy).1 with q | q
    · exact .inl q
    · exact .inr ⟨q, PySem.W.cellsFrom_some _ _ _ (.inl q)⟩
  refine codeAny_call_function hr.depth (KX _ _ lk) rfl S.co S.gen rfl (PySem.W.codeRec_of KX hcd) (hb _ _ _ _ ?_)
  refine wpAny_newFunctionEnv_cells S.kind hkind fun env he s1 x => ?_
  subst he
  refine ⟨lim.keeps x.toInCall.keep, codeAny_func ?_⟩
  obtain ⟨t, ht, hq⟩ := hbody A outer s H vs Q E (hr.deeper _) hsp
  have I : Inv (cxQ CX P w K mg base N qual scope f cdv A outer s H E) [] (L2.start N vs) H s1 := inv_startQ S e0 hl r x
  refine wpAny_mono (ht.run [] s1 (L2.start N vs) H _ I hq) (fun fl s' hs => ?_) fun e s' hs => hs
  have fin : ∀ {σ' : L2.St} {H' : Hp} {v : V} {u : Value}, Inv (cxQ CX P w K mg base N qual scope f cdv A outer s H E) [] σ' H' s' → RelV v u → Q v H' → CE outer P w H s Q u s' :=
    fun {σ' H' v u} J rv q => ⟨v, H', J.os, J.bare, J.base, J.hok, rv, q⟩
  cases fl with
  | ret u =>
    obtain ⟨v, σ', H', J, rv, q⟩ := hs
    exact fin J rv q
  | next =>
    obtain ⟨σ', H', J, q⟩ := hs
    exact fin (v := V.non) (u := Value.none) J rfl q
  | brk =>
    obtain ⟨_, _, _, q⟩ := hs
    exact False.elim q
  | cont =>
    obtain ⟨_, _, _, q⟩ := hs
    exact False.elim q
section
variable {P : Program} {w : World} {K : PySem.W.Frag} {mg : Str → Option Value} {base : Heap}
theorem Fun.okQ {x qual : Str} {st : Stmt} {f : Addr} {fd : FuncData} {N ps : List Str} {k : Nat} {sp : Sp} (F : Fun K x qual st f fd) (S : FnScope N ps (defScope st)) (len : ∀ vs H Q E, sp vs H Q E → vs.length = ps.length)
    (hbody : ∀ (cdv : Value) (A : Around) (outer : List Env) (s : Shared) (H : Hp) (vs : List V) (Q : VK) (E : XK), RoomH k (A.deeper (envOfC qual (defScope st) s.heap.objs.size f cdv)) → sp vs H Q E →
      ∃ t, PSs (cxQ CX0 P w K mg base N qual (defScope st) f cdv A outer s H E).nox (defBody st) t ∧ t { nx := fun _ H' => Q .non H', rt := Q } (start N vs) H) : FnQ P w K mg base CX0 (k + 1) f fd ps sp := by
  obtain ⟨oc, od, kV, doc, pm, an, cdv, ct, osl, rfl, lk, hcd⟩ := F.ex
  refine fn_ofQ lk hcd S len fun A outer s H vs Q E hr hsp => ?_
  obtain ⟨t, h, q⟩ := hbody cdv A outer s H vs Q E hr hsp
  exact ⟨t, h.nox, q⟩
end
theorem _root_.L2H.RoomH.unitsQ {k : Nat} {A : Around} (r : RoomH k A) : A.units + 64 < cLine := by have := r.un; omega
theorem roomH_mark {k : Nat} {A : Around} {v : Option Value} (r : Room k A) : RoomH k (A.mark v) := ⟨r.dp, r.un⟩
section
variable {X : Cx} {CX : CXT} {k : Nat} {f C : Addr} {fd : FuncData} {ps : List Str} {sp : Sp} {E : XK} {x m : Str} {q pos apos : Pos} {e o : Expr} {es : List Expr} {ta : TE} {t : TA}
theorem run_fnQ {pins : List (Addr × Obj)} {σ : L2.St} {H : Hp} {s : Shared} {Q : VK} {us : List Value} {vs : List V} (F : FnQ X.prog X.w X.K X.mg X.base CX k f fd ps sp) (hr : RoomH k X.A) (hb : Binds X.K fd ps []) (hx : Passes CX X E)
    (I : Inv X pins σ H s) (r : Vals vs us) (h : sp vs H Q E) : wpAny (model X.prog X.w) X.A (call (.ref f) us) (EP X pins σ Q) X.xe s := by
  have hl : us.length = ps.length := by rw [← r.length]; exact F.len _ _ _ _ h
  have b := hb s us I.kIn (by rw [List.append_nil]; exact hl)
  rw [List.append_nil] at b
  refine wpAny_call (codeAny_mono (F.run X.A X.stack s H ⟨us, []⟩ us vs Q E hr I.env0 b r h) fun r s' hq => ?_)
  cases r with
  | error e => exact hx pins σ H s e s' I hq
  | ok fl =>
    cases fl with
    | ret u => exact I.after hq
    | next => exact False.elim hq
    | brk => exact False.elim hq
    | cont => exact False.elim hq
theorem pe_callQ (F : FnQ X.prog X.w X.K X.mg X.base CX k f fd ps sp) (hr : RoomH k X.A) (hg : Gl X x) (hm : X.mg x = some (.ref f)) (hk : PySem.W.keepIn X.K (.ref f) = true) (hb : Binds X.K fd ps []) (hx : Passes CX X E)
    (ha : PA X (e :: es) t) (hdb : (x == ("__debug__" : Str)) = false := by decide) (he : starEach (e :: es) X.env = (false, eval e X.env) :: starEach es X.env := by rfl) (hpl : (backTo pos (starEach es X.env)).any (·.1) = false := by rfl) :
    PE X (.Call (.Name x q) (e :: es) [] pos) (tCall sp [] E t) := by
  refine ⟨fun pins s σ H Q I h => ?_⟩
  refine wpAny_Call_Name_kw (ld_glob I hg hm ?_ hdb)
  refine PySem.W.callWith_K (h₀ := X.base) I.ok.mod.kin hk (thn (ha.run pos pins s σ H _ I h) fun us s1 ⟨vs, H1, I1, r, q⟩ => ⟨I1.kIn, ?_⟩) he hpl
  have q' : sp (vs ++ []) H1 Q E := q
  rw [List.append_nil] at q'
  exact run_fnQ F hr hb hx I1 r q'
end
end L2
namespace J
open PySem PySem.Spec L2 PyProof.Rows ClX RZ
section
variable {X : Cx} {F : Fr} {g : Gm} {α β γ ρ τ κ : Type}
theorem je_callQ {f : Addr} {fd : FuncData} {ps : List Str} {T : ATy τ} {R : Res ρ} {w : τ → (ρ → Prop) → Prop} {n : Nat} {x : Str} {e : Expr} {es : List Expr} {p pos : Pos} {wa : (τ → Prop) → Prop}
    (Fn : FnQ X.prog X.w X.K X.mg X.base CX0 n f fd ps (spJ T R w)) (hr : L2H.RoomH n X.A) (hg : Gl X x) (hm : X.mg x = some (.ref f)) (hk : PySem.W.keepIn X.K (.ref f) = true) (hb : Binds X.K fd ps [])
    (ha : JA X F g (e :: es) T wa) (hdb : (x == ("__debug__" : Str)) = false := by decide) (he : starEach (e :: es) X.env = (false, eval e X.env) :: starEach es X.env := by rfl) (hpl : (backTo pos (starEach es X.env)).any (·.1) = false := by rfl) :
    JE X F g (.Call (.Name x p) (e :: es) [] pos) R (fun k => wa fun t => w t k) :=
  peW (pe_callQ Fn hr hg hm hk hb pass0 ha hdb he hpl) fun σ H Q ⟨k, P, w, q⟩ => ⟨k, _, w, fun t vs H1 w1 s1 r1 => ⟨t, P, (k.step s1).fr, rfl, by rw [List.append_nil]; exact r1, w1, fun r v H2 p s2 r2 => q r v H2 p (s1.trans s2) (R.pre s1 (R.same ((k.step s1).back s2) (Same.refl _) r2))⟩⟩
end
end J
/-! A25: keyword-only parameters that are left out -/
namespace L2
open PySem PySem.Spec PyProof.Rows
/-- as FunD.ok, for a def that lets nothing out -/
theorem FunD.ok0 {P : Program} {w : World} {K : PySem.W.Frag} {mg : Str → Option Value} {base : Heap} {x qual : Str} {params : Arguments} {body : List Stmt} {scope : Scope} {dvs : List V} {kws : List (Str × V)} {f : Addr} {fd : FuncData} {N ps : List Str} {k : Nat} {sp : Sp}
    (F : FunD K x qual params body scope dvs kws f fd) (S : FnScope N ps scope) (len : ∀ vs H Q E, sp vs H Q E → vs.length = ps.length)
    (hbody : ∀ (cdv : Value) (A : Around) (outer : List Env) (s : Shared) (H : Hp) (vs : List V) (Q : VK) (E : XK), Room k (A.deeper (envOfC qual scope s.heap.objs.size f cdv)) → sp vs H Q E →
      ∃ t, PSs (cxOf CX0 P w K mg base N qual scope f cdv A outer s H E).nox body t ∧ t { nx := fun _ H' => Q .non H', rt := Q } (start N vs) H) : FnOk P w K mg base CX0 (k + 1) f fd ps sp := by
  obtain ⟨oc, od, dV, kV, doc, pm, an, cdv, ct, osl, rfl, lk, hcd, _, _⟩ := F.ex
  refine fn_of lk hcd S len fun A outer s H vs Q E hr hsp => ?_
  obtain ⟨t, h, q⟩ := hbody cdv A outer s H vs Q E hr hsp
  exact ⟨t, h.nox, q⟩
/-- one keyword-only parameter, its default None -/
theorem funD_none {K : PySem.W.Frag} {x qual kn : Str} {st : Stmt} {f D : Addr} {oc : Value} {od an : Option Addr} {osl : Array (Option Value)} {doc pm cdv ct : Value} (l : K.lookup f = some ⟨oc, od, .func (PySem.W.fnOf x qual (defArgs st) (defBody st) (defScope st) .none (.ref D) doc pm an cdv ct), osl⟩)
    (c : PySem.W.codeIn K cdv qual = true) (k : PySem.W.keepIn K (.ref f) = true) (hd : PySem.W.nsIn K D kn = some (some .none)) : FunD K x qual (defArgs st) (defBody st) (defScope st) [] [(kn, .non)] f (PySem.W.fnOf x qual (defArgs st) (defBody st) (defScope st) .none (.ref D) doc pm an cdv ct) :=
  ⟨⟨oc, od, .none, .ref D, doc, pm, an, cdv, ct, osl, rfl, l, c, .inl ⟨rfl, rfl⟩, .inr ⟨D, rfl, fun q hq => by
    cases List.mem_singleton.mp hq
    exact ⟨.none, hd, rfl⟩⟩⟩, k⟩
end L2
namespace J
open PySem PySem.Spec L2 PyProof.Rows ClX RZ
section
variable {X : Cx} {F : Fr} {g : Gm} {α β γ ρ τ σ' κ : Type}
/-- f(e, ..) where the keyword-only parameters are left out -/
theorem je_callD {dvs : List V} {f : Addr} {fd : FuncData} {ps : List Str} {T : ATy τ} {T' : ATy σ'} {ext : σ' → τ} {R : Res ρ} {w : τ → (ρ → Prop) → Prop} {n : Nat} {x : Str} {e : Expr} {es : List Expr} {p pos : Pos} {wa : (σ' → Prop) → Prop}
    (Fn : FnOk X.prog X.w X.K X.mg X.base CX0 n f fd ps (spJ T R w)) (hr : Room n X.A) (hg : Gl X x) (hm : X.mg x = some (.ref f)) (hk : PySem.W.keepIn X.K (.ref f) = true) (hb : ∃ ds, Vals dvs ds ∧ Binds X.K fd ps ds) (hD : ∀ H vs t, T'.rel H vs t → T.rel H (vs ++ dvs) (ext t))
    (ha : JA X F g (e :: es) T' wa) (hdb : (x == ("__debug__" : Str)) = false := by decide) (he : starEach (e :: es) X.env = (false, eval e X.env) :: starEach es X.env := by rfl) (hpl : (backTo pos (starEach es X.env)).any (·.1) = false := by rfl) :
    JE X F g (.Call (.Name x p) (e :: es) [] pos) R (fun k => wa fun t => w (ext t) k) := by
  obtain ⟨ds, hd, hb⟩ := hb
  exact peW (pe_call Fn hr hg hm hk hb hd pass0 ha hdb he hpl) fun σ H Q ⟨k, P, w, q⟩ => ⟨k, _, w, fun t vs H1 w1 s1 r1 => ⟨ext t, P, (k.step s1).fr, rfl, hD _ _ _ r1, w1, fun r v H2 p s2 r2 => q r v H2 p (s1.trans s2) (R.pre s1 (R.same ((k.step s1).back s2) (Same.refl _) r2))⟩⟩
/-- None, seen as a number that may be None -/
theorem je_N2O {e : Expr} {w : (Unit → Prop) → Prop} (h : JE X F g e (rO tN) w) : JE X F g e (rO (tO tI)) (fun k => w fun _ => k none) :=
  peW h fun σ H Q ⟨k, P, w, q⟩ => ⟨k, _, w, fun _ v H1 w1 s1 r => q none v H1 w1 s1 r⟩
end
end J

namespace Slw
open PySem J
def w_law_cell (script_2 : (List Int)) (k_3 : Int) (P : Int → Prop) : Prop :=
  (((decide (k_3 < ((script_2).length : Int))) = true → (∃ x5, ixI script_2 k_3 = some x5 ∧ P x5)) ∧ ((decide (k_3 < ((script_2).length : Int))) = false → P (0 : Int)))

def w_law_row (cell_here_13 : Int) (count_14 : Int) (P : (List Int) → Prop) : Prop :=
  (wLet ([]) fun (row_here_15 : (List Int)) => (wLet (cell_here_13 - ((10 : Int) ^ (18 : Int).toNat)) fun (rest_17 : Int) => ((-(2 ^ 62) ≤ count_14 ∧ count_14 < 2 ^ 62) ∧ (wFor (fun (k_19 : Int) (s18 : Int × (List Int)) (nxt20 brk21 : (Int × (List Int)) → Prop) => (((decide (((10 : Int) ^ (18 : Int).toNat) ≤ cell_here_13)) = true → (s18.2.length < 1000000 ∧ (wLet (s18.1 % (64 : Int)) fun (y24 : Int) => (wLet (s18.1 / (64 : Int)) fun (rest_25 : Int) => (nxt20 (rest_25, (s18.2 ++ [y24]))))))) ∧ ((decide (((10 : Int) ^ (18 : Int).toNat) ≤ cell_here_13)) = false → (wLet (((cell_here_13 * (48271 : Int)) + ((k_19 + (1 : Int)) * (69621 : Int))) % (2147483647 : Int)) fun (mixed_27 : Int) => (JMul mixed_27 (((mixed_27 / (46337 : Int)) + ((3 : Int) * k_19)) + (1 : Int)) ∧ (wLet ((mixed_27 * (((mixed_27 / (46337 : Int)) + ((3 : Int) * k_19)) + (1 : Int))) % (2147483399 : Int)) fun (mixed_28 : Int) => (s18.2.length < 1000000 ∧ (wLet ((mixed_28 / (7 : Int)) % (64 : Int)) fun (y29 : Int) => (nxt20 (s18.1, (s18.2 ++ [y29]))))))))))) (fun (s18 : Int × (List Int)) => P s18.2) (rangeI 0 count_14) (rest_17, row_here_15)))))

def w_law_order (cell_here_7 : Int) (size_8 : Int) (P : (List Int) → Prop) : Prop :=
  ((-1000000 ≤ size_8 ∧ size_8 ≤ 1000000) ∧ (wLet (rangeI 0 size_8) fun (pool_9 : (List Int)) => (wLet ([]) fun (order_here_11 : (List Int)) => (w_law_row (cell_here_7) (size_8) fun r39 => (wLet r39 fun (xs31 : List Int) => (wFor (fun (digit_33 : Int) (s32 : (List Int) × (List Int)) (nxt34 brk35 : ((List Int) × (List Int)) → Prop) => (0 < ((s32.2).length : Int) ∧ ((0 ≤ (digit_33 % ((s32.2).length : Int)) ∧ (digit_33 % ((s32.2).length : Int)) < ((s32.2).length : Int)) ∧ (s32.1).length < 1000000 ∧ (s32.2).length < 1000000 ∧ ∃ y37 : Int, (s32.2)[((digit_33 % ((s32.2).length : Int))).toNat]? = some y37 ∧ (wLet ((s32.2).eraseIdx ((digit_33 % ((s32.2).length : Int))).toNat) fun (pool_38 : List Int) => (nxt34 ((s32.1 ++ [y37]), pool_38)))))) (fun (s32 : (List Int) × (List Int)) => P s32.1) xs31 (order_here_11, pool_9)))))))

def w_law_direction (one_66 : Int) (two_67 : Int) (least_68 : Int) (P : (Int × Int) → Prop) : Prop :=
  (0 < ((10 : Int) ^ (39 : Int).toNat) ∧ (wLet (least_68 + (one_66 % ((10 : Int) ^ (39 : Int).toNat))) fun (p_69 : Int) => (0 < ((10 : Int) ^ (39 : Int).toNat) ∧ (wLet (least_68 + (two_67 % ((10 : Int) ^ (39 : Int).toNat))) fun (q_70 : Int) => (wLet p_69 fun (common_71 : Int) => (wLet q_70 fun (rest_72 : Int) => (wWhile (fun (s73 : Int × Int) (kA80 kB81 : Prop) => (((decide ((0 : Int) < s73.2)) = true → kA80) ∧ ((decide ((0 : Int) < s73.2)) = false → kB81))) (fun (s73 : Int × Int) (nxt74 brk75 : (Int × Int) → Prop) => (0 < s73.2 ∧ (wLet s73.2 fun (common_77 : Int) => (wLet (s73.1 % s73.2) fun (rest_78 : Int) => (nxt74 (common_77, rest_78)))))) (fun (s73 : Int × Int) => (((decide (s73.1 = (0 : Int))) = true → P ((1 : Int), (1 : Int))) ∧ ((decide (s73.1 = (0 : Int))) = false → (JDiv s73.1 ∧ (JDiv s73.1 ∧ P ((p_69 / s73.1), (q_70 / s73.1))))))) (common_71, rest_72))))))))

def w_is_order (rooms_104 : (List Int)) (size_105 : Int) (P : Bool → Prop) : Prop :=
  (∀ sorted_106 : List Int, sorted_106.Perm rooms_104 → sorted_106.Pairwise (· ≤ ·) → ((-1000000 ≤ size_105 ∧ size_105 ≤ 1000000) ∧ (POk.pok (sorted_106 : (List Int)) ∧ POk.pok ((rangeI 0 size_105) : (List Int)) ∧ P (decide ((sorted_106 : (List Int)) = (rangeI 0 size_105))))))

def w_Plan___init__ (right_100 : (List Int)) (above_101 : (List Int)) (P : ((List Int) × (List Int)) → Prop) : Prop :=
  (wLet ((right_100).length : Int) fun (size_102 : Int) => ((decide ((1 : Int) ≤ size_102) = true → ((decide (size_102 ≤ (100 : Int)) = true → (w_is_order (right_100) (size_102) fun r112 => ((r112 = true → (w_is_order (above_101) (size_102) fun r111 => ((r111 = true → (wLet right_100 fun (f109 : (List Int)) => (wLet above_101 fun (f110 : (List Int)) => P (f109, f110)))) ∧ (r111 = false → False)))) ∧ (r112 = false → False)))) ∧ (decide (size_102 ≤ (100 : Int)) = false → False))) ∧ (decide ((1 : Int) ≤ size_102) = false → False)))

def w_WalkTable_form (self_127 : ((List Int) × (List Int))) (P : ((List Int) × (List Int)) → Prop) : Prop :=
  P (self_127.1, self_127.2)

def w_WalkTable_size (self_132 : ((List Int) × (List Int))) (P : Int → Prop) : Prop :=
  P ((self_132.1).length : Int)

def w_ring_from (start_139 : Int) (ends_140 : (List Int)) (P : (List Int) → Prop) : Prop :=
  (([start_139] : List Int).length ≤ 1000 ∧ (wLet ([start_139]) fun (members_141 : (List Int)) => (∃ x143, ixI ends_140 start_139 = some x143 ∧ (wLet x143 fun (room_144 : Int) => (wWhile (fun (s145 : Int × (List Int)) (kA152 kB153 : Prop) => (((!decide (s145.1 = start_139)) = true → kA152) ∧ ((!decide (s145.1 = start_139)) = false → kB153))) (fun (s145 : Int × (List Int)) (nxt146 brk147 : (Int × (List Int)) → Prop) => (s145.2.length < 1000000 ∧ (wLet s145.1 fun (y149 : Int) => (∃ x150, ixI ends_140 s145.1 = some x150 ∧ (wLet x150 fun (room_151 : Int) => (nxt146 (room_151, (s145.2 ++ [y149])))))))) (fun (s145 : Int × (List Int)) => P s145.2) (room_144, members_141))))))

def w_rooms_in (mark_166 : Int) (P : (List Int) → Prop) : Prop :=
  ((-(2 ^ 62) ≤ ((Builtin.Int.intBits mark_166 : Nat) : Int) ∧ ((Builtin.Int.intBits mark_166 : Nat) : Int) < 2 ^ 62) ∧ (((rangeI 0 ((Builtin.Int.intBits mark_166 : Nat) : Int))).length < 1000000 ∧ (wCompF (fun (room_169 : Int) (kA170 kB171 : Prop) => (0 ≤ room_169 ∧ ((0 ≤ (mark_166 / 2 ^ (room_169).toNat) ∧ 0 ≤ (1 : Int)) ∧ (((decide ((andJ (mark_166 / 2 ^ (room_169).toNat) (1 : Int)) = (1 : Int))) = true → kA170) ∧ ((decide ((andJ (mark_166 / 2 ^ (room_169).toNat) (1 : Int)) = (1 : Int))) = false → kB171))))) (fun (room_169 : Int) (N172 : Int → Prop) => (N172 room_169)) (rangeI 0 ((Builtin.Int.intBits mark_166 : Nat) : Int)) [] fun (made_173 : List Int) => P made_173)))

def w_rings_of (table_126 : ((List Int) × (List Int))) (P : (List (Int × Int × (List Int))) → Prop) : Prop :=
  (w_WalkTable_form table_126 fun r179 => (wLet r179 fun (t128 : ((List Int) × (List Int))) => (wLet ([]) fun (rings_130 : (List (Int × Int × (List Int)))) => (w_WalkTable_size table_126 fun r178 => ((-(2 ^ 62) ≤ r178 ∧ r178 < 2 ^ 62) ∧ (wFor (fun (start_134 : Int) (s133 : (List (Int × Int × (List Int))) × (List Int)) (nxt135 brk136 : ((List (Int × Int × (List Int))) × (List Int)) → Prop) => (((!memJ start_134 s133.2) = true → (w_ring_from (start_134) (t128.1) fun r176 => (wLet r176 fun (members_154 : (List Int)) => (wLet (0 : Int) fun (mark_155 : Int) => (wLet members_154 fun (xs157 : List Int) => (wFor (fun (room_159 : Int) (s158 : Int × (List Int)) (nxt160 brk161 : (Int × (List Int)) → Prop) => ((s158.2).length < 4000 ∧ (wLet (addJ s158.2 room_159) fun (placed_163 : List Int) => (∃ x164, ixI t128.2 room_159 = some x164 ∧ ((0 ≤ s158.1 ∧ 0 ≤ x164) ∧ (wLet (orJ s158.1 x164) fun (mark_165 : Int) => (nxt160 (mark_165, placed_163)))))))) (fun (s158 : Int × (List Int)) => (w_rooms_in (s158.1) fun r175 => (s133.1.length < 1000000 ∧ (wLet (start_134, ((members_154).length : Int), r175) fun (y174 : (Int × Int × (List Int))) => (nxt135 ((s133.1 ++ [y174]), s158.2)))))) xs157 (mark_155, s133.2))))))) ∧ ((!memJ start_134 s133.2) = false → (nxt135 (s133.1, s133.2))))) (fun (s133 : (List (Int × Int × (List Int))) × (List Int)) => P s133.1) (rangeI 0 r178) (rings_130, [])))))))

def w_check_direction (p_187 : Int) (q_188 : Int) (P : Unit → Prop) : Prop :=
  (((decide (p_187 < (0 : Int))) = true → False) ∧ ((decide (p_187 < (0 : Int))) = false → (((decide (q_188 < (0 : Int))) = true → False) ∧ ((decide (q_188 < (0 : Int))) = false → (((!decide (((Nat.gcd (p_187).natAbs (q_188).natAbs : Nat) : Int) = (1 : Int))) = true → False) ∧ ((!decide (((Nat.gcd (p_187).natAbs (q_188).natAbs : Nat) : Int) = (1 : Int))) = false → P ()))))))

def w_Plan_size (self_194 : ((List Int) × (List Int))) (P : Int → Prop) : Prop :=
  P ((self_194.1).length : Int)

def w_mark_of (room_198 : Int) (P : Int → Prop) : Prop :=
  ((0 ≤ room_198 ∧ room_198 ≤ 1000000 ∧ ((1 : Int)).natAbs < 2 ^ 64) ∧ P ((1 : Int) * 2 ^ (room_198).toNat))

def w_Plan_right (self_202 : ((List Int) × (List Int))) (P : (List Int) → Prop) : Prop :=
  P self_202.1

def w_WalkTable___init___tl (ends_203 : (List Int)) (marks_204 : (List Int)) (P : ((List Int) × (List Int)) → Prop) : Prop :=
  (wLet ends_203 fun (f205 : (List Int)) => (wLet marks_204 fun (f206 : (List Int)) => P (f205, f206)))

def w_Plan_above (self_207 : ((List Int) × (List Int))) (P : (List Int) → Prop) : Prop :=
  P self_207.2

def w_side_tables (plan_193 : ((List Int) × (List Int))) (P : (((List Int) × (List Int)) × ((List Int) × (List Int))) → Prop) : Prop :=
  (w_Plan_size plan_193 fun r212 => ((-(2 ^ 62) ≤ r212 ∧ r212 < 2 ^ 62) ∧ (((rangeI 0 r212)).length < 1000000 ∧ (wComp (fun (room_197 : Int) (N198 : Int → Prop) => (w_mark_of (room_197) fun r199 => (N198 r199))) (rangeI 0 r212) [] fun (made_200 : List Int) => (wLet made_200 fun (marks_201 : (List Int)) => (w_Plan_right plan_193 fun r209 => (w_WalkTable___init___tl (r209) (marks_201) fun r208 => (w_Plan_above plan_193 fun r211 => (w_WalkTable___init___tl (r211) (marks_201) fun r210 => P (r208, r210))))))))))

def w_Stretch___init__ (table_214 : ((List Int) × (List Int))) (length_215 : Int) (parts_216 : Unit) (P : (((List Int) × (List Int)) × Int × Unit) → Prop) : Prop :=
  (wLet table_214 fun (f217 : ((List Int) × (List Int))) => (wLet length_215 fun (f218 : Int) => (wLet parts_216 fun (f219 : Unit) => P (f217, f218, f219))))

def w_side_stretches (plan_192 : ((List Int) × (List Int))) (P : ((((List Int) × (List Int)) × Int × Unit) × (((List Int) × (List Int)) × Int × Unit)) → Prop) : Prop :=
  (w_side_tables (plan_192) fun r222 => (wLet r222 fun (t213 : (((List Int) × (List Int)) × ((List Int) × (List Int)))) => (w_Stretch___init__ (t213.1) ((1 : Int)) (()) fun r220 => (w_Stretch___init__ (t213.2) ((1 : Int)) (()) fun r221 => P (r220, r221)))))

def w_check_in_tree (p_230 : Int) (q_231 : Int) (P : Unit → Prop) : Prop :=
  (w_check_direction (p_230) (q_231) fun r234 => (((decide (p_230 = (0 : Int))) = true → False) ∧ ((decide (p_230 = (0 : Int))) = false → (((decide (q_231 = (0 : Int))) = true → False) ∧ ((decide (q_231 = (0 : Int))) = false → P ())))))

def w_steps (p_228 : Int) (q_229 : Int) (P : (List (Str × Int)) → Prop) : Prop :=
  (w_check_in_tree (p_228) (q_229) fun r251 => (wLet ([]) fun (runs_235 : (List (Str × Int))) => (wWhile (fun (s237 : Int × Int × (List (Str × Int))) (kA249 kB250 : Prop) => (((!decide (s237.1 = s237.2.1)) = true → kA249) ∧ ((!decide (s237.1 = s237.2.1)) = false → kB250))) (fun (s237 : Int × Int × (List (Str × Int))) (nxt238 brk239 : (Int × Int × (List (Str × Int))) → Prop) => (((decide (s237.2.1 < s237.1)) = true → (JDiv s237.2.1 ∧ (wLet ((s237.1 - (1 : Int)) / s237.2.1) fun (count_242 : Int) => (s237.2.2.length < 1000000 ∧ (wLet (("flat" : Str), count_242) fun (y243 : (Str × Int)) => (JMul count_242 s237.2.1 ∧ (wLet (s237.1 - (count_242 * s237.2.1)) fun (p_244 : Int) => (nxt238 (p_244, s237.2.1, (s237.2.2 ++ [y243])))))))))) ∧ ((decide (s237.2.1 < s237.1)) = false → (JDiv s237.1 ∧ (wLet ((s237.2.1 - (1 : Int)) / s237.1) fun (count_246 : Int) => (s237.2.2.length < 1000000 ∧ (wLet (("steep" : Str), count_246) fun (y247 : (Str × Int)) => (JMul count_246 s237.1 ∧ (wLet (s237.2.1 - (count_246 * s237.1)) fun (q_248 : Int) => (nxt238 (s237.1, q_248, (s237.2.2 ++ [y247])))))))))))) (fun (s237 : Int × Int × (List (Str × Int))) => P s237.2.2) (p_228, q_229, runs_235))))

def w_WalkTable___init__ (ends_269 : (List Int)) (marks_270 : (List Int)) (P : ((List Int) × (List Int)) → Prop) : Prop :=
  (wLet ends_269 fun (f271 : (List Int)) => (wLet marks_270 fun (f272 : (List Int)) => P (f271, f272)))

def w_WalkTable_resting (size_268 : Int) (P : ((List Int) × (List Int)) → Prop) : Prop :=
  ((-1000000 ≤ size_268 ∧ size_268 ≤ 1000000) ∧ (([(0 : Int)] : List Int).length ≤ 1000 ∧ ((-1000000 ≤ size_268 ∧ size_268 ≤ 1000000 ∧ ([(0 : Int)]).length * (size_268).toNat ≤ 1000000) ∧ (w_WalkTable___init__ ((rangeI 0 size_268)) ((List.replicate (size_268).toNat ([(0 : Int)])).flatten) fun r273 => P r273))))

def w_WalkTable___mul__ (self_281 : ((List Int) × (List Int))) (other_282 : ((List Int) × (List Int))) (P : ((List Int) × (List Int)) → Prop) : Prop :=
  (w_WalkTable_size self_281 fun r299 => (w_WalkTable_size other_282 fun r300 => (((!decide (r299 = r300)) = true → False) ∧ ((!decide (r299 = r300)) = false → ((self_281.1).length < 1000000 ∧ (wComp (fun (there_286 : Int) (N288 : Int → Prop) => (∃ x287, ixI other_282.1 there_286 = some x287 ∧ (N288 x287))) self_281.1 [] fun (made_289 : List Int) => (wLet made_289 fun (ends_290 : (List Int)) => (((List.zip self_281.1 self_281.2)).length < 1000000 ∧ (wComp (fun (x293 : (Int × Int)) (N295 : Int → Prop) => (∃ x294, ixI other_282.2 x293.1 = some x294 ∧ ((0 ≤ x293.2 ∧ 0 ≤ x294) ∧ (N295 (orJ x293.2 x294))))) (List.zip self_281.1 self_281.2) [] fun (made_296 : List Int) => (wLet made_296 fun (marks_297 : (List Int)) => (w_WalkTable___init__ (ends_290) (marks_297) fun r298 => P r298)))))))))))

def w_WalkTable_repeated (self_266 : ((List Int) × (List Int))) (count_267 : Int) (P : ((List Int) × (List Int)) → Prop) : Prop :=
  (w_WalkTable_size self_266 fun r292 => (w_WalkTable_resting (r292) fun r291 => (wLet r291 fun (joined_274 : ((List Int) × (List Int))) => (wLet self_266 fun (power_275 : ((List Int) × (List Int))) => (wWhile (fun (s276 : Int × ((List Int) × (List Int)) × ((List Int) × (List Int))) (kA289 kB290 : Prop) => (((decide ((0 : Int) < s276.1)) = true → kA289) ∧ ((decide ((0 : Int) < s276.1)) = false → kB290))) (fun (s276 : Int × ((List Int) × (List Int)) × ((List Int) × (List Int))) (nxt277 brk278 : (Int × ((List Int) × (List Int)) × ((List Int) × (List Int))) → Prop) => (wJoin (fun (s280 : ((List Int) × (List Int))) => (w_WalkTable___mul__ s276.2.2 s276.2.2 fun r288 => (wLet r288 fun (power_286 : ((List Int) × (List Int))) => (wLet (s276.1 / (2 : Int)) fun (count_287 : Int) => (nxt277 (count_287, s280, power_286)))))) fun (J281 : ((List Int) × (List Int)) → Prop) => (((decide ((s276.1 % (2 : Int)) = (1 : Int))) = true → (w_WalkTable___mul__ s276.2.1 s276.2.2 fun r284 => (wLet r284 fun (joined_283 : ((List Int) × (List Int))) => (J281 joined_283)))) ∧ ((decide ((s276.1 % (2 : Int)) = (1 : Int))) = false → (J281 s276.2.1))))) (fun (s276 : Int × ((List Int) × (List Int)) × ((List Int) × (List Int))) => P s276.2.1) (count_267, joined_274, power_275))))))

def w_put_together (one_262 : (((List Int) × (List Int)) × Int × Unit)) (copies_of_one_263 : Int) (two_264 : (((List Int) × (List Int)) × Int × Unit)) (copies_of_two_265 : Int) (P : (((List Int) × (List Int)) × Int × Unit) → Prop) : Prop :=
  (w_WalkTable_repeated one_262.1 (copies_of_one_263) fun r297 => (w_WalkTable_repeated two_264.1 (copies_of_two_265) fun r298 => (w_WalkTable___mul__ r297 r298 fun r296 => (wLet r296 fun (table_293 : ((List Int) × (List Int))) => (JMul one_262.2.1 copies_of_one_263 ∧ (JMul two_264.2.1 copies_of_two_265 ∧ (wLet ((one_262.2.1 * copies_of_one_263) + (two_264.2.1 * copies_of_two_265)) fun (length_294 : Int) => (([(one_262, copies_of_one_263), (two_264, copies_of_two_265)] : List ((((List Int) × (List Int)) × Int × Unit) × Int)).length ≤ 1000 ∧ (w_Stretch___init__ (table_293) (length_294) (()) fun r295 => P r295)))))))))

def w_rounds_of_neighbors (plan_225 : ((List Int) × (List Int))) (p_226 : Int) (q_227 : Int) (P : ((((List Int) × (List Int)) × Int × Unit) × (((List Int) × (List Int)) × Int × Unit)) → Prop) : Prop :=
  (w_steps (p_226) (q_227) fun r305 => (wLet r305 fun (runs_252 : (List (Str × Int))) => (w_side_stretches (plan_225) fun r304 => (wLet r304 fun (t253 : ((((List Int) × (List Int)) × Int × Unit) × (((List Int) × (List Int)) × Int × Unit))) => (wLet runs_252 fun (xs255 : List (Str × Int)) => (wFor (fun (x257 : (Str × Int)) (s256 : (((List Int) × (List Int)) × Int × Unit) × (((List Int) × (List Int)) × Int × Unit)) (nxt258 brk259 : ((((List Int) × (List Int)) × Int × Unit) × (((List Int) × (List Int)) × Int × Unit)) → Prop) => (((decide (x257.1 = ("flat" : Str))) = true → (w_put_together (s256.1) (x257.2) (s256.2) ((1 : Int)) fun r300 => (wLet r300 fun (steep_299 : (((List Int) × (List Int)) × Int × Unit)) => (nxt258 (s256.1, steep_299))))) ∧ ((decide (x257.1 = ("flat" : Str))) = false → (w_put_together (s256.1) ((1 : Int)) (s256.2) (x257.2) fun r303 => (wLet r303 fun (flat_302 : (((List Int) × (List Int)) × Int × Unit)) => (nxt258 (flat_302, s256.2))))))) (fun (s256 : (((List Int) × (List Int)) × Int × Unit) × (((List Int) × (List Int)) × Int × Unit)) => P (s256.1, s256.2)) xs255 (t253.1, t253.2)))))))

def w_stretch_of_round (plan_184 : ((List Int) × (List Int))) (p_185 : Int) (q_186 : Int) (P : (((List Int) × (List Int)) × Int × Unit) → Prop) : Prop :=
  (w_check_direction (p_185) (q_186) fun r310 => (wCut (w_side_stretches (plan_184) fun r224 => (wLet r224 fun (t223 : ((((List Int) × (List Int)) × Int × Unit) × (((List Int) × (List Int)) × Int × Unit))) => (((decide (q_186 = (0 : Int))) = true → P t223.1) ∧ ((decide (q_186 = (0 : Int))) = false → P t223.2)))) fun (kA309 : Prop) => (((decide (p_185 = (0 : Int))) = true → kA309) ∧ ((decide (p_185 = (0 : Int))) = false → (((decide (q_186 = (0 : Int))) = true → kA309) ∧ ((decide (q_186 = (0 : Int))) = false → (w_rounds_of_neighbors (plan_184) (p_185) (q_186) fun r308 => (wLet r308 fun (t306 : ((((List Int) × (List Int)) × Int × Unit) × (((List Int) × (List Int)) × Int × Unit))) => (w_put_together (t306.1) ((1 : Int)) (t306.2) ((1 : Int)) fun r307 => P r307)))))))))

def w_walk_table (plan_180 : ((List Int) × (List Int))) (p_181 : Int) (q_182 : Int) (crossings_183 : Unit) (P : ((List Int) × (List Int)) → Prop) : Prop :=
  (w_stretch_of_round (plan_180) (p_181) (q_182) fun r313 => (wLet r313 fun (one_round_311 : (((List Int) × (List Int)) × Int × Unit)) => ((((none : Option Int).isNone) = true → P one_round_311.1) ∧ (((none : Option Int).isNone) = false → False))))

def w_rings_at (plan_123 : ((List Int) × (List Int))) (p_124 : Int) (q_125 : Int) (P : (List (Int × Int × (List Int))) → Prop) : Prop :=
  (w_walk_table (plan_123) (p_124) (q_125) () fun r315 => (w_rings_of (r315) fun r314 => P r314))

def w_law_is_number (value_337 : Int) (P : Bool → Prop) : Prop :=
  ((true = true → P (!false)) ∧ (true = false → P false))

def w_law_is_row (actual_329 : (List Int)) (expected_330 : (List Int)) (P : Bool → Prop) : Prop :=
  ((true = true → (((!decide (((actual_329).length : Int) = ((expected_330).length : Int))) = true → P false) ∧ ((!decide (((actual_329).length : Int) = ((expected_330).length : Int))) = false → ((-(2 ^ 62) ≤ ((expected_330).length : Int) ∧ ((expected_330).length : Int) < 2 ^ 62) ∧ (wFor (fun (k_333 : Int) (s332 : Unit) (nxt334 brk335 : Unit → Prop) => (∃ x338, ixI actual_329 k_333 = some x338 ∧ (w_law_is_number (x338) fun r343 => ((r343 = true → (∃ x339, ixI actual_329 k_333 = some x339 ∧ (∃ x340, ixI expected_330 k_333 = some x340 ∧ (((!decide (x339 = x340)) = true → P false) ∧ ((!decide (x339 = x340)) = false → (nxt334 ())))))) ∧ (r343 = false → P false))))) (fun (s332 : Unit) => P true) (rangeI 0 ((expected_330).length : Int)) ()))))) ∧ (true = false → P false))

def w_law_is_rings (actual_318 : (List (Int × Int × (List Int)))) (expected_319 : (List (Int × Int × (List Int)))) (P : Bool → Prop) : Prop :=
  ((true = true → (((!decide (((actual_318).length : Int) = ((expected_319).length : Int))) = true → P false) ∧ ((!decide (((actual_318).length : Int) = ((expected_319).length : Int))) = false → ((-(2 ^ 62) ≤ ((expected_319).length : Int) ∧ ((expected_319).length : Int) < 2 ^ 62) ∧ (wFor (fun (k_322 : Int) (s321 : Unit) (nxt323 brk324 : Unit → Prop) => (∃ x326, ixI actual_318 k_322 = some x326 ∧ (wLet x326 fun (ring_327 : (Int × Int × (List Int))) => ((true = true → (((!decide (((3 : Nat) : Int) = (3 : Int))) = true → P false) ∧ ((!decide (((3 : Nat) : Int) = (3 : Int))) = false → (∃ x344, ixI expected_319 k_322 = some x344 ∧ (w_law_is_row ([ring_327.1, ring_327.2.1]) ([x344.1, x344.2.1]) fun r349 => ((r349 = true → (∃ x345, ixI expected_319 k_322 = some x345 ∧ (w_law_is_row (ring_327.2.2) (x345.2.2) fun r348 => ((r348 = true → (nxt323 ())) ∧ (r348 = false → P false))))) ∧ (r349 = false → P false))))))) ∧ (true = false → P false))))) (fun (s321 : Unit) => P true) (rangeI 0 ((expected_319).length : Int)) ()))))) ∧ (true = false → P false))

def w_law_rings (table_350 : (List (List Int))) (P : (List (Int × Int × (List Int))) → Prop) : Prop :=
  (wLet ([]) fun (rings_here_351 : (List (Int × Int × (List Int)))) => (wLet ([]) fun (done_353 : (List Int)) => (∃ x355, ixI table_350 (0 : Int) = some x355 ∧ (wLet ((x355).length : Int) fun (size_356 : Int) => ((-(2 ^ 62) ≤ size_356 ∧ size_356 < 2 ^ 62) ∧ (wFor (fun (first_358 : Int) (s357 : (List Int) × (List (Int × Int × (List Int)))) (nxt359 brk360 : ((List Int) × (List (Int × Int × (List Int)))) → Prop) => (((!memJ first_358 s357.1) = true → (wLet first_358 fun (room_363 : Int) => (wLet (0 : Int) fun (rounds_364 : Int) => (wLet (0 : Int) fun (mark_365 : Int) => ((-(2 ^ 62) ≤ size_356 ∧ size_356 < 2 ^ 62) ∧ (wFor (fun (k_367 : Int) (s366 : Int × Int × Int × (List Int)) (nxt368 brk369 : (Int × Int × Int × (List Int)) → Prop) => (((!memJ s366.1 s366.2.2.2) = true → (s366.2.2.2.length < 1000000 ∧ (wLet s366.1 fun (y372 : Int) => (wLet (s366.2.1 + (1 : Int)) fun (rounds_373 : Int) => (∃ x374, ixI table_350 (1 : Int) = some x374 ∧ (∃ x375, ixI x374 s366.1 = some x375 ∧ ((0 ≤ s366.2.2.1 ∧ 0 ≤ x375) ∧ (wLet (orJ s366.2.2.1 x375) fun (mark_376 : Int) => (∃ x377, ixI table_350 (0 : Int) = some x377 ∧ (∃ x378, ixI x377 s366.1 = some x378 ∧ (wLet x378 fun (room_379 : Int) => (nxt368 (room_379, rounds_373, mark_376, (s366.2.2.2 ++ [y372])))))))))))))) ∧ ((!memJ s366.1 s366.2.2.2) = false → (nxt368 (s366.1, s366.2.1, s366.2.2.1, s366.2.2.2))))) (fun (s366 : Int × Int × Int × (List Int)) => ((-(2 ^ 62) ≤ size_356 ∧ size_356 < 2 ^ 62) ∧ (((rangeI 0 size_356)).length < 1000000 ∧ (wCompF (fun (k_383 : Int) (kA384 kB385 : Prop) => (0 ≤ k_383 ∧ ((0 ≤ (s366.2.2.1 / 2 ^ (k_383).toNat) ∧ 0 ≤ (1 : Int)) ∧ (((decide ((andJ (s366.2.2.1 / 2 ^ (k_383).toNat) (1 : Int)) = (1 : Int))) = true → kA384) ∧ ((decide ((andJ (s366.2.2.1 / 2 ^ (k_383).toNat) (1 : Int)) = (1 : Int))) = false → kB385))))) (fun (k_383 : Int) (N386 : Int → Prop) => (N386 k_383)) (rangeI 0 size_356) [] fun (made_387 : List Int) => (s357.2.length < 1000000 ∧ (wLet (first_358, s366.2.1, made_387) fun (y388 : (Int × Int × (List Int))) => (nxt359 (s366.2.2.2, (s357.2 ++ [y388]))))))))) (rangeI 0 size_356) (room_363, rounds_364, mark_365, s357.1))))))) ∧ ((!memJ first_358 s357.1) = false → (nxt359 (s357.1, s357.2))))) (fun (s357 : (List Int) × (List (Int × Int × (List Int)))) => P s357.2) (rangeI 0 size_356) (done_353, rings_here_351)))))))

def w_law_sides (right_394 : (List Int)) (above_395 : (List Int)) (P : (List (List (List Int))) → Prop) : Prop :=
  ((-(2 ^ 62) ≤ ((right_394).length : Int) ∧ ((right_394).length : Int) < 2 ^ 62) ∧ (((rangeI 0 ((right_394).length : Int))).length < 1000000 ∧ (wComp (fun (room_398 : Int) (N399 : Int → Prop) => ((0 ≤ room_398 ∧ room_398 ≤ 1000000 ∧ ((1 : Int)).natAbs < 2 ^ 64) ∧ (N399 ((1 : Int) * 2 ^ (room_398).toNat)))) (rangeI 0 ((right_394).length : Int)) [] fun (made_400 : List Int) => (wLet made_400 fun (marks_401 : (List Int)) => (([right_394, marks_401] : List (List Int)).length ≤ 1000 ∧ (([above_395, marks_401] : List (List Int)).length ≤ 1000 ∧ (([[right_394, marks_401], [above_395, marks_401]] : List (List (List Int))).length ≤ 1000 ∧ P ([[right_394, marks_401], [above_395, marks_401]]))))))))

def w_law_join (one_413 : (List (List Int))) (two_414 : (List (List Int))) (P : (List (List Int)) → Prop) : Prop :=
  (∃ x415, ixI one_413 (0 : Int) = some x415 ∧ ((x415).length < 1000000 ∧ (wComp (fun (room_418 : Int) (N421 : Int → Prop) => (∃ x419, ixI two_414 (0 : Int) = some x419 ∧ (∃ x420, ixI x419 room_418 = some x420 ∧ (N421 x420)))) x415 [] fun (made_422 : List Int) => (wLet made_422 fun (ends_423 : (List Int)) => ((-(2 ^ 62) ≤ ((ends_423).length : Int) ∧ ((ends_423).length : Int) < 2 ^ 62) ∧ (((rangeI 0 ((ends_423).length : Int))).length < 1000000 ∧ (wComp (fun (k_426 : Int) (N433 : Int → Prop) => (∃ x427, ixI one_413 (1 : Int) = some x427 ∧ (∃ x428, ixI x427 k_426 = some x428 ∧ (∃ x429, ixI two_414 (1 : Int) = some x429 ∧ (∃ x430, ixI one_413 (0 : Int) = some x430 ∧ (∃ x431, ixI x430 k_426 = some x431 ∧ (∃ x432, ixI x429 x431 = some x432 ∧ ((0 ≤ x428 ∧ 0 ≤ x432) ∧ (N433 (orJ x428 x432)))))))))) (rangeI 0 ((ends_423).length : Int)) [] fun (made_434 : List Int) => (wLet made_434 fun (marks_435 : (List Int)) => (([ends_423, marks_435] : List (List Int)).length ≤ 1000 ∧ P ([ends_423, marks_435]))))))))))

def w_law_power (table_436 : (List (List Int))) (count_437 : Int) (P : (List (List Int)) → Prop) : Prop :=
  (∃ x438, ixI table_436 (0 : Int) = some x438 ∧ ((-1000000 ≤ ((x438).length : Int) ∧ ((x438).length : Int) ≤ 1000000) ∧ (∃ x439, ixI table_436 (0 : Int) = some x439 ∧ ((x439).length < 1000000 ∧ (wComp (fun (room_442 : Int) (N443 : Int → Prop) => (N443 (0 : Int))) x439 [] fun (made_444 : List Int) => (([(rangeI 0 ((x438).length : Int)), made_444] : List (List Int)).length ≤ 1000 ∧ (wLet ([(rangeI 0 ((x438).length : Int)), made_444]) fun (result_445 : (List (List Int))) => (wWhile (fun (s446 : (List (List Int)) × Int × (List (List Int))) (kA459 kB460 : Prop) => (((decide ((0 : Int) < s446.2.1)) = true → kA459) ∧ ((decide ((0 : Int) < s446.2.1)) = false → kB460))) (fun (s446 : (List (List Int)) × Int × (List (List Int))) (nxt447 brk448 : ((List (List Int)) × Int × (List (List Int))) → Prop) => (wJoin (fun (s450 : (List (List Int))) => (w_law_join (s446.1) (s446.1) fun r458 => (wLet r458 fun (table_456 : (List (List Int))) => (wLet (s446.2.1 / (2 : Int)) fun (count_457 : Int) => (nxt447 (table_456, count_457, s450)))))) fun (J451 : (List (List Int)) → Prop) => (((decide ((s446.2.1 % (2 : Int)) = (1 : Int))) = true → (w_law_join (s446.2.2) (s446.1) fun r454 => (wLet r454 fun (result_453 : (List (List Int))) => (J451 result_453)))) ∧ ((decide ((s446.2.1 % (2 : Int)) = (1 : Int))) = false → (J451 s446.2.2))))) (fun (s446 : (List (List Int)) × Int × (List (List Int))) => P s446.2.2) (table_436, count_437, result_445)))))))))

def w_law_round (right_390 : (List Int)) (above_391 : (List Int)) (p_392 : Int) (q_393 : Int) (P : (List (List Int)) → Prop) : Prop :=
  (w_law_sides (right_390) (above_391) fun r474 => (∃ first_403 second_404 : (List (List Int)), r474 = [first_403, second_404] ∧ (((decide (q_393 = (0 : Int))) = true → P first_403) ∧ ((decide (q_393 = (0 : Int))) = false → (((decide (p_392 = (0 : Int))) = true → P second_404) ∧ ((decide (p_392 = (0 : Int))) = false → (wWhile (fun (s407 : Int × Int × (List (List Int)) × (List (List Int))) (kA472 kB473 : Prop) => (((!decide (s407.1 = s407.2.1)) = true → kA472) ∧ ((!decide (s407.1 = s407.2.1)) = false → kB473))) (fun (s407 : Int × Int × (List (List Int)) × (List (List Int))) (nxt408 brk409 : (Int × Int × (List (List Int)) × (List (List Int))) → Prop) => (((decide (s407.2.1 < s407.1)) = true → (JDiv s407.2.1 ∧ (wLet ((s407.1 - (1 : Int)) / s407.2.1) fun (count_412 : Int) => (w_law_power (s407.2.2.1) (count_412) fun r464 => (w_law_join (r464) (s407.2.2.2) fun r463 => (wLet r463 fun (second_461 : (List (List Int))) => (JMul count_412 s407.2.1 ∧ (wLet (s407.1 - (count_412 * s407.2.1)) fun (p_462 : Int) => (nxt408 (p_462, s407.2.1, s407.2.2.1, second_461)))))))))) ∧ ((decide (s407.2.1 < s407.1)) = false → (JDiv s407.1 ∧ (wLet ((s407.2.1 - (1 : Int)) / s407.1) fun (count_466 : Int) => (w_law_power (s407.2.2.2) (count_466) fun r470 => (w_law_join (s407.2.2.1) (r470) fun r469 => (wLet r469 fun (first_467 : (List (List Int))) => (JMul count_466 s407.1 ∧ (wLet (s407.2.1 - (count_466 * s407.1)) fun (q_468 : Int) => (nxt408 (s407.1, q_468, first_467, s407.2.2.2)))))))))))) (fun (s407 : Int × Int × (List (List Int)) × (List (List Int))) => (w_law_join (s407.2.2.1) (s407.2.2.2) fun r471 => P r471)) (p_392, q_393, first_403, second_404))))))))

def w_law_letter (pair_505 : (Int × Int)) (index_506 : Int) (P : Str → Prop) : Prop :=
  (wLet (pair_505.1 + pair_505.2) fun (length_507 : Int) => (JMul (index_506 + (1 : Int)) pair_505.2 ∧ (JDiv length_507 ∧ (JMul index_506 pair_505.2 ∧ (JDiv length_507 ∧ (((decide (((index_506 * pair_505.2) / length_507) < (((index_506 + (1 : Int)) * pair_505.2) / length_507))) = true → P ("u" : Str)) ∧ ((decide (((index_506 * pair_505.2) / length_507) < (((index_506 + (1 : Int)) * pair_505.2) / length_507))) = false → P ("r" : Str))))))))

def w_law_ring_is_walked (lists_484 : (List (List Int))) (pair_485 : (Int × Int)) (ring_486 : (Int × Int × (List Int))) (P : Bool → Prop) : Prop :=
  (wLet (pair_485.1 + pair_485.2) fun (length_487 : Int) => (wLet ring_486.1 fun (room_488 : Int) => (∃ x489, ixI lists_484 (0 : Int) = some x489 ∧ ((x489).length < 1000000 ∧ (wComp (fun (side_492 : Int) (N493 : Int → Prop) => (N493 (0 : Int))) x489 [] fun (made_494 : List Int) => (wLet made_494 fun (passed_495 : (List Int)) => (JMul ring_486.2.1 length_487 ∧ ((-(2 ^ 62) ≤ (ring_486.2.1 * length_487) ∧ (ring_486.2.1 * length_487) < 2 ^ 62) ∧ (wFor (fun (index_498 : Int) (s497 : Int × (List Int)) (nxt499 brk500 : (Int × (List Int)) → Prop) => (wCut (∃ m504, ixW (s497.2).length s497.1 = some m504 ∧ (wLet ((s497.2).set m504 (1 : Int)) fun (passed_503 : List Int) => (w_law_letter (pair_485) (index_498) fun r512 => (∃ x509, ixI lists_484 (if (decide (r512 = ("u" : Str))) then (1 : Int) else 0) = some x509 ∧ (∃ x510, ixI x509 s497.1 = some x510 ∧ (wLet x510 fun (room_511 : Int) => (nxt499 (room_511, passed_503)))))))) fun (kB513 : Prop) => (((decide ((0 : Int) < index_498)) = true → (0 < length_487 ∧ (((decide ((index_498 % length_487) = (0 : Int))) = true → (((decide (s497.1 = ring_486.1)) = true → P false) ∧ ((decide (s497.1 = ring_486.1)) = false → kB513))) ∧ ((decide ((index_498 % length_487) = (0 : Int))) = false → kB513)))) ∧ ((decide ((0 : Int) < index_498)) = false → kB513)))) (fun (s497 : Int × (List Int)) => (((decide (s497.1 = ring_486.1)) = true → ((-(2 ^ 62) ≤ ((s497.2).length : Int) ∧ ((s497.2).length : Int) < 2 ^ 62) ∧ (((rangeI 0 ((s497.2).length : Int))).length < 1000000 ∧ (wCompF (fun (k_516 : Int) (kA518 kB519 : Prop) => (∃ x517, ixI s497.2 k_516 = some x517 ∧ (((decide (x517 = (1 : Int))) = true → kA518) ∧ ((decide (x517 = (1 : Int))) = false → kB519)))) (fun (k_516 : Int) (N520 : Int → Prop) => (N520 k_516)) (rangeI 0 ((s497.2).length : Int)) [] fun (made_521 : List Int) => (POk.pok (made_521 : (List Int)) ∧ POk.pok (ring_486.2.2 : (List Int)) ∧ P (decide ((made_521 : (List Int)) = ring_486.2.2))))))) ∧ ((decide (s497.1 = ring_486.1)) = false → P false))) (rangeI 0 (ring_486.2.1 * length_487)) (room_488, passed_495))))))))))

def w_law_is_row_l (actual_496 : (List Int)) (expected_497 : (List Int)) (P : Bool → Prop) : Prop :=
  ((true = true → (((!decide (((actual_496).length : Int) = ((expected_497).length : Int))) = true → P false) ∧ ((!decide (((actual_496).length : Int) = ((expected_497).length : Int))) = false → ((-(2 ^ 62) ≤ ((expected_497).length : Int) ∧ ((expected_497).length : Int) < 2 ^ 62) ∧ (wFor (fun (k_500 : Int) (s499 : Unit) (nxt501 brk502 : Unit → Prop) => (∃ x504, ixI actual_496 k_500 = some x504 ∧ (w_law_is_number (x504) fun r509 => ((r509 = true → (∃ x505, ixI actual_496 k_500 = some x505 ∧ (∃ x506, ixI expected_497 k_500 = some x506 ∧ (((!decide (x505 = x506)) = true → P false) ∧ ((!decide (x505 = x506)) = false → (nxt501 ())))))) ∧ (r509 = false → P false))))) (fun (s499 : Unit) => P true) (rangeI 0 ((expected_497).length : Int)) ()))))) ∧ (true = false → P false))

def w_law (script_1 : (List Int)) (P : Bool → Prop) : Prop :=
  (w_law_cell (script_1) ((0 : Int)) fun r528 => (wLet ((1 : Int) + (r528 % (9 : Int))) fun (size_6 : Int) => (w_law_cell (script_1) ((1 : Int)) fun r525 => (w_law_order (r525) (size_6) fun r524 => (w_law_cell (script_1) ((2 : Int)) fun r527 => (w_law_order (r527) (size_6) fun r526 => (([r524, r526] : List (List Int)).length ≤ 1000 ∧ (wLet ([r524, r526]) fun (lists_40 : (List (List Int))) => (wJoin (fun (s41 : (List (List Int))) => (w_law_cell (script_1) ((3 : Int)) fun r522 => (wLet r522 fun (one_57 : Int) => (w_law_cell (script_1) ((4 : Int)) fun r521 => (wLet r521 fun (two_58 : Int) => (w_law_cell (script_1) ((5 : Int)) fun r520 => (wLet (decide ((r520 % (3 : Int)) = (1 : Int))) fun (small_59 : Bool) => (wJoin (fun (s60 : Int × Int) => (w_law_direction (s60.1) (s60.2) ((0 : Int)) fun r519 => (wLet r519 fun (pair_82 : (Int × Int)) => (wJoin (fun (s83 : (List (List Int))) => (∃ x113, ixI s83 (0 : Int) = some x113 ∧ (∃ x114, ixI s83 (1 : Int) = some x114 ∧ (w_Plan___init__ (x113) (x114) fun r517 => (wLet r517 fun (plan_115 : ((List Int) × (List Int))) => (([pair_82, (pair_82.2, pair_82.1), pair_82] : List (Int × Int)).length ≤ 1000 ∧ (wLet ([pair_82, (pair_82.2, pair_82.1), pair_82]) fun (xs117 : List (Int × Int)) => (wFor (fun (there_119 : (Int × Int)) (s118 : Unit) (nxt120 brk121 : Unit → Prop) => (w_rings_at (plan_115) (there_119.1) (there_119.2) fun r494 => (wLet r494 fun (found_316 : (List (Int × Int × (List Int)))) => (∃ x475, ixI s83 (0 : Int) = some x475 ∧ (∃ x476, ixI s83 (1 : Int) = some x476 ∧ (w_law_round (x475) (x476) (there_119.1) (there_119.2) fun r493 => (w_law_rings (r493) fun r492 => (w_law_is_rings (found_316) (r492) fun r491 => ((r491 = true → (wJoin (fun (s478 : Unit) => (([] : List Int).length ≤ 1000 ∧ (found_316.length < 1000000 ∧ (wLet ((0 : Int), (0 : Int), ([] : List Int)) fun (y490 : (Int × Int × (List Int))) => (nxt120 ()))))) fun (J479 : Unit → Prop) => ((small_59 = true → (wFor (fun (ring_482 : (Int × Int × (List Int))) (s481 : Unit) (nxt483 brk484 : Unit → Prop) => (w_law_ring_is_walked (s83) (there_119) (ring_482) fun r488 => ((r488 = true → (nxt483 ())) ∧ (r488 = false → P false)))) (fun (s481 : Unit) => (J479 ())) found_316 ())) ∧ (small_59 = false → (J479 ()))))) ∧ (r491 = false → P false)))))))))) (fun (s118 : Unit) => (w_Plan_right plan_115 fun r514 => (∃ x510, ixI s83 (0 : Int) = some x510 ∧ (w_law_is_row_l (r514) (x510) fun r513 => ((r513 = true → (w_Plan_above plan_115 fun r516 => (∃ x512, ixI s83 (1 : Int) = some x512 ∧ (w_law_is_row_l (r516) (x512) fun r515 => P r515)))) ∧ (r513 = false → P false)))))) xs117 ())))))))) fun (J84 : (List (List Int)) → Prop) => ((small_59 = true → (w_law_cell (script_1) ((5 : Int)) fun r518 => (((decide (((r518 / (3 : Int)) % (4 : Int)) = (1 : Int))) = true → (JDiv size_6 ∧ (JMul ((100 : Int) / size_6) size_6 ∧ (wLet (((100 : Int) / size_6) * size_6) fun (many_86 : Int) => ((s41).length < 1000000 ∧ (wComp (fun (side_89 : (List Int)) (N96 : (List Int) → Prop) => ((-(2 ^ 62) ≤ many_86 ∧ many_86 < 2 ^ 62) ∧ (((rangeI 0 many_86)).length < 1000000 ∧ (wComp (fun (k_92 : Int) (N94 : Int → Prop) => (JDiv size_6 ∧ (JMul size_6 (k_92 / size_6) ∧ (0 < size_6 ∧ (∃ x93, ixI side_89 (k_92 % size_6) = some x93 ∧ (N94 ((size_6 * (k_92 / size_6)) + x93))))))) (rangeI 0 many_86) [] fun (made_95 : List Int) => (N96 made_95))))) s41 [] fun (made_97 : List (List Int)) => (wLet made_97 fun (lists_98 : (List (List Int))) => (J84 lists_98)))))))) ∧ ((decide (((r518 / (3 : Int)) % (4 : Int)) = (1 : Int))) = false → (J84 s41))))) ∧ (small_59 = false → (J84 s41))))))) fun (J61 : (Int × Int) → Prop) => ((small_59 = true → (wLet (one_57 % (10 : Int)) fun (one_63 : Int) => (wLet (two_58 % (10 : Int)) fun (two_64 : Int) => (J61 (one_63, two_64))))) ∧ (small_59 = false → (J61 (one_57, two_58)))))))))))) fun (J42 : (List (List Int)) → Prop) => (w_law_cell (script_1) ((0 : Int)) fun r523 => (((decide (((r523 / (9 : Int)) % (3 : Int)) = (1 : Int))) = true → ((-(2 ^ 62) ≤ (2 : Int) ∧ (2 : Int) < 2 ^ 62) ∧ (((rangeI 0 (2 : Int))).length < 1000000 ∧ (wComp (fun (k_46 : Int) (N53 : (List Int) → Prop) => ((-(2 ^ 62) ≤ size_6 ∧ size_6 < 2 ^ 62) ∧ (((rangeI 0 size_6)).length < 1000000 ∧ (wComp (fun (room_49 : Int) (N50 : Int → Prop) => (w_law_cell (script_1) (((1 : Int) + k_46)) fun r51 => (0 < size_6 ∧ (N50 ((room_49 + r51) % size_6))))) (rangeI 0 size_6) [] fun (made_52 : List Int) => (N53 made_52))))) (rangeI 0 (2 : Int)) [] fun (made_54 : List (List Int)) => (wLet made_54 fun (lists_55 : (List (List Int))) => (J42 lists_55)))))) ∧ ((decide (((r523 / (9 : Int)) % (3 : Int)) = (1 : Int))) = false → (J42 lists_40)))))))))))))

end Slw

set_option exponentiation.threshold 20000
namespace Slw
open PySem J
/-! sizes -/
theorem log2_lt {n k : Nat} (h : n < 2 ^ k) (hk : 0 < k) : n.log2 < k := by
  by_cases h0 : n = 0
  · subst h0
    exact hk
  · exact (Nat.log2_lt h0).mpr h
def Big : Nat := 4000
theorem mul_ok {x y : Int} (hx : x.natAbs < 2 ^ Big) (hy : y.natAbs < 2 ^ Big) : JMul x y := by
  refine .inr (.inr ?_)
  have h1 := log2_lt hx (by decide)
  have h2 := log2_lt hy (by decide)
  have e : Big = 4000 := rfl
  omega
theorem mul_zero_ok {x : Int} : JMul x 0 := .inr (.inl ⟨by decide, by decide⟩)
theorem div_ok {y : Int} (h0 : 0 < y) (hy : y.natAbs < 2 ^ Big) : JDiv y := by
  refine ⟨h0, ?_⟩
  have h2 := log2_lt hy (by decide)
  have e : Big = 4000 := rfl
  omega
theorem big_of {x y : Int} (h0 : 0 ≤ x) (h : x ≤ y) (hy : y.natAbs < 2 ^ Big) : x.natAbs < 2 ^ Big := by omega
theorem big39 : (10 : Nat) ^ 39 < 2 ^ 130 := by decide
theorem pow39 : ((10 : Int) ^ (39 : Int).toNat) = 1000000000000000000000000000000000000000 := by decide
theorem big_small {x : Int} {k : Nat} (h : x.natAbs < 2 ^ k) (hk : k ≤ Big) : x.natAbs < 2 ^ Big := Nat.lt_of_lt_of_le h (Nat.pow_le_pow_right (by decide) hk)
theorem big_lit {x : Int} (h : x.natAbs ≤ 1000000000000000000000000000000000000000000000000000000000000000000000000000000000000000000000000) : x.natAbs < 2 ^ Big :=
  big_small (k := 400) (Nat.lt_of_le_of_lt h (by decide)) (by decide)
end Slw
namespace Slw
open PySem J
theorem cell_ok {ns : List Int} {k : Int} {P : Int → Prop} (h : 0 ≤ k) (q : ∀ x, P x) : w_law_cell ns k P := by
  unfold w_law_cell
  refine ⟨fun e => ?_, fun _ => q _⟩
  have h1 := of_decide_eq_true e
  have h2 : k.toNat < ns.length := by omega
  refine ⟨ns[k.toNat], ?_, q _⟩
  unfold ixI
  rw [if_pos h, List.getElem?_eq_getElem h2]
end Slw
namespace Slw
open PySem J
theorem gcd_step (a b : Int) (ha : 0 ≤ a) (hb : 0 < b) : Int.gcd b (a % b) = Int.gcd a b := by
  have h0 : 0 ≤ a % b := Int.emod_nonneg _ (by omega)
  unfold Int.gcd
  rw [Int.natAbs_emod_of_nonneg ha, Nat.gcd_comm, ← Nat.gcd_rec, Nat.gcd_comm]
/-- a drawn direction -/
theorem dir_ok {one two least : Int} {P : Int × Int → Prop} (h0 : 0 ≤ least) (h1 : least ≤ 1)
    (q : ∀ p q, least ≤ p → least ≤ q → p ≤ 10 ^ 39 → q ≤ 10 ^ 39 → Int.gcd p q = 1 → P (p, q)) : w_law_direction one two least P := by
  unfold w_law_direction
  rw [pow39]
  have m1 := Int.emod_nonneg one (show (1000000000000000000000000000000000000000 : Int) ≠ 0 by decide)
  have m2 := Int.emod_lt_of_pos one (show (0 : Int) < 1000000000000000000000000000000000000000 by decide)
  have n1 := Int.emod_nonneg two (show (1000000000000000000000000000000000000000 : Int) ≠ 0 by decide)
  have n2 := Int.emod_lt_of_pos two (show (0 : Int) < 1000000000000000000000000000000000000000 by decide)
  have e39 : (10 : Int) ^ 39 = 1000000000000000000000000000000000000000 := by decide
  refine ⟨by decide, wLet_ok fun p0 hp => ⟨by decide, wLet_ok fun q0 hq => wLet_to (wLet_to ?_)⟩⟩
  have p1 : least ≤ p0 := by omega
  have p2 : p0 ≤ 10 ^ 39 := by omega
  have q1 : least ≤ q0 := by omega
  have q2 : q0 ≤ 10 ^ 39 := by omega
  refine ⟨fun s => 0 ≤ s.1 ∧ 0 ≤ s.2 ∧ s.1 ≤ 10 ^ 39 ∧ s.2 ≤ 10 ^ 39 ∧ Int.gcd s.1 s.2 = Int.gcd p0 q0, fun s => s.2.toNat, ⟨by show 0 ≤ p0; omega, by show 0 ≤ q0; omega, p2, q2, rfl⟩, ?_⟩
  rintro ⟨c, r⟩ ⟨c0, r0, c1, r1, hg⟩
  dsimp only at c0 r0 c1 r1 hg ⊢
  refine ⟨fun e => ?_, fun e => ?_⟩
  · have hr := of_decide_eq_true e
    have l := Int.emod_lt_of_pos c hr
    have l0 := Int.emod_nonneg c (show r ≠ 0 by omega)
    exact ⟨hr, ⟨r0, l0, r1, by omega, by rw [gcd_step c r c0 hr, hg]⟩, by omega⟩
  · have hr := of_decide_eq_false e
    have er : r = 0 := by omega
    subst er
    have ec : (c : Int) = ((Int.gcd p0 q0 : Nat) : Int) := by
      rw [← hg, Int.gcd_zero_right]
      omega
    refine ⟨fun e => ?_, fun e => ?_⟩
    · have hc := of_decide_eq_true e
      have z : Int.gcd p0 q0 = 0 := by omega
      have zz := Int.gcd_eq_zero_iff.mp z
      exact q 1 1 (by omega) (by omega) (by decide) (by decide) (by decide)
    · have hc := of_decide_eq_false e
      have cp : 0 < c := by omega
      have dok : JDiv c := div_ok cp (big_lit (by omega))
      refine ⟨dok, dok, ?_⟩
      have gpos : 0 < Int.gcd p0 q0 := by omega
      have d1 : (c : Int) ∣ p0 := by rw [ec]; exact Int.gcd_dvd_left ..
      have d2 : (c : Int) ∣ q0 := by rw [ec]; exact Int.gcd_dvd_right ..
      have e1 := Int.ediv_mul_cancel d1
      have e2 := Int.ediv_mul_cancel d2
      have f1 : p0 / c ≤ p0 := Int.ediv_le_self _ (by omega)
      have f2 : q0 / c ≤ q0 := Int.ediv_le_self _ (by omega)
      have g1 : 0 ≤ p0 / c := Int.ediv_nonneg (by omega) (by omega)
      have g2 : 0 ≤ q0 / c := Int.ediv_nonneg (by omega) (by omega)
      have pz : p0 / c = 0 → p0 = 0 := fun z => by rw [z] at e1; omega
      have qz : q0 / c = 0 → q0 = 0 := fun z => by rw [z] at e2; omega
      refine q _ _ ?_ ?_ (by omega) (by omega) ?_
      · by_cases hz : p0 / c = 0
        · have := pz hz; omega
        · omega
      · by_cases hz : q0 / c = 0
        · have := qz hz; omega
        · omega
      · rw [ec]
        exact Int.gcd_ediv_gcd_ediv_gcd gpos
end Slw
namespace Slw
open PySem J
/-- a drawn direction, no greater than what was drawn -/
theorem dir_b {one two least b : Int} (hb : 1 ≤ b) (hb9 : b ≤ 10 ^ 39) (o1 : least + one % 10 ^ 39 ≤ b) (o2 : least + two % 10 ^ 39 ≤ b) {P : Int × Int → Prop} (h0 : 0 ≤ least) (h1 : least ≤ 1)
    (q : ∀ p q, least ≤ p → least ≤ q → p ≤ b → q ≤ b → Int.gcd p q = 1 → P (p, q)) : w_law_direction one two least P := by
  unfold w_law_direction
  rw [pow39]
  have m1 := Int.emod_nonneg one (show (1000000000000000000000000000000000000000 : Int) ≠ 0 by decide)
  have m2 := Int.emod_lt_of_pos one (show (0 : Int) < 1000000000000000000000000000000000000000 by decide)
  have n1 := Int.emod_nonneg two (show (1000000000000000000000000000000000000000 : Int) ≠ 0 by decide)
  have n2 := Int.emod_lt_of_pos two (show (0 : Int) < 1000000000000000000000000000000000000000 by decide)
  have e39b : (10 : Int) ^ 39 = 1000000000000000000000000000000000000000 := by decide
  rw [e39b] at o1 o2 hb9
  have e39 : (10 : Int) ^ 39 = 1000000000000000000000000000000000000000 := by decide
  refine ⟨by decide, wLet_ok fun p0 hp => ⟨by decide, wLet_ok fun q0 hq => wLet_to (wLet_to ?_)⟩⟩
  have p1 : least ≤ p0 := by omega
  have p2 : p0 ≤ 10 ^ 39 := by omega
  have q1 : least ≤ q0 := by omega
  have q2 : q0 ≤ 10 ^ 39 := by omega
  refine ⟨fun s => 0 ≤ s.1 ∧ 0 ≤ s.2 ∧ s.1 ≤ 10 ^ 39 ∧ s.2 ≤ 10 ^ 39 ∧ Int.gcd s.1 s.2 = Int.gcd p0 q0, fun s => s.2.toNat, ⟨by show 0 ≤ p0; omega, by show 0 ≤ q0; omega, p2, q2, rfl⟩, ?_⟩
  rintro ⟨c, r⟩ ⟨c0, r0, c1, r1, hg⟩
  dsimp only at c0 r0 c1 r1 hg ⊢
  refine ⟨fun e => ?_, fun e => ?_⟩
  · have hr := of_decide_eq_true e
    have l := Int.emod_lt_of_pos c hr
    have l0 := Int.emod_nonneg c (show r ≠ 0 by omega)
    exact ⟨hr, ⟨r0, l0, r1, by omega, by rw [gcd_step c r c0 hr, hg]⟩, by omega⟩
  · have hr := of_decide_eq_false e
    have er : r = 0 := by omega
    subst er
    have ec : (c : Int) = ((Int.gcd p0 q0 : Nat) : Int) := by
      rw [← hg, Int.gcd_zero_right]
      omega
    refine ⟨fun e => ?_, fun e => ?_⟩
    · have hc := of_decide_eq_true e
      have z : Int.gcd p0 q0 = 0 := by omega
      have zz := Int.gcd_eq_zero_iff.mp z
      exact q 1 1 (by omega) (by omega) hb hb (by decide)
    · have hc := of_decide_eq_false e
      have cp : 0 < c := by omega
      have dok : JDiv c := div_ok cp (big_lit (by omega))
      refine ⟨dok, dok, ?_⟩
      have gpos : 0 < Int.gcd p0 q0 := by omega
      have d1 : (c : Int) ∣ p0 := by rw [ec]; exact Int.gcd_dvd_left ..
      have d2 : (c : Int) ∣ q0 := by rw [ec]; exact Int.gcd_dvd_right ..
      have e1 := Int.ediv_mul_cancel d1
      have e2 := Int.ediv_mul_cancel d2
      have f1 : p0 / c ≤ p0 := Int.ediv_le_self _ (by omega)
      have f2 : q0 / c ≤ q0 := Int.ediv_le_self _ (by omega)
      have g1 : 0 ≤ p0 / c := Int.ediv_nonneg (by omega) (by omega)
      have g2 : 0 ≤ q0 / c := Int.ediv_nonneg (by omega) (by omega)
      have pz : p0 / c = 0 → p0 = 0 := fun z => by rw [z] at e1; omega
      have qz : q0 / c = 0 → q0 = 0 := fun z => by rw [z] at e2; omega
      refine q _ _ ?_ ?_ (by omega) (by omega) ?_
      · by_cases hz : p0 / c = 0
        · have := pz hz; omega
        · omega
      · by_cases hz : q0 / c = 0
        · have := qz hz; omega
        · omega
      · rw [ec]
        exact Int.gcd_ediv_gcd_ediv_gcd gpos
end Slw
namespace Slw
open PySem J
theorem check_ok {p q : Int} {P : Unit → Prop} (hp : 0 ≤ p) (hq : 0 ≤ q) (hg : Int.gcd p q = 1) (k : P ()) : w_check_direction p q P := by
  unfold w_check_direction
  refine ⟨fun e => ?_, fun _ => ⟨fun e => ?_, fun _ => ⟨fun e => ?_, fun _ => k⟩⟩⟩
  · have := of_decide_eq_true e; omega
  · have := of_decide_eq_true e; omega
  · have h : ((Nat.gcd p.natAbs q.natAbs : Nat) : Int) = 1 := by
      have h2 : Nat.gcd p.natAbs q.natAbs = 1 := hg
      rw [h2]; rfl
    rw [h] at e
    exact absurd e (by decide)
end Slw
namespace Slw
open PySem J
theorem tree_ok {p q : Int} {P : Unit → Prop} (hp : 0 < p) (hq : 0 < q) (hg : Int.gcd p q = 1) (k : P ()) : w_check_in_tree p q P := by
  unfold w_check_in_tree
  refine check_ok (by omega) (by omega) hg ?_
  refine ⟨fun e => ?_, fun _ => ⟨fun e => ?_, fun _ => k⟩⟩
  · have := of_decide_eq_true e; omega
  · have := of_decide_eq_true e; omega
end Slw
namespace Slw
open PySem J
/-! runs of steps: the neighbors that they lead to -/
theorem fs_ne : ¬ (("flat" : Str) = "steep") := by decide +kernel
theorem sf_ne : ¬ (("steep" : Str) = "flat") := by decide +kernel
abbrev Q4 := Int × Int × Int × Int
def turn (s : Q4) (x : Str × Int) : Q4 :=
  if x.1 = ("flat" : Str) then (s.1, s.2.1, s.2.2.1 + x.2 * s.1, s.2.2.2 + x.2 * s.2.1) else (s.1 + x.2 * s.2.2.1, s.2.1 + x.2 * s.2.2.2, s.2.2.1, s.2.2.2)
def nb (s : Q4) (rs : List (Str × Int)) : Q4 := rs.foldl turn s
def s1001 : Q4 := (1, 0, 0, 1)
/-- none is negative; all are below the bound -/
structure Ok4 (s : Q4) : Prop where
  a : 0 ≤ s.1
  b : 0 ≤ s.2.1
  c : 0 ≤ s.2.2.1
  d : 0 ≤ s.2.2.2
structure Le4 (s t : Q4) : Prop where
  a : s.1 ≤ t.1
  b : s.2.1 ≤ t.2.1
  c : s.2.2.1 ≤ t.2.2.1
  d : s.2.2.2 ≤ t.2.2.2
theorem Le4.refl (s : Q4) : Le4 s s := ⟨Int.le_refl _, Int.le_refl _, Int.le_refl _, Int.le_refl _⟩
theorem Le4.trans {s t u : Q4} (h : Le4 s t) (k : Le4 t u) : Le4 s u := ⟨Int.le_trans h.a k.a, Int.le_trans h.b k.b, Int.le_trans h.c k.c, Int.le_trans h.d k.d⟩
theorem turn_ok {s : Q4} {x : Str × Int} (h : Ok4 s) (hx : 0 ≤ x.2) : Ok4 (turn s x) ∧ Le4 s (turn s x) := by
  have h1 := Int.mul_nonneg hx h.a
  have h2 := Int.mul_nonneg hx h.b
  have h3 := Int.mul_nonneg hx h.c
  have h4 := Int.mul_nonneg hx h.d
  obtain ⟨a, b, c, d⟩ := h
  unfold turn
  by_cases e : x.1 = ("flat" : Str)
  · rw [if_pos e]
    exact ⟨⟨a, b, by dsimp only; omega, by dsimp only; omega⟩, ⟨Int.le_refl _, Int.le_refl _, by dsimp only; omega, by dsimp only; omega⟩⟩
  · rw [if_neg e]
    exact ⟨⟨by dsimp only; omega, by dsimp only; omega, c, d⟩, ⟨by dsimp only; omega, by dsimp only; omega, Int.le_refl _, Int.le_refl _⟩⟩
theorem nb_le {rs : List (Str × Int)} : ∀ {s : Q4}, Ok4 s → (∀ x ∈ rs, 0 ≤ x.2) → Ok4 (nb s rs) ∧ Le4 s (nb s rs) := by
  induction rs with
  | nil => intro s h _; exact ⟨h, Le4.refl s⟩
  | cons x r ih =>
    intro s h hx
    have t := turn_ok h (hx x List.mem_cons_self)
    have u := ih t.1 (fun y hy => hx y (List.mem_cons_of_mem _ hy))
    exact ⟨u.1, t.2.trans u.2⟩
theorem nb_snoc (s : Q4) (rs : List (Str × Int)) (x : Str × Int) : nb s (rs ++ [x]) = turn (nb s rs) x := by
  unfold nb
  rw [List.foldl_append]
  rfl
theorem mul_bd {k a t : Int} (hk : 0 ≤ k) (ha : 0 ≤ a) (h : k * a ≤ t) (ht : t.natAbs < 2 ^ Big) (ha2 : a.natAbs < 2 ^ Big) : JMul k a := by
  by_cases z : a = 0
  · rw [z]; exact mul_zero_ok
  · have h1 : k * 1 ≤ k * a := Int.mul_le_mul_of_nonneg_left (by omega) hk
    have h2 : k ≤ t := by omega
    exact mul_ok (big_of hk h2 ht) ha2
structure Bd4 (s : Q4) : Prop where
  a : s.1.natAbs < 2 ^ Big
  b : s.2.1.natAbs < 2 ^ Big
  c : s.2.2.1.natAbs < 2 ^ Big
  d : s.2.2.2.natAbs < 2 ^ Big
theorem Bd4.le {s t : Q4} (h : Ok4 s) (l : Le4 s t) (b : Bd4 t) : Bd4 s := ⟨big_of h.a l.a b.a, big_of h.b l.b b.b, big_of h.c l.c b.c, big_of h.d l.d b.d⟩
/-- what one turn multiplies -/
theorem turn_mul {s : Q4} {x : Str × Int} (h : Ok4 s) (hx : 0 ≤ x.2) (bd : Bd4 (turn s x)) :
    if x.1 = ("flat" : Str) then JMul x.2 s.1 ∧ JMul x.2 s.2.1 else JMul x.2 s.2.2.1 ∧ JMul x.2 s.2.2.2 := by
  have hl := (turn_ok h hx).2
  have bs := bd.le h hl
  unfold turn at bd
  by_cases e : x.1 = ("flat" : Str)
  · rw [if_pos e] at bd ⊢
    have c0 := h.c
    have d0 := h.d
    exact ⟨mul_bd hx h.a (show x.2 * s.1 ≤ s.2.2.1 + x.2 * s.1 by omega) bd.c bs.a, mul_bd hx h.b (show x.2 * s.2.1 ≤ s.2.2.2 + x.2 * s.2.1 by omega) bd.d bs.b⟩
  · rw [if_neg e] at bd ⊢
    have a0 := h.a
    have b0 := h.b
    exact ⟨mul_bd hx h.c (show x.2 * s.2.2.1 ≤ s.1 + x.2 * s.2.2.1 by omega) bd.a bs.c, mul_bd hx h.d (show x.2 * s.2.2.2 ≤ s.2.1 + x.2 * s.2.2.2 by omega) bd.b bs.d⟩
end Slw
namespace Slw
open PySem J
/-! the steps to a direction -/
def Kinds (rs : List (Str × Int)) : Prop := ∀ x ∈ rs, (x.1 = ("flat" : Str) ∨ x.1 = ("steep" : Str)) ∧ 1 ≤ x.2
def Alt (rs : List (Str × Int)) : Prop := ∀ (i : Nat) x y, rs[i]? = some x → rs[i + 1]? = some y → x.1 ≠ y.1
theorem Kinds.snoc {rs : List (Str × Int)} {x : Str × Int} (h : Kinds rs) (hx : (x.1 = ("flat" : Str) ∨ x.1 = ("steep" : Str)) ∧ 1 ≤ x.2) : Kinds (rs ++ [x]) := fun y hy => by
  rcases List.mem_append.mp hy with h1 | h1
  · exact h y h1
  · rw [List.mem_singleton.mp h1]; exact hx
theorem Alt.snoc {rs : List (Str × Int)} {y : Str × Int} (h : Alt rs) (hl : ∀ x, rs.getLast? = some x → x.1 ≠ y.1) : Alt (rs ++ [y]) := fun i u v hu hv => by
  have hv1 : i + 1 < (rs ++ [y]).length := (List.getElem?_eq_some_iff.mp hv).1
  rw [List.length_append, List.length_singleton] at hv1
  by_cases e : i + 1 < rs.length
  · rw [List.getElem?_append_left e] at hv
    rw [List.getElem?_append_left (by omega)] at hu
    exact h i u v hu hv
  · have ei : i + 1 = rs.length := by omega
    rw [ei, List.getElem?_append_right (Nat.le_refl _), Nat.sub_self] at hv
    have e1 : y = v := Option.some.inj hv
    rw [List.getElem?_append_left (by omega)] at hu
    subst e1
    refine hl u ?_
    rw [List.getLast?_eq_getElem?, show rs.length - 1 = i by omega]
    exact hu
theorem turn_det {s : Q4} {x : Str × Int} (h : s.1 * s.2.2.2 - s.2.1 * s.2.2.1 = 1) : (turn s x).1 * (turn s x).2.2.2 - (turn s x).2.1 * (turn s x).2.2.1 = 1 := by
  unfold turn
  split
  · dsimp only; grind
  · dsimp only; grind
/-- what steps hands back -/
structure StepsOf (p q : Int) (rs : List (Str × Int)) : Prop where
  kinds : Kinds rs
  alt : Alt rs
  p_eq : (nb s1001 rs).1 + (nb s1001 rs).2.2.1 = p
  q_eq : (nb s1001 rs).2.1 + (nb s1001 rs).2.2.2 = q
  det : (nb s1001 rs).1 * (nb s1001 rs).2.2.2 - (nb s1001 rs).2.1 * (nb s1001 rs).2.2.1 = 1
  len : rs.length ≤ 8000
theorem StepsOf.nn {p q : Int} {rs : List (Str × Int)} (h : StepsOf p q rs) : Ok4 (nb s1001 rs) := (nb_le ⟨by decide, by decide, by decide, by decide⟩ fun x hx => by have := (h.kinds x hx).2; omega).1
theorem quot_one {p q : Int} (hq : 0 < q) (hl : q < p) : 1 ≤ (p - 1) / q ∧ 1 ≤ p - (p - 1) / q * q ∧ p - (p - 1) / q * q ≤ q ∧ 0 ≤ (p - 1) / q := by
  have e := Int.mul_ediv_add_emod (p - 1) q
  have r0 := Int.emod_nonneg (p - 1) (show q ≠ 0 by omega)
  have r1 := Int.emod_lt_of_pos (p - 1) hq
  have h1 : 1 ≤ (p - 1) / q := (Int.le_ediv_iff_mul_le hq).mpr (by omega)
  rw [Int.mul_comm] at e
  exact ⟨h1, by omega, by omega, by omega⟩
theorem half {p q c : Int} (hq : 0 < q) (h1 : 1 ≤ c) (h2 : p - c * q ≤ q) : 2 * ((p - c * q) * q) ≤ p * q := by
  have h3 : 1 * q ≤ c * q := Int.mul_le_mul_of_nonneg_right h1 (by omega)
  have h4 : 2 * (p - c * q) ≤ p := by omega
  have h5 := Int.mul_le_mul_of_nonneg_right h4 (Int.le_of_lt hq)
  have h6 : 2 * (p - c * q) * q = 2 * ((p - c * q) * q) := Int.mul_assoc ..
  omega
theorem pow_two_len {n : Nat} {x : Int} (hx : 1 ≤ x) (b : (2 : Int) ^ n * x < 2 ^ 8000) : n ≤ 8000 := by
  by_cases h : n ≤ 8000
  · exact h
  · exfalso
    have h1 : (2 : Int) ^ 8000 ≤ 2 ^ n := by
      have := Nat.pow_le_pow_right (show 0 < 2 by decide) (show 8000 ≤ n by omega)
      exact_mod_cast this
    have h2 : (0 : Int) ≤ 2 ^ n := Int.le_trans (by decide) h1
    have h3 : (2 : Int) ^ n * 1 ≤ 2 ^ n * x := Int.mul_le_mul_of_nonneg_left hx h2
    omega
theorem steps_ok {p q : Int} {P : List (Str × Int) → Prop} (hp : 0 < p) (hq : 0 < q) (hg : Int.gcd p q = 1) (bp : p.natAbs < 2 ^ Big) (bq : q.natAbs < 2 ^ Big) (k : ∀ rs, StepsOf p q rs → P rs) : w_steps p q P := by
  unfold w_steps
  refine tree_ok hp hq hg (wLet_to ?_)
  have hpq : p * q < 2 ^ 8000 := by
    have h1 : p < 2 ^ 4000 := by
      have : p.natAbs < 2 ^ 4000 := bp
      have e : ((p.natAbs : Nat) : Int) = p := by omega
      rw [← e]
      exact_mod_cast this
    have h2 : q < 2 ^ 4000 := by
      have : q.natAbs < 2 ^ 4000 := bq
      have e : ((q.natAbs : Nat) : Int) = q := by omega
      rw [← e]
      exact_mod_cast this
    have e : (2 : Int) ^ 8000 = 2 ^ 4000 * 2 ^ 4000 := by rw [← Int.pow_add]
    rw [e]
    exact Int.mul_lt_mul h1 (Int.le_of_lt h2) hq (Int.le_of_lt (Int.pow_pos (by decide)))
  refine ⟨fun s => 1 ≤ s.1 ∧ 1 ≤ s.2.1 ∧ Int.gcd s.1 s.2.1 = 1 ∧ Kinds s.2.2 ∧ Alt s.2.2 ∧ (∀ x, s.2.2.getLast? = some x → (x.1 = ("flat" : Str) ∧ s.1 ≤ s.2.1) ∨ (x.1 = ("steep" : Str) ∧ s.2.1 ≤ s.1)) ∧
    p = (nb s1001 s.2.2).1 * s.1 + (nb s1001 s.2.2).2.2.1 * s.2.1 ∧ q = (nb s1001 s.2.2).2.1 * s.1 + (nb s1001 s.2.2).2.2.2 * s.2.1 ∧
    (nb s1001 s.2.2).1 * (nb s1001 s.2.2).2.2.2 - (nb s1001 s.2.2).2.1 * (nb s1001 s.2.2).2.2.1 = 1 ∧ (2 : Int) ^ s.2.2.length * (s.1 * s.2.1) ≤ p * q ∧ s.1 ≤ p ∧ s.2.1 ≤ q, fun s => (s.1 + s.2.1).toNat,
    ⟨hp, hq, hg, (fun x hx => by cases hx), (fun i x y hx => by cases hx), (fun x hx => by cases hx), ?_, ?_, (by show (1 : Int) * 1 - 0 * 0 = 1; decide), ?_, Int.le_refl _, Int.le_refl _⟩, ?_⟩
  · show p = 1 * p + 0 * q
    omega
  · show q = 0 * p + 1 * q
    omega
  · show (2 : Int) ^ 0 * (p * q) ≤ p * q
    rw [Int.pow_zero, Int.one_mul]
    exact Int.le_refl _
  · rintro ⟨u, v, rs⟩ ⟨u1, v1, g, kd, al, la, ep, eq, det, len, up, vq⟩
    dsimp only at u1 v1 g kd al la ep eq det len up vq ⊢
    have uv1 : 1 ≤ u * v := by
      have := Int.mul_le_mul_of_nonneg_right u1 (show (0 : Int) ≤ v by omega)
      omega
    have l8 : rs.length ≤ 8000 := pow_two_len uv1 (Int.lt_of_le_of_lt len hpq)
    refine ⟨fun e => ?_, fun e => ?_⟩
    · have hne : u ≠ v := fun z => by rw [z] at e; simp at e
      refine ⟨fun c => ?_, fun c => ?_⟩
      · have hlt : v < u := of_decide_eq_true c
        obtain ⟨c1, w1, w2, c0⟩ := quot_one (show 0 < v by omega) hlt
        have bv : v.natAbs < 2 ^ Big := big_of (by omega) vq bq
        have bu : u.natAbs < 2 ^ Big := big_of (by omega) up bp
        have hc : (u - 1) / v ≤ u := Int.le_trans (Int.ediv_le_self _ (by omega)) (by omega)
        refine ⟨div_ok (by omega) bv, by omega, mul_ok (big_of c0 hc bu) bv, ?_⟩
        generalize hcc : (u - 1) / v = cc at c1 w1 w2 c0 hc ⊢
        have ht : turn (nb s1001 rs) (("flat" : Str), cc) = ((nb s1001 rs).1, (nb s1001 rs).2.1, (nb s1001 rs).2.2.1 + cc * (nb s1001 rs).1, (nb s1001 rs).2.2.2 + cc * (nb s1001 rs).2.1) := if_pos rfl
        refine ⟨⟨w1, v1, ?_, kd.snoc ⟨.inl rfl, c1⟩, al.snoc fun x hx => ?_, fun x hx => ?_, ?_, ?_, ?_, ?_, ?_, vq⟩, ?_⟩
        · rw [Int.gcd_sub_mul_right_left]
          exact g
        · rcases la x hx with ⟨_, l⟩ | ⟨l, _⟩
          · omega
          · rw [l]; exact sf_ne
        · rw [List.getLast?_concat] at hx
          rw [← Option.some.inj hx]
          exact .inl ⟨rfl, w2⟩
        · rw [nb_snoc, ht]
          dsimp only
          grind
        · rw [nb_snoc, ht]
          dsimp only
          grind
        · rw [nb_snoc]
          exact turn_det det
        · have hh := half (show 0 < v by omega) c1 w2
          rw [List.length_append, List.length_singleton, Int.pow_succ, Int.mul_assoc]
          refine Int.le_trans (Int.mul_le_mul_of_nonneg_left hh (Int.le_of_lt (Int.pow_pos (by decide)))) len
        · have : 0 ≤ cc * v := Int.mul_nonneg c0 (by omega)
          omega
        · have : 1 * v ≤ cc * v := Int.mul_le_mul_of_nonneg_right c1 (by omega)
          omega
      · have hlt : u < v := by
          have := of_decide_eq_false c
          omega
        obtain ⟨c1, w1, w2, c0⟩ := quot_one (show 0 < u by omega) hlt
        have bv : v.natAbs < 2 ^ Big := big_of (by omega) vq bq
        have bu : u.natAbs < 2 ^ Big := big_of (by omega) up bp
        have hc : (v - 1) / u ≤ v := Int.le_trans (Int.ediv_le_self _ (by omega)) (by omega)
        refine ⟨div_ok (by omega) bu, by omega, mul_ok (big_of c0 hc bv) bu, ?_⟩
        generalize hcc : (v - 1) / u = cc at c1 w1 w2 c0 hc ⊢
        have ht : turn (nb s1001 rs) (("steep" : Str), cc) = ((nb s1001 rs).1 + cc * (nb s1001 rs).2.2.1, (nb s1001 rs).2.1 + cc * (nb s1001 rs).2.2.2, (nb s1001 rs).2.2.1, (nb s1001 rs).2.2.2) := if_neg sf_ne
        refine ⟨⟨u1, w1, ?_, kd.snoc ⟨.inr rfl, c1⟩, al.snoc fun x hx => ?_, fun x hx => ?_, ?_, ?_, ?_, ?_, up, ?_⟩, ?_⟩
        · rw [Int.gcd_sub_mul_right_right]
          exact g
        · rcases la x hx with ⟨l, _⟩ | ⟨_, l⟩
          · rw [l]; exact fs_ne
          · omega
        · rw [List.getLast?_concat] at hx
          rw [← Option.some.inj hx]
          exact .inr ⟨rfl, w2⟩
        · rw [nb_snoc, ht]
          dsimp only
          grind
        · rw [nb_snoc, ht]
          dsimp only
          grind
        · rw [nb_snoc]
          exact turn_det det
        · have hh := half (show 0 < u by omega) c1 w2
          rw [Int.mul_comm u (v - cc * u), List.length_append, List.length_singleton, Int.pow_succ, Int.mul_assoc]
          rw [Int.mul_comm u v] at len
          refine Int.le_trans (Int.mul_le_mul_of_nonneg_left hh (Int.le_of_lt (Int.pow_pos (by decide)))) len
        · have : 0 ≤ cc * u := Int.mul_nonneg c0 (by omega)
          omega
        · have : 1 * u ≤ cc * u := Int.mul_le_mul_of_nonneg_right c1 (by omega)
          omega
    · have he : u = v := by
        by_cases z : u = v
        · exact z
        · rw [decide_eq_false z] at e; cases e
      subst he
      have hu : u = 1 := by
        rw [Int.gcd_self] at g
        omega
      subst hu
      rw [Int.mul_one, Int.mul_one] at ep eq
      exact k rs ⟨kd, al, ep.symm, eq.symm, det, l8⟩
end Slw
namespace Slw
open PySem J
/-! runs read from the right: the direction that they lead to; and the runs that a direction asks for -/
def E : List (Str × Int) → Int × Int
  | [] => (1, 1)
  | x :: r => if x.1 = ("flat" : Str) then ((E r).1 + x.2 * (E r).2, (E r).2) else ((E r).1, (E r).2 + x.2 * (E r).1)
theorem E_cons (x : Str × Int) (r : List (Str × Int)) : E (x :: r) = if x.1 = ("flat" : Str) then ((E r).1 + x.2 * (E r).2, (E r).2) else ((E r).1, (E r).2 + x.2 * (E r).1) := rfl
theorem E_pos : ∀ {rs : List (Str × Int)}, (∀ x ∈ rs, 0 ≤ x.2) → 1 ≤ (E rs).1 ∧ 1 ≤ (E rs).2
  | [], _ => ⟨by decide, by decide⟩
  | x :: r, h => by
    obtain ⟨h1, h2⟩ := E_pos (rs := r) fun y hy => h y (List.mem_cons_of_mem _ hy)
    have h0 := h x List.mem_cons_self
    have m1 := Int.mul_nonneg h0 (show (0 : Int) ≤ (E r).1 by omega)
    have m2 := Int.mul_nonneg h0 (show (0 : Int) ≤ (E r).2 by omega)
    rw [E_cons]
    split
    · exact ⟨by dsimp only; omega, h2⟩
    · exact ⟨h1, by dsimp only; omega⟩
theorem nb_E : ∀ (rs : List (Str × Int)) (s : Q4), (nb s rs).1 + (nb s rs).2.2.1 = s.1 * (E rs).1 + s.2.2.1 * (E rs).2 ∧ (nb s rs).2.1 + (nb s rs).2.2.2 = s.2.1 * (E rs).1 + s.2.2.2 * (E rs).2
  | [], s => by
    show s.1 + s.2.2.1 = s.1 * 1 + s.2.2.1 * 1 ∧ s.2.1 + s.2.2.2 = s.2.1 * 1 + s.2.2.2 * 1
    omega
  | x :: r, s => by
    have ih := nb_E r (turn s x)
    have e : nb s (x :: r) = nb (turn s x) r := rfl
    rw [e, ih.1, ih.2, E_cons]
    unfold turn
    generalize (E r).1 = u
    generalize (E r).2 = v
    by_cases c : x.1 = ("flat" : Str)
    · rw [if_pos c, if_pos c]
      dsimp only
      clear ih e
      constructor <;> grind
    · rw [if_neg c, if_neg c]
      dsimp only
      clear ih e
      constructor <;> grind
theorem nb_E1 (rs : List (Str × Int)) : (nb s1001 rs).1 + (nb s1001 rs).2.2.1 = (E rs).1 ∧ (nb s1001 rs).2.1 + (nb s1001 rs).2.2.2 = (E rs).2 := by
  have h := nb_E rs s1001
  have e : s1001 = ((1 : Int), (0 : Int), (0 : Int), (1 : Int)) := rfl
  rw [h.1, h.2, e]
  dsimp only
  omega
def F (u v : Int) : List (Str × Int) :=
  if h : 1 ≤ u ∧ 1 ≤ v ∧ v < u then (("flat" : Str), (u - 1) / v) :: F (u - (u - 1) / v * v) v
  else if h : 1 ≤ u ∧ 1 ≤ v ∧ u < v then (("steep" : Str), (v - 1) / u) :: F u (v - (v - 1) / u * u)
  else []
termination_by (u + v).toNat
decreasing_by
  · obtain ⟨c1, w1, w2, c0⟩ := quot_one (show 0 < v by omega) h.2.2
    have : 1 * v ≤ (u - 1) / v * v := Int.mul_le_mul_of_nonneg_right c1 (by omega)
    omega
  · obtain ⟨c1, w1, w2, c0⟩ := quot_one (show 0 < u by omega) h.2.2
    have : 1 * u ≤ (v - 1) / u * u := Int.mul_le_mul_of_nonneg_right c1 (by omega)
    omega
theorem F_flat {u v : Int} (hu : 1 ≤ u) (hv : 1 ≤ v) (h : v < u) : F u v = (("flat" : Str), (u - 1) / v) :: F (u - (u - 1) / v * v) v := by
  rw [F]
  exact dif_pos ⟨hu, hv, h⟩
theorem F_steep {u v : Int} (hu : 1 ≤ u) (hv : 1 ≤ v) (h : u < v) : F u v = (("steep" : Str), (v - 1) / u) :: F u (v - (v - 1) / u * u) := by
  rw [F]
  rw [dif_neg (by omega)]
  exact dif_pos ⟨hu, hv, h⟩
theorem F_self (u : Int) : F u u = [] := by
  rw [F]
  rw [dif_neg (by omega), dif_neg (by omega)]
theorem Kinds.tail {x : Str × Int} {r : List (Str × Int)} (h : Kinds (x :: r)) : Kinds r := fun y hy => h y (List.mem_cons_of_mem _ hy)
theorem Kinds.nn {r : List (Str × Int)} (h : Kinds r) : ∀ x ∈ r, 0 ≤ x.2 := fun x hx => by have := (h x hx).2; omega
theorem Alt.tail {x : Str × Int} {r : List (Str × Int)} (h : Alt (x :: r)) : Alt r := fun i u v hu hv => h (i + 1) u v (by rw [List.getElem?_cons_succ]; exact hu) (by rw [List.getElem?_cons_succ]; exact hv)
theorem Alt.head {x y : Str × Int} {r : List (Str × Int)} (h : Alt (x :: y :: r)) : x.1 ≠ y.1 := h 0 x y rfl rfl
theorem div_of {u v c : Int} (hv : 1 ≤ v) (hu : 1 ≤ u) (h : u ≤ v) : (u + c * v - 1) / v = c := by
  have e : u + c * v - 1 = (u - 1) + c * v := by omega
  rw [e, Int.add_mul_ediv_right _ _ (by omega), Int.ediv_eq_zero_of_lt (by omega) (by omega)]
  omega
theorem FE : ∀ {rs : List (Str × Int)}, Kinds rs → Alt rs → F (E rs).1 (E rs).2 = rs
  | [], _, _ => F_self 1
  | x :: r, hk, ha => by
    have ih := FE (rs := r) hk.tail ha.tail
    obtain ⟨h1, h2⟩ := E_pos (rs := r) hk.tail.nn
    obtain ⟨kx, cx⟩ := hk x List.mem_cons_self
    have m1 : 1 * (E r).1 ≤ x.2 * (E r).1 := Int.mul_le_mul_of_nonneg_right cx (by omega)
    have m2 : 1 * (E r).2 ≤ x.2 * (E r).2 := Int.mul_le_mul_of_nonneg_right cx (by omega)
    by_cases e : x.1 = ("flat" : Str)
    · have he : E (x :: r) = ((E r).1 + x.2 * (E r).2, (E r).2) := by
        rw [E_cons]
        exact if_pos e
      have hle : (E r).1 ≤ (E r).2 := by
        cases r with
        | nil => exact Int.le_refl 1
        | cons y t =>
          have hy : y.1 ≠ ("flat" : Str) := fun z => ha.head (by rw [e, z])
          have h3 := E_pos (rs := t) hk.tail.tail.nn
          have cy := (hk.tail y List.mem_cons_self).2
          have m3 : 1 * (E t).1 ≤ y.2 * (E t).1 := Int.mul_le_mul_of_nonneg_right cy (by omega)
          have hey : E (y :: t) = ((E t).1, (E t).2 + y.2 * (E t).1) := by
            rw [E_cons]
            exact if_neg hy
          rw [hey]
          dsimp only
          omega
      rw [he]
      dsimp only
      rw [F_flat (by omega) h2 (by omega), div_of h2 h1 hle, show (E r).1 + x.2 * (E r).2 - x.2 * (E r).2 = (E r).1 by omega, ih, ← e]
    · have e2 : x.1 = ("steep" : Str) := by
        rcases kx with z | z
        · exact absurd z e
        · exact z
      have he : E (x :: r) = ((E r).1, (E r).2 + x.2 * (E r).1) := by
        rw [E_cons]
        exact if_neg e
      have hle : (E r).2 ≤ (E r).1 := by
        cases r with
        | nil => exact Int.le_refl 1
        | cons y t =>
          have hy : y.1 = ("flat" : Str) := by
            rcases (hk.tail y List.mem_cons_self).1 with z | z
            · exact z
            · exact absurd (by rw [e2, z]) ha.head
          have h3 := E_pos (rs := t) hk.tail.tail.nn
          have cy := (hk.tail y List.mem_cons_self).2
          have m3 : 1 * (E t).2 ≤ y.2 * (E t).2 := Int.mul_le_mul_of_nonneg_right cy (by omega)
          have hey : E (y :: t) = ((E t).1 + y.2 * (E t).2, (E t).2) := by
            rw [E_cons]
            exact if_pos hy
          rw [hey]
          dsimp only
          omega
      rw [he]
      dsimp only
      rw [F_steep h1 (by omega) (by omega), div_of h1 h2 hle, show (E r).2 + x.2 * (E r).1 - x.2 * (E r).1 = (E r).2 by omega, ih, ← e2]
theorem StepsOf.eqF {p q : Int} {rs : List (Str × Int)} (h : StepsOf p q rs) : rs = F p q := by
  have e := nb_E1 rs
  rw [h.p_eq, h.q_eq] at e
  rw [e.1, e.2, FE h.kinds h.alt]
def sw (x : Str × Int) : Str × Int := if x.1 = ("flat" : Str) then (("steep" : Str), x.2) else (("flat" : Str), x.2)
theorem E_sw : ∀ rs : List (Str × Int), (E (rs.map sw)) = ((E rs).2, (E rs).1)
  | [] => rfl
  | x :: r => by
    have ih := E_sw r
    rw [List.map_cons, E_cons, E_cons, ih]
    unfold sw
    by_cases e : x.1 = ("flat" : Str)
    · rw [if_pos e, if_pos e]
      dsimp only
      rw [if_neg sf_ne]
    · rw [if_neg e, if_neg e]
      dsimp only
      rw [if_pos rfl]
theorem Kinds.sw {rs : List (Str × Int)} (h : Kinds rs) : Kinds (rs.map sw) := fun y hy => by
  obtain ⟨x, hx, rfl⟩ := List.mem_map.mp hy
  have := h x hx
  unfold Slw.sw
  split
  · exact ⟨.inr rfl, this.2⟩
  · exact ⟨.inl rfl, this.2⟩
theorem Alt.sw {rs : List (Str × Int)} (k : Kinds rs) (h : Alt rs) : Alt (rs.map sw) := fun i u v hu hv => by
  rw [List.getElem?_map] at hu hv
  obtain ⟨x, hx, rfl⟩ := Option.map_eq_some_iff.mp hu
  obtain ⟨y, hy, rfl⟩ := Option.map_eq_some_iff.mp hv
  have hne := h i x y hx hy
  have kx := (k x (List.mem_of_getElem? hx)).1
  have ky := (k y (List.mem_of_getElem? hy)).1
  unfold Slw.sw
  rcases kx with a | a <;> rcases ky with b | b
  · exact absurd (by rw [a, b]) hne
  · rw [if_pos a, if_neg (by rw [b]; exact sf_ne)]
    exact sf_ne
  · rw [if_neg (by rw [a]; exact sf_ne), if_pos b]
    exact fs_ne
  · exact absurd (by rw [a, b]) hne
theorem StepsOf.swap {p q : Int} {rs : List (Str × Int)} (h : StepsOf p q rs) : F q p = rs.map sw := by
  have e := nb_E1 rs
  rw [h.p_eq, h.q_eq] at e
  have z := FE h.kinds.sw (h.alt.sw h.kinds)
  rw [E_sw] at z
  dsimp only at z
  rw [← e.1, ← e.2] at z
  exact z
end Slw
namespace Slw
open PySem J
theorem Alt.cons {x : Str × Int} {r : List (Str × Int)} (h : Alt r) (hx : ∀ y, r.head? = some y → x.1 ≠ y.1) : Alt (x :: r) := fun i u v hu hv => by
  cases i with
  | zero =>
    have e : x = u := Option.some.inj hu
    subst e
    rw [List.getElem?_cons_succ] at hv
    refine hx v ?_
    rw [List.head?_eq_getElem?]
    exact hv
  | succ j =>
    rw [List.getElem?_cons_succ] at hu hv
    exact h j u v hu hv
theorem F_spec : ∀ (n : Nat) (u v : Int), (u + v).toNat ≤ n → 1 ≤ u → 1 ≤ v → Int.gcd u v = 1 →
    Kinds (F u v) ∧ Alt (F u v) ∧ E (F u v) = (u, v) ∧ (∀ x, (F u v).head? = some x → (x.1 = ("flat" : Str) ∧ v < u) ∨ (x.1 = ("steep" : Str) ∧ u < v))
  | 0, u, v, hn, hu, hv, _ => by omega
  | n + 1, u, v, hn, hu, hv, hg => by
    by_cases h : v < u
    · obtain ⟨c1, w1, w2, c0⟩ := quot_one (show 0 < v by omega) h
      have hm : 1 * v ≤ (u - 1) / v * v := Int.mul_le_mul_of_nonneg_right c1 (by omega)
      rw [F_flat hu hv h]
      generalize (u - 1) / v = c at c1 w1 w2 c0 hm ⊢
      have hg2 : Int.gcd (u - c * v) v = 1 := by rw [Int.gcd_sub_mul_right_left]; exact hg
      obtain ⟨k, a, e, hd⟩ := F_spec n (u - c * v) v (by omega) w1 hv hg2
      refine ⟨fun x hx => ?_, a.cons fun y hy => ?_, ?_, fun x hx => ?_⟩
      · rcases List.mem_cons.mp hx with z | z
        · rw [z]; exact ⟨.inl rfl, c1⟩
        · exact k x z
      · rcases hd y hy with ⟨_, z⟩ | ⟨z, _⟩
        · omega
        · rw [z]; exact fs_ne
      · rw [E_cons, if_pos rfl, e]
        exact Prod.ext (by dsimp only; omega) rfl
      · rw [← (Option.some.inj hx : _ = x)]
        exact .inl ⟨rfl, h⟩
    · by_cases h2 : u < v
      · obtain ⟨c1, w1, w2, c0⟩ := quot_one (show 0 < u by omega) h2
        have hm : 1 * u ≤ (v - 1) / u * u := Int.mul_le_mul_of_nonneg_right c1 (by omega)
        rw [F_steep hu hv h2]
        generalize (v - 1) / u = c at c1 w1 w2 c0 hm ⊢
        have hg2 : Int.gcd u (v - c * u) = 1 := by rw [Int.gcd_sub_mul_right_right]; exact hg
        obtain ⟨k, a, e, hd⟩ := F_spec n u (v - c * u) (by omega) hu w1 hg2
        refine ⟨fun x hx => ?_, a.cons fun y hy => ?_, ?_, fun x hx => ?_⟩
        · rcases List.mem_cons.mp hx with z | z
          · rw [z]; exact ⟨.inr rfl, c1⟩
          · exact k x z
        · rcases hd y hy with ⟨z, _⟩ | ⟨_, z⟩
          · rw [z]; exact sf_ne
          · omega
        · rw [E_cons, if_neg sf_ne, e]
          exact Prod.ext rfl (by dsimp only; omega)
        · rw [← (Option.some.inj hx : _ = x)]
          exact .inr ⟨rfl, h2⟩
      · have e : u = v := by omega
        subst e
        have hu1 : u = 1 := by
          rw [Int.gcd_self] at hg
          omega
        subst hu1
        rw [F_self]
        exact ⟨(fun x hx => by cases hx), (fun i x y hx => by cases hx), rfl, (fun x hx => by cases hx)⟩
theorem nb_det : ∀ (rs : List (Str × Int)) (s : Q4), s.1 * s.2.2.2 - s.2.1 * s.2.2.1 = 1 → (nb s rs).1 * (nb s rs).2.2.2 - (nb s rs).2.1 * (nb s rs).2.2.1 = 1
  | [], _, h => h
  | x :: r, s, h => nb_det r (turn s x) (turn_det h)
theorem gcd_det {a b c d : Int} (h : a * d - b * c = 1) : Int.gcd (a + c) (b + d) = 1 := by
  have e : a * (b + d) - b * (a + c) = 1 := by grind
  have d1 : ((Int.gcd (a + c) (b + d) : Nat) : Int) ∣ a * (b + d) - b * (a + c) := Int.dvd_sub (Int.dvd_mul_of_dvd_right (Int.gcd_dvd_right ..)) (Int.dvd_mul_of_dvd_right (Int.gcd_dvd_left ..))
  rw [e] at d1
  have := Int.le_of_dvd (by decide) d1
  have z : Int.gcd (a + c) (b + d) ≠ 0 := fun z => by
    have := Int.gcd_eq_zero_iff.mp z
    rw [this.1, this.2] at e
    simp at e
  omega
theorem Alt.init {rs : List (Str × Int)} {y : Str × Int} (h : Alt (rs ++ [y])) : Alt rs ∧ ∀ x, rs.getLast? = some x → x.1 ≠ y.1 := by
  refine ⟨fun i u v hu hv => ?_, fun x hx => ?_⟩
  · have l1 := (List.getElem?_eq_some_iff.mp hu).1
    have l2 := (List.getElem?_eq_some_iff.mp hv).1
    exact h i u v (by rw [List.getElem?_append_left l1]; exact hu) (by rw [List.getElem?_append_left l2]; exact hv)
  · have hn : rs ≠ [] := fun z => by subst z; cases hx
    have hl : 0 < rs.length := List.length_pos_iff.mpr hn
    rw [List.getLast?_eq_getElem?] at hx
    refine h (rs.length - 1) x y (by rw [List.getElem?_append_left (by omega)]; exact hx) ?_
    rw [show rs.length - 1 + 1 = rs.length by omega, List.getElem?_append_right (Nat.le_refl _), Nat.sub_self]
    rfl
theorem turn_f {s : Q4} {x : Str × Int} (c : x.1 = ("flat" : Str)) : turn s x = (s.1, s.2.1, s.2.2.1 + x.2 * s.1, s.2.2.2 + x.2 * s.2.1) := if_pos c
theorem turn_s {s : Q4} {x : Str × Int} (c : ¬ x.1 = ("flat" : Str)) : turn s x = (s.1 + x.2 * s.2.2.1, s.2.1 + x.2 * s.2.2.2, s.2.2.1, s.2.2.2) := if_neg c
theorem turn_two {s : Q4} {x y : Str × Int} (h : y.1 = x.1) : turn s (x.1, y.2 + x.2) = turn (turn s y) x := by
  by_cases c : x.1 = ("flat" : Str)
  · have c2 : y.1 = ("flat" : Str) := by rw [h]; exact c
    rw [turn_f (x := (x.1, y.2 + x.2)) c, turn_f (x := x) c, turn_f (x := y) c2]
    refine Prod.ext rfl (Prod.ext rfl (Prod.ext ?_ ?_)) <;> dsimp only <;> grind
  · have c2 : ¬ y.1 = ("flat" : Str) := by rw [h]; exact c
    rw [turn_s (x := (x.1, y.2 + x.2)) c, turn_s (x := x) c, turn_s (x := y) c2]
    refine Prod.ext ?_ (Prod.ext ?_ rfl) <;> dsimp only <;> grind
/-- one more step: the level is one more -/
theorem one_more {rs : List (Str × Int)} (hk : Kinds rs) (ha : Alt rs) {z : Str × Int} (kz : (z.1 = ("flat" : Str) ∨ z.1 = ("steep" : Str)) ∧ z.2 = 1) :
    ∃ ts, Kinds ts ∧ Alt ts ∧ nb s1001 ts = turn (nb s1001 rs) z ∧ (ts.map (·.2)).sum = (rs.map (·.2)).sum + 1 := by
  by_cases h : ∃ t y, rs = t ++ [y] ∧ y.1 = z.1
  · obtain ⟨t, y, rfl, e⟩ := h
    obtain ⟨a1, a2⟩ := ha.init
    have ky := hk y (List.mem_append.mpr (.inr (List.mem_singleton.mpr rfl)))
    refine ⟨t ++ [(z.1, y.2 + z.2)], Kinds.snoc (fun x hx => hk x (List.mem_append.mpr (.inl hx))) ⟨kz.1, by have := ky.2; have := kz.2; dsimp only; omega⟩, a1.snoc fun x hx => by
      have := a2 x hx
      rw [e] at this
      exact this, ?_, ?_⟩
    · rw [nb_snoc, nb_snoc, turn_two e]
    · rw [List.map_append, List.map_append, List.sum_append, List.sum_append]
      simp
      have := kz.2
      omega
  · refine ⟨rs ++ [z], hk.snoc ⟨kz.1, by have := kz.2; omega⟩, ha.snoc fun x hx e => ?_, nb_snoc _ _ _, ?_⟩
    · have hn : rs ≠ [] := fun z => by subst z; cases hx
      refine h ⟨rs.dropLast, x, ?_, e⟩
      have : rs.getLast hn = x := by
        rw [List.getLast?_eq_some_getLast hn] at hx
        exact Option.some.inj hx
      rw [← this]
      exact (List.dropLast_concat_getLast hn).symm
    · rw [List.map_append, List.sum_append]
      simp
      have := kz.2
      omega
end Slw
namespace Slw
open PySem J
theorem rangeI_nat (n : Nat) : rangeI 0 (n : Int) = (List.range' 0 n).map fun (j : Nat) => (j : Int) := by
  unfold rangeI
  rw [List.range_eq_range', show ((n : Int) - 0).toNat = n by omega]
  refine List.map_congr_left fun j _ => ?_
  omega
theorem rangeI_len (n : Nat) : (rangeI 0 (n : Int)).length = n := by
  rw [rangeI_nat, List.length_map, List.length_range']
theorem mem_rangeI {n : Nat} {x : Int} : x ∈ rangeI 0 (n : Int) ↔ 0 ≤ x ∧ x < n := by
  rw [rangeI_nat, List.mem_map]
  constructor
  · rintro ⟨j, hj, rfl⟩
    have := (List.mem_range'_1.mp hj).2
    omega
  · intro ⟨h1, h2⟩
    exact ⟨x.toNat, List.mem_range'_1.mpr ⟨by omega, by omega⟩, by omega⟩
theorem rangeI_nodup (n : Nat) : (rangeI 0 (n : Int)).Nodup := by
  rw [rangeI_nat]
  exact List.Pairwise.map (R := (· ≠ ·)) _ (fun a b h z => h (by omega)) (List.nodup_range' (step := 1) (by decide))
theorem rangeI_get {n i : Nat} (h : i < (rangeI 0 (n : Int)).length) : (rangeI 0 (n : Int))[i] = (i : Int) := by
  simp [rangeI]
theorem wFor_range {σ : Type} {b : Int → σ → (σ → Prop) → (σ → Prop) → Prop} {k : σ → Prop} (n : Nat) (I : Nat → σ → Prop) (hs : ∀ i s (N : σ → Prop), i < n → I i s → (∀ s', I (i + 1) s' → N s') → b (i : Int) s N k) (hk : ∀ s, I n s → k s) (s0 : σ) (h0 : I 0 s0) : wFor b k (rangeI 0 (n : Int)) s0 := by
  rw [rangeI_nat]
  refine wFor_ok (fun r s => ∃ i, i ≤ n ∧ r = (List.range' i (n - i)).map (fun (j : Nat) => (j : Int)) ∧ I i s) ?_ ?_ _ _ ⟨0, Nat.zero_le _, by rw [Nat.sub_zero], h0⟩
  · rintro x r s N ⟨i, hi, e, hI⟩ hN
    cases hm : n - i with
    | zero =>
      rw [hm] at e
      simp at e
    | succ m =>
      rw [hm, List.range'_succ, List.map_cons] at e
      injection e with e1 e2
      subst e1
      refine hs i s N (by omega) hI fun s' h' => hN s' ⟨i + 1, by omega, ?_, h'⟩
      rw [e2, show n - (i + 1) = m by omega]
  · rintro s ⟨i, hi, e, hI⟩
    have : n - i = 0 := by
      cases hm : n - i with
      | zero => rfl
      | succ m =>
        rw [hm, List.range'_succ] at e
        simp at e
    have : i = n := by omega
    subst this
    exact hk s hI
theorem wFor_ix {α σ : Type} {b : α → σ → (σ → Prop) → (σ → Prop) → Prop} {k : σ → Prop} (l : List α) (I : Nat → σ → Prop) (hs : ∀ i (h : i < l.length) s (N : σ → Prop), I i s → (∀ s', I (i + 1) s' → N s') → b l[i] s N k) (hk : ∀ s, I l.length s → k s) (s0 : σ) (h0 : I 0 s0) : wFor b k l s0 := by
  refine wFor_ok (fun r s => ∃ i, i ≤ l.length ∧ r = l.drop i ∧ I i s) ?_ ?_ _ _ ⟨0, Nat.zero_le _, by rw [List.drop_zero], h0⟩
  · rintro x r s N ⟨i, hi, e, hI⟩ hN
    have hlt : i < l.length := by
      apply Classical.byContradiction
      intro q
      rw [List.drop_of_length_le (by omega)] at e
      cases e
    rw [List.drop_eq_getElem_cons hlt] at e
    injection e with e1 e2
    subst e1
    exact hs i hlt s N hI fun s' h' => hN s' ⟨i + 1, hlt, e2, h'⟩
  · rintro s ⟨i, hi, e, hI⟩
    have : i = l.length := by
      apply Classical.byContradiction
      intro q
      rw [List.drop_eq_getElem_cons (by omega)] at e
      cases e
    subst this
    exact hk s hI
/-- items by place -/
theorem ixI_nat {α : Type} {xs : List α} {i : Nat} (h : i < xs.length) : ixI xs (i : Int) = some xs[i] := by
  unfold ixI
  rw [if_pos (by omega), show ((i : Nat) : Int).toNat = i by omega]
  exact List.getElem?_eq_getElem h
theorem ixI_at {α : Type} {xs : List α} {i : Int} (h0 : 0 ≤ i) (h : i.toNat < xs.length) : ixI xs i = some xs[i.toNat] := by
  unfold ixI
  rw [if_pos h0]
  exact List.getElem?_eq_getElem h
theorem ixW_nat {n i : Nat} (h : i < n) : ixW n (i : Int) = some i := by
  unfold ixW
  rw [if_pos ⟨by omega, by omega⟩]
  congr 1
theorem ixW_at {n : Nat} {i : Int} (h0 : 0 ≤ i) (h : i < n) : ixW n i = some i.toNat := by
  unfold ixW
  rw [if_pos ⟨h0, h⟩]
end Slw
namespace Slw
open PySem J
theorem pow18 : ((10 : Int) ^ (18 : Int).toNat) = 1000000000000000000 := by decide
theorem small_mul {x y : Int} (h : x.natAbs < 2 ^ 64) : JMul x y := .inl ⟨by omega, by omega⟩
/-- drawn digits -/
theorem row_ok {c : Int} {n : Nat} {P : List Int → Prop} (hn : n ≤ 100000) (q : ∀ xs, xs.length = n → (∀ x ∈ xs, 0 ≤ x ∧ x < 64) → P xs) : w_law_row c n P := by
  unfold w_law_row
  refine wLet_to (wLet_to ⟨by omega, ?_⟩)
  refine wFor_range n (fun i s => s.2.length = i ∧ ∀ x ∈ s.2, 0 ≤ x ∧ x < 64) ?_ (fun s h => q _ h.1 h.2) _ ⟨rfl, fun x hx => by cases hx⟩
  rintro i ⟨r, xs⟩ N hi ⟨hl, hx⟩ hN
  dsimp only at hl hx ⊢
  have app : ∀ y, 0 ≤ y → y < 64 → ∀ r', N (r', xs ++ [y]) := fun y y0 y1 r' => hN _ ⟨by rw [List.length_append, hl]; rfl, fun x h => by
    rcases List.mem_append.mp h with h | h
    · exact hx x h
    · cases List.mem_singleton.mp h
      exact ⟨y0, y1⟩⟩
  refine ⟨fun _ => ⟨by omega, wLet_to (wLet_to (app _ (Int.emod_nonneg _ (by decide)) (Int.emod_lt_of_pos _ (by decide)) _))⟩, fun _ => wLet_ok fun m hm => ⟨small_mul ?_, wLet_to ⟨by omega, wLet_to (app _ (Int.emod_nonneg _ (by decide)) (Int.emod_lt_of_pos _ (by decide)) _)⟩⟩⟩
  have h1 := Int.emod_nonneg (c * 48271 + ((i : Int) + 1) * 69621) (show (2147483647 : Int) ≠ 0 by decide)
  have h2 := Int.emod_lt_of_pos (c * 48271 + ((i : Int) + 1) * 69621) (show (0 : Int) < 2147483647 by decide)
  omega
theorem perm_pop {l r : List Int} {t : List Int} {k : Nat} {x : Int} (hp : (l ++ r).Perm t) (hx : r[k]? = some x) : ((l ++ [x]) ++ r.eraseIdx k).Perm t := by
  have hk : k < r.length := (List.getElem?_eq_some_iff.mp hx).1
  have e : r = r.take k ++ x :: r.drop (k + 1) := by
    have := List.take_append_drop k r
    rw [List.drop_eq_getElem_cons hk] at this
    rw [List.getElem?_eq_getElem hk] at hx
    have hx' := Option.some.inj hx
    rw [hx'] at this
    exact this.symm
  refine List.Perm.trans ?_ hp
  rw [List.eraseIdx_eq_take_drop_succ, List.append_assoc, List.singleton_append]
  refine List.Perm.append_left l ?_
  have := List.perm_middle (a := x) (l₁ := r.take k) (l₂ := r.drop (k + 1))
  exact this.symm.trans (by rw [← e])
/-- a drawn order -/
theorem order_ok {c : Int} {n : Nat} {P : List Int → Prop} (hn : n ≤ 100000) (q : ∀ xs, xs.Perm (rangeI 0 n) → P xs) : w_law_order c n P := by
  unfold w_law_order
  refine ⟨by omega, wLet_to (wLet_to (row_ok hn fun ds hd _ => wLet_to ?_))⟩
  refine wFor_ok (fun r (s : List Int × List Int) => (s.1 ++ s.2).Perm (rangeI 0 n) ∧ s.2.length = r.length) ?_ ?_ _ _ ⟨by rw [List.nil_append], by rw [rangeI_len, hd]⟩
  · rintro d r ⟨o, pool⟩ N ⟨hp, hl⟩ hN
    dsimp only at hp hl ⊢
    have hpos : 0 < (pool.length : Int) := by rw [hl, List.length_cons]; omega
    have m0 := Int.emod_nonneg d (show (pool.length : Int) ≠ 0 by omega)
    have m1 := Int.emod_lt_of_pos d hpos
    have hk : (d % (pool.length : Int)).toNat < pool.length := by omega
    have tot := hp.length_eq
    rw [List.length_append, rangeI_len] at tot
    refine ⟨hpos, ⟨m0, m1⟩, by omega, by omega, pool[(d % (pool.length : Int)).toNat], List.getElem?_eq_getElem hk, wLet_to (hN _ ⟨perm_pop hp (List.getElem?_eq_getElem hk), ?_⟩)⟩
    rw [List.length_eraseIdx, if_pos hk, hl, List.length_cons]
    rfl
  · rintro ⟨o, pool⟩ ⟨hp, hl⟩
    have e : pool = [] := List.length_eq_zero_iff.mp hl
    subst e
    dsimp only at hp ⊢
    rw [List.append_nil] at hp
    exact q _ hp
end Slw
namespace Slw
open PySem J
theorem take_succ_eq {a e : List Int} {i : Nat} (ha : i < a.length) (he : i < e.length) (h : a.take i = e.take i) (x : a[i] = e[i]) : a.take (i + 1) = e.take (i + 1) := by
  rw [List.take_succ_eq_append_getElem ha, List.take_succ_eq_append_getElem he, h, x]
/-- a tuple against a list -/
theorem isrow_ok {a e : List Int} {P : Bool → Prop} (hl : e.length ≤ 1000000) (w : P (decide (a = e))) : w_law_is_row_l a e P := by
  unfold w_law_is_row_l
  refine ⟨fun _ => ⟨fun z => ?_, fun z => ⟨by omega, ?_⟩⟩, fun z => by cases z⟩
  · have ne : a ≠ e := fun q => by
      subst q
      simp at z
    rw [decide_eq_false ne] at w
    exact w
  · have el : a.length = e.length := by
      have z' : (a.length : Int) = e.length := by simpa using z
      omega
    refine wFor_range e.length (fun i _ => a.take i = e.take i) ?_ (fun _ h => ?_) () (by simp)
    · rintro i ⟨⟩ N hi h hN
      have hi2 : i < a.length := by omega
      refine ⟨a[i], ixI_nat hi2, ⟨fun _ => ⟨fun _ => ⟨a[i], ixI_nat hi2, e[i], ixI_nat hi, fun z => ?_, fun z => ?_⟩, fun z => by cases z⟩, fun z => by cases z⟩⟩
      · have ne : a ≠ e := fun q => by
          subst q
          simp at z
        rw [decide_eq_false ne] at w
        exact w
      · have ex : a[i] = e[i] := by simpa using z
        exact hN () (take_succ_eq hi2 hi h ex)
    · rw [List.take_of_length_le (by omega), List.take_of_length_le (by omega)] at h
      rw [decide_eq_true h] at w
      exact w
end Slw
namespace Slw
open PySem J
/-- the item at a place -/
def gI (xs : List Int) (i : Int) : Int := xs.getD i.toNat 0
theorem gI_ix {xs : List Int} {i : Int} (h0 : 0 ≤ i) (h : i < xs.length) : ixI xs i = some (gI xs i) := by
  rw [ixI_at h0 (by omega)]
  unfold gI
  rw [List.getD_eq_getElem?_getD, List.getElem?_eq_getElem (by omega)]
  rfl
theorem gI_mem {xs : List Int} {i : Int} (h0 : 0 ≤ i) (h : i < xs.length) : gI xs i ∈ xs := by
  unfold gI
  rw [List.getD_eq_getElem?_getD, List.getElem?_eq_getElem (by omega)]
  exact List.getElem_mem _
theorem gI_nat {xs : List Int} {i : Nat} (h : i < xs.length) : gI xs i = xs[i] := by
  unfold gI
  rw [List.getD_eq_getElem?_getD, show ((i : Nat) : Int).toNat = i by omega, List.getElem?_eq_getElem h]
  rfl
theorem orJ_nn (x y : Int) : 0 ≤ orJ x y := by
  unfold orJ
  omega
end Slw
namespace Slw
open PySem J
abbrev Tb := List Int × List Int
/-- a table of size n -/
structure IsT (n : Nat) (t : Tb) : Prop where
  l1 : t.1.length = n
  l2 : t.2.length = n
  e : ∀ x ∈ t.1, 0 ≤ x ∧ x < n
  m : ∀ x ∈ t.2, 0 ≤ x
def joinT (a b : Tb) : Tb := (a.1.map fun t => gI b.1 t, (List.zip a.1 a.2).map fun x => orJ x.2 (gI b.2 x.1))
theorem IsT.join {n : Nat} {a b : Tb} (ha : IsT n a) (hb : IsT n b) : IsT n (joinT a b) where
  l1 := by
    show (a.1.map _).length = n
    rw [List.length_map, ha.l1]
  l2 := by
    show ((List.zip a.1 a.2).map _).length = n
    rw [List.length_map, List.length_zip, ha.l1, ha.l2, Nat.min_self]
  e := fun x hx => by
    obtain ⟨t, ht, rfl⟩ := List.mem_map.mp hx
    have := ha.e t ht
    exact hb.e _ (gI_mem this.1 (by rw [hb.l1]; exact this.2))
  m := fun x hx => by
    obtain ⟨t, ht, rfl⟩ := List.mem_map.mp hx
    exact orJ_nn _ _
theorem init_tab {a b : List Int} {P : Tb → Prop} (w : P (a, b)) : w_WalkTable___init__ a b P := wLet_to (wLet_to w)
theorem zip_mem {a b : List Int} {x : Int × Int} (h : x ∈ List.zip a b) : x.1 ∈ a ∧ x.2 ∈ b := List.of_mem_zip h
theorem mulT_ok {n : Nat} {a b : Tb} {P : Tb → Prop} (hn : n ≤ 1000) (ha : IsT n a) (hb : IsT n b) (w : P (joinT a b)) : w_WalkTable___mul__ a b P := by
  unfold w_WalkTable___mul__ w_WalkTable_size
  refine ⟨fun z => ?_, fun _ => ⟨by rw [ha.l1]; omega, ?_⟩⟩
  · rw [ha.l1, hb.l1] at z
    simp at z
  · refine wComp_ok (α := Int) (β := Int) (fun t => gI b.1 t) a.1 [] _ (fun t ht N hN => ?_) ?_
    · have := ha.e t ht
      exact ⟨_, gI_ix this.1 (by rw [hb.l1]; exact this.2), hN⟩
    · rw [List.nil_append]
      refine wLet_to ⟨by rw [List.length_zip, ha.l1]; omega, ?_⟩
      refine wComp_ok (α := Int × Int) (β := Int) (fun x => orJ x.2 (gI b.2 x.1)) (List.zip a.1 a.2) [] _ (fun x hx N hN => ?_) ?_
      · have hm := zip_mem hx
        have h1 := ha.e _ hm.1
        have h2 := ha.m _ hm.2
        have hm2 : x.1 < b.2.length := by rw [hb.l2]; exact h1.2
        exact ⟨_, gI_ix h1.1 hm2, ⟨h2, hb.m _ (gI_mem h1.1 hm2)⟩, hN⟩
      · rw [List.nil_append]
        exact wLet_to (init_tab w)
end Slw
namespace Slw
open PySem J
def restT (n : Nat) : Tb := (rangeI 0 n, List.replicate n 0)
theorem IsT.rest (n : Nat) : IsT n (restT n) where
  l1 := rangeI_len n
  l2 := List.length_replicate
  e := fun x hx => mem_rangeI.mp hx
  m := fun x hx => by
    rw [List.eq_of_mem_replicate hx]
    omega
theorem rep_one (n : Nat) : (List.replicate n [(0 : Int)]).flatten = List.replicate n 0 := by
  induction n with
  | zero => rfl
  | succ n ih => rw [List.replicate_succ, List.flatten_cons, ih]; rfl
theorem rest_ok {n : Nat} {P : Tb → Prop} (hn : n ≤ 1000) (w : P (restT n)) : w_WalkTable_resting n P := by
  unfold w_WalkTable_resting
  refine ⟨by omega, by show 1 ≤ 1000; omega, ⟨by omega, by omega, by show 1 * _ ≤ _; omega⟩, init_tab ?_⟩
  rw [show ((n : Int)).toNat = n by omega, rep_one]
  exact w
end Slw
namespace Slw
open PySem J
theorem orJ_assoc {x y z : Int} (hx : 0 ≤ x) (hy : 0 ≤ y) (hz : 0 ≤ z) : orJ (orJ x y) z = orJ x (orJ y z) := by
  unfold orJ
  rw [Int.toNat_natCast, Int.toNat_natCast, Nat.or_assoc]
theorem orJ_zl {x : Int} (h : 0 ≤ x) : orJ 0 x = x := by
  unfold orJ
  rw [show ((0 : Int)).toNat = 0 from rfl, Nat.zero_or]
  omega
theorem orJ_zr {x : Int} (h : 0 ≤ x) : orJ x 0 = x := by
  unfold orJ
  rw [show ((0 : Int)).toNat = 0 from rfl, Nat.or_zero]
  omega
theorem joinT_get1 {n : Nat} {a b : Tb} (ha : IsT n a) {i : Nat} (hi : i < n) : gI (joinT a b).1 i = gI b.1 (gI a.1 i) := by
  have h1 : i < a.1.length := by rw [ha.l1]; exact hi
  rw [gI_nat (show i < (joinT a b).1.length by show i < (a.1.map _).length; rw [List.length_map]; exact h1), gI_nat h1]
  show (a.1.map fun t => gI b.1 t)[i]'_ = _
  rw [List.getElem_map]
theorem joinT_get2 {n : Nat} {a b : Tb} (ha : IsT n a) {i : Nat} (hi : i < n) : gI (joinT a b).2 i = orJ (gI a.2 i) (gI b.2 (gI a.1 i)) := by
  have h1 : i < a.1.length := by rw [ha.l1]; exact hi
  have h2 : i < a.2.length := by rw [ha.l2]; exact hi
  rw [gI_nat (show i < (joinT a b).2.length by show i < ((List.zip a.1 a.2).map _).length; rw [List.length_map, List.length_zip]; omega), gI_nat h1, gI_nat h2]
  show ((List.zip a.1 a.2).map fun x => orJ x.2 (gI b.2 x.1))[i]'_ = _
  rw [List.getElem_map, List.getElem_zip]
theorem IsT.ext {n : Nat} {a b : Tb} (ha : IsT n a) (hb : IsT n b) (h1 : ∀ i : Nat, i < n → gI a.1 i = gI b.1 i) (h2 : ∀ i : Nat, i < n → gI a.2 i = gI b.2 i) : a = b := by
  refine Prod.ext (List.ext_getElem (by rw [ha.l1, hb.l1]) fun i i1 i2 => ?_) (List.ext_getElem (by rw [ha.l2, hb.l2]) fun i i1 i2 => ?_)
  · have := h1 i (by rw [← ha.l1]; exact i1)
    rw [gI_nat i1, gI_nat i2] at this
    exact this
  · have := h2 i (by rw [← ha.l2]; exact i1)
    rw [gI_nat i1, gI_nat i2] at this
    exact this
theorem IsT.end {n : Nat} {a : Tb} (ha : IsT n a) {i : Nat} (hi : i < n) : ∃ j : Nat, j < n ∧ gI a.1 i = j := by
  have h1 : i < a.1.length := by rw [ha.l1]; exact hi
  have := ha.e _ (gI_mem (i := (i : Int)) (by omega) (by omega))
  exact ⟨(gI a.1 i).toNat, by omega, by omega⟩
theorem IsT.mk0 {n : Nat} {a : Tb} (ha : IsT n a) {i : Nat} (hi : i < n) : 0 ≤ gI a.2 i := ha.m _ (gI_mem (by omega) (by rw [ha.l2]; omega))
theorem joinT_assoc {n : Nat} {a b c : Tb} (ha : IsT n a) (hb : IsT n b) (hc : IsT n c) : joinT (joinT a b) c = joinT a (joinT b c) := by
  refine ((ha.join hb).join hc).ext (ha.join (hb.join hc)) (fun i hi => ?_) fun i hi => ?_
  · obtain ⟨j, hj, ej⟩ := ha.end hi
    rw [joinT_get1 (ha.join hb) hi, joinT_get1 ha hi, joinT_get1 ha hi, ej, joinT_get1 hb hj]
  · obtain ⟨j, hj, ej⟩ := ha.end hi
    obtain ⟨m, hm, em⟩ := hb.end hj
    rw [joinT_get2 (ha.join hb) hi, joinT_get2 ha hi, joinT_get1 ha hi, joinT_get2 ha hi, ej, joinT_get2 hb hj, em]
    exact orJ_assoc (ha.mk0 hi) (hb.mk0 hj) (hc.mk0 hm)
theorem rest_get1 {n i : Nat} (hi : i < n) : gI (restT n).1 i = i := by
  have h : i < (rangeI 0 (n : Int)).length := by rw [rangeI_len]; exact hi
  show gI (rangeI 0 (n : Int)) i = i
  rw [gI_nat h, rangeI_get h]
theorem rest_get2 {n i : Nat} (hi : i < n) : gI (restT n).2 i = 0 := by
  have h : i < (List.replicate n (0 : Int)).length := by rw [List.length_replicate]; exact hi
  show gI (List.replicate n (0 : Int)) i = 0
  rw [gI_nat h, List.getElem_replicate]
theorem rest_join {n : Nat} {a : Tb} (ha : IsT n a) : joinT (restT n) a = a := by
  refine ((IsT.rest n).join ha).ext ha (fun i hi => ?_) fun i hi => ?_
  · rw [joinT_get1 (IsT.rest n) hi, rest_get1 hi]
  · rw [joinT_get2 (IsT.rest n) hi, rest_get1 hi, rest_get2 hi, orJ_zl (ha.mk0 hi)]
theorem join_rest {n : Nat} {a : Tb} (ha : IsT n a) : joinT a (restT n) = a := by
  refine (ha.join (IsT.rest n)).ext ha (fun i hi => ?_) fun i hi => ?_
  · obtain ⟨j, hj, ej⟩ := ha.end hi
    rw [joinT_get1 ha hi, ej, rest_get1 hj]
  · obtain ⟨j, hj, ej⟩ := ha.end hi
    rw [joinT_get2 ha hi, ej, rest_get2 hj, orJ_zr (ha.mk0 hi)]
theorem IsT.ofDraw {n : Nat} {e m : List Int} (he : e.Perm (rangeI 0 n)) (hl : m.length = n) (hm : ∀ x ∈ m, 0 ≤ x ∧ x < 2 ^ n) : IsT n (e, m) :=
  ⟨by rw [he.length_eq, rangeI_len], hl, fun x hx => mem_rangeI.mp (he.mem_iff.mp hx), fun x hx => (hm x hx).1⟩
theorem size_of {c m : Int} {lo : Int} (hm : 0 < m) (h0 : 0 ≤ lo) : ∃ n : Nat, lo + c % m = (n : Int) ∧ lo ≤ n ∧ (n : Int) < lo + m := by
  have h1 := Int.emod_nonneg c (show m ≠ 0 by omega)
  have h2 := Int.emod_lt_of_pos c hm
  exact ⟨(lo + c % m).toNat, by omega, by omega, by omega⟩
theorem mod_of {c : Int} {n : Nat} (hn : 0 < n) : ∃ i : Nat, c % (n : Int) = (i : Int) ∧ i < n := by
  have h1 := Int.emod_nonneg c (show (n : Int) ≠ 0 by omega)
  have h2 := Int.emod_lt_of_pos c (show (0 : Int) < n by omega)
  exact ⟨(c % (n : Int)).toNat, by omega, by omega⟩
end Slw
namespace Slw
open PySem J
/-- a table repeated -/
def pwT (n : Nat) (t : Tb) : Nat → Tb
  | 0 => restT n
  | k + 1 => joinT (pwT n t k) t
theorem IsT.pw {n : Nat} {t : Tb} (ht : IsT n t) : ∀ k, IsT n (pwT n t k)
  | 0 => IsT.rest n
  | k + 1 => (IsT.pw ht k).join ht
theorem pw_left {n : Nat} {t : Tb} (ht : IsT n t) : ∀ k, joinT t (pwT n t k) = pwT n t (k + 1)
  | 0 => by
    show joinT t (restT n) = joinT (restT n) t
    rw [join_rest ht, rest_join ht]
  | k + 1 => by
    show joinT t (joinT (pwT n t k) t) = joinT (pwT n t (k + 1)) t
    rw [← joinT_assoc ht (ht.pw k) ht, pw_left ht k]
theorem pw_sq {n : Nat} {t : Tb} (ht : IsT n t) : ∀ k, pwT n (joinT t t) k = pwT n t (2 * k)
  | 0 => rfl
  | k + 1 => by
    show joinT (pwT n (joinT t t) k) (joinT t t) = pwT n t (2 * k + 2)
    rw [pw_sq ht k, ← joinT_assoc (ht.pw _) ht ht]
    rfl
theorem repeated_ok {n : Nat} {t : Tb} {c : Nat} {P : Tb → Prop} (hn : n ≤ 1000) (ht : IsT n t) (w : P (pwT n t c)) : w_WalkTable_repeated t (c : Int) P := by
  unfold w_WalkTable_repeated w_WalkTable_size
  rw [ht.l1]
  refine rest_ok hn (wLet_to (wLet_to ⟨fun s => ∃ (d : Nat) (j p : Tb), s = ((d : Int), j, p) ∧ IsT n j ∧ IsT n p ∧ joinT j (pwT n p d) = pwT n t c, fun s => s.1.toNat, ⟨c, restT n, t, rfl, IsT.rest n, ht, rest_join (ht.pw c)⟩, ?_⟩))
  rintro _ ⟨d, j, p, rfl, hj, hp, e⟩
  dsimp only
  refine ⟨fun z => ?_, fun z => ?_⟩
  · have dpos : 0 < d := by simpa using z
    have hd : ((d : Int) / 2) = ((d / 2 : Nat) : Int) := by omega
    refine wJoin_ok (fun j' => IsT n j' ∧ joinT j' (pwT n (joinT p p) (d / 2)) = pwT n t c) ?_ fun J hJ => ⟨fun y => ?_, fun y => ?_⟩
    · rintro j' ⟨h1, h2⟩
      refine mulT_ok hn hp hp (wLet_to (wLet_to ⟨⟨d / 2, j', joinT p p, by rw [hd], h1, hp.join hp, h2⟩, ?_⟩))
      omega
    · have y' : (d : Int) % 2 = 1 := of_decide_eq_true y
      refine mulT_ok hn hj hp (wLet_to (hJ _ ⟨hj.join hp, ?_⟩))
      rw [pw_sq hp, joinT_assoc hj hp (hp.pw _), pw_left hp, show 2 * (d / 2) + 1 = d by omega]
      exact e
    · have y' : ¬ (d : Int) % 2 = 1 := of_decide_eq_false y
      refine hJ _ ⟨hj, ?_⟩
      rw [pw_sq hp, show 2 * (d / 2) = d by omega]
      exact e
  · have d0 : d = 0 := by
      have : ¬ (0 : Int) < d := of_decide_eq_false z
      omega
    subst d0
    have e' : joinT j (restT n) = pwT n t c := e
    rw [join_rest hj] at e'
    rw [e']
    exact w
end Slw
namespace Slw
open PySem J
/-! the tables of one round, put together along the steps -/
def tt (n : Nat) (s : Tb × Tb) (x : Str × Int) : Tb × Tb := if x.1 = ("flat" : Str) then (s.1, joinT (pwT n s.1 x.2.toNat) s.2) else (joinT s.1 (pwT n s.2 x.2.toNat), s.2)
def tts (n : Nat) (s : Tb × Tb) (rs : List (Str × Int)) : Tb × Tb := rs.foldl (tt n) s
structure T2 (n : Nat) (s : Tb × Tb) : Prop where
  a : IsT n s.1
  b : IsT n s.2
theorem T2.tt {n : Nat} {s : Tb × Tb} {x : Str × Int} (h : T2 n s) : T2 n (Slw.tt n s x) := by
  unfold Slw.tt
  split
  · exact ⟨h.a, (h.a.pw _).join h.b⟩
  · exact ⟨h.a.join (h.b.pw _), h.b⟩
theorem T2.tts {n : Nat} : ∀ {rs : List (Str × Int)} {s : Tb × Tb}, T2 n s → T2 n (Slw.tts n s rs)
  | [], _, h => h
  | x :: r, s, h => T2.tts (rs := r) h.tt
theorem tts_snoc (n : Nat) (s : Tb × Tb) (rs : List (Str × Int)) (x : Str × Int) : tts n s (rs ++ [x]) = tt n (tts n s rs) x := by
  unfold tts
  rw [List.foldl_append]
  rfl
theorem pw_one {n : Nat} {t : Tb} (ht : IsT n t) : pwT n t 1 = t := rest_join ht
theorem tt_one {n : Nat} {s : Tb × Tb} {k : Str} {c : Int} (h : T2 n s) (hc : 0 ≤ c) : tt n s (k, c + 1) = tt n (tt n s (k, c)) (k, 1) := by
  have e1 : (c + 1).toNat = c.toNat + 1 := by omega
  unfold tt
  by_cases z : k = ("flat" : Str)
  · rw [if_pos z, if_pos z, if_pos z]
    dsimp only
    rw [e1, ← pw_left h.a, show ((1 : Int)).toNat = 1 from rfl, pw_one h.a, joinT_assoc h.a (h.a.pw _) h.b]
  · rw [if_neg z, if_neg z, if_neg z]
    dsimp only
    rw [e1, show ((1 : Int)).toNat = 1 from rfl, pw_one h.b, joinT_assoc h.a (h.b.pw _) h.b]
    rfl
/-- the table of one round of p:q -/
def Rt (n : Nat) (A B : Tb) (p q : Int) : Tb := if q = 0 then A else if p = 0 then B else joinT (tts n (A, B) (F p q)).1 (tts n (A, B) (F p q)).2
theorem Rt_pos {n : Nat} {A B : Tb} {p q : Int} (hp : 1 ≤ p) (hq : 1 ≤ q) : Rt n A B p q = joinT (tts n (A, B) (F p q)).1 (tts n (A, B) (F p q)).2 := by
  unfold Rt
  rw [if_neg (by omega), if_neg (by omega)]
theorem sum_nn0 : ∀ {rs : List (Str × Int)}, (∀ x ∈ rs, 0 ≤ x.2) → 0 ≤ (rs.map (·.2)).sum
  | [], _ => by decide
  | x :: r, h => by
    have h1 := h x List.mem_cons_self
    have h2 := sum_nn0 (rs := r) fun y hy => h y (List.mem_cons_of_mem _ hy)
    rw [List.map_cons, List.sum_cons]
    omega
/-- one step less -/
theorem less_one {n : Nat} {s : Tb × Tb} {r0 : List (Str × Int)} {y : Str × Int} (h : T2 n s) (hk : Kinds (r0 ++ [y])) (ha : Alt (r0 ++ [y])) :
    ∃ r1, Kinds r1 ∧ Alt r1 ∧ nb s1001 (r0 ++ [y]) = turn (nb s1001 r1) (y.1, 1) ∧ tts n s (r0 ++ [y]) = tt n (tts n s r1) (y.1, 1) ∧ ((r0 ++ [y]).map (·.2)).sum = (r1.map (·.2)).sum + 1 := by
  have ky := hk y (List.mem_append.mpr (.inr (List.mem_singleton.mpr rfl)))
  have k0 : Kinds r0 := fun x hx => hk x (List.mem_append.mpr (.inl hx))
  obtain ⟨a1, a2⟩ := ha.init
  obtain ⟨k, c⟩ := y
  dsimp only at ky a2 ⊢
  by_cases z : c = 1
  · subst z
    refine ⟨r0, k0, a1, nb_snoc _ _ _, tts_snoc _ _ _ _, ?_⟩
    rw [List.map_append, List.sum_append]
    simp
  · obtain ⟨d, rfl⟩ : ∃ d : Int, c = d + 1 := ⟨c - 1, by omega⟩
    have d1 : 1 ≤ d := by have := ky.2; omega
    refine ⟨r0 ++ [(k, d)], k0.snoc ⟨ky.1, d1⟩, a1.snoc a2, ?_, ?_, ?_⟩
    · rw [nb_snoc, nb_snoc, ← turn_two (x := (k, 1)) (y := (k, d)) rfl]
    · rw [tts_snoc, tts_snoc, ← tt_one h.tts (by omega)]
    · rw [List.map_append, List.sum_append, List.map_append, List.sum_append]
      simp
      omega
theorem Kinds.e1 {rs : List (Str × Int)} (h : Kinds rs) : 1 ≤ (nb s1001 rs).1 + (nb s1001 rs).2.2.1 ∧ 1 ≤ (nb s1001 rs).2.1 + (nb s1001 rs).2.2.2 := by
  obtain ⟨h1, h2⟩ := E_pos (rs := rs) (Kinds.nn h)
  obtain ⟨e1, e2⟩ := nb_E1 rs
  omega
theorem Rt_nb {n : Nat} {A B : Tb} {rs : List (Str × Int)} (hk : Kinds rs) (ha : Alt rs) : Rt n A B ((nb s1001 rs).1 + (nb s1001 rs).2.2.1) ((nb s1001 rs).2.1 + (nb s1001 rs).2.2.2) = joinT (tts n (A, B) rs).1 (tts n (A, B) rs).2 := by
  have hp := hk.e1
  rw [Rt_pos hp.1 hp.2]
  obtain ⟨e1, e2⟩ := nb_E1 rs
  rw [e1, e2, FE hk ha]
theorem key {n : Nat} {A B : Tb} (h : T2 n (A, B)) : ∀ (m : Nat) (rs : List (Str × Int)), Kinds rs → Alt rs → (rs.map (·.2)).sum ≤ m →
    (tts n (A, B) rs).1 = Rt n A B (nb s1001 rs).1 (nb s1001 rs).2.1 ∧ (tts n (A, B) rs).2 = Rt n A B (nb s1001 rs).2.2.1 (nb s1001 rs).2.2.2
  | m, rs, hk, ha, hm => by
    rcases List.eq_nil_or_concat rs with rfl | ⟨r0, y, rfl⟩
    · exact ⟨rfl, rfl⟩
    · rw [List.concat_eq_append] at hk ha hm ⊢
      obtain ⟨r1, k1, a1, en, et, es⟩ := less_one (n := n) (s := (A, B)) h hk ha
      have s0 := sum_nn0 (rs := r1) k1.nn
      match m, hm with
      | 0, hm => omega
      | m + 1, hm =>
        obtain ⟨i1, i2⟩ := key h m r1 k1 a1 (by omega)
        have rn := Rt_nb (n := n) (A := A) (B := B) k1 a1
        have t2 : T2 n (tts n (A, B) r1) := h.tts
        rw [en, et]
        generalize hN : nb s1001 r1 = N at i1 i2 rn ⊢
        by_cases z : y.1 = ("flat" : Str)
        · rw [show tt n (tts n (A, B) r1) (y.1, 1) = ((tts n (A, B) r1).1, joinT (pwT n (tts n (A, B) r1).1 1) (tts n (A, B) r1).2) from if_pos z, show turn N (y.1, 1) = (N.1, N.2.1, N.2.2.1 + 1 * N.1, N.2.2.2 + 1 * N.2.1) from if_pos z]
          dsimp only
          rw [pw_one t2.a, Int.one_mul, Int.one_mul, Int.add_comm N.2.2.1, Int.add_comm N.2.2.2, rn]
          exact ⟨i1, rfl⟩
        · rw [show tt n (tts n (A, B) r1) (y.1, 1) = (joinT (tts n (A, B) r1).1 (pwT n (tts n (A, B) r1).2 1), (tts n (A, B) r1).2) from if_neg z, show turn N (y.1, 1) = (N.1 + 1 * N.2.2.1, N.2.1 + 1 * N.2.2.2, N.2.2.1, N.2.2.2) from if_neg z]
          dsimp only
          rw [pw_one t2.b, Int.one_mul, Int.one_mul, rn]
          exact ⟨rfl, i2⟩
theorem key' {n : Nat} {A B : Tb} (h : T2 n (A, B)) {rs : List (Str × Int)} (hk : Kinds rs) (ha : Alt rs) :
    tts n (A, B) rs = (Rt n A B (nb s1001 rs).1 (nb s1001 rs).2.1, Rt n A B (nb s1001 rs).2.2.1 (nb s1001 rs).2.2.2) := by
  obtain ⟨k1, k2⟩ := key h ((rs.map fun (x : Str × Int) => x.2).sum).toNat rs hk ha (by have := sum_nn0 (rs := rs) hk.nn; omega)
  exact Prod.ext k1 k2
/-! the sides -/
def mk1 (n : Nat) : List Int := (rangeI 0 (n : Int)).map fun r => (1 : Int) * 2 ^ r.toNat
theorem T2.sides {n : Nat} {r a : List Int} (hr : r.Perm (rangeI 0 n)) (ha : a.Perm (rangeI 0 n)) : T2 n ((r, mk1 n), (a, mk1 n)) := by
  have hm : ∀ x ∈ mk1 n, (0 : Int) ≤ x := fun x hx => by
    obtain ⟨r, hr, rfl⟩ := List.mem_map.mp hx
    rw [Int.one_mul]
    exact Int.le_of_lt (Int.pow_pos (by decide))
  have lm : (mk1 n).length = n := by
    unfold mk1
    rw [List.length_map, rangeI_len]
  exact ⟨⟨by rw [hr.length_eq, rangeI_len], lm, fun x hx => mem_rangeI.mp (hr.mem_iff.mp hx), hm⟩, ⟨by rw [ha.length_eq, rangeI_len], lm, fun x hx => mem_rangeI.mp (ha.mem_iff.mp hx), hm⟩⟩
end Slw
namespace Slw
open PySem J
/-! the program's walk tables -/
abbrev Sr := Tb × Int × Unit
theorem side_ok {n : Nat} {r a : List Int} {P : Tb × Tb → Prop} (hn : n ≤ 1000) (hr : r.length = n) (w : P ((r, mk1 n), (a, mk1 n))) : w_side_tables (r, a) P := by
  unfold w_side_tables w_Plan_size w_Plan_right w_Plan_above
  dsimp only
  rw [hr]
  refine ⟨⟨by omega, by omega⟩, by rw [rangeI_len]; omega, ?_⟩
  refine wComp_ok (α := Int) (β := Int) (fun r => (1 : Int) * 2 ^ r.toNat) (rangeI 0 (n : Int)) [] _ (fun x hx N hN => ?_) ?_
  · obtain ⟨x0, x1⟩ := mem_rangeI.mp hx
    exact ⟨⟨x0, by omega, by decide⟩, hN⟩
  · rw [List.nil_append]
    exact wLet_to (show w_WalkTable___init___tl r (mk1 n) _ from wLet_to (wLet_to (show w_WalkTable___init___tl a (mk1 n) _ from wLet_to (wLet_to w))))
theorem sides_ok {n : Nat} {r a : List Int} {P : Sr × Sr → Prop} (hn : n ≤ 1000) (hr : r.length = n) (w : P (((r, mk1 n), 1, ()), ((a, mk1 n), 1, ()))) : w_side_stretches (r, a) P := by
  unfold w_side_stretches
  refine side_ok hn hr (wLet_to ?_)
  unfold w_Stretch___init__
  exact wLet_to (wLet_to (wLet_to (wLet_to (wLet_to (wLet_to w)))))
theorem put_ok {n : Nat} {one two : Sr} {c d : Int} {P : Sr → Prop} (hn : n ≤ 1000) (h1 : IsT n one.1) (h2 : IsT n two.1) (hc : 0 ≤ c) (hd : 0 ≤ d) (j1 : JMul one.2.1 c) (j2 : JMul two.2.1 d)
    (w : P (joinT (pwT n one.1 c.toNat) (pwT n two.1 d.toNat), one.2.1 * c + two.2.1 * d, ())) : w_put_together one c two d P := by
  unfold w_put_together
  have ec : c = ((c.toNat : Nat) : Int) := by omega
  have ed : d = ((d.toNat : Nat) : Int) := by omega
  rw [ec, ed]
  refine repeated_ok hn h1 (repeated_ok hn h2 (mulT_ok hn (h1.pw _) (h2.pw _) (wLet_to ?_)))
  rw [← ec, ← ed]
  refine ⟨j1, j2, wLet_to ⟨by show 2 ≤ 1000; omega, ?_⟩⟩
  unfold w_Stretch___init__
  exact wLet_to (wLet_to (wLet_to w))
/-- the stretches behind some runs -/
def Stt (n : Nat) (A B : Tb) (rs : List (Str × Int)) : Sr × Sr := (((tts n (A, B) rs).1, (nb s1001 rs).1 + (nb s1001 rs).2.1, ()), ((tts n (A, B) rs).2, (nb s1001 rs).2.2.1 + (nb s1001 rs).2.2.2, ()))
theorem rounds_ok {n : Nat} {r a : List Int} {p q : Int} {P : Sr × Sr → Prop} (hn : n ≤ 1000) (hr : r.Perm (rangeI 0 n)) (ha : a.Perm (rangeI 0 n)) (hp : 0 < p) (hq : 0 < q) (hg : Int.gcd p q = 1) (bp : (p + q).natAbs < 2 ^ Big)
    (w : ∀ rs, StepsOf p q rs → P (Stt n (r, mk1 n) (a, mk1 n) rs)) : w_rounds_of_neighbors (r, a) p q P := by
  unfold w_rounds_of_neighbors
  have t2 := T2.sides hr ha
  have bp1 : p.natAbs < 2 ^ Big := by omega
  have bq1 : q.natAbs < 2 ^ Big := by omega
  refine steps_ok hp hq hg bp1 bq1 fun rs h => wLet_to (sides_ok hn (by rw [hr.length_eq, rangeI_len]) (wLet_to (wLet_to ?_)))
  refine wFor_ok (fun r' s => ∃ pre, pre ++ r' = rs ∧ s = Stt n (r, mk1 n) (a, mk1 n) pre) ?_ ?_ _ _ ⟨[], rfl, rfl⟩
  · rintro x r' s N ⟨pre, e, rfl⟩ hN
    have kn : ∀ y ∈ rs, 0 ≤ y.2 := fun y hy => by have := (h.kinds y hy).2; omega
    have kx : 0 ≤ x.2 := kn x (by rw [← e]; simp)
    have o1 := (nb_le (s := s1001) (rs := pre) ⟨by decide, by decide, by decide, by decide⟩ fun y hy => kn y (by rw [← e]; simp [hy])).1
    have kpre : Kinds pre := fun y hy => h.kinds y (by rw [← e]; simp [hy])
    have e' : nb (turn (nb s1001 pre) x) r' = nb s1001 rs := by
      rw [← e]
      unfold nb
      rw [List.foldl_append]
      rfl
    have tk := turn_ok o1 kx
    have o2 := nb_le tk.1 (rs := r') fun y hy => kn y (by rw [← e]; simp [hy])
    rw [e'] at o2
    have pe := h.p_eq
    have qe := h.q_eq
    have tp := T2.tts (rs := pre) t2
    have l1 := o2.2
    have nx : ∀ s', s' = Stt n (r, mk1 n) (a, mk1 n) (pre ++ [x]) → N s' := fun s' hs => hN s' ⟨pre ++ [x], by rw [List.append_assoc]; exact e, hs⟩
    have x1 := kpre.e1
    have on := o2.1
    have sum0 : 1 ≤ (nb s1001 pre).1 + (nb s1001 pre).2.1 ∧ 1 ≤ (nb s1001 pre).2.2.1 + (nb s1001 pre).2.2.2 := by
      have z := (nb_le (s := s1001) (rs := pre) ⟨by decide, by decide, by decide, by decide⟩ fun y hy => kn y (by rw [← e]; simp [hy])).2
      have z1 : (1 : Int) ≤ (nb s1001 pre).1 := z.a
      have z2 : (1 : Int) ≤ (nb s1001 pre).2.2.2 := z.d
      have := o1.b
      have := o1.c
      omega
    have oa := o1.a
    have ob := o1.b
    have oc := o1.c
    have od := o1.d
    have na := on.a
    have nb' := on.b
    have nc := on.c
    have nd := on.d
    have la := l1.a
    have lb := l1.b
    have lc := l1.c
    have ld := l1.d
    have ta := tk.2.a
    have tb := tk.2.b
    have tc := tk.2.c
    have td := tk.2.d
    refine ⟨fun c => ?_, fun c => ?_⟩
    · have c := of_decide_eq_true c
      have et : turn (nb s1001 pre) x = ((nb s1001 pre).1, (nb s1001 pre).2.1, (nb s1001 pre).2.2.1 + x.2 * (nb s1001 pre).1, (nb s1001 pre).2.2.2 + x.2 * (nb s1001 pre).2.1) := if_pos c
      rw [et] at lc ld la lb ta tb tc td
      dsimp only at lc ld la lb ta tb tc td
      have m : x.2 * ((nb s1001 pre).1 + (nb s1001 pre).2.1) = x.2 * (nb s1001 pre).1 + x.2 * (nb s1001 pre).2.1 := Int.mul_add ..
      have m1 : x.2 * 1 ≤ x.2 * ((nb s1001 pre).1 + (nb s1001 pre).2.1) := Int.mul_le_mul_of_nonneg_left sum0.1 kx
      refine put_ok (n := n) hn tp.a tp.b kx (by decide) (mul_ok (by show ((nb s1001 pre).1 + (nb s1001 pre).2.1).natAbs < _; omega) (by omega)) (mul_ok (by show ((nb s1001 pre).2.2.1 + (nb s1001 pre).2.2.2).natAbs < _; omega) (by decide)) (wLet_to (nx _ ?_))
      unfold Stt
      rw [tts_snoc, nb_snoc, et, show tt n (tts n ((r, mk1 n), a, mk1 n) pre) x = ((tts n ((r, mk1 n), a, mk1 n) pre).1, joinT (pwT n (tts n ((r, mk1 n), a, mk1 n) pre).1 x.2.toNat) (tts n ((r, mk1 n), a, mk1 n) pre).2) from if_pos c]
      dsimp only
      rw [show ((1 : Int)).toNat = 1 from rfl, pw_one tp.b]
      refine Prod.ext rfl (Prod.ext rfl (Prod.ext ?_ rfl))
      dsimp only
      rw [Int.mul_comm _ x.2, m]
      omega
    · have c := of_decide_eq_false c
      have et : turn (nb s1001 pre) x = ((nb s1001 pre).1 + x.2 * (nb s1001 pre).2.2.1, (nb s1001 pre).2.1 + x.2 * (nb s1001 pre).2.2.2, (nb s1001 pre).2.2.1, (nb s1001 pre).2.2.2) := if_neg c
      rw [et] at lc ld la lb ta tb tc td
      dsimp only at lc ld la lb ta tb tc td
      have m : x.2 * ((nb s1001 pre).2.2.1 + (nb s1001 pre).2.2.2) = x.2 * (nb s1001 pre).2.2.1 + x.2 * (nb s1001 pre).2.2.2 := Int.mul_add ..
      have m1 : x.2 * 1 ≤ x.2 * ((nb s1001 pre).2.2.1 + (nb s1001 pre).2.2.2) := Int.mul_le_mul_of_nonneg_left sum0.2 kx
      refine put_ok (n := n) hn tp.a tp.b (by decide) kx (mul_ok (by show ((nb s1001 pre).1 + (nb s1001 pre).2.1).natAbs < _; omega) (by decide)) (mul_ok (by show ((nb s1001 pre).2.2.1 + (nb s1001 pre).2.2.2).natAbs < _; omega) (by omega)) (wLet_to (nx _ ?_))
      unfold Stt
      rw [tts_snoc, nb_snoc, et, show tt n (tts n ((r, mk1 n), a, mk1 n) pre) x = (joinT (tts n ((r, mk1 n), a, mk1 n) pre).1 (pwT n (tts n ((r, mk1 n), a, mk1 n) pre).2 x.2.toNat), (tts n ((r, mk1 n), a, mk1 n) pre).2) from if_neg c]
      dsimp only
      rw [show ((1 : Int)).toNat = 1 from rfl, pw_one tp.a]
      refine Prod.ext (Prod.ext rfl (Prod.ext ?_ rfl)) rfl
      dsimp only
      rw [Int.mul_comm _ x.2, m]
      omega
  · rintro s ⟨pre, e, rfl⟩
    rw [List.append_nil] at e
    subst e
    exact w _ h
end Slw
namespace Slw
open PySem J
theorem lawjoin_ok {n : Nat} {a b : Tb} {P : List (List Int) → Prop} (hn : n ≤ 1000) (ha : IsT n a) (hb : IsT n b) (w : P [(joinT a b).1, (joinT a b).2]) : w_law_join [a.1, a.2] [b.1, b.2] P := by
  unfold w_law_join
  have la := ha.l1
  have la2 := ha.l2
  refine ⟨a.1, rfl, by omega, ?_⟩
  refine wComp_ok (α := Int) (β := Int) (fun t => gI b.1 t) a.1 [] _ (fun t ht N hN => ?_) ?_
  · have := ha.e t ht
    exact ⟨b.1, rfl, _, gI_ix this.1 (by rw [hb.l1]; exact this.2), hN⟩
  rw [List.nil_append]
  refine wLet_to ?_
  have ll : (a.1.map fun t => gI b.1 t).length = n := by rw [List.length_map, la]
  rw [ll]
  refine ⟨by omega, by rw [rangeI_len]; omega, ?_⟩
  refine wComp_ok (α := Int) (β := Int) (fun k => orJ (gI a.2 k) (gI b.2 (gI a.1 k))) (rangeI 0 (n : Int)) [] _ (fun k hk N hN => ?_) ?_
  · obtain ⟨k0, k1⟩ := mem_rangeI.mp hk
    have m1 : k < (a.1.length : Int) := by omega
    have m2 : k < (a.2.length : Int) := by omega
    have e := ha.e _ (gI_mem k0 m1)
    have m3 : gI a.1 k < (b.2.length : Int) := by rw [hb.l2]; exact e.2
    exact ⟨a.2, rfl, _, gI_ix k0 m2, b.2, rfl, a.1, rfl, _, gI_ix k0 m1, _, gI_ix e.1 m3, ⟨ha.m _ (gI_mem k0 m2), hb.m _ (gI_mem e.1 m3)⟩, hN⟩
  rw [List.nil_append]
  refine wLet_to ⟨by show 2 ≤ 1000; omega, ?_⟩
  have e2 : (rangeI 0 (n : Int)).map (fun k => orJ (gI a.2 k) (gI b.2 (gI a.1 k))) = (joinT a b).2 := by
    refine List.ext_getElem (by rw [List.length_map, rangeI_len, (ha.join hb).l2]) fun i h1 h2 => ?_
    have hi : i < n := by rw [(ha.join hb).l2] at h2; exact h2
    rw [List.getElem_map, rangeI_get, ← gI_nat h2, joinT_get2 ha hi]
  rw [e2]
  exact w
end Slw
namespace Slw
open PySem J
/-! the law's tables -/
theorem lawpow_ok {n : Nat} {t : Tb} {c : Int} {P : List (List Int) → Prop} (hn : n ≤ 1000) (ht : IsT n t) (hc : 0 ≤ c) (w : P [(pwT n t c.toNat).1, (pwT n t c.toNat).2]) : w_law_power [t.1, t.2] c P := by
  unfold w_law_power
  have l1 := ht.l1
  refine ⟨t.1, rfl, by omega, t.1, rfl, by omega, ?_⟩
  refine wComp_ok (α := Int) (β := Int) (fun _ => 0) t.1 [] _ (fun _ _ N hN => hN) ?_
  rw [List.nil_append]
  have e0 : t.1.map (fun _ => (0 : Int)) = List.replicate n 0 := by
    rw [List.map_const', l1]
  rw [e0, l1]
  refine ⟨by show 2 ≤ 1000; omega, wLet_to ⟨fun s => ∃ (d : Nat) (j p : Tb), s = ([p.1, p.2], (d : Int), [j.1, j.2]) ∧ IsT n j ∧ IsT n p ∧ joinT j (pwT n p d) = pwT n t c.toNat, fun s => s.2.1.toNat, ⟨c.toNat, restT n, t, ?_, IsT.rest n, ht, rest_join (ht.pw _)⟩, ?_⟩⟩
  · rw [show ((c.toNat : Nat) : Int) = c by omega]
    rfl
  rintro _ ⟨d, j, p, rfl, hj, hp, e⟩
  dsimp only
  refine ⟨fun z => ?_, fun z => ?_⟩
  · have dpos : 0 < d := by simpa using z
    have hd : ((d : Int) / 2) = ((d / 2 : Nat) : Int) := by omega
    refine wJoin_ok (fun l => ∃ j' : Tb, l = [j'.1, j'.2] ∧ IsT n j' ∧ joinT j' (pwT n (joinT p p) (d / 2)) = pwT n t c.toNat) ?_ fun J hJ => ⟨fun y => ?_, fun y => ?_⟩
    · rintro _ ⟨j', rfl, h1, h2⟩
      refine lawjoin_ok hn hp hp (wLet_to (wLet_to ⟨⟨d / 2, j', joinT p p, by rw [hd], h1, hp.join hp, h2⟩, ?_⟩))
      show ((d : Int) / 2).toNat < (d : Int).toNat
      omega
    · have y' : (d : Int) % 2 = 1 := of_decide_eq_true y
      refine lawjoin_ok hn hj hp (wLet_to (hJ _ ⟨joinT j p, rfl, hj.join hp, ?_⟩))
      rw [pw_sq hp, joinT_assoc hj hp (hp.pw _), pw_left hp, show 2 * (d / 2) + 1 = d by omega]
      exact e
    · have y' : ¬ (d : Int) % 2 = 1 := of_decide_eq_false y
      refine hJ _ ⟨j, rfl, hj, ?_⟩
      rw [pw_sq hp, show 2 * (d / 2) = d by omega]
      exact e
  · have d0 : d = 0 := by
      have : ¬ (0 : Int) < d := of_decide_eq_false z
      omega
    subst d0
    have e' : joinT j (restT n) = pwT n t c.toNat := e
    rw [join_rest hj] at e'
    rw [e']
    exact w
theorem lawsides_ok {n : Nat} {r a : List Int} {P : List (List (List Int)) → Prop} (hn : n ≤ 1000) (hr : r.length = n) (w : P [[r, mk1 n], [a, mk1 n]]) : w_law_sides r a P := by
  unfold w_law_sides
  rw [hr]
  refine ⟨⟨by omega, by omega⟩, by rw [rangeI_len]; omega, ?_⟩
  refine wComp_ok (α := Int) (β := Int) (fun r => (1 : Int) * 2 ^ r.toNat) (rangeI 0 (n : Int)) [] _ (fun x hx N hN => ?_) ?_
  · obtain ⟨x0, x1⟩ := mem_rangeI.mp hx
    exact ⟨⟨x0, by omega, by decide⟩, hN⟩
  · rw [List.nil_append]
    exact wLet_to ⟨by show 2 ≤ 1000; omega, by show 2 ≤ 1000; omega, by show 2 ≤ 1000; omega, w⟩
theorem lawround_ok {n : Nat} {r a : List Int} {p q : Int} {P : List (List Int) → Prop} (hn : n ≤ 1000) (hr : r.Perm (rangeI 0 n)) (ha : a.Perm (rangeI 0 n)) (hp : 0 ≤ p) (hq : 0 ≤ q) (h0 : p = 0 ∨ q = 0 ∨ Kinds (F p q)) (bp : p.natAbs < 2 ^ Big) (bq : q.natAbs < 2 ^ Big)
    (w : P [(Rt n (r, mk1 n) (a, mk1 n) p q).1, (Rt n (r, mk1 n) (a, mk1 n) p q).2]) : w_law_round r a p q P := by
  unfold w_law_round
  have t2 := T2.sides hr ha
  refine lawsides_ok hn (by rw [hr.length_eq, rangeI_len]) ⟨_, _, rfl, fun z => ?_, fun z => ⟨fun z2 => ?_, fun z2 => ?_⟩⟩
  · have z := of_decide_eq_true z
    unfold Rt at w
    rw [if_pos z] at w
    exact w
  · have z := of_decide_eq_false z
    have z2 := of_decide_eq_true z2
    unfold Rt at w
    rw [if_neg z, if_pos z2] at w
    exact w
  · have z := of_decide_eq_false z
    have z2 := of_decide_eq_false z2
    have kk : Kinds (F p q) := (h0.resolve_left z2).resolve_left z
    rw [Rt_pos (by omega) (by omega)] at w
    refine ⟨fun s => ∃ A B : Tb, s = (s.1, s.2.1, [A.1, A.2], [B.1, B.2]) ∧ T2 n (A, B) ∧ 1 ≤ s.1 ∧ 1 ≤ s.2.1 ∧ s.1 ≤ p ∧ s.2.1 ≤ q ∧ tts n (A, B) (F s.1 s.2.1) = tts n ((r, mk1 n), (a, mk1 n)) (F p q), fun s => (s.1 + s.2.1).toNat,
      ⟨(r, mk1 n), (a, mk1 n), rfl, t2, by show 1 ≤ p; omega, by show 1 ≤ q; omega, Int.le_refl _, Int.le_refl _, rfl⟩, ?_⟩
    rintro ⟨u, v, x, y⟩ ⟨A, B, e, tab, u1, v1, up, vq, et⟩
    dsimp only at e tab u1 v1 up vq et ⊢
    obtain ⟨rfl, rfl⟩ : x = [A.1, A.2] ∧ y = [B.1, B.2] := by
      injection e with _ e
      injection e with _ e
      injection e with e1 e2
      exact ⟨e1, e2⟩
    have bv : v.natAbs < 2 ^ Big := big_of (by omega) vq bq
    have bu : u.natAbs < 2 ^ Big := big_of (by omega) up bp
    refine ⟨fun c => ?_, fun c => ?_⟩
    · have hne : u ≠ v := fun z => by rw [z] at c; simp at c
      refine ⟨fun c => ?_, fun c => ?_⟩
      · have hlt : v < u := of_decide_eq_true c
        obtain ⟨c1, w1, w2, c0⟩ := quot_one (show 0 < v by omega) hlt
        have hc : (u - 1) / v ≤ u := Int.le_trans (Int.ediv_le_self _ (by omega)) (by omega)
        have hm : 1 * v ≤ (u - 1) / v * v := Int.mul_le_mul_of_nonneg_right c1 (by omega)
        rw [F_flat u1 v1 hlt] at et
        refine ⟨div_ok (by omega) bv, wLet_to (lawpow_ok hn tab.a c0 (lawjoin_ok hn (tab.a.pw _) tab.b (wLet_to ⟨mul_ok (big_of c0 hc bu) bv, wLet_to ⟨⟨A, joinT (pwT n A ((u - 1) / v).toNat) B, rfl, ⟨tab.a, (tab.a.pw _).join tab.b⟩, w1, v1, ?_, vq, ?_⟩, ?_⟩⟩)))⟩
        · omega
        · rw [← et]
          rfl
        · omega
      · have hlt : u < v := by
          have := of_decide_eq_false c
          omega
        obtain ⟨c1, w1, w2, c0⟩ := quot_one (show 0 < u by omega) hlt
        have hc : (v - 1) / u ≤ v := Int.le_trans (Int.ediv_le_self _ (by omega)) (by omega)
        have hm : 1 * u ≤ (v - 1) / u * u := Int.mul_le_mul_of_nonneg_right c1 (by omega)
        rw [F_steep u1 v1 hlt] at et
        refine ⟨div_ok (by omega) bu, wLet_to (lawpow_ok hn tab.b c0 (lawjoin_ok hn tab.a (tab.b.pw _) (wLet_to ⟨mul_ok (big_of c0 hc bv) bu, wLet_to ⟨⟨joinT A (pwT n B ((v - 1) / u).toNat), B, rfl, ⟨tab.a.join (tab.b.pw _), tab.b⟩, u1, w1, up, ?_, ?_⟩, ?_⟩⟩)))⟩
        · omega
        · rw [← et]
          show tts n _ _ = tts n (tt n (A, B) (("steep" : Str), (v - 1) / u)) _
          rw [show tt n (A, B) (("steep" : Str), (v - 1) / u) = (joinT A (pwT n B ((v - 1) / u).toNat), B) from if_neg sf_ne]
        · omega
    · have he : u = v := by
        by_cases z : u = v
        · exact z
        · rw [decide_eq_false z] at c; cases c
      subst he
      rw [F_self] at et
      have et' : (A, B) = tts n ((r, mk1 n), (a, mk1 n)) (F p q) := et
      rw [← et'] at w
      exact lawjoin_ok hn tab.a tab.b w
end Slw
namespace Slw
open PySem J
/-! orbits of a permutation -/
theorem nd_len : ∀ (xs ys : List Int), xs.Nodup → (∀ x ∈ xs, x ∈ ys) → xs.length ≤ ys.length
  | [], _, _, _ => Nat.zero_le _
  | x :: r, ys, hn, h => by
    have hx := h x List.mem_cons_self
    have hn' := List.nodup_cons.mp hn
    have := nd_len r (ys.erase x) hn'.2 fun y hy => (List.mem_erase_of_ne (fun e => hn'.1 (by rw [← e]; exact hy))).mpr (h y (List.mem_cons_of_mem _ hy))
    rw [List.length_erase_of_mem hx] at this
    have hp : 0 < ys.length := List.length_pos_of_mem hx
    rw [List.length_cons]
    omega
structure RT (n : Nat) (e m : List Int) : Prop where
  pe : e.Perm (rangeI 0 n)
  lm : m.length = n
  bm : ∀ x ∈ m, 0 ≤ x ∧ x < 2 ^ n
theorem RT.le {n : Nat} {e m : List Int} (R : RT n e m) : e.length = n := by rw [R.pe.length_eq, rangeI_len]
theorem RT.rng {n : Nat} {e m : List Int} (R : RT n e m) {x : Int} (h0 : 0 ≤ x) (h : x < n) : 0 ≤ gI e x ∧ gI e x < n :=
  mem_rangeI.mp (R.pe.mem_iff.mp (gI_mem h0 (by rw [R.le]; exact h)))
theorem RT.ix {n : Nat} {e m : List Int} (R : RT n e m) {x : Int} (h0 : 0 ≤ x) (h : x < n) : ixI e x = some (gI e x) := gI_ix h0 (by rw [R.le]; exact h)
theorem RT.mx {n : Nat} {e m : List Int} (R : RT n e m) {x : Int} (h0 : 0 ≤ x) (h : x < n) : ixI m x = some (gI m x) := gI_ix h0 (by rw [R.lm]; exact h)
theorem RT.mb {n : Nat} {e m : List Int} (R : RT n e m) {x : Int} (h0 : 0 ≤ x) (h : x < n) : 0 ≤ gI m x ∧ gI m x < 2 ^ n := R.bm _ (gI_mem h0 (by rw [R.lm]; exact h))
theorem RT.inj {n : Nat} {e m : List Int} (R : RT n e m) {x y : Int} (x0 : 0 ≤ x) (x1 : x < n) (y0 : 0 ≤ y) (y1 : y < n) (h : gI e x = gI e y) : x = y := by
  have nd : e.Nodup := R.pe.nodup_iff.mpr (rangeI_nodup n)
  have P := List.pairwise_iff_getElem.mp nd
  have lx : x.toNat < e.length := by rw [R.le]; omega
  have ly : y.toNat < e.length := by rw [R.le]; omega
  have ex : gI e x = e[x.toNat] := by
    have := gI_nat lx
    rw [show ((x.toNat : Nat) : Int) = x by omega] at this
    exact this
  have ey : gI e y = e[y.toNat] := by
    have := gI_nat ly
    rw [show ((y.toNat : Nat) : Int) = y by omega] at this
    exact this
  rw [ex, ey] at h
  rcases Nat.lt_trichotomy x.toNat y.toNat with q | q | q
  · exact absurd h (P _ _ lx ly q)
  · omega
  · exact absurd h.symm (P _ _ ly lx q)
def it (e : List Int) (s : Int) : Nat → Int
  | 0 => s
  | k + 1 => gI e (it e s k)
theorem RT.it {n : Nat} {e m : List Int} (R : RT n e m) {s : Int} (s0 : 0 ≤ s) (s1 : s < n) : ∀ j, 0 ≤ Slw.it e s j ∧ Slw.it e s j < n
  | 0 => ⟨s0, s1⟩
  | j + 1 => R.rng (RT.it R s0 s1 j).1 (RT.it R s0 s1 j).2
theorem RT.back {n : Nat} {e m : List Int} (R : RT n e m) {s : Int} (s0 : 0 ≤ s) (s1 : s < n) (d : Nat) : ∀ i, Slw.it e s (i + d) = Slw.it e s i → Slw.it e s d = s
  | 0, h => by
    rw [Nat.zero_add] at h
    exact h
  | i + 1, h => by
    rw [show i + 1 + d = (i + d) + 1 by omega] at h
    exact RT.back R s0 s1 d i (R.inj (R.it s0 s1 _).1 (R.it s0 s1 _).2 (R.it s0 s1 _).1 (R.it s0 s1 _).2 h)
theorem it_add (e : List Int) (s : Int) (i : Nat) : ∀ d, it e s (i + d) = it e (it e s i) d
  | 0 => rfl
  | d + 1 => by
    rw [show i + (d + 1) = (i + d) + 1 by omega]
    show gI e (it e s (i + d)) = gI e (it e (it e s i) d)
    rw [it_add e s i d]
def orb (e : List Int) (s : Int) (k : Nat) : List Int := (List.range k).map (it e s)
theorem orb_succ (e : List Int) (s : Int) (k : Nat) : orb e s (k + 1) = orb e s k ++ [it e s k] := by
  unfold orb
  rw [List.range_succ, List.map_append]
  rfl
theorem orb_len (e : List Int) (s : Int) (k : Nat) : (orb e s k).length = k := by
  unfold orb
  rw [List.length_map, List.length_range]
theorem orb_get {e : List Int} {s : Int} {k i : Nat} (h : i < (orb e s k).length) : (orb e s k)[i] = it e s i := by
  simp [orb]
theorem mem_orb {e : List Int} {s : Int} {k : Nat} {x : Int} : x ∈ orb e s k ↔ ∃ j, j < k ∧ it e s j = x := by
  unfold orb
  rw [List.mem_map]
  constructor
  · rintro ⟨j, h, r⟩
    exact ⟨j, List.mem_range.mp h, r⟩
  · rintro ⟨j, h, r⟩
    exact ⟨j, List.mem_range.mpr h, r⟩
def IsPer (e : List Int) (s : Int) (n k : Nat) : Prop := 1 ≤ k ∧ k ≤ n ∧ it e s k = s ∧ ∀ j, 0 < j → j < k → it e s j ≠ s
theorem RT.nd {n : Nat} {e m : List Int} (R : RT n e m) {s : Int} (s0 : 0 ≤ s) (s1 : s < n) {k : Nat} (h : ∀ j, 0 < j → j < k → Slw.it e s j ≠ s) : (orb e s k).Nodup := by
  refine List.pairwise_iff_getElem.mpr fun i j hi hj hij => ?_
  rw [orb_get, orb_get]
  rw [orb_len] at hi hj
  intro q
  refine h (j - i) (by omega) (by omega) (R.back s0 s1 (j - i) i ?_)
  rw [show i + (j - i) = j by omega]
  exact q.symm
theorem RT.per {n : Nat} {e m : List Int} (R : RT n e m) {s : Int} (s0 : 0 ≤ s) (s1 : s < n) : ∃ k, IsPer e s n k := by
  apply Classical.byContradiction
  intro no
  have all : ∀ j, 0 < j → j < n + 1 → Slw.it e s j ≠ s := by
    intro j
    induction j using Nat.strongRecOn with
    | ind j ih =>
      intro h0 h1 q
      exact no ⟨j, h0, by omega, q, fun i i0 i1 => ih i i1 i0 (by omega)⟩
  have := nd_len (orb e s (n + 1)) (rangeI 0 n) (R.nd s0 s1 all) fun x hx => by
    obtain ⟨j, _, rfl⟩ := mem_orb.mp hx
    exact mem_rangeI.mpr (R.it s0 s1 j)
  rw [orb_len, rangeI_len] at this
  omega
noncomputable def per (e : List Int) (n : Nat) (s : Int) : Nat := open Classical in if h : ∃ k, IsPer e s n k then Classical.choose h else 1
theorem RT.isPer {n : Nat} {e m : List Int} (R : RT n e m) {s : Int} (s0 : 0 ≤ s) (s1 : s < n) : IsPer e s n (Slw.per e n s) := by
  unfold Slw.per
  rw [dif_pos (R.per s0 s1)]
  exact Classical.choose_spec (R.per s0 s1)
/-- the ring of a start -/
noncomputable def rg (e : List Int) (n : Nat) (s : Int) : List Int := orb e s (per e n s)
def Cl (e D : List Int) : Prop := ∀ x ∈ D, gI e x ∈ D
theorem RT.rgCl {n : Nat} {e m : List Int} (R : RT n e m) {s : Int} (s0 : 0 ≤ s) (s1 : s < n) : Cl e (rg e n s) := by
  intro x hx
  obtain ⟨j, hj, rfl⟩ := mem_orb.mp hx
  obtain ⟨p1, p2, p3, _⟩ := R.isPer s0 s1
  by_cases h : j + 1 < Slw.per e n s
  · exact mem_orb.mpr ⟨j + 1, h, rfl⟩
  · have e1 : j + 1 = Slw.per e n s := by omega
    refine mem_orb.mpr ⟨0, by omega, ?_⟩
    show s = Slw.it e s (j + 1)
    rw [e1, p3]
theorem RT.rgNd {n : Nat} {e m : List Int} (R : RT n e m) {s : Int} (s0 : 0 ≤ s) (s1 : s < n) : (rg e n s).Nodup := R.nd s0 s1 (R.isPer s0 s1).2.2.2
theorem RT.inRg {n : Nat} {e m : List Int} (R : RT n e m) {s : Int} (s0 : 0 ≤ s) (s1 : s < n) : ∀ j, Slw.it e s j ∈ rg e n s
  | 0 => mem_orb.mpr ⟨0, (R.isPer s0 s1).1, rfl⟩
  | j + 1 => R.rgCl s0 s1 _ (RT.inRg R s0 s1 j)
theorem Cl.it {e D : List Int} (h : Cl e D) {x : Int} (hx : x ∈ D) : ∀ j, Slw.it e x j ∈ D
  | 0 => hx
  | j + 1 => h _ (Cl.it h hx j)
/-- a start that is not placed: none of its ring is -/
theorem RT.off {n : Nat} {e m : List Int} (R : RT n e m) {s : Int} (s0 : 0 ≤ s) (s1 : s < n) {D : List Int} (h : Cl e D) (hs : ¬ s ∈ D) : ∀ x ∈ rg e n s, ¬ x ∈ D := by
  intro x hx hd
  obtain ⟨j, hj, rfl⟩ := mem_orb.mp hx
  obtain ⟨p1, p2, p3, _⟩ := R.isPer s0 s1
  have := h.it hd (Slw.per e n s - j)
  rw [← it_add, show j + (Slw.per e n s - j) = Slw.per e n s by omega, p3] at this
  exact hs this
theorem RT.rgIn {n : Nat} {e m : List Int} (R : RT n e m) {s : Int} (s0 : 0 ≤ s) (s1 : s < n) : ∀ x ∈ rg e n s, 0 ≤ x ∧ x < n := fun x hx => by
  obtain ⟨j, _, rfl⟩ := mem_orb.mp hx
  exact R.it s0 s1 j
theorem nodup_app {D X : List Int} (h1 : D.Nodup) (h2 : X.Nodup) (h : ∀ x ∈ X, ¬ x ∈ D) : (D ++ X).Nodup :=
  List.nodup_append.mpr ⟨h1, h2, fun a ha b hb q => h b hb (by rw [← q]; exact ha)⟩
/-- the mark of rooms -/
def mkO (m xs : List Int) : Int := xs.foldl (fun a r => orJ a (gI m r)) 0
theorem mkO_app (m xs : List Int) (x : Int) : mkO m (xs ++ [x]) = orJ (mkO m xs) (gI m x) := by
  unfold mkO
  rw [List.foldl_append]
  rfl
theorem mkO_bnd {n : Nat} {m : List Int} : ∀ (k : Nat) (xs : List Int), xs.length = k → (∀ x ∈ xs, gI m x < 2 ^ n) → 0 ≤ mkO m xs ∧ mkO m xs < 2 ^ n
  | 0, xs, hl, _ => by
    have e : xs = [] := List.length_eq_zero_iff.mp hl
    subst e
    exact ⟨Int.le_refl _, Int.pow_pos (by decide)⟩
  | k + 1, xs, hl, h => by
    obtain ⟨ys, y, rfl⟩ : ∃ ys y, xs = ys ++ [y] := ⟨xs.dropLast, xs.getLast (fun z => by rw [z] at hl; cases hl), (List.dropLast_concat_getLast _).symm⟩
    rw [List.length_append] at hl
    have b := mkO_bnd k ys (by simpa using hl) fun x hx => h x (List.mem_append_left _ hx)
    have b2 := h y (by simp)
    rw [mkO_app]
    have P : ((2 : Int) ^ n) = ((2 ^ n : Nat) : Int) := by norm_cast
    rw [P] at b b2 ⊢
    unfold orJ
    have := Nat.or_lt_two_pow (x := (mkO m ys).toNat) (y := (gI m y).toNat) (n := n) (by omega) (by
      have : 0 < 2 ^ n := Nat.two_pow_pos n
      omega)
    exact ⟨by omega, by omega⟩
def bitP (mark k : Int) : Bool := decide ((andJ (mark / 2 ^ (k).toNat) (1 : Int)) = (1 : Int))
def roomsJ (n : Nat) (mark : Int) : List Int := (rangeI 0 n).filter (bitP mark)
theorem bitP_hi {b : Nat} {mark : Int} (h0 : 0 ≤ mark) (h : mark < 2 ^ b) {k : Nat} (hk : b ≤ k) : bitP mark k = false := by
  unfold bitP
  rw [show ((k : Nat) : Int).toNat = k by omega]
  have : mark / 2 ^ k = 0 := Int.ediv_eq_zero_of_lt h0 (Int.lt_of_lt_of_le h (by
    have := Nat.pow_le_pow_right (show 0 < 2 by decide) hk
    have P : ∀ n : Nat, ((2 : Int) ^ n) = ((2 ^ n : Nat) : Int) := fun n => by norm_cast
    rw [P, P]
    omega))
  rw [this]
  decide
theorem roomsJ_eq {b n : Nat} {mark : Int} (h0 : 0 ≤ mark) (h : mark < 2 ^ b) (hb : b ≤ n) : roomsJ b mark = roomsJ n mark := by
  unfold roomsJ
  have e : rangeI 0 (n : Int) = rangeI 0 (b : Int) ++ (List.range' b (n - b)).map fun (j : Nat) => (j : Int) := by
    rw [rangeI_nat, rangeI_nat, ← List.map_append]
    congr 1
    have := (List.range'_append (s := 0) (m := b) (n := n - b) (step := 1)).symm
    rw [Nat.one_mul, Nat.zero_add, show b + (n - b) = n by omega] at this
    exact this
  rw [e, List.filter_append]
  refine (List.append_nil _).symm.trans (congrArg _ (Eq.symm (List.filter_eq_nil_iff.mpr ?_)))
  intro x hx
  obtain ⟨j, hj, rfl⟩ := List.mem_map.mp hx
  have := (List.mem_range'_1.mp hj).1
  rw [bitP_hi h0 h this]
  decide
end Slw
namespace Slw
open PySem J
abbrev Pl := List Int × List Int
theorem perm_rt {n : Nat} {e : List Int} (h : e.Perm (rangeI 0 n)) : RT n e (List.replicate n 0) :=
  ⟨h, List.length_replicate, fun x hx => by
    rw [List.eq_of_mem_replicate hx]
    exact ⟨Int.le_refl _, Int.pow_pos (by decide)⟩⟩
structure IsPl (n : Nat) (t : Pl) : Prop where
  r : t.1.Perm (rangeI 0 n)
  a : t.2.Perm (rangeI 0 n)
theorem rangeI_le (n : Nat) : (rangeI 0 (n : Int)).Pairwise (· ≤ ·) := by
  rw [rangeI_nat]
  exact List.Pairwise.map (R := (· < ·)) _ (fun a b h => by omega) (List.pairwise_lt_range' (step := 1))
theorem sorted_is {n : Nat} {xs ys : List Int} (h : xs.Perm (rangeI 0 n)) (p : ys.Perm xs) (s : ys.Pairwise (· ≤ ·)) : ys = rangeI 0 n :=
  List.Perm.eq_of_pairwise (le := (· ≤ ·)) (fun a b _ _ h1 h2 => Int.le_antisymm h1 h2) s (rangeI_le n) (p.trans h)
theorem pokI (x : List Int) : POk.pok x := fun _ _ => trivial
/-! the inverse of an order -/
structure IsInv (n : Nat) (xs r : List Int) : Prop where
  l : r.length = n
  g : ∀ j : Nat, j < n → gI r (gI xs j) = j
theorem perm_gI {n : Nat} {xs : List Int} (h : xs.Perm (rangeI 0 n)) {j : Nat} (hj : j < n) : 0 ≤ gI xs j ∧ gI xs j < n :=
  (perm_rt h).rng (by omega) (by omega)
theorem perm_hit {n : Nat} {xs : List Int} (h : xs.Perm (rangeI 0 n)) {i : Nat} (hi : i < n) : ∃ j : Nat, j < n ∧ gI xs j = i := by
  have hm : (i : Int) ∈ xs := h.mem_iff.mpr (mem_rangeI.mpr ⟨by omega, by omega⟩)
  obtain ⟨j, hj, e⟩ := List.getElem_of_mem hm
  exact ⟨j, by have := h.length_eq; rw [rangeI_len] at this; omega, by rw [gI_nat hj, e]⟩
theorem IsInv.uniq {n : Nat} {xs r r2 : List Int} (h : xs.Perm (rangeI 0 n)) (a : IsInv n xs r) (b : IsInv n xs r2) : r = r2 := by
  refine List.ext_getElem (by rw [a.l, b.l]) fun i i1 i2 => ?_
  obtain ⟨j, hj, e⟩ := perm_hit h (show i < n by rw [← a.l]; exact i1)
  have e1 := a.g j hj
  have e2 := b.g j hj
  rw [e, gI_nat i1] at e1
  rw [e, gI_nat i2] at e2
  rw [e1, e2]
theorem IsInv.back {n : Nat} {xs r : List Int} (h : xs.Perm (rangeI 0 n)) (a : IsInv n xs r) : IsInv n r xs := by
  refine ⟨by have := h.length_eq; rw [rangeI_len] at this; exact this, fun i hi => ?_⟩
  obtain ⟨j, hj, e⟩ := perm_hit h hi
  have e1 := a.g j hj
  rw [e] at e1
  rw [e1, e]
theorem IsInv.perm {n : Nat} {xs r : List Int} (h : xs.Perm (rangeI 0 n)) (a : IsInv n xs r) : r.Perm (rangeI 0 n) := by
  have ge : ∀ i (hi : i < r.length), ∃ j : Nat, j < n ∧ gI xs j = i ∧ r[i] = j := fun i hi => by
    obtain ⟨j, hj, e⟩ := perm_hit h (show i < n by rw [← a.l]; exact hi)
    have e1 := a.g j hj
    rw [e, gI_nat hi] at e1
    exact ⟨j, hj, e, e1⟩
  refine (List.perm_ext_iff_of_nodup (List.pairwise_iff_getElem.mpr fun i j hi hj hij q => ?_) (rangeI_nodup n)).mpr fun x => ⟨fun hx => ?_, fun hx => ?_⟩
  · obtain ⟨a1, _, b1, c1⟩ := ge i hi
    obtain ⟨a2, _, b2, c2⟩ := ge j hj
    rw [c1, c2] at q
    have : a1 = a2 := by omega
    subst this
    omega
  · obtain ⟨i, hi, e⟩ := List.getElem_of_mem hx
    obtain ⟨j, hj, _, c⟩ := ge i hi
    rw [← e, c]
    exact mem_rangeI.mpr ⟨by omega, by omega⟩
  · have := mem_rangeI.mp hx
    have e1 := a.g x.toNat (by omega)
    have b := perm_gI h (show x.toNat < n by omega)
    rw [show ((x.toNat : Nat) : Int) = x by omega] at e1 b
    rw [← e1]
    exact gI_mem b.1 (by rw [a.l]; exact b.2)
theorem gI_set {xs : List Int} {m : Nat} {v : Int} {i : Int} (hi : 0 ≤ i) (hm : m < xs.length) : gI (xs.set m v) i = if i.toNat = m then v else gI xs i := by
  unfold gI
  rw [List.getD_eq_getElem?_getD, List.getD_eq_getElem?_getD]
  split
  · rename_i e
    rw [e, List.getElem?_set_self hm]
    rfl
  · rename_i e
    rw [List.getElem?_set_ne (fun z => e z.symm)]
/-- one store more -/
theorem inv_step {n i : Nat} {xs s : List Int} (h : xs.Perm (rangeI 0 n)) (hi : i < n) (hl : s.length = n) (hg : ∀ j : Nat, j < i → gI s (gI xs j) = j) : (s.set (gI xs i).toNat (i : Int)).length = n ∧ ∀ j : Nat, j < i + 1 → gI (s.set (gI xs i).toNat (i : Int)) (gI xs j) = j := by
  have bi := perm_gI h hi
  refine ⟨by rw [List.length_set]; exact hl, fun j hj => ?_⟩
  have bj := perm_gI h (show j < n by omega)
  rw [gI_set bj.1 (by omega)]
  by_cases q : j = i
  · subst q
    rw [if_pos rfl]
  · rw [if_neg fun z => q ?_]
    · exact hg j (by omega)
    · have := (perm_rt h).inj (x := (j : Int)) (y := (i : Int)) (by omega) (by omega) (by omega) (by omega) (by omega)
      omega
end Slw
namespace Slw
open PySem J
theorem is_order_ok {n : Nat} {xs : List Int} {P : Bool → Prop} (hn : n ≤ 1000) (h : xs.Perm (rangeI 0 n)) (w : P true) : w_is_order xs n P := by
  unfold w_is_order
  intro ys p s
  have e := sorted_is h p s
  subst e
  refine ⟨by omega, pokI _, pokI _, ?_⟩
  rw [decide_eq_true rfl]
  exact w
theorem init_pl {n : Nat} {a b : List Int} {P : Pl → Prop} (h1 : 1 ≤ n) (h2 : n ≤ 100) (ha : a.Perm (rangeI 0 n)) (hb : b.Perm (rangeI 0 n)) (w : P (a, b)) : w_Plan___init__ a b P := by
  unfold w_Plan___init__
  have la : a.length = n := by have := ha.length_eq; rw [rangeI_len] at this; exact this
  rw [la]
  refine wLet_to ⟨fun _ => ⟨fun _ => is_order_ok (by omega) ha ⟨fun _ => is_order_ok (by omega) hb ⟨fun _ => wLet_to (wLet_to w), fun z => by cases z⟩, fun z => by cases z⟩, fun z => ?_⟩, fun z => ?_⟩
  · have := of_decide_eq_false z
    omega
  · have := of_decide_eq_false z
    omega
end Slw
namespace Slw
open PySem J
theorem rangeI_sum (n m : Nat) : rangeI 0 ((n + m : Nat) : Int) = rangeI 0 (n : Int) ++ (rangeI 0 (m : Int)).map (fun x => x + (n : Int)) := by
  refine List.ext_getElem (by rw [List.length_append, List.length_map, rangeI_len, rangeI_len, rangeI_len]) fun i h1 h2 => ?_
  rw [rangeI_get h1, List.getElem_append]
  split
  · rename_i h
    rw [rangeI_get h]
  · rename_i h
    rw [rangeI_len] at h
    rw [List.getElem_map, rangeI_get]
    have e : (rangeI 0 (n : Int)).length = n := rangeI_len n
    omega
theorem gI_all {n : Nat} {r : List Int} (hr : r.length = n) : (rangeI 0 (n : Int)).map (gI r) = r := by
  refine List.ext_getElem (by rw [List.length_map, rangeI_len, hr]) fun i h1 h2 => ?_
  rw [List.getElem_map, rangeI_get, gI_nat h2]
/-- a list of sides laid side by side, t times -/
theorem tile_perm {n : Nat} {r : List Int} (hn : 0 < n) (hr : r.Perm (rangeI 0 n)) : ∀ t : Nat, ((rangeI 0 ((t * n : Nat) : Int)).map fun k => (n : Int) * (k / n) + gI r (k % n)).Perm (rangeI 0 ((t * n : Nat) : Int))
  | 0 => by
    rw [Nat.zero_mul]
    exact List.Perm.refl _
  | t + 1 => by
    have e : (t + 1) * n = t * n + n := Nat.succ_mul t n
    have hl : r.length = n := by rw [hr.length_eq, rangeI_len]
    rw [e, rangeI_sum, List.map_append]
    refine List.Perm.append (tile_perm hn hr t) ?_
    rw [List.map_map]
    have e2 : (rangeI 0 (n : Int)).map ((fun k => (n : Int) * (k / n) + gI r (k % n)) ∘ fun x => x + ((t * n : Nat) : Int)) = ((rangeI 0 (n : Int)).map (gI r)).map fun x => x + ((t * n : Nat) : Int) := by
      rw [List.map_map]
      refine List.map_congr_left fun x hx => ?_
      obtain ⟨x0, x1⟩ := mem_rangeI.mp hx
      show (n : Int) * ((x + ((t * n : Nat) : Int)) / n) + gI r ((x + ((t * n : Nat) : Int)) % n) = gI r x + ((t * n : Nat) : Int)
      have h1 : ((t * n : Nat) : Int) = (t : Int) * n := by push_cast; rfl
      rw [h1, Int.add_mul_ediv_right _ _ (by omega), Int.add_mul_emod_self_right, Int.ediv_eq_zero_of_lt x0 x1, Int.emod_eq_of_lt x0 x1, Int.zero_add, Int.mul_comm]
      omega
    rw [e2, gI_all hl]
    exact hr.map _
end Slw
namespace Slw
open PySem J
abbrev Rg := Int × Int × List Int
theorem ring_from_ok {n : Nat} {e m : List Int} (R : RT n e m) (hn : n ≤ 1000) {s : Int} (s0 : 0 ≤ s) (s1 : s < n) {P : List Int → Prop} (w : P (rg e n s)) : w_ring_from s e P := by
  obtain ⟨p1, p2, p3, p4⟩ := R.isPer s0 s1
  unfold w_ring_from
  refine ⟨by show 1 ≤ 1000; omega, wLet_to ⟨_, R.ix s0 s1, wLet_to ⟨fun q => ∃ j, 1 ≤ j ∧ j ≤ per e n s ∧ q = (it e s j, orb e s j), fun q => per e n s - q.2.length, ⟨1, by omega, p1, rfl⟩, ?_⟩⟩⟩
  rintro _ ⟨j, h1, h2, rfl⟩
  dsimp only
  refine ⟨fun z => ⟨by rw [orb_len]; omega, wLet_to ⟨_, R.ix (R.it s0 s1 j).1 (R.it s0 s1 j).2, wLet_to ⟨⟨j + 1, by omega, ?_, ?_⟩, ?_⟩⟩⟩, fun z => ?_⟩
  · have hj : j ≠ per e n s := fun q => by
      rw [q, p3] at z
      simp at z
    omega
  · rw [orb_succ]
    rfl
  · have hj : j ≠ per e n s := fun q => by
      rw [q, p3] at z
      simp at z
    rw [List.length_append, orb_len]
    simp only [List.length_cons, List.length_nil]
    omega
  · have ez : it e s j = s := by simpa using z
    have hj : j = per e n s := by
      apply Classical.byContradiction
      intro q
      exact p4 j (by omega) (by omega) ez
    rw [hj]
    exact w
theorem rooms_ok {n : Nat} {mark : Int} (hn : n ≤ 100000) (h0 : 0 ≤ mark) (h : mark < 2 ^ n) {P : List Int → Prop} (w : P (roomsJ n mark)) : w_rooms_in mark P := by
  unfold w_rooms_in
  have P2 : ∀ n : Nat, ((2 : Int) ^ n) = ((2 ^ n : Nat) : Int) := fun n => by norm_cast
  have hb : Builtin.Int.intBits mark ≤ n := intBits_le_iff.mpr (by rw [P2] at h; omega)
  have hlt : mark < 2 ^ (Builtin.Int.intBits mark) := by
    have := intBits_le_iff.mp (Nat.le_refl (Builtin.Int.intBits mark))
    rw [P2]
    omega
  refine ⟨by omega, by rw [rangeI_len]; omega, ?_⟩
  refine wCompF_ok (α := Int) (β := Int) (bitP mark) (fun x => x) _ [] _ (fun x hx A B hA hB => ⟨(mem_rangeI.mp hx).1, ⟨Int.ediv_nonneg h0 (Int.le_of_lt (Int.pow_pos (by decide))), by decide⟩, hA, hB⟩) (fun x _ _ N hN => hN) ?_
  rw [List.nil_append, List.map_id', ← roomsJ_eq h0 hlt hb] at *
  exact w
/-- the rings, start by start -/
noncomputable def rst (e m : List Int) (n : Nat) : Nat → List Rg × List Int
  | 0 => ([], [])
  | i + 1 => if memJ (i : Int) (rst e m n i).2 = true then rst e m n i else ((rst e m n i).1 ++ [((i : Int), ((per e n i : Nat) : Int), roomsJ n (mkO m (rg e n i)))], (rst e m n i).2 ++ rg e n i)
structure RI (n : Nat) (e m : List Int) (i : Nat) (q : List Rg × List Int) : Prop where
  nd : q.2.Nodup
  sub : ∀ x ∈ q.2, 0 ≤ x ∧ x < n
  cl : Cl e q.2
  all : ∀ j : Nat, j < i → (j : Int) ∈ q.2
  sum : (q.1.map fun r => r.2.1).sum = (q.2.length : Int)
  len : q.1.length ≤ i
  rl : ∀ r ∈ q.1, r.2.2.length ≤ n
theorem Cl.app {e D X : List Int} (h1 : Cl e D) (h2 : Cl e X) : Cl e (D ++ X) := fun x hx => by
  rcases List.mem_append.mp hx with h | h
  · exact List.mem_append_left _ (h1 _ h)
  · exact List.mem_append_right _ (h2 _ h)
theorem RI.len2 {n : Nat} {e m : List Int} {i : Nat} {q : List Rg × List Int} (I : RI n e m i q) : q.2.length ≤ n := by
  have := nd_len q.2 (rangeI 0 n) I.nd fun x hx => mem_rangeI.mpr (I.sub x hx)
  rw [rangeI_len] at this
  exact this
theorem RT.ri {n : Nat} {e m : List Int} (R : RT n e m) : ∀ i, i ≤ n → RI n e m i (rst e m n i)
  | 0, _ => ⟨List.nodup_nil, fun x hx => (List.not_mem_nil hx).elim, fun x hx => (List.not_mem_nil hx).elim, fun j hj => absurd hj (Nat.not_lt_zero j), rfl, Nat.le_refl _, fun x hx => (List.not_mem_nil hx).elim⟩
  | i + 1, hi => by
    have I := RT.ri R i (by omega)
    have s0 : (0 : Int) ≤ (i : Int) := by omega
    have s1 : (i : Int) < n := by omega
    unfold rst
    by_cases h : memJ (i : Int) (rst e m n i).2 = true
    · rw [if_pos h]
      refine ⟨I.nd, I.sub, I.cl, fun j hj => ?_, I.sum, by have := I.len; omega, I.rl⟩
      by_cases q : j < i
      · exact I.all j q
      · have : j = i := by omega
        subst this
        exact of_memJ h
    · rw [if_neg h]
      have off := R.off s0 s1 I.cl fun z => h (memJ_true z)
      refine ⟨nodup_app I.nd (R.rgNd s0 s1) off, fun x hx => ?_, I.cl.app (R.rgCl s0 s1), fun j hj => ?_, ?_, ?_, fun r hr => ?_⟩
      · rcases List.mem_append.mp hx with q | q
        · exact I.sub _ q
        · exact R.rgIn s0 s1 _ q
      · by_cases q : j < i
        · exact List.mem_append_left _ (I.all j q)
        · have : j = i := by omega
          subst this
          exact List.mem_append_right _ (R.inRg s0 s1 0)
      · show (((rst e m n i).1 ++ [_]).map _).sum = (((rst e m n i).2 ++ rg e n i).length : Int)
        rw [List.map_append, List.sum_append, I.sum, List.length_append]
        unfold rg
        rw [orb_len]
        simp
      · show ((rst e m n i).1 ++ [_]).length ≤ i + 1
        rw [List.length_append]
        have := I.len
        simpa using this
      · rcases List.mem_append.mp hr with q | q
        · exact I.rl r q
        · cases List.mem_singleton.mp q
          have := List.length_filter_le (bitP (mkO m (rg e n i))) (rangeI 0 (n : Int))
          rw [rangeI_len] at this
          exact this
theorem RT.mkb {n : Nat} {e m : List Int} (R : RT n e m) {s : Int} (s0 : 0 ≤ s) (s1 : s < n) {k : Nat} : 0 ≤ mkO m (orb e s k) ∧ mkO m (orb e s k) < 2 ^ n :=
  mkO_bnd _ _ rfl fun x hx => by
    obtain ⟨j, _, rfl⟩ := mem_orb.mp hx
    exact (R.mb (R.it s0 s1 j).1 (R.it s0 s1 j).2).2
theorem addJ_new {xs : List Int} {k : Int} (h : ¬ k ∈ xs) : addJ xs k = xs ++ [k] := by
  unfold addJ
  rw [memJ_false h]
  rfl
theorem not_memJ {x : Int} {xs : List Int} : ((!memJ x xs) = true) ↔ ¬ (memJ x xs = true) := by
  cases memJ x xs <;> simp
theorem not_memJ' {x : Int} {xs : List Int} : ((!memJ x xs) = false) ↔ (memJ x xs = true) := by
  cases memJ x xs <;> simp
theorem rst_in {e m : List Int} {n i : Nat} (h : memJ (i : Int) (rst e m n i).2 = true) : rst e m n (i + 1) = rst e m n i := by
  show (if _ then _ else _) = _
  rw [if_pos h]
theorem rst_new {e m : List Int} {n i : Nat} (h : ¬ memJ (i : Int) (rst e m n i).2 = true) : rst e m n (i + 1) = ((rst e m n i).1 ++ [((i : Int), ((per e n i : Nat) : Int), roomsJ n (mkO m (rg e n i)))], (rst e m n i).2 ++ rg e n i) := by
  show (if _ then _ else _) = _
  rw [if_neg h]
theorem rings_ok {n : Nat} {e m : List Int} (R : RT n e m) (hn : n ≤ 1000) {P : List Rg → Prop} (w : P (rst e m n n).1) : w_rings_of (e, m) P := by
  unfold w_rings_of
  unfold w_WalkTable_form w_WalkTable_size
  refine wLet_to (wLet_to ⟨?_, ?_⟩)
  · rw [R.le]
    omega
  show wFor _ _ (rangeI 0 (e.length : Int)) _
  rw [R.le]
  refine wFor_range n (fun i q => q = rst e m n i) ?_ ?_ _ rfl
  · rintro i _ N hi rfl hN
    have I := R.ri i (by omega)
    have s0 : (0 : Int) ≤ (i : Int) := by omega
    have s1 : (i : Int) < n := by omega
    refine ⟨fun z => ?_, fun z => hN _ (rst_in (not_memJ'.mp z)).symm⟩
    have hz := not_memJ.mp z
    have off := R.off s0 s1 I.cl fun z => hz (memJ_true z)
    have big := nodup_app I.nd (R.rgNd s0 s1) off
    have bl := nd_len _ (rangeI 0 n) big fun x hx => by
      rcases List.mem_append.mp hx with q | q
      · exact mem_rangeI.mpr (I.sub _ q)
      · exact mem_rangeI.mpr (R.rgIn s0 s1 _ q)
    rw [rangeI_len, List.length_append] at bl
    refine ring_from_ok R hn s0 s1 (wLet_to (wLet_to (wLet_to ?_)))
    refine wFor_ok (fun r (q : Int × List Int) => ∃ pre, pre ++ r = rg e n i ∧ q = (mkO m pre, (rst e m n i).2 ++ pre)) ?_ ?_ _ _ ⟨[], List.nil_append _, by rw [List.append_nil]; rfl⟩
    · rintro x r _ N2 ⟨pre, hp, rfl⟩ hN2
      have xm : x ∈ rg e n i := by rw [← hp]; simp
      have xb := R.rgIn s0 s1 x xm
      have pl : pre.length ≤ (rg e n i).length := by rw [← hp, List.length_append]; omega
      have prn : ∀ y ∈ pre, 0 ≤ gI m y ∧ gI m y < 2 ^ n := fun y hy => by
        have := R.rgIn s0 s1 y (by rw [← hp]; exact List.mem_append_left _ hy)
        exact R.mb this.1 this.2
      refine ⟨by show ((rst e m n i).2 ++ pre).length < 4000; rw [List.length_append]; omega, wLet_to ⟨_, R.mx xb.1 xb.2, ⟨(mkO_bnd _ pre rfl fun y hy => (prn y hy).2).1, (R.mb xb.1 xb.2).1⟩, wLet_to (hN2 _ ⟨pre ++ [x], by rw [← hp, List.append_assoc]; rfl, ?_⟩)⟩⟩
      rw [mkO_app]
      refine Prod.ext rfl ?_
      show addJ ((rst e m n i).2 ++ pre) x = (rst e m n i).2 ++ (pre ++ [x])
      rw [addJ_new, List.append_assoc]
      intro hx
      have b2 := big
      rw [← hp, ← List.append_assoc] at b2
      exact (List.nodup_append.mp b2).2.2 x hx x List.mem_cons_self rfl
    · rintro _ ⟨pre, hp, rfl⟩
      rw [List.append_nil] at hp
      subst hp
      refine rooms_ok (n := n) (by omega) (R.mkb s0 s1).1 (R.mkb s0 s1).2 ⟨by have := I.len; omega, wLet_to (hN _ ?_)⟩
      rw [rst_new hz]
      unfold rg
      rw [orb_len]
  · rintro _ rfl
    exact w
theorem law_rings_ok {n : Nat} {e m : List Int} (R : RT n e m) (hn : n ≤ 1000) {P : List Rg → Prop} (w : P (rst e m n n).1) : w_law_rings [e, m] P := by
  unfold w_law_rings
  refine wLet_to (wLet_to ⟨e, rfl, wLet_to ⟨by rw [R.le]; omega, ?_⟩⟩)
  rw [R.le]
  refine wFor_range n (fun i q => q = ((rst e m n i).2, (rst e m n i).1)) ?_ ?_ _ rfl
  · rintro i _ N hi rfl hN
    have I := R.ri i (by omega)
    have s0 : (0 : Int) ≤ (i : Int) := by omega
    have s1 : (i : Int) < n := by omega
    refine ⟨fun z => ?_, fun z => hN _ (by rw [rst_in (not_memJ'.mp z)])⟩
    have hz := not_memJ.mp z
    have off := R.off s0 s1 I.cl fun z => hz (memJ_true z)
    have big := nodup_app I.nd (R.rgNd s0 s1) off
    obtain ⟨p1, p2, p3, p4⟩ := R.isPer s0 s1
    refine wLet_to (wLet_to (wLet_to ⟨by omega, ?_⟩))
    refine wFor_range n (fun j q => q = (it e i (min j (per e n i)), (((min j (per e n i) : Nat)) : Int), mkO m (orb e i (min j (per e n i))), (rst e m n i).2 ++ orb e i (min j (per e n i)))) ?_ ?_ _ ?_
    · rintro j _ N2 hj rfl hN2
      have ib := R.it s0 s1 j
      dsimp only
      by_cases hjk : j < per e n i
      · have m1 : min j (per e n i) = j := Nat.min_eq_left (by omega)
        have m2 : min (j + 1) (per e n i) = j + 1 := Nat.min_eq_left (by omega)
        rw [m1]
        rw [m2] at hN2
        refine ⟨fun z2 => ⟨by rw [List.length_append, orb_len]; have := I.len2; omega, wLet_to (wLet_to ⟨m, rfl, _, R.mx ib.1 ib.2, ⟨(R.mkb s0 s1).1, (R.mb ib.1 ib.2).1⟩, wLet_to ⟨e, rfl, _, R.ix ib.1 ib.2, wLet_to (hN2 _ ?_)⟩⟩)⟩, fun z2 => ?_⟩
        · rw [orb_succ, mkO_app, List.append_assoc]
          rfl
        · exfalso
          rcases List.mem_append.mp (of_memJ (not_memJ'.mp z2)) with h | h
          · exact off _ (mem_orb.mpr ⟨j, hjk, rfl⟩) h
          · obtain ⟨a, ha, hb⟩ := mem_orb.mp h
            have P := List.pairwise_iff_getElem.mp (R.rgNd s0 s1)
            have la : a < (rg e n i).length := by unfold rg; rw [orb_len]; omega
            have lj : j < (rg e n i).length := by unfold rg; rw [orb_len]; omega
            exact P a j la lj ha ((orb_get (k := per e n i) la).trans (hb.trans (orb_get (k := per e n i) lj).symm))
      · have m1 : min j (per e n i) = per e n i := Nat.min_eq_right (by omega)
        have m2 : min (j + 1) (per e n i) = per e n i := Nat.min_eq_right (by omega)
        rw [m1]
        rw [m2] at hN2
        refine ⟨fun z2 => ?_, fun z2 => hN2 _ rfl⟩
        exfalso
        refine not_memJ.mp z2 (memJ_true (List.mem_append_right _ ?_))
        exact R.inRg s0 s1 _
    · rintro _ rfl
      have m1 : min n (per e n i) = per e n i := Nat.min_eq_right (by omega)
      rw [m1]
      refine ⟨by omega, by rw [rangeI_len]; omega, ?_⟩
      refine wCompF_ok (α := Int) (β := Int) (bitP (mkO m (rg e n i))) (fun x => x) _ [] _ (fun x hx A B hA hB => ⟨(mem_rangeI.mp hx).1, ⟨Int.ediv_nonneg (R.mkb s0 s1).1 (Int.le_of_lt (Int.pow_pos (by decide))), by decide⟩, hA, hB⟩) (fun x _ _ N hN => hN) ?_
      rw [List.nil_append, List.map_id']
      refine ⟨by have := I.len; show (rst e m n i).1.length < 1000000; omega, wLet_to (hN _ ?_)⟩
      rw [rst_new hz]
      rfl
    · rw [Nat.zero_min]
      show _ = (_, _, _, _ ++ [])
      rw [List.append_nil]
      rfl
  · rintro _ rfl
    exact w
end Slw
namespace Slw
open PySem J
theorem isrowt_ok {a : List Int} {P : Bool → Prop} (hl : a.length ≤ 1000000) (w : P true) : w_law_is_row a a P := by
  unfold w_law_is_row
  refine ⟨fun _ => ⟨fun z => by simp at z, fun _ => ⟨by omega, ?_⟩⟩, fun z => by cases z⟩
  refine wFor_range a.length (fun i _ => True) (fun i s N hi _ hN => ?_) (fun _ _ => w) () trivial
  exact ⟨a[i], ixI_nat hi, ⟨fun _ => ⟨fun _ => ⟨a[i], ixI_nat hi, a[i], ixI_nat hi, fun z => by simp at z, fun _ => hN () trivial⟩, fun z => by cases z⟩, fun z => by cases z⟩⟩
theorem isrings_ok {a : List Rg} {P : Bool → Prop} (hl : a.length ≤ 1000000) (hr : ∀ r ∈ a, r.2.2.length ≤ 1000000) (w : P true) : w_law_is_rings a a P := by
  unfold w_law_is_rings
  refine ⟨fun _ => ⟨fun z => by simp at z, fun _ => ⟨by omega, ?_⟩⟩, fun z => by cases z⟩
  refine wFor_range a.length (fun i _ => True) (fun i s N hi _ hN => ?_) (fun _ _ => w) () trivial
  refine ⟨a[i], ixI_nat hi, wLet_to ⟨fun _ => ⟨fun z => by simp at z, fun _ => ⟨a[i], ixI_nat hi, isrowt_ok (by show 2 ≤ 1000000; omega) ⟨fun _ => ⟨a[i], ixI_nat hi, isrowt_ok (hr _ (List.getElem_mem hi)) ⟨fun _ => hN () trivial, fun z => by cases z⟩⟩, fun z => by cases z⟩⟩⟩, fun z => by cases z⟩⟩
theorem both_ok {n : Nat} {e m : List Int} (R : RT n e m) (hn : n ≤ 1000) {P : Bool → Prop} (w : P true) : w_law_is_rings (rst e m n n).1 (rst e m n n).1 P := by
  have I := R.ri n (Nat.le_refl n)
  exact isrings_ok (by have := I.len; omega) (fun r hr => by have := I.rl r hr; omega) w
end Slw
namespace Slw
open PySem J
def Lt (p q k : Int) : Str := if p + q ≤ k * q % (p + q) + q then ("u" : Str) else ("r" : Str)
theorem Lt_add {p q k c : Int} : Lt p q (k + c * (p + q)) = Lt p q k := by
  unfold Lt
  have e : (k + c * (p + q)) * q = k * q + (c * q) * (p + q) := by grind
  rw [e, Int.add_mul_emod_self_right]
theorem Lt_div {p q k : Int} (hp : 0 ≤ p) (hq : 0 ≤ q) (hn : 0 < p + q) : k * q / (p + q) < (k + 1) * q / (p + q) ↔ p + q ≤ k * q % (p + q) + q := by
  have e := Int.mul_ediv_add_emod (k * q) (p + q)
  have r0 := Int.emod_nonneg (k * q) (show p + q ≠ 0 by omega)
  have r1 := Int.emod_lt_of_pos (k * q) hn
  have e2 : (k + 1) * q = (k * q % (p + q) + q) + (k * q / (p + q)) * (p + q) := by grind
  rw [e2, Int.add_mul_ediv_right _ _ (by omega)]
  generalize k * q % (p + q) = r at r0 r1 ⊢
  generalize k * q / (p + q) = d
  constructor
  · intro h
    by_cases z : p + q ≤ r + q
    · exact z
    · rw [Int.ediv_eq_zero_of_lt (by omega) (by omega)] at h
      omega
  · intro h
    have : 1 ≤ (r + q) / (p + q) := (Int.le_ediv_iff_mul_le hn).mpr (by omega)
    omega
theorem big62 {x : Int} (h : x.natAbs ≤ 100000000000000000000000000000000000000000000000000000000000000) : x.natAbs < 2 ^ Big :=
  big_small (k := 400) (Nat.lt_of_le_of_lt h (by decide)) (by decide)
/-- a direction, its two numbers not above 10 ** 39 -/
structure Dn (p q : Int) : Prop where
  a : 0 ≤ p
  b : 0 ≤ q
  g : Int.gcd p q = 1
  le1 : p ≤ 1000000000000000000000000000000000000000
  le2 : q ≤ 1000000000000000000000000000000000000000
theorem Dn.pos {p q : Int} (h : Dn p q) : 0 < p + q := by
  have ha := h.a
  have hb := h.b
  by_cases z : p + q = 0
  · have e1 : p = 0 := by omega
    have e2 : q = 0 := by omega
    have := h.g
    rw [e1, e2] at this
    exact absurd this (by decide)
  · omega
theorem Dn.mul {p q k : Int} (h : Dn p q) (hk : k.natAbs ≤ 100000000000000000000000000000000000000000000000000000000000000) : JMul k q :=
  mul_ok (big62 hk) (big62 (by have := h.b; have := h.le2; omega))
theorem Dn.cases {p q : Int} (h : Dn p q) : (p = 1 ∧ q = 0) ∨ (p = 0 ∧ q = 1) ∨ (1 ≤ p ∧ 1 ≤ q) := by
  have ha := h.a
  have hb := h.b
  have hg := h.g
  by_cases z : p = 0
  · rw [z, Int.gcd_zero_left] at hg
    omega
  · by_cases z2 : q = 0
    · rw [z2, Int.gcd_zero_right] at hg
      omega
    · omega
end Slw
namespace Slw
open PySem J
theorem Lt_fl {p q k : Int} (hp : 0 ≤ p) (hq : 0 ≤ q) (hn : 0 < p + q) : Lt p q k = if k * q / (p + q) < (k + 1) * q / (p + q) then ("u" : Str) else ("r" : Str) := by
  unfold Lt
  by_cases h : p + q ≤ k * q % (p + q) + q
  · rw [if_pos h, if_pos ((Lt_div hp hq hn).mpr h)]
  · rw [if_neg h, if_neg (fun z => h ((Lt_div hp hq hn).mp z))]
structure Two (a b c d : Int) : Prop where
  ha : 0 ≤ a
  hb : 0 ≤ b
  hc : 0 ≤ c
  hd : 0 ≤ d
  det : a * d - b * c = 1
theorem Two.m {a b c d : Int} (h : Two a b c d) : 0 < a + b := by
  have h1 := h.ha
  have h2 := h.hb
  have h3 := h.det
  by_cases z : a + b = 0
  · have e1 : a = 0 := by omega
    have e2 : b = 0 := by omega
    rw [e1, e2] at h3
    simp at h3
  · omega
theorem Two.m2 {a b c d : Int} (h : Two a b c d) : 0 < c + d := by
  have h1 := h.hc
  have h2 := h.hd
  have h3 := h.det
  by_cases z : c + d = 0
  · have e1 : c = 0 := by omega
    have e2 : d = 0 := by omega
    rw [e1, e2] at h3
    simp at h3
  · omega
theorem div_unique {x n D : Int} (hn : 0 < n) (h0 : 0 ≤ x - n * D) (h1 : x - n * D < n) : x / n = D := by
  have e : x = (x - n * D) + D * n := by
    rw [Int.mul_comm D n]
    omega
  rw [e, Int.add_mul_ediv_right _ _ (by omega), Int.ediv_eq_zero_of_lt h0 h1, Int.zero_add]
theorem sign_of {m x : Int} (hm : 0 < m) (h : 0 ≤ m * x) : 0 ≤ x := by
  by_cases z : 0 ≤ x
  · exact z
  · have : m * x ≤ m * (-1) := Int.mul_le_mul_of_nonneg_left (by omega) (by omega)
    omega
theorem lt_of_mul {m x y : Int} (hm : 0 < m) (h : m * x < m * y) : x < y := Int.lt_of_mul_lt_mul_left h (by omega)
theorem fl_low {a b c d k : Int} (h : Two a b c d) (k0 : 0 ≤ k) (k1 : k ≤ a + b) : k * (b + d) / (a + c + (b + d)) = k * b / (a + b) := by
  have hm := h.m
  have hm2 := h.m2
  have e := Int.mul_ediv_add_emod (k * b) (a + b)
  have r0 := Int.emod_nonneg (k * b) (show a + b ≠ 0 by omega)
  have r1 := Int.emod_lt_of_pos (k * b) hm
  generalize k * b / (a + b) = D at e ⊢
  generalize k * b % (a + b) = r at e r0 r1
  have det := h.det
  have hn : 0 < a + c + (b + d) := by omega
  have key : (a + b) * (k * (b + d) - (a + c + (b + d)) * D) = (a + c + (b + d)) * r + k := by grind
  have nr : 0 ≤ (a + c + (b + d)) * r := Int.mul_nonneg (by omega) r0
  have nr1 : (a + c + (b + d)) * r ≤ (a + c + (b + d)) * (a + b - 1) := Int.mul_le_mul_of_nonneg_left (by omega) (by omega)
  have ex : (a + c + (b + d)) * (a + b - 1) = (a + b) * (a + c + (b + d)) - (a + c + (b + d)) := by grind
  refine div_unique hn (sign_of hm (by omega)) (lt_of_mul hm ?_)
  omega
theorem fl_high {a b c d j : Int} (h : Two a b c d) (j0 : 0 ≤ j) (j1 : j ≤ c + d) : (a + b + j) * (b + d) / (a + c + (b + d)) = b + j * d / (c + d) := by
  have hm := h.m
  have hm2 := h.m2
  have e := Int.mul_ediv_add_emod (j * d) (c + d)
  have r0 := Int.emod_nonneg (j * d) (show c + d ≠ 0 by omega)
  have r1 := Int.emod_lt_of_pos (j * d) hm2
  generalize j * d / (c + d) = D at e ⊢
  generalize j * d % (c + d) = r at e r0 r1
  have det := h.det
  have hn : 0 < a + c + (b + d) := by omega
  have key : (c + d) * ((a + b + j) * (b + d) - (a + c + (b + d)) * (b + D)) = (a + c + (b + d)) * r + (c + d - j) := by grind
  have nr : 0 ≤ (a + c + (b + d)) * r := Int.mul_nonneg (by omega) r0
  have nr1 : (a + c + (b + d)) * r ≤ (a + c + (b + d)) * (c + d - 1) := Int.mul_le_mul_of_nonneg_left (by omega) (by omega)
  have ex : (a + c + (b + d)) * (c + d - 1) = (c + d) * (a + c + (b + d)) - (a + c + (b + d)) := by grind
  refine div_unique hn (sign_of hm2 (by omega)) (lt_of_mul hm2 ?_)
  omega
theorem Lt_low {a b c d k : Int} (h : Two a b c d) (k0 : 0 ≤ k) (k1 : k < a + b) : Lt (a + c) (b + d) k = Lt a b k := by
  have hm := h.m
  have hm2 := h.m2
  have ha := h.ha
  have hb := h.hb
  have hc := h.hc
  have hd := h.hd
  rw [Lt_fl (by omega) (by omega) (by omega), Lt_fl ha hb hm, fl_low h k0 (by omega), fl_low h (by omega) (by omega)]
theorem Lt_high {a b c d j : Int} (h : Two a b c d) (j0 : 0 ≤ j) (j1 : j < c + d) : Lt (a + c) (b + d) (a + b + j) = Lt c d j := by
  have hm := h.m
  have hm2 := h.m2
  have ha := h.ha
  have hb := h.hb
  have hc := h.hc
  have hd := h.hd
  rw [Lt_fl (by omega) (by omega) (by omega), Lt_fl hc hd hm2, fl_high h j0 (by omega), show a + b + j + 1 = a + b + (j + 1) by omega, fl_high h (by omega) (by omega)]
  by_cases z : j * d / (c + d) < (j + 1) * d / (c + d)
  · rw [if_pos z, if_pos (by omega)]
  · rw [if_neg z, if_neg (by omega)]
theorem gcd_two {a b c d : Int} (h : a * d - b * c = 1) : Int.gcd a b = 1 := by
  have d1 : ((Int.gcd a b : Nat) : Int) ∣ a * d - b * c := Int.dvd_sub (Int.dvd_mul_of_dvd_left (Int.gcd_dvd_left ..)) (Int.dvd_mul_of_dvd_left (Int.gcd_dvd_right ..))
  rw [h] at d1
  have := Int.le_of_dvd (by decide) d1
  have z : Int.gcd a b ≠ 0 := fun z => by
    have := Int.gcd_eq_zero_iff.mp z
    rw [this.1, this.2] at h
    simp at h
  omega
end Slw
namespace Slw
open PySem J
def Wd (p q n : Int) : List Str := (rangeI 0 n).map (Lt p q)
theorem rng_len (n : Int) : (rangeI 0 n).length = n.toNat := by
  unfold rangeI
  rw [List.length_map, List.length_range]
  congr 1
  omega
theorem mem_rng {n k : Int} (h : k ∈ rangeI 0 n) : 0 ≤ k ∧ k < n := by
  unfold rangeI at h
  obtain ⟨j, hj, rfl⟩ := List.mem_map.mp h
  have := List.mem_range.mp hj
  omega
theorem Wd_len (p q n : Int) : (Wd p q n).length = n.toNat := by
  unfold Wd
  rw [List.length_map, rng_len]
theorem Wd_low {a b c d : Int} (h : Two a b c d) : Wd (a + c) (b + d) (a + b) = Wd a b (a + b) := by
  unfold Wd
  exact List.map_congr_left fun k hk => by
    have := mem_rng hk
    exact Lt_low h this.1 this.2
theorem Wd_all {a b c d : Int} (h : Two a b c d) : Wd (a + c) (b + d) (a + c + (b + d)) = Wd a b (a + b) ++ Wd c d (c + d) := by
  rw [← Wd_low h]
  have hm := h.m
  have hm2 := h.m2
  unfold Wd rangeI
  have e : (a + c + (b + d) - 0).toNat = (a + b - 0).toNat + (c + d - 0).toNat := by omega
  rw [e, List.range_add, List.map_append, List.map_append]
  congr 1
  rw [List.map_map, List.map_map, List.map_map]
  refine List.map_congr_left fun j hj => ?_
  have := List.mem_range.mp hj
  show Lt (a + c) (b + d) (0 + (((a + b - 0).toNat + j : Nat) : Int)) = Lt c d (0 + (j : Nat))
  rw [← Lt_high h (by omega) (by omega)]
  congr 1
  omega
end Slw
namespace Slw
open PySem J
theorem lletter_ok {p q k : Int} {P : Str → Prop} (hp : 0 ≤ p) (hq : 0 ≤ q) (hn : 0 < p + q) (bn : (p + q).natAbs < 2 ^ Big) (h1 : JMul (k + 1) q) (h2 : JMul k q) (h : P (Lt p q k)) : w_law_letter (p, q) k P := by
  unfold w_law_letter
  have dk : JDiv (p + q) := div_ok hn bn
  refine wLet_to ⟨h1, dk, h2, dk, fun e => ?_, fun e => ?_⟩
  · have e' := (Lt_div hp hq hn).mp (of_decide_eq_true e)
    unfold Lt at h
    rw [if_pos e'] at h
    exact h
  · have e' := fun z => of_decide_eq_false e ((Lt_div hp hq hn).mpr z)
    unfold Lt at h
    rw [if_neg e'] at h
    exact h
theorem ll_ok {p q k : Int} {P : Str → Prop} (h : Dn p q) (hk : k.natAbs ≤ 10000000000000000000000000000000000000000000000000000000000000) (w : P (Lt p q k)) : w_law_letter (p, q) k P :=
  lletter_ok h.a h.b h.pos (big62 (by have := h.a; have := h.b; have := h.le1; have := h.le2; omega)) (h.mul (by omega)) (h.mul (by omega)) w
end Slw
namespace Slw
open PySem J
/-! the tables of rounds as permutations with bits -/
theorem orJ_lt {n : Nat} {x y : Int} (x0 : 0 ≤ x) (y0 : 0 ≤ y) (hx : x < 2 ^ n) (hy : y < 2 ^ n) : 0 ≤ orJ x y ∧ orJ x y < 2 ^ n := by
  have P : ((2 : Int) ^ n) = ((2 ^ n : Nat) : Int) := by norm_cast
  rw [P] at hx hy ⊢
  unfold orJ
  have := Nat.or_lt_two_pow (x := x.toNat) (y := y.toNat) (n := n) (by omega) (by omega)
  omega
theorem RT.join {n : Nat} {a b : Tb} (ha : RT n a.1 a.2) (hb : RT n b.1 b.2) : RT n (joinT a b).1 (joinT a b).2 where
  pe := by
    have h1 : ((rangeI 0 (n : Int)).map (gI b.1)) = b.1 := by
      refine List.ext_getElem (by rw [List.length_map, rangeI_len, hb.le]) fun i h1 h2 => ?_
      rw [List.getElem_map, rangeI_get, gI_nat h2]
    show (a.1.map fun t => gI b.1 t).Perm _
    have h2 := ha.pe.map (gI b.1)
    rw [h1] at h2
    exact h2.trans hb.pe
  lm := by
    show ((List.zip a.1 a.2).map _).length = n
    rw [List.length_map, List.length_zip, ha.le, ha.lm, Nat.min_self]
  bm := fun x hx => by
    obtain ⟨t, ht, rfl⟩ := List.mem_map.mp hx
    have hm := List.of_mem_zip (show (t.1, t.2) ∈ List.zip a.1 a.2 from ht)
    have h1 := ha.bm _ hm.2
    have h2 := mem_rangeI.mp (ha.pe.mem_iff.mp hm.1)
    have h3 := hb.mb h2.1 h2.2
    exact orJ_lt h1.1 h3.1 h1.2 h3.2
theorem RT.rest (n : Nat) : RT n (restT n).1 (restT n).2 := ⟨List.Perm.refl _, by show (List.replicate n (0 : Int)).length = n; rw [List.length_replicate], fun x hx => by
  have e : x = 0 := (List.mem_replicate.mp hx).2
  have p : (0 : Int) < 2 ^ n := Int.pow_pos (by decide)
  omega⟩
theorem RT.pw {n : Nat} {t : Tb} (ht : RT n t.1 t.2) : ∀ k, RT n (pwT n t k).1 (pwT n t k).2
  | 0 => RT.rest n
  | k + 1 => (RT.pw ht k).join ht
structure R2 (n : Nat) (s : Tb × Tb) : Prop where
  a : RT n s.1.1 s.1.2
  b : RT n s.2.1 s.2.2
theorem R2.tt {n : Nat} {s : Tb × Tb} {x : Str × Int} (h : R2 n s) : R2 n (Slw.tt n s x) := by
  unfold Slw.tt
  split
  · exact ⟨h.a, (RT.pw h.a _).join h.b⟩
  · exact ⟨h.a.join (RT.pw h.b _), h.b⟩
theorem R2.tts {n : Nat} : ∀ {rs : List (Str × Int)} {s : Tb × Tb}, R2 n s → R2 n (Slw.tts n s rs)
  | [], _, h => h
  | x :: r, s, h => R2.tts (rs := r) h.tt
theorem R2.sides {n : Nat} {r a : List Int} (hr : r.Perm (rangeI 0 n)) (ha : a.Perm (rangeI 0 n)) : R2 n ((r, mk1 n), (a, mk1 n)) := by
  have hm : ∀ x ∈ mk1 n, (0 : Int) ≤ x ∧ x < 2 ^ n := fun x hx => by
    obtain ⟨y, hy, rfl⟩ := List.mem_map.mp hx
    obtain ⟨y0, y1⟩ := mem_rangeI.mp hy
    rw [Int.one_mul]
    have P : ∀ n : Nat, ((2 : Int) ^ n) = ((2 ^ n : Nat) : Int) := fun n => by norm_cast
    have := Nat.pow_lt_pow_right (show 1 < 2 by decide) (show y.toNat < n by omega)
    exact ⟨by rw [P]; exact Int.natCast_nonneg _, by rw [P, P]; exact_mod_cast this⟩
  have lm : (mk1 n).length = n := by
    unfold mk1
    rw [List.length_map, rangeI_len]
  exact ⟨⟨hr, lm, hm⟩, ⟨ha, lm, hm⟩⟩
theorem Rt.rt {n : Nat} {A B : Tb} (h : R2 n (A, B)) (p q : Int) : RT n (Rt n A B p q).1 (Rt n A B p q).2 := by
  unfold Rt
  split
  · exact h.a
  · split
    · exact h.b
    · exact (R2.tts h).a.join (R2.tts h).b
/-! bits -/
theorem bitP_nat (m : Nat) (k : Int) : bitP (m : Int) k = m.testBit k.toNat := by
  have P : ∀ n : Nat, ((2 : Int) ^ n) = ((2 ^ n : Nat) : Int) := fun n => by norm_cast
  have e : ((m : Int) / 2 ^ k.toNat).toNat = m / 2 ^ k.toNat := by
    rw [P, ← Int.natCast_ediv]
    rfl
  have e2 : andJ ((m : Int) / 2 ^ k.toNat) 1 = ((m / 2 ^ k.toNat % 2 : Nat) : Int) := by
    unfold andJ
    rw [e, show ((1 : Int)).toNat = 1 from rfl, Nat.and_one_is_mod]
  unfold bitP
  rw [e2, Nat.testBit_eq_decide_div_mod_eq]
  by_cases z : m / 2 ^ k.toNat % 2 = 1
  · rw [decide_eq_true z, decide_eq_true (by omega)]
  · rw [decide_eq_false z, decide_eq_false (by omega)]
theorem bitP_or {x y : Int} (x0 : 0 ≤ x) (y0 : 0 ≤ y) (k : Int) : bitP (orJ x y) k = (bitP x k || bitP y k) := by
  have ex : x = ((x.toNat : Nat) : Int) := by omega
  have ey : y = ((y.toNat : Nat) : Int) := by omega
  rw [ex, ey]
  unfold orJ
  rw [bitP_nat, bitP_nat, bitP_nat, Int.toNat_natCast, Int.toNat_natCast, Nat.testBit_or]
theorem bitP_one {y x : Int} (y0 : 0 ≤ y) (x0 : 0 ≤ x) : bitP ((1 : Int) * 2 ^ y.toNat) x = decide (x = y) := by
  have P : ∀ n : Nat, ((2 : Int) ^ n) = ((2 ^ n : Nat) : Int) := fun n => by norm_cast
  rw [Int.one_mul, P, bitP_nat, Nat.testBit_two_pow]
  by_cases z : x = y
  · rw [z, decide_eq_true rfl, decide_eq_true rfl]
  · rw [decide_eq_false z, decide_eq_false (by omega)]
theorem bitP_zero (x : Int) : bitP 0 x = false := by
  rw [show (0 : Int) = ((0 : Nat) : Int) from rfl, bitP_nat, Nat.zero_testBit]
/-! walks letter by letter -/
def stp (r a : List Int) (l : Str) (x : Int) : Int := gI (if l = ("u" : Str) then a else r) x
def wk (r a : List Int) : List Str → Int → Int
  | [], x => x
  | l :: w, x => wk r a w (stp r a l x)
def vs (r a : List Int) : List Str → Int → List Int
  | [], _ => []
  | l :: w, x => x :: vs r a w (stp r a l x)
theorem wk_app (r a : List Int) : ∀ (u v : List Str) (x : Int), wk r a (u ++ v) x = wk r a v (wk r a u x)
  | [], _, _ => rfl
  | l :: u, v, x => wk_app r a u v (stp r a l x)
theorem vs_app (r a : List Int) : ∀ (u v : List Str) (x : Int), vs r a (u ++ v) x = vs r a u x ++ vs r a v (wk r a u x)
  | [], _, _ => rfl
  | l :: u, v, x => by
    show x :: vs r a (u ++ v) (stp r a l x) = x :: (vs r a u (stp r a l x) ++ _)
    rw [vs_app r a u v (stp r a l x)]
    rfl
structure TW (n : Nat) (r a : List Int) (t : Tb) (w : List Str) : Prop where
  e : ∀ y : Nat, y < n → gI t.1 y = wk r a w y
  m : ∀ (y : Nat) (x : Int), y < n → 0 ≤ x → (bitP (gI t.2 y) x = true ↔ x ∈ vs r a w y)
theorem TW.join {n : Nat} {r a : List Int} {s t : Tb} {u v : List Str} (hs : TW n r a s u) (ht : TW n r a t v) (is : IsT n s) (it : IsT n t) : TW n r a (joinT s t) (u ++ v) where
  e := fun y hy => by
    obtain ⟨j, hj, ej⟩ := is.end hy
    rw [joinT_get1 is hy, ej, ht.e j hj, wk_app, ← hs.e y hy, ej]
  m := fun y x hy hx => by
    obtain ⟨j, hj, ej⟩ := is.end hy
    rw [joinT_get2 is hy, bitP_or (is.mk0 hy) (by rw [ej]; exact it.mk0 hj), vs_app, List.mem_append, ← hs.m y x hy hx, ← hs.e y hy, ej, ← ht.m j x hj hx, Bool.or_eq_true]
theorem mk1_get {n y : Nat} (hy : y < n) : gI (mk1 n) y = (1 : Int) * 2 ^ y := by
  unfold mk1
  rw [gI_nat (by rw [List.length_map, rangeI_len]; exact hy), List.getElem_map, rangeI_get, Int.toNat_natCast]
theorem TW.side {n : Nat} {r a x : List Int} {l : Str} (h : (if l = ("u" : Str) then a else r) = x) : TW n r a (x, mk1 n) [l] where
  e := fun y _ => by
    show gI x y = stp r a l y
    unfold stp
    rw [h]
  m := fun y z hy hz => by
    show bitP (gI (mk1 n) y) z = true ↔ z ∈ [(y : Int)]
    have e := bitP_one (y := (y : Int)) (x := z) (by omega) hz
    rw [Int.toNat_natCast] at e
    rw [mk1_get hy, e, decide_eq_true_iff, List.mem_singleton]
theorem keyW {n : Nat} {r a : List Int} (h : T2 n ((r, mk1 n), (a, mk1 n))) : ∀ (m : Nat) (rs : List (Str × Int)), Kinds rs → Alt rs → (rs.map (·.2)).sum ≤ m →
    TW n r a (tts n ((r, mk1 n), (a, mk1 n)) rs).1 (Wd (nb s1001 rs).1 (nb s1001 rs).2.1 ((nb s1001 rs).1 + (nb s1001 rs).2.1)) ∧ TW n r a (tts n ((r, mk1 n), (a, mk1 n)) rs).2 (Wd (nb s1001 rs).2.2.1 (nb s1001 rs).2.2.2 ((nb s1001 rs).2.2.1 + (nb s1001 rs).2.2.2))
  | m, rs, hk, ha, hm => by
    rcases List.eq_nil_or_concat rs with rfl | ⟨r0, y, rfl⟩
    · have e1 : Wd 1 0 (1 + 0) = [("r" : Str)] := by decide +kernel
      have e2 : Wd 0 1 (0 + 1) = [("u" : Str)] := by decide +kernel
      show TW n r a (r, mk1 n) (Wd 1 0 (1 + 0)) ∧ TW n r a (a, mk1 n) (Wd 0 1 (0 + 1))
      rw [e1, e2]
      exact ⟨TW.side (if_neg (by decide +kernel)), TW.side (if_pos rfl)⟩
    · rw [List.concat_eq_append] at hk ha hm ⊢
      obtain ⟨r1, k1, a1, en, et, es⟩ := less_one (n := n) (s := ((r, mk1 n), (a, mk1 n))) h hk ha
      have s0 := sum_nn0 (rs := r1) k1.nn
      match m, hm with
      | 0, hm => omega
      | m + 1, hm =>
        obtain ⟨i1, i2⟩ := keyW h m r1 k1 a1 (by omega)
        have t2 : T2 n (tts n ((r, mk1 n), (a, mk1 n)) r1) := h.tts
        have o4 := (nb_le (s := s1001) (rs := r1) ⟨by decide, by decide, by decide, by decide⟩ k1.nn).1
        have dt := nb_det r1 s1001 (by decide)
        rw [en, et]
        generalize hN : nb s1001 r1 = N at i1 i2 o4 dt ⊢
        have two : Two N.1 N.2.1 N.2.2.1 N.2.2.2 := ⟨o4.a, o4.b, o4.c, o4.d, dt⟩
        have J := TW.join i1 i2 t2.a t2.b
        rw [← Wd_all two] at J
        by_cases z : y.1 = ("flat" : Str)
        · rw [show tt n (tts n ((r, mk1 n), (a, mk1 n)) r1) (y.1, 1) = ((tts n ((r, mk1 n), (a, mk1 n)) r1).1, joinT (pwT n (tts n ((r, mk1 n), (a, mk1 n)) r1).1 1) (tts n ((r, mk1 n), (a, mk1 n)) r1).2) from if_pos z, show turn N (y.1, 1) = (N.1, N.2.1, N.2.2.1 + 1 * N.1, N.2.2.2 + 1 * N.2.1) from if_pos z]
          dsimp only
          rw [pw_one t2.a, Int.one_mul, Int.one_mul, Int.add_comm N.2.2.1, Int.add_comm N.2.2.2]
          exact ⟨i1, J⟩
        · rw [show tt n (tts n ((r, mk1 n), (a, mk1 n)) r1) (y.1, 1) = (joinT (tts n ((r, mk1 n), (a, mk1 n)) r1).1 (pwT n (tts n ((r, mk1 n), (a, mk1 n)) r1).2 1), (tts n ((r, mk1 n), (a, mk1 n)) r1).2) from if_neg z, show turn N (y.1, 1) = (N.1 + 1 * N.2.2.1, N.2.1 + 1 * N.2.2.2, N.2.2.1, N.2.2.2) from if_neg z]
          dsimp only
          rw [pw_one t2.b, Int.one_mul, Int.one_mul]
          exact ⟨J, i2⟩
/-- the table of one round of p:q walks the word of p:q -/
theorem Rt.tw {n : Nat} {r a : List Int} {p q : Int} (hr : r.Perm (rangeI 0 n)) (ha : a.Perm (rangeI 0 n)) (hp : 0 ≤ p) (hq : 0 ≤ q) (hg : Int.gcd p q = 1) : TW n r a (Rt n (r, mk1 n) (a, mk1 n) p q) (Wd p q (p + q)) := by
  have t2 := T2.sides hr ha
  by_cases zq : q = 0
  · subst zq
    have p1 : p = 1 := by
      rw [Int.gcd_zero_right] at hg
      omega
    subst p1
    exact (keyW t2 0 [] (fun x hx => by cases hx) (fun i x y hx => by cases hx) (by decide)).1
  · by_cases zp : p = 0
    · subst zp
      have q1 : q = 1 := by
        rw [Int.gcd_zero_left] at hg
        omega
      subst q1
      exact (keyW t2 0 [] (fun x hx => by cases hx) (fun i x y hx => by cases hx) (by decide)).2
    · obtain ⟨k, al, e, _⟩ := F_spec (p + q).toNat p q (Nat.le_refl _) (by omega) (by omega) hg
      obtain ⟨e1, e2⟩ := nb_E1 (F p q)
      rw [e] at e1 e2
      dsimp only at e1 e2
      obtain ⟨w1, w2⟩ := keyW t2 ((F p q).map fun (x : Str × Int) => x.2).sum.toNat (F p q) k al (by have := sum_nn0 (rs := F p q) k.nn; omega)
      have o4 := (nb_le (s := s1001) (rs := F p q) ⟨by decide, by decide, by decide, by decide⟩ k.nn).1
      have dt := nb_det (F p q) s1001 (by decide)
      have two : Two (nb s1001 (F p q)).1 (nb s1001 (F p q)).2.1 (nb s1001 (F p q)).2.2.1 (nb s1001 (F p q)).2.2.2 := ⟨o4.a, o4.b, o4.c, o4.d, dt⟩
      have J := TW.join w1 w2 (T2.tts t2).a (T2.tts t2).b
      rw [← Wd_all two, e1, e2, ← Rt_pos (by omega) (by omega)] at J
      exact J
end Slw
namespace Slw
open PySem J
theorem rangeI_succ (i : Nat) : rangeI 0 (((i + 1 : Nat)) : Int) = rangeI 0 (i : Int) ++ [(i : Int)] := by
  rw [rangeI_sum i 1]
  congr 1
  show [(0 : Int) + ((0 : Nat) : Int) + (i : Int)] = [(i : Int)]
  simp
theorem Wd_succ (p q : Int) (i : Nat) : Wd p q ((i + 1 : Nat) : Int) = Wd p q (i : Int) ++ [Lt p q i] := by
  unfold Wd
  rw [rangeI_succ, List.map_append]
  rfl
theorem Wd_per {p q : Int} {L : Nat} (hL : p + q = (L : Int)) (j k : Nat) : Wd p q ((j * L + k : Nat) : Int) = Wd p q ((j * L : Nat) : Int) ++ Wd p q (k : Int) := by
  unfold Wd
  rw [rangeI_sum, List.map_append, List.map_map]
  congr 1
  refine List.map_congr_left fun x _ => ?_
  show Lt p q (x + ((j * L : Nat) : Int)) = Lt p q x
  have e : ((j * L : Nat) : Int) = (j : Int) * (p + q) := by
    rw [hL]
    push_cast
    rfl
  rw [e, Lt_add]
theorem wk_rng {n : Nat} {r a : List Int} (hr : r.Perm (rangeI 0 n)) (ha : a.Perm (rangeI 0 n)) : ∀ (w : List Str) (x : Int), 0 ≤ x → x < n → 0 ≤ wk r a w x ∧ wk r a w x < n
  | [], _, h0, h1 => ⟨h0, h1⟩
  | l :: w, x, h0, h1 => by
    have g : 0 ≤ stp r a l x ∧ stp r a l x < n := by
      unfold stp
      obtain ⟨i, rfl⟩ : ∃ i : Nat, x = i := ⟨x.toNat, by omega⟩
      split
      · exact perm_gI ha (by omega)
      · exact perm_gI hr (by omega)
    exact wk_rng hr ha w _ g.1 g.2
section
variable {n L : Nat} {r a e m : List Int} {p q : Int} {s : Nat}
theorem pos_mul (R : RT n e m) (tw : TW n r a (e, m) (Wd p q (L : Int))) (hL : p + q = (L : Int)) (hs : s < n) : ∀ j : Nat, wk r a (Wd p q ((j * L : Nat) : Int)) s = it e s j
  | 0 => by
    rw [Nat.zero_mul]
    rfl
  | j + 1 => by
    rw [Nat.succ_mul, Wd_per hL, wk_app, pos_mul R tw hL hs j]
    obtain ⟨h0, h1⟩ := R.it (s := (s : Int)) (by omega) (by omega) j
    obtain ⟨y, hy⟩ : ∃ y : Nat, it e s j = y := ⟨(it e s j).toNat, by omega⟩
    rw [hy, ← tw.e y (by omega), ← hy]
    rfl
theorem vis_mul (R : RT n e m) (tw : TW n r a (e, m) (Wd p q (L : Int))) (hL : p + q = (L : Int)) (hs : s < n) : ∀ (j : Nat) (x : Int), 0 ≤ x → (x ∈ vs r a (Wd p q ((j * L : Nat) : Int)) s ↔ bitP (mkO m (orb e s j)) x = true)
  | 0, x, _ => by
    rw [Nat.zero_mul]
    show x ∈ ([] : List Int) ↔ bitP 0 x = true
    rw [bitP_zero]
    simp
  | j + 1, x, hx => by
    obtain ⟨h0, h1⟩ := R.it (s := (s : Int)) (by omega) (by omega) j
    obtain ⟨y, hy⟩ : ∃ y : Nat, it e s j = y := ⟨(it e s j).toNat, by omega⟩
    rw [Nat.succ_mul, Wd_per hL, vs_app, pos_mul R tw hL hs j, List.mem_append, vis_mul R tw hL hs j x hx, orb_succ, mkO_app, bitP_or (R.mkb (s := (s : Int)) (by omega) (by omega)).1 (R.mb h0 h1).1, Bool.or_eq_true, hy, tw.m y x (by omega) hx]
theorem walked_ok {P : Bool → Prop} (hn : n ≤ 100) (hr : r.Perm (rangeI 0 n)) (ha : a.Perm (rangeI 0 n)) (R : RT n e m) (tw : TW n r a (e, m) (Wd p q (L : Int))) (hL : p + q = (L : Int)) (L1 : 1 ≤ L) (L2 : L ≤ 100) (D : Dn p q) (hs : s < n) (w : P true) :
    w_law_ring_is_walked [r, a] (p, q) ((s : Int), ((per e n s : Nat) : Int), roomsJ n (mkO m (rg e n s))) P := by
  unfold w_law_ring_is_walked
  obtain ⟨p1, p2, p3, p4⟩ := R.isPer (s := (s : Int)) (by omega) (by omega)
  generalize hk : per e n s = k at p1 p2 p3 p4
  have hrg : rg e n s = orb e s k := by
    unfold rg
    rw [hk]
  rw [hrg]
  dsimp only
  rw [hL]
  have lr : r.length = n := by rw [hr.length_eq, rangeI_len]
  refine wLet_to (wLet_to ⟨r, rfl, by omega, ?_⟩)
  refine wComp_ok (α := Int) (β := Int) (fun _ => 0) r [] _ (fun _ _ N hN => hN) ?_
  rw [List.nil_append]
  have e0 : r.map (fun _ => (0 : Int)) = List.replicate n 0 := by rw [List.map_const', lr]
  rw [e0]
  have ek : (k : Int) * (L : Int) = ((k * L : Nat) : Int) := by push_cast; rfl
  have bk : k * L ≤ 10000 := Nat.mul_le_mul (show k ≤ 100 by omega) L2
  refine wLet_to ⟨mul_ok (big_lit (by omega)) (big_lit (by omega)), ?_⟩
  rw [ek]
  refine ⟨⟨by omega, by omega⟩, ?_⟩
  refine wFor_range (k * L) (fun i st => st.1 = wk r a (Wd p q (i : Int)) s ∧ st.2.length = n ∧ ∀ x : Nat, x < n → gI st.2 x = if (x : Int) ∈ vs r a (Wd p q (i : Int)) s then 1 else 0) ?_ ?_ _ ⟨rfl, List.length_replicate, fun x hx => ?_⟩
  · rintro i ⟨room, ps⟩ N hi ⟨hroom, hlen, hps⟩ hN
    dsimp only at hroom hlen hps ⊢
    obtain ⟨g0, g1⟩ := wk_rng hr ha (Wd p q (i : Int)) s (by omega) (by omega)
    rw [← hroom] at g0 g1
    have hW := Wd_succ p q i
    refine wCut_ok fun B hB => ?_
    have body : B := hB (by
      refine ⟨room.toNat, ?_, wLet_to (ll_ok D (by omega) ?_)⟩
      · unfold ixW
        rw [hlen, if_pos ⟨g0, g1⟩]
      · have ix : ixI [r, a] (if decide (Lt p q i = ("u" : Str)) = true then (1 : Int) else 0) = some (if Lt p q i = ("u" : Str) then a else r) := by
          by_cases z : Lt p q i = ("u" : Str)
          · rw [decide_eq_true z, if_pos z]
            rfl
          · rw [decide_eq_false z, if_neg z]
            rfl
        refine ⟨_, ix, _, gI_ix g0 ?_, wLet_to (hN _ ⟨?_, ?_, fun x hx => ?_⟩)⟩
        · split
          · rw [ha.length_eq, rangeI_len]
            exact g1
          · rw [lr]
            exact g1
        · show gI _ room = _
          rw [hW, wk_app, ← hroom]
          rfl
        · rw [List.length_set]
          exact hlen
        · show gI (ps.set room.toNat 1) x = _
          rw [gI_set (by omega) (by omega), hps x hx, hW, vs_app, ← hroom, show vs r a [Lt p q i] room = [room] from rfl]
          by_cases z : (x : Int) = room
          · rw [if_pos (by omega), if_pos (List.mem_append_right _ (by rw [z]; exact List.mem_singleton.mpr rfl))]
          · rw [if_neg (by omega)]
            by_cases y : (x : Int) ∈ vs r a (Wd p q (i : Int)) s
            · rw [if_pos y, if_pos (List.mem_append_left _ y)]
            · rw [if_neg y, if_neg (fun h => (List.mem_append.mp h).elim y fun h => z (List.mem_singleton.mp h))])
    refine ⟨fun zi => ⟨by omega, fun zm => ⟨fun ze => ?_, fun _ => body⟩, fun _ => body⟩, fun _ => body⟩
    exfalso
    have i0 := of_decide_eq_true zi
    have im := of_decide_eq_true zm
    have er := of_decide_eq_true ze
    have hm : i % L = 0 := by omega
    obtain ⟨j, rfl⟩ : ∃ j, i = j * L := ⟨i / L, by have := Nat.div_add_mod i L; rw [hm] at this; rw [Nat.mul_comm]; omega⟩
    rw [hroom, pos_mul R tw hL hs j] at er
    have j1 : 0 < j := by
      rcases Nat.eq_zero_or_pos j with z | z
      · rw [z] at i0
        simp at i0
      · exact z
    have j2 : j < k := Nat.lt_of_mul_lt_mul_right hi
    exact p4 j j1 j2 er
  · rintro ⟨room, ps⟩ ⟨hroom, hlen, hps⟩
    dsimp only at hroom hlen hps ⊢
    rw [pos_mul R tw hL hs k, p3] at hroom
    refine ⟨fun _ => ?_, fun z => absurd hroom (of_decide_eq_false z)⟩
    rw [hlen]
    refine ⟨⟨by omega, by omega⟩, by rw [rangeI_len]; omega, ?_⟩
    refine wCompF_ok (α := Int) (β := Int) (fun x => decide (gI ps x = 1)) (fun x => x) _ [] _ (fun x hx A B hA hB => ?_) (fun x _ _ N hN => hN) ?_
    · obtain ⟨x0, x1⟩ := mem_rangeI.mp hx
      exact ⟨_, gI_ix x0 (by rw [hlen]; exact x1), hA, hB⟩
    · rw [List.nil_append, List.map_id']
      have ef : (rangeI 0 (n : Int)).filter (fun x => decide (gI ps x = 1)) = roomsJ n (mkO m (orb e s k)) := by
        unfold roomsJ
        refine List.filter_congr fun x hx => ?_
        obtain ⟨x0, x1⟩ := mem_rangeI.mp hx
        obtain ⟨y, rfl⟩ : ∃ y : Nat, x = y := ⟨x.toNat, by omega⟩
        have hv := vis_mul R tw hL hs k (y : Int) (by omega)
        rw [hps y (by omega)]
        by_cases z : (y : Int) ∈ vs r a (Wd p q ((k * L : Nat) : Int)) s
        · rw [if_pos z, hv.mp z]
          rfl
        · rw [if_neg z]
          have : ¬ bitP (mkO m (orb e s k)) y = true := fun h => z (hv.mpr h)
          rw [Bool.not_eq_true] at this
          rw [this]
          rfl
      rw [ef]
      refine ⟨fun _ _ => trivial, fun _ _ => trivial, ?_⟩
      rw [decide_eq_true rfl]
      exact w
  · have : (x : Int) ∈ vs r a (Wd p q ((0 : Nat) : Int)) s ↔ False := by
      show (x : Int) ∈ ([] : List Int) ↔ False
      simp
    rw [if_neg (fun h => this.mp h)]
    show gI (List.replicate n 0) x = 0
    rw [gI_nat (by rw [List.length_replicate]; exact hx), List.getElem_replicate]
end
theorem rst_mem {n : Nat} {e m : List Int} : ∀ i, ∀ x ∈ (rst e m n i).1, ∃ s : Nat, s < i ∧ x = ((s : Int), ((per e n s : Nat) : Int), roomsJ n (mkO m (rg e n s)))
  | 0, x, h => by cases h
  | i + 1, x, h => by
    by_cases z : memJ (i : Int) (rst e m n i).2 = true
    · rw [rst_in z] at h
      obtain ⟨s, h1, h2⟩ := rst_mem i x h
      exact ⟨s, by omega, h2⟩
    · rw [rst_new z] at h
      rcases List.mem_append.mp h with h | h
      · obtain ⟨s, h1, h2⟩ := rst_mem i x h
        exact ⟨s, by omega, h2⟩
      · exact ⟨i, by omega, List.mem_singleton.mp h⟩
end Slw
namespace Slw
open PySem J
theorem rot_perm {n : Nat} (hn : 0 < n) (c : Int) : ((rangeI 0 (n : Int)).map fun x => (x + c) % (n : Int)).Perm (rangeI 0 n) := by
  have c0 := Int.emod_nonneg c (show (n : Int) ≠ 0 by omega)
  have c1 := Int.emod_lt_of_pos c (show (0 : Int) < n by omega)
  obtain ⟨k, hk⟩ : ∃ k : Nat, c % n = k := ⟨(c % n).toNat, by omega⟩
  have e : ((rangeI 0 (n : Int)).map fun x => (x + c) % (n : Int)) = (rangeI 0 (n : Int)).drop k ++ (rangeI 0 (n : Int)).take k := by
    refine List.ext_getElem (by rw [List.length_map, List.length_append, List.length_drop, List.length_take, rangeI_len]; omega) fun i h1 h2 => ?_
    have hi : i < n := by rw [List.length_map, rangeI_len] at h1; exact h1
    rw [List.getElem_map, rangeI_get, List.getElem_append]
    have e1 : ((i : Int) + c) % n = ((i : Int) + k) % n := by rw [← hk, Int.add_emod_emod]
    rw [e1]
    split
    · rename_i h
      rw [List.length_drop, rangeI_len] at h
      rw [List.getElem_drop, rangeI_get, Int.emod_eq_of_lt (by omega) (by omega)]
      omega
    · rename_i h
      rw [List.length_drop, rangeI_len] at h
      have l : ((rangeI 0 (n : Int)).drop k).length = n - k := by rw [List.length_drop, rangeI_len]
      rw [List.getElem_take, rangeI_get]
      have e2 : ((i : Int) + k) = ((i : Int) + k - n) + 1 * n := by omega
      rw [e2, Int.add_mul_emod_self_right, Int.emod_eq_of_lt (by omega) (by omega)]
      omega
  rw [e]
  have := List.perm_append_comm (l₁ := (rangeI 0 (n : Int)).drop k) (l₂ := (rangeI 0 (n : Int)).take k)
  rw [List.take_append_drop] at this
  exact this
theorem wd_ok {n : Nat} {r a : List Int} {p q : Int} {P : Tb → Prop} (hn : n ≤ 1000) (hr : r.Perm (rangeI 0 n)) (ha : a.Perm (rangeI 0 n)) (hp : 0 ≤ p) (hq : 0 ≤ q) (hg : Int.gcd p q = 1) (bp : (p + q).natAbs < 2 ^ Big)
    (w : P (Rt n (r, mk1 n) (a, mk1 n) p q)) : w_walk_table (r, a) p q () P := by
  have t2 := T2.sides hr ha
  have lr : r.length = n := by rw [hr.length_eq, rangeI_len]
  unfold w_walk_table w_stretch_of_round
  have side : ∀ {k : Tb × Int × Unit → Prop}, (p = 0 ∨ q = 0) → (∀ s : Tb × Int × Unit, s.1 = Rt n (r, mk1 n) (a, mk1 n) p q → k s) → w_side_stretches (r, a) fun r374 => (wLet r374 fun (t373 : ((((List Int) × (List Int)) × Int × Unit) × (((List Int) × (List Int)) × Int × Unit))) => (((decide (q = (0 : Int))) = true → k t373.1) ∧ ((decide (q = (0 : Int))) = false → k t373.2))) := fun {k} hz hk => by
    refine sides_ok hn lr (wLet_to ⟨fun z => hk _ ?_, fun z => hk _ ?_⟩)
    · unfold Rt
      rw [if_pos (of_decide_eq_true z)]
    · have zq := of_decide_eq_false z
      unfold Rt
      rw [if_neg zq, if_pos (hz.resolve_right zq)]
  have fin : ∀ s : Tb × Int × Unit, s.1 = Rt n (r, mk1 n) (a, mk1 n) p q → (wLet s fun (one_round_380 : (((List Int) × (List Int)) × Int × Unit)) => ((((none : Option Int).isNone) = true → P one_round_380.1) ∧ (((none : Option Int).isNone) = false → False))) := fun s hs => wLet_to ⟨fun _ => by rw [hs]; exact w, fun z => (nomatch z)⟩
  refine check_ok hp hq hg ?_
  refine wCut_ok fun B hB => ⟨fun z => ?_, fun zp => ⟨fun z => ?_, fun zq => ?_⟩⟩
  · exact hB (side (k := fun s => wLet s fun (one_round_380 : (((List Int) × (List Int)) × Int × Unit)) => ((((none : Option Int).isNone) = true → P one_round_380.1) ∧ (((none : Option Int).isNone) = false → False))) (.inl (of_decide_eq_true z)) fin)
  · exact hB (side (k := fun s => wLet s fun (one_round_380 : (((List Int) × (List Int)) × Int × Unit)) => ((((none : Option Int).isNone) = true → P one_round_380.1) ∧ (((none : Option Int).isNone) = false → False))) (.inr (of_decide_eq_true z)) fin)
  have z1 := of_decide_eq_false zp
  have z2 := of_decide_eq_false zq
  refine rounds_ok hn hr ha (by omega) (by omega) hg bp fun rs hs => wLet_to ?_
  have e2 := hs.eqF
  have o := hs.nn
  have ep := hs.p_eq
  have eq := hs.q_eq
  subst e2
  have t3 : T2 n (tts n ((r, mk1 n), (a, mk1 n)) (F p q)) := t2.tts
  have oa := o.a
  have ob := o.b
  have oc := o.c
  have od := o.d
  refine put_ok (n := n) hn t3.a t3.b (by decide) (by decide) (mul_ok (by show ((nb s1001 (F p q)).1 + (nb s1001 (F p q)).2.1).natAbs < _; omega) (by decide)) (mul_ok (by show ((nb s1001 (F p q)).2.2.1 + (nb s1001 (F p q)).2.2.2).natAbs < _; omega) (by decide)) (fin _ ?_)
  show joinT (pwT n (tts n ((r, mk1 n), (a, mk1 n)) (F p q)).1 1) (pwT n (tts n ((r, mk1 n), (a, mk1 n)) (F p q)).2 1) = _
  rw [pw_one t3.a, pw_one t3.b, Rt_pos (by omega) (by omega)]
theorem kinds_dir {a b : Int} (ha : 0 ≤ a) (hb : 0 ≤ b) (hg : Int.gcd a b = 1) : a = 0 ∨ b = 0 ∨ Kinds (F a b) := by
  by_cases z : a = 0
  · exact .inl z
  · by_cases z2 : b = 0
    · exact .inr (.inl z2)
    · exact .inr (.inr (F_spec (a + b).toNat a b (Nat.le_refl _) (by omega) (by omega) hg).1)
end Slw
namespace Slw
open PySem J
/-- one direction -/
theorem one_ok {n : Nat} {r a : List Int} {p q : Int} {small : Bool} {N : Unit → Prop} {P : Bool → Prop} (hn1 : 1 ≤ n) (hn : n ≤ 100) (hr : r.Perm (rangeI 0 n)) (ha : a.Perm (rangeI 0 n)) (D : Dn p q) (hs : small = true → p ≤ 9 ∧ q ≤ 9) (w : N ()) :
    w_rings_at (r, a) p q fun r494 => (wLet r494 fun (found_316 : (List (Int × Int × (List Int)))) => (∃ x475, ixI [r, a] (0 : Int) = some x475 ∧ (∃ x476, ixI [r, a] (1 : Int) = some x476 ∧ (w_law_round (x475) (x476) p q fun r493 => (w_law_rings (r493) fun r492 => (w_law_is_rings (found_316) (r492) fun r491 => ((r491 = true → (wJoin (fun (s478 : Unit) => (([] : List Int).length ≤ 1000 ∧ (found_316.length < 1000000 ∧ (wLet ((0 : Int), (0 : Int), ([] : List Int)) fun (y490 : (Int × Int × (List Int))) => (N ()))))) fun (J479 : Unit → Prop) => ((small = true → (wFor (fun (ring_482 : (Int × Int × (List Int))) (s481 : Unit) (nxt483 brk484 : Unit → Prop) => (w_law_ring_is_walked [r, a] (p, q) (ring_482) fun r488 => ((r488 = true → (nxt483 ())) ∧ (r488 = false → P false)))) (fun (s481 : Unit) => (J479 ())) found_316 ())) ∧ (small = false → (J479 ()))))) ∧ (r491 = false → P false)))))))) := by
  have d1 := D.a
  have d2 := D.b
  have d3 := D.le1
  have d4 := D.le2
  have R : RT n (Rt n (r, mk1 n) (a, mk1 n) p q).1 (Rt n (r, mk1 n) (a, mk1 n) p q).2 := Rt.rt (R2.sides hr ha) p q
  have tw := Rt.tw hr ha D.a D.b D.g
  unfold w_rings_at
  refine wd_ok (by omega) hr ha D.a D.b D.g (big_lit (by omega)) (rings_ok R (by omega) (wLet_to ⟨r, rfl, a, rfl, ?_⟩))
  refine lawround_ok (by omega) hr ha D.a D.b (kinds_dir D.a D.b D.g) (big_lit (by omega)) (big_lit (by omega)) ?_
  generalize hT : Rt n (r, mk1 n) (a, mk1 n) p q = T at R tw ⊢
  obtain ⟨e, m⟩ := T
  dsimp only at R ⊢
  refine law_rings_ok R (by omega) (both_ok R (by omega) ⟨fun _ => ?_, fun z => (nomatch z)⟩)
  have I := R.ri n (Nat.le_refl n)
  refine wJoin_ok (fun _ => True) (fun _ _ => ⟨by decide, by have := I.len; show (rst e m n n).1.length < 1000000; omega, wLet_to w⟩) fun J hJ => ⟨fun hsm => ?_, fun _ => hJ _ trivial⟩
  obtain ⟨s1, s2⟩ := hs hsm
  have dp := D.pos
  obtain ⟨L, hL⟩ : ∃ L : Nat, p + q = L := ⟨(p + q).toNat, by omega⟩
  rw [hL] at tw
  refine wFor_ok (fun rr _ => ∀ x ∈ rr, x ∈ (rst e m n n).1) (fun x rr u N2 hrr hN2 => ?_) (fun _ _ => hJ _ trivial) _ _ fun x hx => hx
  obtain ⟨s, h1, h2⟩ := rst_mem n x (hrr x List.mem_cons_self)
  rw [h2]
  exact walked_ok hn hr ha R tw hL (by omega) (by omega) D h1 ⟨fun _ => hN2 _ fun y hy => hrr y (List.mem_cons_of_mem _ hy), fun z => (nomatch z)⟩
theorem Dn.sw {p q : Int} (D : Dn p q) : Dn q p := ⟨D.b, D.a, by rw [Int.gcd_comm]; exact D.g, D.le2, D.le1⟩
end Slw
namespace Slw
open PySem J
theorem plan_ok {m : Nat} {r a : List Int} {p q : Int} {small : Bool} {P : Bool → Prop} (m1 : 1 ≤ m) (m2 : m ≤ 100) (hr : r.Perm (rangeI 0 m)) (ha : a.Perm (rangeI 0 m)) (D : Dn p q) (hpq : small = true → p ≤ 9 ∧ q ≤ 9) (w : P true) :
    (∃ x113, ixI [r, a] (0 : Int) = some x113 ∧ (∃ x114, ixI [r, a] (1 : Int) = some x114 ∧ (w_Plan___init__ (x113) (x114) fun r517 => (wLet r517 fun (plan_115 : ((List Int) × (List Int))) => (([(p, q), (q, p), (p, q)] : List (Int × Int)).length ≤ 1000 ∧ (wLet ([(p, q), (q, p), (p, q)]) fun (xs117 : List (Int × Int)) => (wFor (fun (there_119 : (Int × Int)) (s118 : Unit) (nxt120 brk121 : Unit → Prop) => (w_rings_at (plan_115) (there_119.1) (there_119.2) fun r494 => (wLet r494 fun (found_316 : (List (Int × Int × (List Int)))) => (∃ x475, ixI [r, a] (0 : Int) = some x475 ∧ (∃ x476, ixI [r, a] (1 : Int) = some x476 ∧ (w_law_round (x475) (x476) (there_119.1) (there_119.2) fun r493 => (w_law_rings (r493) fun r492 => (w_law_is_rings (found_316) (r492) fun r491 => ((r491 = true → (wJoin (fun (s478 : Unit) => (([] : List Int).length ≤ 1000 ∧ (found_316.length < 1000000 ∧ (wLet ((0 : Int), (0 : Int), ([] : List Int)) fun (y490 : (Int × Int × (List Int))) => (nxt120 ()))))) fun (J479 : Unit → Prop) => ((small = true → (wFor (fun (ring_482 : (Int × Int × (List Int))) (s481 : Unit) (nxt483 brk484 : Unit → Prop) => (w_law_ring_is_walked ([r, a]) (there_119) (ring_482) fun r488 => ((r488 = true → (nxt483 ())) ∧ (r488 = false → P false)))) (fun (s481 : Unit) => (J479 ())) found_316 ())) ∧ (small = false → (J479 ()))))) ∧ (r491 = false → P false)))))))))) (fun (s118 : Unit) => (w_Plan_right plan_115 fun r514 => (∃ x510, ixI [r, a] (0 : Int) = some x510 ∧ (w_law_is_row_l (r514) (x510) fun r513 => ((r513 = true → (w_Plan_above plan_115 fun r516 => (∃ x512, ixI [r, a] (1 : Int) = some x512 ∧ (w_law_is_row_l (r516) (x512) fun r515 => P r515)))) ∧ (r513 = false → P false)))))) xs117 ()))))))) := by
  refine ⟨r, rfl, a, rfl, init_pl m1 m2 hr ha (wLet_to ⟨by show 3 ≤ 1000; omega, wLet_to ?_⟩)⟩
  refine wFor_ok (fun rr _ => ∀ x ∈ rr, x = (p, q) ∨ x = (q, p)) (fun x rr u N hrr hN => ?_) (fun _ _ => ?fin) _ _ (fun x hx => ?mem)
  case mem =>
    simp only [List.mem_cons, List.not_mem_nil, or_false] at hx
    rcases hx with rfl | rfl | rfl
    · exact .inl rfl
    · exact .inr rfl
    · exact .inl rfl
  case fin =>
    unfold w_Plan_right w_Plan_above
    have lr : r.length = m := by rw [hr.length_eq, rangeI_len]
    have la : a.length = m := by rw [ha.length_eq, rangeI_len]
    refine ⟨r, rfl, isrow_ok (by omega) ?_⟩
    rw [decide_eq_true rfl]
    refine ⟨fun _ => ⟨a, rfl, isrow_ok (by omega) ?_⟩, fun z => (nomatch z)⟩
    rw [decide_eq_true rfl]
    exact w
  have nx : N () := hN _ fun y hy => hrr y (List.mem_cons_of_mem _ hy)
  rcases hrr x List.mem_cons_self with rfl | rfl
  · exact one_ok (P := P) m1 m2 hr ha D hpq nx
  · exact one_ok (P := P) m1 m2 hr ha D.sw (fun z => ⟨(hpq z).2, (hpq z).1⟩) nx
end Slw
namespace Slw
open PySem J
theorem law_math : ∀ ns : List Int, ns.length ≤ 63 → w_law ns (fun b => b = true) := by
  intro ns _
  unfold w_law
  have e39 : (10 : Int) ^ 39 = 1000000000000000000000000000000000000000 := by decide
  refine cell_ok (by decide) fun c0 => ?_
  obtain ⟨n, hn, n1, n2⟩ := size_of (c := c0) (m := 9) (lo := 1) (by decide) (by decide)
  rw [hn]
  refine wLet_to (cell_ok (by decide) fun c1 => order_ok (by omega) fun r0 hr0 => cell_ok (by decide) fun c2 => order_ok (by omega) fun a0 ha0 => ⟨by show 2 ≤ 1000; omega, wLet_to ?_⟩)
  refine wJoin_ok (fun l : List (List Int) => ∃ r a : List Int, l = [r, a] ∧ r.Perm (rangeI 0 n) ∧ a.Perm (rangeI 0 n)) ?_ fun J hJ => ?_
  · rintro _ ⟨r, a, rfl, hr, ha⟩
    refine cell_ok (by decide) fun c3 => wLet_to (cell_ok (by decide) fun c4 => wLet_to (cell_ok (by decide) fun c5 => ?_))
    refine wLet_ok fun small hsm => ?_
    refine wJoin_ok (fun s : Int × Int => small = true → 0 ≤ s.1 ∧ s.1 < 10 ∧ 0 ≤ s.2 ∧ s.2 < 10) ?_ fun J2 hJ2 => ⟨fun z => wLet_to (wLet_to (hJ2 _ fun _ => ⟨Int.emod_nonneg _ (by decide), Int.emod_lt_of_pos _ (by decide), Int.emod_nonneg _ (by decide), Int.emod_lt_of_pos _ (by decide)⟩)), fun z => hJ2 _ fun y => by rw [z] at y; cases y⟩
    rintro ⟨one, two⟩ hb
    dsimp only at hb ⊢
    have main : ∀ p q : Int, Dn p q → (small = true → p ≤ 9 ∧ q ≤ 9) → wLet (p, q) fun (pair_82 : (Int × Int)) => (wJoin (fun (s83 : (List (List Int))) => (∃ x113, ixI s83 (0 : Int) = some x113 ∧ (∃ x114, ixI s83 (1 : Int) = some x114 ∧ (w_Plan___init__ (x113) (x114) fun r517 => (wLet r517 fun (plan_115 : ((List Int) × (List Int))) => (([pair_82, (pair_82.2, pair_82.1), pair_82] : List (Int × Int)).length ≤ 1000 ∧ (wLet ([pair_82, (pair_82.2, pair_82.1), pair_82]) fun (xs117 : List (Int × Int)) => (wFor (fun (there_119 : (Int × Int)) (s118 : Unit) (nxt120 brk121 : Unit → Prop) => (w_rings_at (plan_115) (there_119.1) (there_119.2) fun r494 => (wLet r494 fun (found_316 : (List (Int × Int × (List Int)))) => (∃ x475, ixI s83 (0 : Int) = some x475 ∧ (∃ x476, ixI s83 (1 : Int) = some x476 ∧ (w_law_round (x475) (x476) (there_119.1) (there_119.2) fun r493 => (w_law_rings (r493) fun r492 => (w_law_is_rings (found_316) (r492) fun r491 => ((r491 = true → (wJoin (fun (s478 : Unit) => (([] : List Int).length ≤ 1000 ∧ (found_316.length < 1000000 ∧ (wLet ((0 : Int), (0 : Int), ([] : List Int)) fun (y490 : (Int × Int × (List Int))) => (nxt120 ()))))) fun (J479 : Unit → Prop) => ((small = true → (wFor (fun (ring_482 : (Int × Int × (List Int))) (s481 : Unit) (nxt483 brk484 : Unit → Prop) => (w_law_ring_is_walked (s83) (there_119) (ring_482) fun r488 => ((r488 = true → (nxt483 ())) ∧ (r488 = false → (fun b => b = true) false)))) (fun (s481 : Unit) => (J479 ())) found_316 ())) ∧ (small = false → (J479 ()))))) ∧ (r491 = false → (fun b => b = true) false)))))))))) (fun (s118 : Unit) => (w_Plan_right plan_115 fun r514 => (∃ x510, ixI s83 (0 : Int) = some x510 ∧ (w_law_is_row_l (r514) (x510) fun r513 => ((r513 = true → (w_Plan_above plan_115 fun r516 => (∃ x512, ixI s83 (1 : Int) = some x512 ∧ (w_law_is_row_l (r516) (x512) fun r515 => (fun b => b = true) r515)))) ∧ (r513 = false → (fun b => b = true) false)))))) xs117 ())))))))) fun (J84 : (List (List Int)) → Prop) => ((small = true → (w_law_cell (ns) ((5 : Int)) fun r518 => (((decide (((r518 / (3 : Int)) % (4 : Int)) = (1 : Int))) = true → (JDiv (n : Int) ∧ (JMul ((100 : Int) / (n : Int)) (n : Int) ∧ (wLet (((100 : Int) / (n : Int)) * (n : Int)) fun (many_86 : Int) => (([r, a] : List (List Int)).length < 1000000 ∧ (wComp (fun (side_89 : (List Int)) (N96 : (List Int) → Prop) => ((-(2 ^ 62) ≤ many_86 ∧ many_86 < 2 ^ 62) ∧ (((rangeI 0 many_86)).length < 1000000 ∧ (wComp (fun (k_92 : Int) (N94 : Int → Prop) => (JDiv (n : Int) ∧ (JMul (n : Int) (k_92 / (n : Int)) ∧ (0 < (n : Int) ∧ (∃ x93, ixI side_89 (k_92 % (n : Int)) = some x93 ∧ (N94 (((n : Int) * (k_92 / (n : Int))) + x93))))))) (rangeI 0 many_86) [] fun (made_95 : List Int) => (N96 made_95))))) [r, a] [] fun (made_97 : List (List Int)) => (wLet made_97 fun (lists_98 : (List (List Int))) => (J84 lists_98)))))))) ∧ ((decide (((r518 / (3 : Int)) % (4 : Int)) = (1 : Int))) = false → (J84 [r, a]))))) ∧ (small = false → (J84 [r, a])))) := fun p q D hpq => by
      refine wLet_to (wJoin_ok (fun l : List (List Int) => ∃ (m : Nat) (r a : List Int), l = [r, a] ∧ 1 ≤ m ∧ m ≤ 100 ∧ r.Perm (rangeI 0 m) ∧ a.Perm (rangeI 0 m)) ?_ fun J3 hJ3 => ?_)
      · rintro _ ⟨m, r, a, rfl, m1, m2, hr, ha⟩
        exact plan_ok (P := fun b => b = true) m1 m2 hr ha D hpq rfl
      · have base : J3 [r, a] := hJ3 _ ⟨n, r, a, rfl, by omega, by omega, hr, ha⟩
        refine ⟨fun _ => cell_ok (by decide) fun c6 => ⟨fun _ => ?_, fun _ => base⟩, fun _ => base⟩
        have tl : ∃ t : Nat, (100 : Int) / n = (t : Int) ∧ 1 ≤ t * n ∧ t * n ≤ 100 := by
          refine ⟨100 / n, (Int.natCast_ediv 100 n).symm, ?_, Nat.div_mul_le_self 100 n⟩
          have : 1 ≤ 100 / n := (Nat.le_div_iff_mul_le (by omega)).mpr (by omega)
          exact Nat.mul_pos (by omega) (by omega)
        obtain ⟨t, et, t1, t2⟩ := tl
        have etn : (t : Int) * n = ((t * n : Nat) : Int) := by push_cast; rfl
        have tb : t ≤ 100 := by
          have := Nat.le_mul_of_pos_right t (show 0 < n by omega)
          omega
        rw [et]
        refine ⟨div_ok (by omega) (big_lit (by omega)), mul_ok (big_lit (by omega)) (big_lit (by omega)), wLet_to ?_⟩
        rw [etn]
        have step : ∀ {x : List Int} {k : List Int → Prop}, x.Perm (rangeI 0 n) → k ((rangeI 0 ((t * n : Nat) : Int)).map fun i => (n : Int) * (i / n) + gI x (i % n)) → wComp (fun (k_73 : Int) (N75 : Int → Prop) => (JDiv (n : Int) ∧ (JMul (n : Int) (k_73 / n) ∧ (0 < (n : Int) ∧ (∃ x74, ixI x (k_73 % n) = some x74 ∧ (N75 (((n : Int) * (k_73 / n)) + x74))))))) (rangeI 0 ((t * n : Nat) : Int)) [] k := fun {x k} hx hk => by
          refine wComp_ok (α := Int) (β := Int) (fun i => (n : Int) * (i / n) + gI x (i % n)) (rangeI 0 ((t * n : Nat) : Int)) [] _ (fun i hi N hN => ?_) ?_
          · obtain ⟨i0, i1⟩ := mem_rangeI.mp hi
            have q0 : 0 ≤ i / n := Int.ediv_nonneg i0 (by omega)
            have q1 : i / n ≤ i := Int.ediv_le_self _ i0
            have m0 := Int.emod_nonneg i (show (n : Int) ≠ 0 by omega)
            have m1 := Int.emod_lt_of_pos i (show (0 : Int) < n by omega)
            exact ⟨div_ok (by omega) (big_lit (by omega)), mul_ok (big_lit (by omega)) (big_lit (by omega)), by omega, _, gI_ix m0 (by rw [hx.length_eq, rangeI_len]; exact m1), hN⟩
          · rw [List.nil_append]
            exact hk
        refine ⟨by show 2 < 1000000; omega, ?_⟩
        refine wComp_ok (α := List Int) (β := List Int) (fun x => (rangeI 0 ((t * n : Nat) : Int)).map fun i => (n : Int) * (i / n) + gI x (i % n)) [r, a] [] _ (fun x hx N hN => ?_) ?_
        · have hx' : x.Perm (rangeI 0 n) := by
            simp only [List.mem_cons, List.not_mem_nil, or_false] at hx
            rcases hx with rfl | rfl
            · exact hr
            · exact ha
          exact ⟨⟨by omega, by omega⟩, by rw [rangeI_len]; omega, step hx' hN⟩
        · exact wLet_to (hJ3 _ ⟨t * n, _, _, rfl, t1, t2, tile_perm (by omega) hr t, tile_perm (by omega) ha t⟩)
    have dn : ∀ p q : Int, 0 ≤ p → 0 ≤ q → p ≤ 10 ^ 39 → q ≤ 10 ^ 39 → Int.gcd p q = 1 → Dn p q := fun p q h1 h2 h3 h4 h5 => by
      rw [e39] at h3 h4
      exact ⟨h1, h2, h5, h3, h4⟩
    by_cases hs : small = true
    · obtain ⟨b1, b2, b3, b4⟩ := hb hs
      have o1 : (0 : Int) + one % 10 ^ 39 ≤ 9 := by
        rw [e39, Int.emod_eq_of_lt b1 (by omega)]
        omega
      have o2 : (0 : Int) + two % 10 ^ 39 ≤ 9 := by
        rw [e39, Int.emod_eq_of_lt b3 (by omega)]
        omega
      exact dir_b (b := 9) (by decide) (by decide) o1 o2 (by decide) (by decide) fun p q h1 h2 h3 h4 h5 => main p q (dn p q h1 h2 (by rw [e39]; omega) (by rw [e39]; omega) h5) fun _ => ⟨h3, h4⟩
    · exact dir_ok (by decide) (by decide) fun p q h1 h2 h3 h4 h5 => main p q (dn p q h1 h2 h3 h4 h5) fun z => absurd z hs
  · refine cell_ok (by decide) fun c6 => ⟨fun _ => ⟨by decide, by decide, ?_⟩, fun _ => hJ _ ⟨r0, a0, rfl, hr0, ha0⟩⟩
    refine wComp_ok (α := Int) (β := List Int) (fun k => (rangeI 0 (n : Int)).map fun x => (x + (if (1 + k).toNat < ns.length then gI ns (1 + k) else 0)) % (n : Int)) (rangeI 0 (2 : Int)) [] _ (fun k hk N hN => ?_) ?_
    · obtain ⟨k0, k1⟩ := mem_rangeI (n := 2).mp hk
      refine ⟨⟨by omega, by omega⟩, by rw [rangeI_len]; omega, ?_⟩
      refine wComp_ok (α := Int) (β := Int) (fun x => (x + (if (1 + k).toNat < ns.length then gI ns (1 + k) else 0)) % (n : Int)) (rangeI 0 (n : Int)) [] _ (fun x hx N hN => ?_) ?_
      · unfold w_law_cell
        refine ⟨fun z => ?_, fun z => ?_⟩
        · have z := of_decide_eq_true z
          refine ⟨_, gI_ix (by omega) z, by omega, ?_⟩
          rw [if_pos (by omega)] at hN
          exact hN
        · have z := of_decide_eq_false z
          refine ⟨by omega, ?_⟩
          rw [if_neg (by omega)] at hN
          exact hN
      · rw [List.nil_append]
        exact hN
    · exact wLet_to (hJ _ ⟨_, _, rfl, rot_perm (by omega) _, rot_perm (by omega) _⟩)
end Slw

namespace Slw
open PySem L2 J
def top (i : Nat) : Stmt := PySem.Challenge.pw_slantwalk_k27_whole_rings_at_any_directi.main.body.getD i (.Pass ⟨0, 0, 0, 0⟩)
abbrev s_law_cell : Stmt := top 39
theorem sc_law_cell : FnScope ["_law_script", "_law_k"] ["_law_script", "_law_k"] (defScope s_law_cell) := ⟨rfl, rfl, rfl, by decide +kernel, rfl, by decide +kernel, by decide +kernel⟩

abbrev s_law_row : Stmt := top 40
theorem sc_law_row : FnScope ["_law_cell_here", "_law_count", "_law_row_here", "_law_rest", "_law_k", "_law_mixed"] ["_law_cell_here", "_law_count"] (defScope s_law_row) := ⟨rfl, rfl, rfl, by decide +kernel, rfl, by decide +kernel, by decide +kernel⟩

abbrev s_law_order : Stmt := top 41
theorem sc_law_order : FnScope ["_law_cell_here", "_law_size", "_law_pool", "_law_order_here", "_law_digit"] ["_law_cell_here", "_law_size"] (defScope s_law_order) := ⟨rfl, rfl, rfl, by decide +kernel, rfl, by decide +kernel, by decide +kernel⟩

abbrev s_law_direction : Stmt := top 42
theorem sc_law_direction : FnScope ["_law_one", "_law_two", "_law_least", "_law_p", "_law_q", "_law_common", "_law_rest"] ["_law_one", "_law_two", "_law_least"] (defScope s_law_direction) := ⟨rfl, rfl, rfl, by decide +kernel, rfl, by decide +kernel, by decide +kernel⟩

abbrev s_is_order : Stmt := top 35
theorem sc_is_order : FnScope ["rooms", "size"] ["rooms", "size"] (defScope s_is_order) := ⟨rfl, rfl, rfl, by decide +kernel, rfl, by decide +kernel, by decide +kernel⟩

abbrev s_Plan___init__ : Stmt := inClass (top 37) 1
theorem sc_Plan___init__ : FnScope ["self", "right", "above", "size"] ["self", "right", "above"] (defScope s_Plan___init__) := ⟨rfl, rfl, rfl, by decide +kernel, rfl, by decide +kernel, by decide +kernel⟩

abbrev s_WalkTable_form : Stmt := inClass (top 14) 5
theorem sc_WalkTable_form : FnScope ["self"] ["self"] (defScope s_WalkTable_form) := ⟨rfl, rfl, rfl, by decide +kernel, rfl, by decide +kernel, by decide +kernel⟩

abbrev s_WalkTable_size : Stmt := inClass (top 14) 2
theorem sc_WalkTable_size : FnScope ["self"] ["self"] (defScope s_WalkTable_size) := ⟨rfl, rfl, rfl, by decide +kernel, rfl, by decide +kernel, by decide +kernel⟩

abbrev s_ring_from : Stmt := top 33
theorem sc_ring_from : FnScope ["start", "ends", "members", "room"] ["start", "ends"] (defScope s_ring_from) := ⟨rfl, rfl, rfl, by decide +kernel, rfl, by decide +kernel, by decide +kernel⟩

abbrev s_rooms_in : Stmt := top 13
theorem sc_rooms_in : FnScope ["mark", "room"] ["mark"] (defScope s_rooms_in) := ⟨rfl, rfl, rfl, by decide +kernel, rfl, by decide +kernel, by decide +kernel⟩

abbrev s_rings_of : Stmt := top 31
theorem sc_rings_of : FnScope ["table", "ends", "marks", "placed", "rings", "start", "members", "mark", "room"] ["table"] (defScope s_rings_of) := ⟨rfl, rfl, rfl, by decide +kernel, rfl, by decide +kernel, by decide +kernel⟩

abbrev s_check_direction : Stmt := top 18
theorem sc_check_direction : FnScope ["p", "q"] ["p", "q"] (defScope s_check_direction) := ⟨rfl, rfl, rfl, by decide +kernel, rfl, by decide +kernel, by decide +kernel⟩

abbrev s_Plan_size : Stmt := inClass (top 37) 2
theorem sc_Plan_size : FnScope ["self"] ["self"] (defScope s_Plan_size) := ⟨rfl, rfl, rfl, by decide +kernel, rfl, by decide +kernel, by decide +kernel⟩

abbrev s_mark_of : Stmt := top 12
theorem sc_mark_of : FnScope ["room"] ["room"] (defScope s_mark_of) := ⟨rfl, rfl, rfl, by decide +kernel, rfl, by decide +kernel, by decide +kernel⟩

abbrev s_Plan_right : Stmt := inClass (top 37) 3
theorem sc_Plan_right : FnScope ["self"] ["self"] (defScope s_Plan_right) := ⟨rfl, rfl, rfl, by decide +kernel, rfl, by decide +kernel, by decide +kernel⟩

abbrev s_WalkTable___init__ : Stmt := inClass (top 14) 0
theorem sc_WalkTable___init__ : FnScope ["self", "ends", "marks"] ["self", "ends", "marks"] (defScope s_WalkTable___init__) := ⟨rfl, rfl, rfl, by decide +kernel, rfl, by decide +kernel, by decide +kernel⟩

abbrev s_Plan_above : Stmt := inClass (top 37) 4
theorem sc_Plan_above : FnScope ["self"] ["self"] (defScope s_Plan_above) := ⟨rfl, rfl, rfl, by decide +kernel, rfl, by decide +kernel, by decide +kernel⟩

abbrev s_side_tables : Stmt := top 23
theorem sc_side_tables : FnScope ["plan", "marks", "room"] ["plan"] (defScope s_side_tables) := ⟨rfl, rfl, rfl, by decide +kernel, rfl, by decide +kernel, by decide +kernel⟩

abbrev s_Stretch___init__ : Stmt := inClass (top 22) 0
theorem sc_Stretch___init__ : FnScope ["self", "table", "length", "parts"] ["self", "table", "length", "parts"] (defScope s_Stretch___init__) := ⟨rfl, rfl, rfl, by decide +kernel, rfl, by decide +kernel, by decide +kernel⟩

abbrev s_side_stretches : Stmt := top 25
theorem sc_side_stretches : FnScope ["plan", "right", "above"] ["plan"] (defScope s_side_stretches) := ⟨rfl, rfl, rfl, by decide +kernel, rfl, by decide +kernel, by decide +kernel⟩

abbrev s_check_in_tree : Stmt := top 19
theorem sc_check_in_tree : FnScope ["p", "q"] ["p", "q"] (defScope s_check_in_tree) := ⟨rfl, rfl, rfl, by decide +kernel, rfl, by decide +kernel, by decide +kernel⟩

abbrev s_steps : Stmt := top 20
theorem sc_steps : FnScope ["p", "q", "runs", "count"] ["p", "q"] (defScope s_steps) := ⟨rfl, rfl, rfl, by decide +kernel, rfl, by decide +kernel, by decide +kernel⟩

abbrev s_WalkTable_resting : Stmt := inClass (top 14) 1
theorem sc_WalkTable_resting : FnScope ["size"] ["size"] (defScope s_WalkTable_resting) := ⟨rfl, rfl, rfl, by decide +kernel, rfl, by decide +kernel, by decide +kernel⟩

abbrev s_WalkTable___mul__ : Stmt := inClass (top 14) 7
theorem sc_WalkTable___mul__ : FnScope ["self", "other", "ends", "marks", "there", "mark"] ["self", "other"] (defScope s_WalkTable___mul__) := ⟨rfl, rfl, rfl, by decide +kernel, rfl, by decide +kernel, by decide +kernel⟩

abbrev s_WalkTable_repeated : Stmt := inClass (top 14) 8
theorem sc_WalkTable_repeated : FnScope ["self", "count", "joined", "power"] ["self", "count"] (defScope s_WalkTable_repeated) := ⟨rfl, rfl, rfl, by decide +kernel, rfl, by decide +kernel, by decide +kernel⟩

abbrev s_put_together : Stmt := top 26
theorem sc_put_together : FnScope ["one", "copies_of_one", "two", "copies_of_two", "table", "length"] ["one", "copies_of_one", "two", "copies_of_two"] (defScope s_put_together) := ⟨rfl, rfl, rfl, by decide +kernel, rfl, by decide +kernel, by decide +kernel⟩

abbrev s_rounds_of_neighbors : Stmt := top 27
theorem sc_rounds_of_neighbors : FnScope ["plan", "p", "q", "runs", "flat", "steep", "kind", "count"] ["plan", "p", "q"] (defScope s_rounds_of_neighbors) := ⟨rfl, rfl, rfl, by decide +kernel, rfl, by decide +kernel, by decide +kernel⟩

abbrev s_stretch_of_round : Stmt := top 28
theorem sc_stretch_of_round : FnScope ["plan", "p", "q", "right", "above", "flat", "steep"] ["plan", "p", "q"] (defScope s_stretch_of_round) := ⟨rfl, rfl, rfl, by decide +kernel, rfl, by decide +kernel, by decide +kernel⟩

abbrev s_walk_table : Stmt := top 24
theorem sc_walk_table : FnScope ["plan", "p", "q", "crossings", "one_round"] ["plan", "p", "q", "crossings"] (defScope s_walk_table) := ⟨rfl, rfl, rfl, by decide +kernel, rfl, by decide +kernel, by decide +kernel⟩

abbrev s_rings_at : Stmt := top 32
theorem sc_rings_at : FnScope ["plan", "p", "q"] ["plan", "p", "q"] (defScope s_rings_at) := ⟨rfl, rfl, rfl, by decide +kernel, rfl, by decide +kernel, by decide +kernel⟩

abbrev s_law_is_number : Stmt := top 43
theorem sc_law_is_number : FnScope ["_law_value"] ["_law_value"] (defScope s_law_is_number) := ⟨rfl, rfl, rfl, by decide +kernel, rfl, by decide +kernel, by decide +kernel⟩

abbrev s_law_is_row : Stmt := top 44
theorem sc_law_is_row : FnScope ["_law_actual", "_law_expected", "_law_k"] ["_law_actual", "_law_expected"] (defScope s_law_is_row) := ⟨rfl, rfl, rfl, by decide +kernel, rfl, by decide +kernel, by decide +kernel⟩

abbrev s_law_is_rings : Stmt := top 45
theorem sc_law_is_rings : FnScope ["_law_actual", "_law_expected", "_law_k", "_law_ring"] ["_law_actual", "_law_expected"] (defScope s_law_is_rings) := ⟨rfl, rfl, rfl, by decide +kernel, rfl, by decide +kernel, by decide +kernel⟩

abbrev s_law_rings : Stmt := top 50
theorem sc_law_rings : FnScope ["_law_table", "_law_rings_here", "_law_done", "_law_size", "_law_first", "_law_room", "_law_rounds", "_law_mark", "_law_k"] ["_law_table"] (defScope s_law_rings) := ⟨rfl, rfl, rfl, by decide +kernel, rfl, by decide +kernel, by decide +kernel⟩

abbrev s_law_sides : Stmt := top 48
theorem sc_law_sides : FnScope ["_law_right", "_law_above", "_law_marks", "_law_room"] ["_law_right", "_law_above"] (defScope s_law_sides) := ⟨rfl, rfl, rfl, by decide +kernel, rfl, by decide +kernel, by decide +kernel⟩

abbrev s_law_join : Stmt := top 46
theorem sc_law_join : FnScope ["_law_one", "_law_two", "_law_ends", "_law_marks", "_law_room", "_law_k"] ["_law_one", "_law_two"] (defScope s_law_join) := ⟨rfl, rfl, rfl, by decide +kernel, rfl, by decide +kernel, by decide +kernel⟩

abbrev s_law_power : Stmt := top 47
theorem sc_law_power : FnScope ["_law_table", "_law_count", "_law_result", "_law_room"] ["_law_table", "_law_count"] (defScope s_law_power) := ⟨rfl, rfl, rfl, by decide +kernel, rfl, by decide +kernel, by decide +kernel⟩

abbrev s_law_round : Stmt := top 49
theorem sc_law_round : FnScope ["_law_right", "_law_above", "_law_p", "_law_q", "_law_first", "_law_second", "_law_count"] ["_law_right", "_law_above", "_law_p", "_law_q"] (defScope s_law_round) := ⟨rfl, rfl, rfl, by decide +kernel, rfl, by decide +kernel, by decide +kernel⟩

abbrev s_law_letter : Stmt := top 51
theorem sc_law_letter : FnScope ["_law_pair", "_law_index", "_law_length"] ["_law_pair", "_law_index"] (defScope s_law_letter) := ⟨rfl, rfl, rfl, by decide +kernel, rfl, by decide +kernel, by decide +kernel⟩

abbrev s_law_ring_is_walked : Stmt := top 52
theorem sc_law_ring_is_walked : FnScope ["_law_lists", "_law_pair", "_law_ring", "_law_length", "_law_room", "_law_passed", "_law_index", "_law_side", "_law_k"] ["_law_lists", "_law_pair", "_law_ring"] (defScope s_law_ring_is_walked) := ⟨rfl, rfl, rfl, by decide +kernel, rfl, by decide +kernel, by decide +kernel⟩

abbrev s_law : Stmt := top 53
theorem sc_law : FnScope ["_law_script", "_law_size", "_law_lists", "_law_one", "_law_two", "_law_small", "_law_pair", "_law_many", "_law_plan", "_law_there", "_law_found", "_law_ring", "_law_k", "_law_side", "_law_room"] ["_law_script"] (defScope s_law) := ⟨rfl, rfl, rfl, by decide +kernel, rfl, by decide +kernel, by decide +kernel⟩

/-! what the top has written -/
structure Txt (K : PySem.W.Frag) (mg : Str → Option Value) where
  a_Plan : Addr
  cl_Plan : Cls K a_Plan
  g_Plan : mg "Plan" = some (.ref a_Plan)
  a_WalkTable : Addr
  cl_WalkTable : Cls K a_WalkTable
  g_WalkTable : mg "WalkTable" = some (.ref a_WalkTable)
  a_Stretch : Addr
  cl_Stretch : Cls K a_Stretch
  g_Stretch : mg "Stretch" = some (.ref a_Stretch)
  nf_Plan__right : NoAttr K a_Plan "_right"
  nf_Plan__above : NoAttr K a_Plan "_above"
  nf_WalkTable__ends : NoAttr K a_WalkTable "_ends"
  nf_WalkTable__marks : NoAttr K a_WalkTable "_marks"
  nf_Stretch_table : NoAttr K a_Stretch "table"
  nf_Stretch_length : NoAttr K a_Stretch "length"
  nf_Stretch_parts : NoAttr K a_Stretch "parts"
  rd_Plan : ClX.CRead K a_Plan (.type "type")
  rd_WalkTable : ClX.CRead K a_WalkTable (.type "type")
  sf_WalkTable : PySem.W.selfFirst K a_WalkTable = true
  tv_Plan_MOST_ROOMS : Tok
  cv_Plan_MOST_ROOMS : ClX.CVal K a_Plan (.type "type") "MOST_ROOMS" (.int (100)) (.int (100) tv_Plan_MOST_ROOMS)
  a_law_cell : Addr
  d_law_cell : FuncData
  F_law_cell : Fun K "_law_cell" "_law_cell" s_law_cell a_law_cell d_law_cell
  b_law_cell : Binds K d_law_cell ["_law_script", "_law_k"] []
  g_law_cell : mg "_law_cell" = some (.ref a_law_cell)
  a_law_row : Addr
  d_law_row : FuncData
  F_law_row : Fun K "_law_row" "_law_row" s_law_row a_law_row d_law_row
  b_law_row : Binds K d_law_row ["_law_cell_here", "_law_count"] []
  g_law_row : mg "_law_row" = some (.ref a_law_row)
  a_law_order : Addr
  d_law_order : FuncData
  F_law_order : Fun K "_law_order" "_law_order" s_law_order a_law_order d_law_order
  b_law_order : Binds K d_law_order ["_law_cell_here", "_law_size"] []
  g_law_order : mg "_law_order" = some (.ref a_law_order)
  a_law_direction : Addr
  d_law_direction : FuncData
  F_law_direction : Fun K "_law_direction" "_law_direction" s_law_direction a_law_direction d_law_direction
  b_law_direction : Binds K d_law_direction ["_law_one", "_law_two", "_law_least"] []
  g_law_direction : mg "_law_direction" = some (.ref a_law_direction)
  a_is_order : Addr
  d_is_order : FuncData
  F_is_order : Fun K "is_order" "is_order" s_is_order a_is_order d_is_order
  b_is_order : Binds K d_is_order ["rooms", "size"] []
  g_is_order : mg "is_order" = some (.ref a_is_order)
  a_Plan___init__ : Addr
  d_Plan___init__ : FuncData
  F_Plan___init__ : Fun K "__init__" "Plan.__init__" s_Plan___init__ a_Plan___init__ d_Plan___init__
  b_Plan___init__ : Binds K d_Plan___init__ ["self", "right", "above"] []
  M_Plan___init__ : Mk K a_Plan a_Plan___init__
  a_WalkTable_form : Addr
  d_WalkTable_form : FuncData
  F_WalkTable_form : Fun K "form" "WalkTable.form" s_WalkTable_form a_WalkTable_form d_WalkTable_form
  b_WalkTable_form : Binds K d_WalkTable_form ["self"] []
  p_WalkTable_form : Addr
  M_WalkTable_form : PropOf K a_WalkTable "form" p_WalkTable_form a_WalkTable_form
  a_WalkTable_size : Addr
  d_WalkTable_size : FuncData
  F_WalkTable_size : Fun K "size" "WalkTable.size" s_WalkTable_size a_WalkTable_size d_WalkTable_size
  b_WalkTable_size : Binds K d_WalkTable_size ["self"] []
  p_WalkTable_size : Addr
  M_WalkTable_size : PropOf K a_WalkTable "size" p_WalkTable_size a_WalkTable_size
  a_ring_from : Addr
  d_ring_from : FuncData
  F_ring_from : Fun K "_ring_from" "_ring_from" s_ring_from a_ring_from d_ring_from
  b_ring_from : Binds K d_ring_from ["start", "ends"] []
  g_ring_from : mg "_ring_from" = some (.ref a_ring_from)
  a_rooms_in : Addr
  d_rooms_in : FuncData
  F_rooms_in : Fun K "rooms_in" "rooms_in" s_rooms_in a_rooms_in d_rooms_in
  b_rooms_in : Binds K d_rooms_in ["mark"] []
  g_rooms_in : mg "rooms_in" = some (.ref a_rooms_in)
  a_rings_of : Addr
  d_rings_of : FuncData
  F_rings_of : Fun K "rings_of" "rings_of" s_rings_of a_rings_of d_rings_of
  b_rings_of : Binds K d_rings_of ["table"] []
  g_rings_of : mg "rings_of" = some (.ref a_rings_of)
  a_check_direction : Addr
  d_check_direction : FuncData
  F_check_direction : Fun K "check_direction" "check_direction" s_check_direction a_check_direction d_check_direction
  b_check_direction : Binds K d_check_direction ["p", "q"] []
  g_check_direction : mg "check_direction" = some (.ref a_check_direction)
  a_Plan_size : Addr
  d_Plan_size : FuncData
  F_Plan_size : Fun K "size" "Plan.size" s_Plan_size a_Plan_size d_Plan_size
  b_Plan_size : Binds K d_Plan_size ["self"] []
  p_Plan_size : Addr
  M_Plan_size : PropOf K a_Plan "size" p_Plan_size a_Plan_size
  a_mark_of : Addr
  d_mark_of : FuncData
  F_mark_of : Fun K "mark_of" "mark_of" s_mark_of a_mark_of d_mark_of
  b_mark_of : Binds K d_mark_of ["room"] []
  g_mark_of : mg "mark_of" = some (.ref a_mark_of)
  a_Plan_right : Addr
  d_Plan_right : FuncData
  F_Plan_right : Fun K "right" "Plan.right" s_Plan_right a_Plan_right d_Plan_right
  b_Plan_right : Binds K d_Plan_right ["self"] []
  p_Plan_right : Addr
  M_Plan_right : PropOf K a_Plan "right" p_Plan_right a_Plan_right
  a_WalkTable___init__ : Addr
  d_WalkTable___init__ : FuncData
  F_WalkTable___init__ : Fun K "__init__" "WalkTable.__init__" s_WalkTable___init__ a_WalkTable___init__ d_WalkTable___init__
  b_WalkTable___init__ : Binds K d_WalkTable___init__ ["self", "ends", "marks"] []
  M_WalkTable___init__ : Mk K a_WalkTable a_WalkTable___init__
  a_Plan_above : Addr
  d_Plan_above : FuncData
  F_Plan_above : Fun K "above" "Plan.above" s_Plan_above a_Plan_above d_Plan_above
  b_Plan_above : Binds K d_Plan_above ["self"] []
  p_Plan_above : Addr
  M_Plan_above : PropOf K a_Plan "above" p_Plan_above a_Plan_above
  a_side_tables : Addr
  d_side_tables : FuncData
  F_side_tables : Fun K "side_tables" "side_tables" s_side_tables a_side_tables d_side_tables
  b_side_tables : Binds K d_side_tables ["plan"] []
  g_side_tables : mg "side_tables" = some (.ref a_side_tables)
  a_Stretch___init__ : Addr
  d_Stretch___init__ : FuncData
  F_Stretch___init__ : Fun K "__init__" "Stretch.__init__" s_Stretch___init__ a_Stretch___init__ d_Stretch___init__
  b_Stretch___init__ : Binds K d_Stretch___init__ ["self", "table", "length", "parts"] []
  M_Stretch___init__ : Mk K a_Stretch a_Stretch___init__
  a_side_stretches : Addr
  d_side_stretches : FuncData
  F_side_stretches : Fun K "_side_stretches" "_side_stretches" s_side_stretches a_side_stretches d_side_stretches
  b_side_stretches : Binds K d_side_stretches ["plan"] []
  g_side_stretches : mg "_side_stretches" = some (.ref a_side_stretches)
  a_check_in_tree : Addr
  d_check_in_tree : FuncData
  F_check_in_tree : Fun K "check_in_tree" "check_in_tree" s_check_in_tree a_check_in_tree d_check_in_tree
  b_check_in_tree : Binds K d_check_in_tree ["p", "q"] []
  g_check_in_tree : mg "check_in_tree" = some (.ref a_check_in_tree)
  a_steps : Addr
  d_steps : FuncData
  F_steps : Fun K "steps" "steps" s_steps a_steps d_steps
  b_steps : Binds K d_steps ["p", "q"] []
  g_steps : mg "steps" = some (.ref a_steps)
  a_WalkTable_resting : Addr
  d_WalkTable_resting : FuncData
  F_WalkTable_resting : Fun K "resting" "WalkTable.resting" s_WalkTable_resting a_WalkTable_resting d_WalkTable_resting
  b_WalkTable_resting : Binds K d_WalkTable_resting ["size"] []
  p_WalkTable_resting : Addr
  M_WalkTable_resting : SMet K a_WalkTable (.type "type") "resting" p_WalkTable_resting a_WalkTable_resting
  a_WalkTable___mul__ : Addr
  d_WalkTable___mul__ : FuncData
  F_WalkTable___mul__ : Fun K "__mul__" "WalkTable.__mul__" s_WalkTable___mul__ a_WalkTable___mul__ d_WalkTable___mul__
  b_WalkTable___mul__ : Binds K d_WalkTable___mul__ ["self", "other"] []
  M_WalkTable___mul__ : Meth K a_WalkTable "__mul__" a_WalkTable___mul__
  a_WalkTable_repeated : Addr
  d_WalkTable_repeated : FuncData
  F_WalkTable_repeated : Fun K "repeated" "WalkTable.repeated" s_WalkTable_repeated a_WalkTable_repeated d_WalkTable_repeated
  b_WalkTable_repeated : Binds K d_WalkTable_repeated ["self", "count"] []
  M_WalkTable_repeated : Meth K a_WalkTable "repeated" a_WalkTable_repeated
  a_put_together : Addr
  d_put_together : FuncData
  F_put_together : Fun K "_put_together" "_put_together" s_put_together a_put_together d_put_together
  b_put_together : Binds K d_put_together ["one", "copies_of_one", "two", "copies_of_two"] []
  g_put_together : mg "_put_together" = some (.ref a_put_together)
  a_rounds_of_neighbors : Addr
  d_rounds_of_neighbors : FuncData
  F_rounds_of_neighbors : Fun K "_rounds_of_neighbors" "_rounds_of_neighbors" s_rounds_of_neighbors a_rounds_of_neighbors d_rounds_of_neighbors
  b_rounds_of_neighbors : Binds K d_rounds_of_neighbors ["plan", "p", "q"] []
  g_rounds_of_neighbors : mg "_rounds_of_neighbors" = some (.ref a_rounds_of_neighbors)
  a_stretch_of_round : Addr
  d_stretch_of_round : FuncData
  F_stretch_of_round : Fun K "_stretch_of_round" "_stretch_of_round" s_stretch_of_round a_stretch_of_round d_stretch_of_round
  b_stretch_of_round : Binds K d_stretch_of_round ["plan", "p", "q"] []
  g_stretch_of_round : mg "_stretch_of_round" = some (.ref a_stretch_of_round)
  a_walk_table : Addr
  d_walk_table : FuncData
  F_walk_table : FunD K "walk_table" "walk_table" (defArgs s_walk_table) (defBody s_walk_table) (defScope s_walk_table) [] [("crossings", .non)] a_walk_table d_walk_table
  b_walk_table : ∃ ds, Vals [.non] ds ∧ Binds K d_walk_table ["plan", "p", "q", "crossings"] ds
  g_walk_table : mg "walk_table" = some (.ref a_walk_table)
  a_rings_at : Addr
  d_rings_at : FuncData
  F_rings_at : Fun K "rings_at" "rings_at" s_rings_at a_rings_at d_rings_at
  b_rings_at : Binds K d_rings_at ["plan", "p", "q"] []
  g_rings_at : mg "rings_at" = some (.ref a_rings_at)
  a_law_is_number : Addr
  d_law_is_number : FuncData
  F_law_is_number : Fun K "_law_is_number" "_law_is_number" s_law_is_number a_law_is_number d_law_is_number
  b_law_is_number : Binds K d_law_is_number ["_law_value"] []
  g_law_is_number : mg "_law_is_number" = some (.ref a_law_is_number)
  a_law_is_row : Addr
  d_law_is_row : FuncData
  F_law_is_row : Fun K "_law_is_row" "_law_is_row" s_law_is_row a_law_is_row d_law_is_row
  b_law_is_row : Binds K d_law_is_row ["_law_actual", "_law_expected"] []
  g_law_is_row : mg "_law_is_row" = some (.ref a_law_is_row)
  a_law_is_rings : Addr
  d_law_is_rings : FuncData
  F_law_is_rings : Fun K "_law_is_rings" "_law_is_rings" s_law_is_rings a_law_is_rings d_law_is_rings
  b_law_is_rings : Binds K d_law_is_rings ["_law_actual", "_law_expected"] []
  g_law_is_rings : mg "_law_is_rings" = some (.ref a_law_is_rings)
  a_law_rings : Addr
  d_law_rings : FuncData
  F_law_rings : Fun K "_law_rings" "_law_rings" s_law_rings a_law_rings d_law_rings
  b_law_rings : Binds K d_law_rings ["_law_table"] []
  g_law_rings : mg "_law_rings" = some (.ref a_law_rings)
  a_law_sides : Addr
  d_law_sides : FuncData
  F_law_sides : Fun K "_law_sides" "_law_sides" s_law_sides a_law_sides d_law_sides
  b_law_sides : Binds K d_law_sides ["_law_right", "_law_above"] []
  g_law_sides : mg "_law_sides" = some (.ref a_law_sides)
  a_law_join : Addr
  d_law_join : FuncData
  F_law_join : Fun K "_law_join" "_law_join" s_law_join a_law_join d_law_join
  b_law_join : Binds K d_law_join ["_law_one", "_law_two"] []
  g_law_join : mg "_law_join" = some (.ref a_law_join)
  a_law_power : Addr
  d_law_power : FuncData
  F_law_power : Fun K "_law_power" "_law_power" s_law_power a_law_power d_law_power
  b_law_power : Binds K d_law_power ["_law_table", "_law_count"] []
  g_law_power : mg "_law_power" = some (.ref a_law_power)
  a_law_round : Addr
  d_law_round : FuncData
  F_law_round : Fun K "_law_round" "_law_round" s_law_round a_law_round d_law_round
  b_law_round : Binds K d_law_round ["_law_right", "_law_above", "_law_p", "_law_q"] []
  g_law_round : mg "_law_round" = some (.ref a_law_round)
  a_law_letter : Addr
  d_law_letter : FuncData
  F_law_letter : Fun K "_law_letter" "_law_letter" s_law_letter a_law_letter d_law_letter
  b_law_letter : Binds K d_law_letter ["_law_pair", "_law_index"] []
  g_law_letter : mg "_law_letter" = some (.ref a_law_letter)
  a_law_ring_is_walked : Addr
  d_law_ring_is_walked : FuncData
  F_law_ring_is_walked : Fun K "_law_ring_is_walked" "_law_ring_is_walked" s_law_ring_is_walked a_law_ring_is_walked d_law_ring_is_walked
  b_law_ring_is_walked : Binds K d_law_ring_is_walked ["_law_lists", "_law_pair", "_law_ring"] []
  g_law_ring_is_walked : mg "_law_ring_is_walked" = some (.ref a_law_ring_is_walked)
  a_law : Addr
  d_law : FuncData
  F_law : Fun K "law" "law" s_law a_law d_law
  b_law : Binds K d_law ["_law_script"] []
  g_law : mg "law" = some (.ref a_law)
  m_bool : mg "bool" = none
  m_gcd : mg "gcd" = some (.builtin "math.gcd")
  m_int : mg "int" = none
  m_isinstance : mg "isinstance" = none
  m_len : mg "len" = none
  m_list : mg "list" = none
  m_range : mg "range" = none
  m_set : mg "set" = none
  m_sorted : mg "sorted" = none
  m_tuple : mg "tuple" = none
  m_zip : mg "zip" = none
  t_FLAT : Tok
  c_FLAT : mg "FLAT" = some (.str "flat" t_FLAT)
  t_STEEP : Tok
  c_STEEP : mg "STEEP" = some (.str "steep" t_STEEP)

section
variable {Pg : Program} {w : World} {K : PySem.W.Frag} {mg : Str → Option Value} {base : Heap}
theorem ok_law_cell (T : Txt K mg) : FnOk Pg w K mg base CX0 1 T.a_law_cell T.d_law_cell ["_law_script", "_law_k"] (spJ (aC (tL K tI) (aC tI aN)) (rO tI) fun t => w_law_cell t.1 t.2.1) := by
  refine T.F_law_cell.ok sc_law_cell (fun vs H Q E h => ?_) (fun cdv A outer s H vs Q E hr h => ?_)
  · obtain ⟨t, P, F, rfl, ⟨v0, _, rfl, r0, v1, _, rfl, r1, e0⟩, _⟩ := h
    have e1 := (e0 : _ = [])
    subst e1
    rfl
  · obtain ⟨⟨x0, x1, _⟩, P, F, rfl, ⟨v0, _, rfl, r0, v1, _, rfl, r1, e0⟩, hw, hrt⟩ := h
    have e1 := (e0 : _ = [])
    subst e1
    have sc := sc_law_cell
    exact ⟨_, (show JSs _ F ⟨[sv (tL K tI) x0, sv tI x1], []⟩ _ ⟨fun _ H' => Q .non H', Q, fun _ _ => False, fun _ _ => False⟩ _ from
      (js_ifX (jt_lt (je_var (i := 1) (A := tI) (a := x1) rfl) (je_lenL (by rfl) T.m_len (je_ebL (je_eL (je_var (i := 0) (A := (tL K tI)) (a := x0) rfl))))) (js_ret hrt (je_ixL (je_eL (je_var (i := 0) (A := (tL K tI)) (a := x0) rfl)) (je_var (i := 1) (A := tI) (a := x1) rfl))) (js_ret hrt je_int))), ⟨Le.refl _, ⟨Same.refl _, (Par.cons ⟨v0, rfl, J.fr_in r0⟩ (Par.cons ⟨v1, rfl, J.fr_in r1⟩ Par.nil)), List.nodup_nil, fun c hc => by cases hc⟩, hw⟩⟩

theorem ok_law_row (T : Txt K mg) : FnOk Pg w K mg base CX0 1 T.a_law_row T.d_law_row ["_law_cell_here", "_law_count"] (spJ (aC tI (aC tI aN)) (rN tI) fun t => w_law_row t.1 t.2.1) := by
  refine T.F_law_row.ok sc_law_row (fun vs H Q E h => ?_) (fun cdv A outer s H vs Q E hr h => ?_)
  · obtain ⟨t, P, F, rfl, ⟨v0, _, rfl, r0, v1, _, rfl, r1, e0⟩, _⟩ := h
    have e1 := (e0 : _ = [])
    subst e1
    rfl
  · obtain ⟨⟨x0, x1, _⟩, P, F, rfl, ⟨v0, _, rfl, r0, v1, _, rfl, r1, e0⟩, hw, hrt⟩ := h
    have e1 := (e0 : _ = [])
    subst e1
    have sc := sc_law_row
    exact ⟨_, (show JSs _ F ⟨[sv tI x0, sv tI x1, .any, .any, .any, .any], []⟩ _ ⟨fun _ H' => Q .non H', Q, fun _ _ => False, fun _ _ => False⟩ _ from
      (js_stN (i := 2) (ps_set (i := 2) sc.nd rfl (by first | exact Or.inl rfl | exact Or.inr rfl) (je_lst0 (A := tI)) rfl (by first | exact .inl rfl | exact .inr rfl)) (fun p16 row_here_15 => (js_asg (i := 3) (je_sub (je_var (i := 0) (A := tI) (a := x0) rfl) je_powL) (fun rest_17 => (js_forR (S := fun (s18 : Int × (List Int)) => ⟨[sv tI x0, sv tI x1, .at p16, sv tI s18.1, .any, .any], [.lst p16 tI s18.2]⟩) (s0 := (rest_17, row_here_15)) (by rfl) T.m_range (je_var (i := 1) (A := tI) (a := x1) rfl) ⟨(.same (.same (.same (.same (.any (.any .nil)))))), (.cons₂ _ .slnil)⟩ (pg_name (i := 4) sc.nd rfl (Or.inl rfl)) (tg_name) (fun nxt20 brk21 k_19 s18 => (js_if (jt_ge (je_var (i := 0) (A := tI) (a := x0) rfl) je_powL) (js_app (i := 2) (j := 0) (pe_bm PySem.F.plainAttrs_list PySem.F.slot_list_append PySem.F.type_list_append mt_append (pv 2) (pa_cons (je_modL (je_int1 (by rfl) T.m_int (je_var (i := 3) (A := tI) (a := s18.1) rfl))) pa_nil)) (fun y24 => (js_asg (i := 3) (je_fdivL (je_var (i := 3) (A := tI) (a := s18.1) rfl)) (fun rest_25 => (js_end (rest_25, (s18.2 ++ [y24])) ⟨(.same (.same (.same (.same (.any (.any .nil)))))), (.cons₂ _ .slnil)⟩)) sc.nd)) rfl rfl) (js_asg (i := 5) (je_modL (je_int1 (by rfl) T.m_int (je_add (je_mulL (je_var (i := 0) (A := tI) (a := x0) rfl)) (je_mulL (je_add (je_var (i := 4) (A := tI) (a := k_19) rfl) je_int))))) (fun mixed_27 => (js_asg (i := 5) (je_modL (je_int1 (by rfl) T.m_int (je_mul (je_var (i := 5) (A := tI) (a := mixed_27) rfl) (je_add (je_add (je_fdivL (je_var (i := 5) (A := tI) (a := mixed_27) rfl)) (je_mulR (je_var (i := 4) (A := tI) (a := k_19) rfl))) je_int)))) (fun mixed_28 => (js_app (i := 2) (j := 0) (pe_bm PySem.F.plainAttrs_list PySem.F.slot_list_append PySem.F.type_list_append mt_append (pv 2) (pa_cons (je_modL (je_fdivL (je_var (i := 5) (A := tI) (a := mixed_28) rfl))) pa_nil)) (fun y29 => (js_end (s18.1, (s18.2 ++ [y29])) ⟨(.same (.same (.same (.same (.any (.any .nil)))))), (.cons₂ _ .slnil)⟩)) rfl rfl)) sc.nd)) sc.nd))) (fun s18 => (js_retC (i := 2) (j := 0) hrt rfl rfl)) PassesOwn.never)) sc.nd)))), ⟨Le.refl _, ⟨Same.refl _, (Par.cons ⟨v0, rfl, J.fr_in r0⟩ (Par.cons ⟨v1, rfl, J.fr_in r1⟩ (Par.cons trivial (Par.cons trivial (Par.cons trivial (Par.cons trivial Par.nil)))))), List.nodup_nil, fun c hc => by cases hc⟩, hw⟩⟩

theorem ok_law_order (T : Txt K mg) : FnOk Pg w K mg base CX0 2 T.a_law_order T.d_law_order ["_law_cell_here", "_law_size"] (spJ (aC tI (aC tI aN)) (rN tI) fun t => w_law_order t.1 t.2.1) := by
  refine T.F_law_order.ok sc_law_order (fun vs H Q E h => ?_) (fun cdv A outer s H vs Q E hr h => ?_)
  · obtain ⟨t, P, F, rfl, ⟨v0, _, rfl, r0, v1, _, rfl, r1, e0⟩, _⟩ := h
    have e1 := (e0 : _ = [])
    subst e1
    rfl
  · obtain ⟨⟨x0, x1, _⟩, P, F, rfl, ⟨v0, _, rfl, r0, v1, _, rfl, r1, e0⟩, hw, hrt⟩ := h
    have e1 := (e0 : _ = [])
    subst e1
    have sc := sc_law_order
    exact ⟨_, (show JSs _ F ⟨[sv tI x0, sv tI x1, .any, .any, .any], []⟩ _ ⟨fun _ H' => Q .non H', Q, fun _ _ => False, fun _ _ => False⟩ _ from
      (js_stN (i := 2) (ps_set (i := 2) sc.nd rfl (by first | exact Or.inl rfl | exact Or.inr rfl) (je_listR (by rfl) T.m_list (by rfl) T.m_range (je_var (i := 1) (A := tI) (a := x1) rfl)) rfl (by first | exact .inl rfl | exact .inr rfl)) (fun p10 pool_9 => (js_stN (i := 3) (ps_set (i := 3) sc.nd rfl (by first | exact Or.inl rfl | exact Or.inr rfl) (je_lst0 (A := tI)) rfl (by first | exact .inl rfl | exact .inr rfl)) (fun p12 order_here_11 => (js_forL (A := tI) (S := fun v30 xs31 => fun (s32 : (List Int) × (List Int)) => ⟨[sv tI x0, sv tI x1, .at p10, .at p12, .any], [.fix (tK tI) v30 xs31, .lst p12 tI s32.1, .lst p10 tI s32.2]⟩) (s0 := (order_here_11, pool_9)) (j := 0) (je_new (je_call (ok_law_row T) (hr.mono (by decide)) (by rfl) T.g_law_row T.F_law_row.kp T.b_law_row (ja_cons (je_var (i := 0) (A := tI) (a := x0) rfl) (ja_cons (je_var (i := 1) (A := tI) (a := x1) rfl) ja_nil)))) (fun v30 xs31 => ⟨(.same (.same (.same (.same (.any .nil))))), (.cons₂ _ (.cons₂ _ (.cons₂ _ .slnil)))⟩) (fun v30 xs31 _ => rfl) (pg_name (i := 4) sc.nd rfl (Or.inl rfl)) (tg_name) (fun v30 xs31 nxt34 brk35 digit_33 s32 => (js_appPop (i := 3) (j := 1) (i2 := 2) (j2 := 2) (pe_bm PySem.F.plainAttrs_list PySem.F.slot_list_append PySem.F.type_list_append mt_append (pv 3) (pa_cons (pe_bm PySem.F.plainAttrs_list PySem.F.slot_list_pop PySem.F.type_list_pop mt_popAt (pv 2) (pa_cons (je_mod (je_int1 (by rfl) T.m_int (je_var (i := 4) (A := tI) (a := digit_33) rfl)) (je_lenL (by rfl) T.m_len (je_ebL (je_e (je_cell (i := 2) (j := 2) (p := p10) (A := tI) (xs := s32.2) rfl rfl))))) pa_nil)) pa_nil)) (fun y37 pool_38 => (js_end ((s32.1 ++ [y37]), pool_38) ⟨(.same (.same (.same (.same (.any .nil))))), (.cons₂ _ (.cons₂ _ (.cons₂ _ .slnil)))⟩)) rfl rfl rfl rfl (by decide))) (fun v30 xs31 s32 => (js_retC (i := 3) (j := 1) hrt rfl rfl)) PassesOwn.never)))))), ⟨Le.refl _, ⟨Same.refl _, (Par.cons ⟨v0, rfl, J.fr_in r0⟩ (Par.cons ⟨v1, rfl, J.fr_in r1⟩ (Par.cons trivial (Par.cons trivial (Par.cons trivial Par.nil))))), List.nodup_nil, fun c hc => by cases hc⟩, hw⟩⟩

theorem ok_law_direction (T : Txt K mg) : FnOk Pg w K mg base CX0 1 T.a_law_direction T.d_law_direction ["_law_one", "_law_two", "_law_least"] (spJ (aC tI (aC tI (aC tI aN))) (rO (tT K (a2 tI tI))) fun t => w_law_direction t.1 t.2.1 t.2.2.1) := by
  refine T.F_law_direction.ok sc_law_direction (fun vs H Q E h => ?_) (fun cdv A outer s H vs Q E hr h => ?_)
  · obtain ⟨t, P, F, rfl, ⟨v0, _, rfl, r0, v1, _, rfl, r1, v2, _, rfl, r2, e0⟩, _⟩ := h
    have e1 := (e0 : _ = [])
    subst e1
    rfl
  · obtain ⟨⟨x0, x1, x2, _⟩, P, F, rfl, ⟨v0, _, rfl, r0, v1, _, rfl, r1, v2, _, rfl, r2, e0⟩, hw, hrt⟩ := h
    have e1 := (e0 : _ = [])
    subst e1
    have sc := sc_law_direction
    exact ⟨_, (show JSs _ F ⟨[sv tI x0, sv tI x1, sv tI x2, .any, .any, .any, .any], []⟩ _ ⟨fun _ H' => Q .non H', Q, fun _ _ => False, fun _ _ => False⟩ _ from
      (js_asg (i := 3) (je_add (je_var (i := 2) (A := tI) (a := x2) rfl) (je_mod (je_int1 (by rfl) T.m_int (je_var (i := 0) (A := tI) (a := x0) rfl)) je_powL)) (fun p_69 => (js_asg (i := 4) (je_add (je_var (i := 2) (A := tI) (a := x2) rfl) (je_mod (je_int1 (by rfl) T.m_int (je_var (i := 1) (A := tI) (a := x1) rfl)) je_powL)) (fun q_70 => (js_asg (i := 5) (je_var (i := 3) (A := tI) (a := p_69) rfl) (fun common_71 => (js_asg (i := 6) (je_var (i := 4) (A := tI) (a := q_70) rfl) (fun rest_72 => (js_while (S := fun (s73 : Int × Int) => ⟨[sv tI x0, sv tI x1, sv tI x2, sv tI p_69, sv tI q_70, sv tI s73.1, sv tI s73.2], []⟩) (s0 := (common_71, rest_72)) ⟨(.same (.same (.same (.same (.same (.same (.same .nil))))))), .slnil⟩ (fun s73 => (jt_gt (je_var (i := 6) (A := tI) (a := s73.2) rfl) je_int)) (fun nxt74 brk75 s73 => (js_par (i := 5) (j := 6) (je_var (i := 6) (A := tI) (a := s73.2) rfl) (je_mod (je_int1 (by rfl) T.m_int (je_var (i := 5) (A := tI) (a := s73.1) rfl)) (je_var (i := 6) (A := tI) (a := s73.2) rfl)) (fun common_77 rest_78 => (js_end (common_77, rest_78) ⟨(.same (.same (.same (.same (.same (.same (.same .nil))))))), .slnil⟩)) sc.nd)) (fun s73 => (js_ifX (jt_eqI (je_var (i := 5) (A := tI) (a := s73.1) rfl) je_int) (js_ret hrt (je_tup2 je_int je_int)) (js_ret hrt (je_tup2 (je_fdiv (je_var (i := 3) (A := tI) (a := p_69) rfl) (je_var (i := 5) (A := tI) (a := s73.1) rfl)) (je_fdiv (je_var (i := 4) (A := tI) (a := q_70) rfl) (je_var (i := 5) (A := tI) (a := s73.1) rfl)))))) PassesOwn.never)) sc.nd)) sc.nd)) sc.nd)) sc.nd)), ⟨Le.refl _, ⟨Same.refl _, (Par.cons ⟨v0, rfl, J.fr_in r0⟩ (Par.cons ⟨v1, rfl, J.fr_in r1⟩ (Par.cons ⟨v2, rfl, J.fr_in r2⟩ (Par.cons trivial (Par.cons trivial (Par.cons trivial (Par.cons trivial Par.nil))))))), List.nodup_nil, fun c hc => by cases hc⟩, hw⟩⟩

theorem ok_is_order (T : Txt K mg) : FnOk Pg w K mg base CX0 1 T.a_is_order T.d_is_order ["rooms", "size"] (spJ (aC (tK tI) (aC tI aN)) (rO tB) fun t => w_is_order t.1 t.2.1) := by
  refine T.F_is_order.ok sc_is_order (fun vs H Q E h => ?_) (fun cdv A outer s H vs Q E hr h => ?_)
  · obtain ⟨t, P, F, rfl, ⟨v0, _, rfl, r0, v1, _, rfl, r1, e0⟩, _⟩ := h
    have e1 := (e0 : _ = [])
    subst e1
    rfl
  · obtain ⟨⟨x0, x1, _⟩, P, F, rfl, ⟨v0, _, rfl, r0, v1, _, rfl, r1, e0⟩, hw, hrt⟩ := h
    have e1 := (e0 : _ = [])
    subst e1
    have sc := sc_is_order
    exact ⟨_, (show JSs _ F ⟨[sv (tK tI) x0, sv tI x1], []⟩ _ ⟨fun _ H' => Q .non H', Q, fun _ _ => False, fun _ _ => False⟩ _ from
      (js_ret hrt (je_eqD (K := K) (A := (tK tI)) hr.units (je_b (je_new (je_sorted (by rfl) T.m_sorted (je_ebL (je_e (je_eK (je_var (i := 0) (A := (tK tI)) (a := x0) rfl))))))) (je_b (je_new (je_listR (by rfl) T.m_list (by rfl) T.m_range (je_var (i := 1) (A := tI) (a := x1) rfl))))))), ⟨Le.refl _, ⟨Same.refl _, (Par.cons ⟨v0, rfl, J.fr_in r0⟩ (Par.cons ⟨v1, rfl, J.fr_in r1⟩ Par.nil)), List.nodup_nil, fun c hc => by cases hc⟩, hw⟩⟩

theorem ok_Plan___init__ (T : Txt K mg) : FnOk Pg w K mg base CX0 2 T.a_Plan___init__ T.d_Plan___init__ ["self", "right", "above"] (spI T.a_Plan ["_right", "_above"] (aC (tK tI) (aC (tK tI) aN)) (a2 (tT K (aV tI)) (tT K (aV tI))) fun t => w_Plan___init__ t.1 t.2.1) := by
  refine T.F_Plan___init__.ok sc_Plan___init__ (fun vs H Q E h => ?_) (fun cdv A outer s H vs Q E hr h => ?_)
  · obtain ⟨x, dx, ws, t, P, F, rfl, hx, hdx, hne, rfl, ⟨v0, _, rfl, r0, v1, _, rfl, r1, e0⟩, _⟩ := h
    have e1 := (e0 : _ = [])
    subst e1
    rfl
  · obtain ⟨x, dx, ws, ⟨x0, x1, _⟩, P, F, rfl, hx, hdx, hne, rfl, ⟨v0, _, rfl, r0, v1, _, rfl, r1, e0⟩, hw, hq⟩ := h
    have e1 := (e0 : _ = [])
    subst e1
    have sc := sc_Plan___init__
    exact ⟨_, (show JSs _ F ⟨[.at x, sv (tK tI) x0, sv (tK tI) x1, .any], [.ins x dx T.a_Plan [] aN ()]⟩ _ ⟨fun _ H' => Q .non H', Q, fun _ _ => False, fun _ _ => False⟩ _ from
      (js_asg (i := 3) (je_lenL (by rfl) T.m_len (je_ebL (je_e (je_eK (je_var (i := 1) (A := (tK tI)) (a := x0) rfl))))) (fun size_102 => (js_ifX (jt_not (jt_leLe je_int (je_var (i := 3) (A := tI) (a := size_102) rfl) (je_cval (A := tI) (by rfl) T.g_Plan T.rd_Plan T.cv_Plan_MOST_ROOMS (fun _ => rfl)))) js_never (js_ifX (jt_not (jt_val (je_call (ok_is_order T) (hr.mono (by decide)) (by rfl) T.g_is_order T.F_is_order.kp T.b_is_order (ja_cons (je_var (i := 1) (A := (tK tI)) (a := x0) rfl) (ja_cons (je_var (i := 3) (A := tI) (a := size_102) rfl) ja_nil))))) js_never (js_ifX (jt_not (jt_val (je_call (ok_is_order T) (hr.mono (by decide)) (by rfl) T.g_is_order T.F_is_order.kp T.b_is_order (ja_cons (je_var (i := 2) (A := (tK tI)) (a := x1) rfl) (ja_cons (je_var (i := 3) (A := tI) (a := size_102) rfl) ja_nil))))) js_never (js_fld (i := 0) (j := 0) T.cl_Plan T.nf_Plan__right (je_tupleL (by rfl) T.m_tuple (je_e (je_eK (je_var (i := 1) (A := (tK tI)) (a := x0) rfl)))) (fun f109 => (js_fld (i := 0) (j := 0) T.cl_Plan T.nf_Plan__above (je_tupleL (by rfl) T.m_tuple (je_e (je_eK (je_var (i := 2) (A := (tK tI)) (a := x1) rfl)))) (fun f110 => (js_endI (κ := ((List Int) × (List Int))) (u := (f109, f110)) (fun σ H k p => hq _ H p k.same (J.init_end (j := 0) k rfl sn2)))) rfl rfl)) rfl rfl))))) sc.nd)), ⟨Le.refl _, J.init_ok hx hdx hne (Par.cons rfl (Par.cons ⟨v0, rfl, r0⟩ (Par.cons ⟨v1, rfl, r1⟩ (Par.cons trivial Par.nil)))), hw⟩⟩

theorem ok_WalkTable_form (T : Txt K mg) : FnOk Pg w K mg base CX0 1 T.a_WalkTable_form T.d_WalkTable_form ["self"] (spJ (aC (tC T.a_WalkTable ["_ends", "_marks"] (a2 (tT K (aV tI)) (tT K (aV tI)))) aN) (rO (tT K (a2 (tT K (aV tI)) (tT K (aV tI))))) fun t => w_WalkTable_form t.1) := by
  refine T.F_WalkTable_form.ok sc_WalkTable_form (fun vs H Q E h => ?_) (fun cdv A outer s H vs Q E hr h => ?_)
  · obtain ⟨t, P, F, rfl, ⟨v0, _, rfl, r0, e0⟩, _⟩ := h
    have e1 := (e0 : _ = [])
    subst e1
    rfl
  · obtain ⟨⟨x0, _⟩, P, F, rfl, ⟨v0, _, rfl, r0, e0⟩, hw, hrt⟩ := h
    have e1 := (e0 : _ = [])
    subst e1
    have sc := sc_WalkTable_form
    exact ⟨_, (show JSs _ F ⟨[sv (tC T.a_WalkTable ["_ends", "_marks"] (a2 (tT K (aV tI)) (tT K (aV tI)))) x0], []⟩ _ ⟨fun _ H' => Q .non H', Q, fun _ _ => False, fun _ _ => False⟩ _ from
      (js_ret hrt (je_tup2 (je_fld (A := (tT K (aV tI))) (h := fun (t : ((List Int) × (List Int))) => t.1) (je_var (i := 0) (A := (tC T.a_WalkTable ["_ends", "_marks"] (a2 (tT K (aV tI)) (tT K (aV tI))))) (a := x0) rfl) T.cl_WalkTable T.nf_WalkTable__ends (fun _ _ _ ⟨y0, y1, e0, h0, h1⟩ => ⟨y0, by rw [e0]; rfl, h0⟩)) (je_fld (A := (tT K (aV tI))) (h := fun (t : ((List Int) × (List Int))) => t.2) (je_var (i := 0) (A := (tC T.a_WalkTable ["_ends", "_marks"] (a2 (tT K (aV tI)) (tT K (aV tI))))) (a := x0) rfl) T.cl_WalkTable T.nf_WalkTable__marks (fun _ _ _ ⟨y0, y1, e0, h0, h1⟩ => ⟨y1, by rw [e0]; rfl, h1⟩))))), ⟨Le.refl _, ⟨Same.refl _, (Par.cons ⟨v0, rfl, J.fr_in r0⟩ Par.nil), List.nodup_nil, fun c hc => by cases hc⟩, hw⟩⟩

theorem ok_WalkTable_size (T : Txt K mg) : FnOk Pg w K mg base CX0 1 T.a_WalkTable_size T.d_WalkTable_size ["self"] (spJ (aC (tC T.a_WalkTable ["_ends", "_marks"] (a2 (tT K (aV tI)) (tT K (aV tI)))) aN) (rO tI) fun t => w_WalkTable_size t.1) := by
  refine T.F_WalkTable_size.ok sc_WalkTable_size (fun vs H Q E h => ?_) (fun cdv A outer s H vs Q E hr h => ?_)
  · obtain ⟨t, P, F, rfl, ⟨v0, _, rfl, r0, e0⟩, _⟩ := h
    have e1 := (e0 : _ = [])
    subst e1
    rfl
  · obtain ⟨⟨x0, _⟩, P, F, rfl, ⟨v0, _, rfl, r0, e0⟩, hw, hrt⟩ := h
    have e1 := (e0 : _ = [])
    subst e1
    have sc := sc_WalkTable_size
    exact ⟨_, (show JSs _ F ⟨[sv (tC T.a_WalkTable ["_ends", "_marks"] (a2 (tT K (aV tI)) (tT K (aV tI)))) x0], []⟩ _ ⟨fun _ H' => Q .non H', Q, fun _ _ => False, fun _ _ => False⟩ _ from
      (js_ret hrt (je_lenT (by rfl) T.m_len (je_fld (A := (tT K (aV tI))) (h := fun (t : ((List Int) × (List Int))) => t.1) (je_var (i := 0) (A := (tC T.a_WalkTable ["_ends", "_marks"] (a2 (tT K (aV tI)) (tT K (aV tI))))) (a := x0) rfl) T.cl_WalkTable T.nf_WalkTable__ends (fun _ _ _ ⟨y0, y1, e0, h0, h1⟩ => ⟨y0, by rw [e0]; rfl, h0⟩)) len_aV))), ⟨Le.refl _, ⟨Same.refl _, (Par.cons ⟨v0, rfl, J.fr_in r0⟩ Par.nil), List.nodup_nil, fun c hc => by cases hc⟩, hw⟩⟩

theorem ok_ring_from (T : Txt K mg) : FnOk Pg w K mg base CX0 1 T.a_ring_from T.d_ring_from ["start", "ends"] (spJ (aC tI (aC (tT K (aV tI)) aN)) (rN tI) fun t => w_ring_from t.1 t.2.1) := by
  refine T.F_ring_from.ok sc_ring_from (fun vs H Q E h => ?_) (fun cdv A outer s H vs Q E hr h => ?_)
  · obtain ⟨t, P, F, rfl, ⟨v0, _, rfl, r0, v1, _, rfl, r1, e0⟩, _⟩ := h
    have e1 := (e0 : _ = [])
    subst e1
    rfl
  · obtain ⟨⟨x0, x1, _⟩, P, F, rfl, ⟨v0, _, rfl, r0, v1, _, rfl, r1, e0⟩, hw, hrt⟩ := h
    have e1 := (e0 : _ = [])
    subst e1
    have sc := sc_ring_from
    exact ⟨_, (show JSs _ F ⟨[sv tI x0, sv (tT K (aV tI)) x1, .any, .any], []⟩ _ ⟨fun _ H' => Q .non H', Q, fun _ _ => False, fun _ _ => False⟩ _ from
      (js_stN (i := 2) (ps_set (i := 2) sc.nd rfl (by first | exact Or.inl rfl | exact Or.inr rfl) (je_lst (ja_consV (je_var (i := 0) (A := tI) (a := x0) rfl) (ja_nilV (A := tI)))) rfl (by first | exact .inl rfl | exact .inr rfl)) (fun p142 members_141 => (js_asg (i := 3) (je_ixV (je_var (i := 1) (A := (tT K (aV tI))) (a := x1) rfl) (je_var (i := 0) (A := tI) (a := x0) rfl)) (fun room_144 => (js_while (S := fun (s145 : Int × (List Int)) => ⟨[sv tI x0, sv (tT K (aV tI)) x1, .at p142, sv tI s145.1], [.lst p142 tI s145.2]⟩) (s0 := (room_144, members_141)) ⟨(.same (.same (.same (.same .nil)))), (.cons₂ _ .slnil)⟩ (fun s145 => (jt_neI (je_var (i := 3) (A := tI) (a := s145.1) rfl) (je_var (i := 0) (A := tI) (a := x0) rfl))) (fun nxt146 brk147 s145 => (js_app (i := 2) (j := 0) (pe_bm PySem.F.plainAttrs_list PySem.F.slot_list_append PySem.F.type_list_append mt_append (pv 2) (pa_cons (je_var (i := 3) (A := tI) (a := s145.1) rfl) pa_nil)) (fun y149 => (js_asg (i := 3) (je_ixV (je_var (i := 1) (A := (tT K (aV tI))) (a := x1) rfl) (je_var (i := 3) (A := tI) (a := s145.1) rfl)) (fun room_151 => (js_end (room_151, (s145.2 ++ [y149])) ⟨(.same (.same (.same (.same .nil)))), (.cons₂ _ .slnil)⟩)) sc.nd)) rfl rfl)) (fun s145 => (js_retC (i := 2) (j := 0) hrt rfl rfl)) PassesOwn.never)) sc.nd)))), ⟨Le.refl _, ⟨Same.refl _, (Par.cons ⟨v0, rfl, J.fr_in r0⟩ (Par.cons ⟨v1, rfl, J.fr_in r1⟩ (Par.cons trivial (Par.cons trivial Par.nil)))), List.nodup_nil, fun c hc => by cases hc⟩, hw⟩⟩

theorem ok_rooms_in (T : Txt K mg) : FnOk Pg w K mg base CX0 1 T.a_rooms_in T.d_rooms_in ["mark"] (spJ (aC tI aN) (rO (tT K (aV tI))) fun t => w_rooms_in t.1) := by
  refine T.F_rooms_in.ok sc_rooms_in (fun vs H Q E h => ?_) (fun cdv A outer s H vs Q E hr h => ?_)
  · obtain ⟨t, P, F, rfl, ⟨v0, _, rfl, r0, e0⟩, _⟩ := h
    have e1 := (e0 : _ = [])
    subst e1
    rfl
  · obtain ⟨⟨x0, _⟩, P, F, rfl, ⟨v0, _, rfl, r0, e0⟩, hw, hrt⟩ := h
    have e1 := (e0 : _ = [])
    subst e1
    have sc := sc_rooms_in
    exact ⟨_, (show JSs _ F ⟨[sv tI x0, .any], []⟩ _ ⟨fun _ H' => Q .non H', Q, fun _ _ => False, fun _ _ => False⟩ _ from
      (js_ret hrt (je_tupleL (by rfl) T.m_tuple (je_e (je_eN (je_compF (own := [("room", 1)]) (B := tI) (ji_R (by rfl) T.m_range (je_bits (je_var (i := 0) (A := tI) (a := x0) rfl))) sc.nd (blkOk_by (N := ["mark", "room"]) (sc := defScope s_rooms_in) (by decide +kernel)) (tgw_name) (fun _ _ _ _ _ => (pg_name (i := 1) sc.nd rfl (Or.inl rfl))) (fun D167 acc168 room_169 _ _ _ _ _ => (jt_eqI (je_and2 (je_shr (je_var (i := 0) (A := tI) (a := x0) rfl) (je_var (i := 1) (A := tI) (a := room_169) rfl)) je_int) je_int)) (fun D167 acc168 room_169 _ _ _ _ _ => (je_var (i := 1) (A := tI) (a := room_169) rfl)))))))), ⟨Le.refl _, ⟨Same.refl _, (Par.cons ⟨v0, rfl, J.fr_in r0⟩ (Par.cons trivial Par.nil)), List.nodup_nil, fun c hc => by cases hc⟩, hw⟩⟩

theorem ok_rings_of (T : Txt K mg) : FnOk Pg w K mg base CX0 3 T.a_rings_of T.d_rings_of ["table"] (spJ (aC (tC T.a_WalkTable ["_ends", "_marks"] (a2 (tT K (aV tI)) (tT K (aV tI)))) aN) (rN (tT K (a3 tI tI (tT K (aV tI))))) fun t => w_rings_of t.1) := by
  refine T.F_rings_of.ok sc_rings_of (fun vs H Q E h => ?_) (fun cdv A outer s H vs Q E hr h => ?_)
  · obtain ⟨t, P, F, rfl, ⟨v0, _, rfl, r0, e0⟩, _⟩ := h
    have e1 := (e0 : _ = [])
    subst e1
    rfl
  · obtain ⟨⟨x0, _⟩, P, F, rfl, ⟨v0, _, rfl, r0, e0⟩, hw, hrt⟩ := h
    have e1 := (e0 : _ = [])
    subst e1
    have sc := sc_rings_of
    exact ⟨_, (show JSs _ F ⟨[sv (tC T.a_WalkTable ["_ends", "_marks"] (a2 (tT K (aV tI)) (tT K (aV tI)))) x0, .any, .any, .any, .any, .any, .any, .any, .any], []⟩ _ ⟨fun _ H' => Q .non H', Q, fun _ _ => False, fun _ _ => False⟩ _ from
      (js_asgT (je_prop (je_var (i := 0) (A := (tC T.a_WalkTable ["_ends", "_marks"] (a2 (tT K (aV tI)) (tT K (aV tI))))) (a := x0) rfl) T.cl_WalkTable T.M_WalkTable_form (ok_WalkTable_form T) (hr.mono (by decide)) T.b_WalkTable_form) (pg_tup rfl (pgs_cons (pg_name (i := 1) sc.nd rfl (Or.inl rfl)) (pgs_cons (pg_name (i := 2) sc.nd rfl (Or.inl rfl)) pgs_nil))) (tg_pair (tg_name) (tg_name)) (fun t128 => (js_asgSet (i := 3) (by rfl) T.m_set (fun p129 => (js_stN (i := 4) (ps_set (i := 4) sc.nd rfl (by first | exact Or.inl rfl | exact Or.inr rfl) (je_lst0 (A := (tT K (a3 tI tI (tT K (aV tI)))))) rfl (by first | exact .inl rfl | exact .inr rfl)) (fun p131 rings_130 => (js_forR (S := fun (s133 : (List (Int × Int × (List Int))) × (List Int)) => ⟨[sv (tC T.a_WalkTable ["_ends", "_marks"] (a2 (tT K (aV tI)) (tT K (aV tI)))) x0, sv (tT K (aV tI)) t128.1, sv (tT K (aV tI)) t128.2, .at p129, .at p131, .any, .any, .any, .any], [.lst p131 (tT K (a3 tI tI (tT K (aV tI)))) s133.1, .raw p129 (setJ w p129 s133.2)]⟩) (s0 := (rings_130, [])) (by rfl) T.m_range (je_prop (je_var (i := 0) (A := (tC T.a_WalkTable ["_ends", "_marks"] (a2 (tT K (aV tI)) (tT K (aV tI))))) (a := x0) rfl) T.cl_WalkTable T.M_WalkTable_size (ok_WalkTable_size T) (hr.mono (by decide)) T.b_WalkTable_size) ⟨(.same (.same (.same (.same (.same (.any (.any (.any (.any .nil))))))))), (.cons₂ _ (.cons₂ _ .slnil))⟩ (pg_name (i := 5) sc.nd rfl (Or.inl rfl)) (tg_name) (fun nxt135 brk136 start_134 s133 => (js_if (jt_niS (je_var (i := 5) (A := tI) (a := start_134) rfl) (je_cellS (i := 3) (j := 1) (p := p129) (xs := s133.2) rfl rfl)) (js_stF (i := 6) (ps_set (i := 6) sc.nd rfl (by first | exact Or.inl rfl | exact Or.inr rfl) (je_call (ok_ring_from T) (hr.mono (by decide)) (by rfl) T.g_ring_from T.F_ring_from.kp T.b_ring_from (ja_cons (je_var (i := 5) (A := tI) (a := start_134) rfl) (ja_cons (je_var (i := 1) (A := (tT K (aV tI))) (a := t128.1) rfl) ja_nil))) rfl (by first | exact .inl rfl | exact .inr rfl)) (fun members_154 => (js_asg (i := 7) je_int (fun mark_155 => (js_forL (A := tI) (S := fun v156 xs157 => fun (s158 : Int × (List Int)) => ⟨[sv (tC T.a_WalkTable ["_ends", "_marks"] (a2 (tT K (aV tI)) (tT K (aV tI)))) x0, sv (tT K (aV tI)) t128.1, sv (tT K (aV tI)) t128.2, .at p129, .at p131, sv tI start_134, sv (tK tI) members_154, sv tI s158.1, .any], [.fix (tK tI) v156 xs157, .lst p131 (tT K (a3 tI tI (tT K (aV tI)))) s133.1, .raw p129 (setJ w p129 s158.2)]⟩) (s0 := (mark_155, s133.2)) (j := 0) (je_var (i := 6) (A := (tK tI)) (a := members_154) rfl) (fun v156 xs157 => ⟨(.same (.same (.same (.same (.same (.same (.same (.same (.any .nil))))))))), (.cons₂ _ (.cons₂ _ (.cons₂ _ .slnil)))⟩) (fun v156 xs157 _ => rfl) (pg_name (i := 8) sc.nd rfl (Or.inl rfl)) (tg_name) (fun v156 xs157 nxt160 brk161 room_159 s158 => (js_setAdd (i := 3) (j := 2) (xs := s158.2) (pe_sadd (pv 3) (pa_cons (je_var (i := 8) (A := tI) (a := room_159) rfl) pa_nil)) (fun placed_163 => (js_asg (i := 7) (je_or2 (je_var (i := 7) (A := tI) (a := s158.1) rfl) (je_ixV (je_var (i := 2) (A := (tT K (aV tI))) (a := t128.2) rfl) (je_var (i := 8) (A := tI) (a := room_159) rfl))) (fun mark_165 => (js_end (mark_165, placed_163) ⟨(.same (.same (.same (.same (.same (.same (.same (.same (.any .nil))))))))), (.cons₂ _ (.cons₂ _ (.cons₂ _ .slnil)))⟩)) sc.nd)) rfl rfl)) (fun v156 xs157 s158 => (js_app (i := 4) (j := 1) (pe_bm PySem.F.plainAttrs_list PySem.F.slot_list_append PySem.F.type_list_append mt_append (pv 4) (pa_cons (je_tup3 (je_var (i := 5) (A := tI) (a := start_134) rfl) (je_lenL (by rfl) T.m_len (je_ebL (je_e (je_eK (je_var (i := 6) (A := (tK tI)) (a := members_154) rfl))))) (je_call (ok_rooms_in T) (hr.mono (by decide)) (by rfl) T.g_rooms_in T.F_rooms_in.kp T.b_rooms_in (ja_cons (je_var (i := 7) (A := tI) (a := s158.1) rfl) ja_nil))) pa_nil)) (fun y174 => (js_end ((s133.1 ++ [y174]), s158.2) ⟨(.same (.same (.same (.same (.same (.any (.any (.any (.any .nil))))))))), (.cons _ (.cons₂ _ (.cons₂ _ .slnil)))⟩)) rfl rfl)) PassesOwn.never)) sc.nd))) (js_end (s133.1, s133.2) ⟨(.same (.same (.same (.same (.same (.any (.any (.any (.any .nil))))))))), (.cons₂ _ (.cons₂ _ .slnil))⟩))) (fun s133 => (js_retC (i := 4) (j := 0) hrt rfl rfl)) PassesOwn.never)))) sc.nd)))), ⟨Le.refl _, ⟨Same.refl _, (Par.cons ⟨v0, rfl, J.fr_in r0⟩ (Par.cons trivial (Par.cons trivial (Par.cons trivial (Par.cons trivial (Par.cons trivial (Par.cons trivial (Par.cons trivial (Par.cons trivial Par.nil))))))))), List.nodup_nil, fun c hc => by cases hc⟩, hw⟩⟩

theorem ok_check_direction (T : Txt K mg) : FnOk Pg w K mg base CX0 1 T.a_check_direction T.d_check_direction ["p", "q"] (spJ (aC tI (aC tI aN)) (rO tN) fun t => w_check_direction t.1 t.2.1) := by
  refine T.F_check_direction.ok sc_check_direction (fun vs H Q E h => ?_) (fun cdv A outer s H vs Q E hr h => ?_)
  · obtain ⟨t, P, F, rfl, ⟨v0, _, rfl, r0, v1, _, rfl, r1, e0⟩, _⟩ := h
    have e1 := (e0 : _ = [])
    subst e1
    rfl
  · obtain ⟨⟨x0, x1, _⟩, P, F, rfl, ⟨v0, _, rfl, r0, v1, _, rfl, r1, e0⟩, hw, hrt⟩ := h
    have e1 := (e0 : _ = [])
    subst e1
    have sc := sc_check_direction
    have hnx : ∀ (σ : L2.St) (H' : Hp), Same F.H H' → P () → Q .non H' := fun _ H' s p => hrt () .non H' p s rfl
    exact ⟨_, (show JSs _ F ⟨[sv tI x0, sv tI x1], []⟩ _ ⟨fun _ H' => Q .non H', Q, fun _ _ => False, fun _ _ => False⟩ _ from
      (js_if (jt_w (jw_or (jt_lt (je_var (i := 0) (A := tI) (a := x0) rfl) je_int) (jw_or (jt_lt (je_var (i := 1) (A := tI) (a := x1) rfl) je_int) (jw_oneO (jt_neI (je_gcd (by rfl) T.m_gcd (je_var (i := 0) (A := tI) (a := x0) rfl) (je_var (i := 1) (A := tI) (a := x1) rfl)) je_int))))) js_never (js_endN hnx))), ⟨Le.refl _, ⟨Same.refl _, (Par.cons ⟨v0, rfl, J.fr_in r0⟩ (Par.cons ⟨v1, rfl, J.fr_in r1⟩ Par.nil)), List.nodup_nil, fun c hc => by cases hc⟩, hw⟩⟩

theorem ok_Plan_size (T : Txt K mg) : FnOk Pg w K mg base CX0 1 T.a_Plan_size T.d_Plan_size ["self"] (spJ (aC (tC T.a_Plan ["_right", "_above"] (a2 (tT K (aV tI)) (tT K (aV tI)))) aN) (rO tI) fun t => w_Plan_size t.1) := by
  refine T.F_Plan_size.ok sc_Plan_size (fun vs H Q E h => ?_) (fun cdv A outer s H vs Q E hr h => ?_)
  · obtain ⟨t, P, F, rfl, ⟨v0, _, rfl, r0, e0⟩, _⟩ := h
    have e1 := (e0 : _ = [])
    subst e1
    rfl
  · obtain ⟨⟨x0, _⟩, P, F, rfl, ⟨v0, _, rfl, r0, e0⟩, hw, hrt⟩ := h
    have e1 := (e0 : _ = [])
    subst e1
    have sc := sc_Plan_size
    exact ⟨_, (show JSs _ F ⟨[sv (tC T.a_Plan ["_right", "_above"] (a2 (tT K (aV tI)) (tT K (aV tI)))) x0], []⟩ _ ⟨fun _ H' => Q .non H', Q, fun _ _ => False, fun _ _ => False⟩ _ from
      (js_ret hrt (je_lenT (by rfl) T.m_len (je_fld (A := (tT K (aV tI))) (h := fun (t : ((List Int) × (List Int))) => t.1) (je_var (i := 0) (A := (tC T.a_Plan ["_right", "_above"] (a2 (tT K (aV tI)) (tT K (aV tI))))) (a := x0) rfl) T.cl_Plan T.nf_Plan__right (fun _ _ _ ⟨y0, y1, e0, h0, h1⟩ => ⟨y0, by rw [e0]; rfl, h0⟩)) len_aV))), ⟨Le.refl _, ⟨Same.refl _, (Par.cons ⟨v0, rfl, J.fr_in r0⟩ Par.nil), List.nodup_nil, fun c hc => by cases hc⟩, hw⟩⟩

theorem ok_mark_of (T : Txt K mg) : FnOk Pg w K mg base CX0 1 T.a_mark_of T.d_mark_of ["room"] (spJ (aC tI aN) (rO tI) fun t => w_mark_of t.1) := by
  refine T.F_mark_of.ok sc_mark_of (fun vs H Q E h => ?_) (fun cdv A outer s H vs Q E hr h => ?_)
  · obtain ⟨t, P, F, rfl, ⟨v0, _, rfl, r0, e0⟩, _⟩ := h
    have e1 := (e0 : _ = [])
    subst e1
    rfl
  · obtain ⟨⟨x0, _⟩, P, F, rfl, ⟨v0, _, rfl, r0, e0⟩, hw, hrt⟩ := h
    have e1 := (e0 : _ = [])
    subst e1
    have sc := sc_mark_of
    exact ⟨_, (show JSs _ F ⟨[sv tI x0], []⟩ _ ⟨fun _ H' => Q .non H', Q, fun _ _ => False, fun _ _ => False⟩ _ from
      (js_ret hrt (je_shl je_int (je_var (i := 0) (A := tI) (a := x0) rfl)))), ⟨Le.refl _, ⟨Same.refl _, (Par.cons ⟨v0, rfl, J.fr_in r0⟩ Par.nil), List.nodup_nil, fun c hc => by cases hc⟩, hw⟩⟩

theorem ok_Plan_right (T : Txt K mg) : FnOk Pg w K mg base CX0 1 T.a_Plan_right T.d_Plan_right ["self"] (spJ (aC (tC T.a_Plan ["_right", "_above"] (a2 (tT K (aV tI)) (tT K (aV tI)))) aN) (rO (tT K (aV tI))) fun t => w_Plan_right t.1) := by
  refine T.F_Plan_right.ok sc_Plan_right (fun vs H Q E h => ?_) (fun cdv A outer s H vs Q E hr h => ?_)
  · obtain ⟨t, P, F, rfl, ⟨v0, _, rfl, r0, e0⟩, _⟩ := h
    have e1 := (e0 : _ = [])
    subst e1
    rfl
  · obtain ⟨⟨x0, _⟩, P, F, rfl, ⟨v0, _, rfl, r0, e0⟩, hw, hrt⟩ := h
    have e1 := (e0 : _ = [])
    subst e1
    have sc := sc_Plan_right
    exact ⟨_, (show JSs _ F ⟨[sv (tC T.a_Plan ["_right", "_above"] (a2 (tT K (aV tI)) (tT K (aV tI)))) x0], []⟩ _ ⟨fun _ H' => Q .non H', Q, fun _ _ => False, fun _ _ => False⟩ _ from
      (js_ret hrt (je_fld (A := (tT K (aV tI))) (h := fun (t : ((List Int) × (List Int))) => t.1) (je_var (i := 0) (A := (tC T.a_Plan ["_right", "_above"] (a2 (tT K (aV tI)) (tT K (aV tI))))) (a := x0) rfl) T.cl_Plan T.nf_Plan__right (fun _ _ _ ⟨y0, y1, e0, h0, h1⟩ => ⟨y0, by rw [e0]; rfl, h0⟩)))), ⟨Le.refl _, ⟨Same.refl _, (Par.cons ⟨v0, rfl, J.fr_in r0⟩ Par.nil), List.nodup_nil, fun c hc => by cases hc⟩, hw⟩⟩

theorem ok_WalkTable___init___tl (T : Txt K mg) : FnOk Pg w K mg base CX0 1 T.a_WalkTable___init__ T.d_WalkTable___init__ ["self", "ends", "marks"] (spI T.a_WalkTable ["_ends", "_marks"] (aC (tT K (aV tI)) (aC (tK tI) aN)) (a2 (tT K (aV tI)) (tT K (aV tI))) fun t => w_WalkTable___init___tl t.1 t.2.1) := by
  refine T.F_WalkTable___init__.ok sc_WalkTable___init__ (fun vs H Q E h => ?_) (fun cdv A outer s H vs Q E hr h => ?_)
  · obtain ⟨x, dx, ws, t, P, F, rfl, hx, hdx, hne, rfl, ⟨v0, _, rfl, r0, v1, _, rfl, r1, e0⟩, _⟩ := h
    have e1 := (e0 : _ = [])
    subst e1
    rfl
  · obtain ⟨x, dx, ws, ⟨x0, x1, _⟩, P, F, rfl, hx, hdx, hne, rfl, ⟨v0, _, rfl, r0, v1, _, rfl, r1, e0⟩, hw, hq⟩ := h
    have e1 := (e0 : _ = [])
    subst e1
    have sc := sc_WalkTable___init__
    exact ⟨_, (show JSs _ F ⟨[.at x, sv (tT K (aV tI)) x0, sv (tK tI) x1], [.ins x dx T.a_WalkTable [] aN ()]⟩ _ ⟨fun _ H' => Q .non H', Q, fun _ _ => False, fun _ _ => False⟩ _ from
      (js_fld (i := 0) (j := 0) T.cl_WalkTable T.nf_WalkTable__ends (je_tupleT (by rfl) T.m_tuple (je_var (i := 1) (A := (tT K (aV tI))) (a := x0) rfl)) (fun f205 => (js_fld (i := 0) (j := 0) T.cl_WalkTable T.nf_WalkTable__marks (je_tupleL (by rfl) T.m_tuple (je_e (je_eK (je_var (i := 2) (A := (tK tI)) (a := x1) rfl)))) (fun f206 => (js_endI (κ := ((List Int) × (List Int))) (u := (f205, f206)) (fun σ H k p => hq _ H p k.same (J.init_end (j := 0) k rfl sn2)))) rfl rfl)) rfl rfl)), ⟨Le.refl _, J.init_ok hx hdx hne (Par.cons rfl (Par.cons ⟨v0, rfl, r0⟩ (Par.cons ⟨v1, rfl, r1⟩ Par.nil))), hw⟩⟩

theorem ok_Plan_above (T : Txt K mg) : FnOk Pg w K mg base CX0 1 T.a_Plan_above T.d_Plan_above ["self"] (spJ (aC (tC T.a_Plan ["_right", "_above"] (a2 (tT K (aV tI)) (tT K (aV tI)))) aN) (rO (tT K (aV tI))) fun t => w_Plan_above t.1) := by
  refine T.F_Plan_above.ok sc_Plan_above (fun vs H Q E h => ?_) (fun cdv A outer s H vs Q E hr h => ?_)
  · obtain ⟨t, P, F, rfl, ⟨v0, _, rfl, r0, e0⟩, _⟩ := h
    have e1 := (e0 : _ = [])
    subst e1
    rfl
  · obtain ⟨⟨x0, _⟩, P, F, rfl, ⟨v0, _, rfl, r0, e0⟩, hw, hrt⟩ := h
    have e1 := (e0 : _ = [])
    subst e1
    have sc := sc_Plan_above
    exact ⟨_, (show JSs _ F ⟨[sv (tC T.a_Plan ["_right", "_above"] (a2 (tT K (aV tI)) (tT K (aV tI)))) x0], []⟩ _ ⟨fun _ H' => Q .non H', Q, fun _ _ => False, fun _ _ => False⟩ _ from
      (js_ret hrt (je_fld (A := (tT K (aV tI))) (h := fun (t : ((List Int) × (List Int))) => t.2) (je_var (i := 0) (A := (tC T.a_Plan ["_right", "_above"] (a2 (tT K (aV tI)) (tT K (aV tI))))) (a := x0) rfl) T.cl_Plan T.nf_Plan__above (fun _ _ _ ⟨y0, y1, e0, h0, h1⟩ => ⟨y1, by rw [e0]; rfl, h1⟩)))), ⟨Le.refl _, ⟨Same.refl _, (Par.cons ⟨v0, rfl, J.fr_in r0⟩ Par.nil), List.nodup_nil, fun c hc => by cases hc⟩, hw⟩⟩

theorem ok_side_tables (T : Txt K mg) : FnOk Pg w K mg base CX0 3 T.a_side_tables T.d_side_tables ["plan"] (spJ (aC (tC T.a_Plan ["_right", "_above"] (a2 (tT K (aV tI)) (tT K (aV tI)))) aN) (rO (tT K (a2 (tC T.a_WalkTable ["_ends", "_marks"] (a2 (tT K (aV tI)) (tT K (aV tI)))) (tC T.a_WalkTable ["_ends", "_marks"] (a2 (tT K (aV tI)) (tT K (aV tI))))))) fun t => w_side_tables t.1) := by
  refine T.F_side_tables.ok sc_side_tables (fun vs H Q E h => ?_) (fun cdv A outer s H vs Q E hr h => ?_)
  · obtain ⟨t, P, F, rfl, ⟨v0, _, rfl, r0, e0⟩, _⟩ := h
    have e1 := (e0 : _ = [])
    subst e1
    rfl
  · obtain ⟨⟨x0, _⟩, P, F, rfl, ⟨v0, _, rfl, r0, e0⟩, hw, hrt⟩ := h
    have e1 := (e0 : _ = [])
    subst e1
    have sc := sc_side_tables
    exact ⟨_, (show JSs _ F ⟨[sv (tC T.a_Plan ["_right", "_above"] (a2 (tT K (aV tI)) (tT K (aV tI)))) x0, .any, .any], []⟩ _ ⟨fun _ H' => Q .non H', Q, fun _ _ => False, fun _ _ => False⟩ _ from
      (js_stF (i := 1) (ps_lc (i := 1) (own := [("room", 2)]) (B := tI) (ji_R (by rfl) T.m_range (je_prop (je_var (i := 0) (A := (tC T.a_Plan ["_right", "_above"] (a2 (tT K (aV tI)) (tT K (aV tI))))) (a := x0) rfl) T.cl_Plan T.M_Plan_size (ok_Plan_size T) (hr.mono (by decide)) T.b_Plan_size)) sc.nd (blkOk_by (N := ["plan", "marks", "room"]) (sc := defScope s_side_tables) (by decide +kernel)) (tgw_name) (fun _ _ _ _ _ => (pg_name (i := 2) sc.nd rfl (Or.inl rfl))) (fun D195 acc196 room_197 _ _ _ _ _ => (je_call (ok_mark_of T) (hr.mono (by decide)) (by rfl) T.g_mark_of T.F_mark_of.kp T.b_mark_of (ja_cons (je_var (i := 2) (A := tI) (a := room_197) rfl) ja_nil))) (sw_true rfl rfl rfl (by decide +kernel))) (fun marks_201 => (js_ret hrt (je_tup2 (je_make (T := (aC (tT K (aV tI)) (aC (tK tI) aN))) (U := (a2 (tT K (aV tI)) (tT K (aV tI)))) (w := fun t => w_WalkTable___init___tl t.1 t.2.1) T.M_WalkTable___init__ (ok_WalkTable___init___tl T) (hr.mono (by decide)) (by rfl) T.g_WalkTable T.b_WalkTable___init__ (ja_cons (je_prop (je_var (i := 0) (A := (tC T.a_Plan ["_right", "_above"] (a2 (tT K (aV tI)) (tT K (aV tI))))) (a := x0) rfl) T.cl_Plan T.M_Plan_right (ok_Plan_right T) (hr.mono (by decide)) T.b_Plan_right) (ja_cons (je_var (i := 1) (A := (tK tI)) (a := marks_201) rfl) ja_nil))) (je_make (T := (aC (tT K (aV tI)) (aC (tK tI) aN))) (U := (a2 (tT K (aV tI)) (tT K (aV tI)))) (w := fun t => w_WalkTable___init___tl t.1 t.2.1) T.M_WalkTable___init__ (ok_WalkTable___init___tl T) (hr.mono (by decide)) (by rfl) T.g_WalkTable T.b_WalkTable___init__ (ja_cons (je_prop (je_var (i := 0) (A := (tC T.a_Plan ["_right", "_above"] (a2 (tT K (aV tI)) (tT K (aV tI))))) (a := x0) rfl) T.cl_Plan T.M_Plan_above (ok_Plan_above T) (hr.mono (by decide)) T.b_Plan_above) (ja_cons (je_var (i := 1) (A := (tK tI)) (a := marks_201) rfl) ja_nil)))))))), ⟨Le.refl _, ⟨Same.refl _, (Par.cons ⟨v0, rfl, J.fr_in r0⟩ (Par.cons trivial (Par.cons trivial Par.nil))), List.nodup_nil, fun c hc => by cases hc⟩, hw⟩⟩

theorem ok_Stretch___init__ (T : Txt K mg) : FnOk Pg w K mg base CX0 1 T.a_Stretch___init__ T.d_Stretch___init__ ["self", "table", "length", "parts"] (spI T.a_Stretch ["table", "length", "parts"] (aC (tC T.a_WalkTable ["_ends", "_marks"] (a2 (tT K (aV tI)) (tT K (aV tI)))) (aC tI (aC tAny aN))) (a3 (tC T.a_WalkTable ["_ends", "_marks"] (a2 (tT K (aV tI)) (tT K (aV tI)))) tI tAny) fun t => w_Stretch___init__ t.1 t.2.1 t.2.2.1) := by
  refine T.F_Stretch___init__.ok sc_Stretch___init__ (fun vs H Q E h => ?_) (fun cdv A outer s H vs Q E hr h => ?_)
  · obtain ⟨x, dx, ws, t, P, F, rfl, hx, hdx, hne, rfl, ⟨v0, _, rfl, r0, v1, _, rfl, r1, v2, _, rfl, r2, e0⟩, _⟩ := h
    have e1 := (e0 : _ = [])
    subst e1
    rfl
  · obtain ⟨x, dx, ws, ⟨x0, x1, x2, _⟩, P, F, rfl, hx, hdx, hne, rfl, ⟨v0, _, rfl, r0, v1, _, rfl, r1, v2, _, rfl, r2, e0⟩, hw, hq⟩ := h
    have e1 := (e0 : _ = [])
    subst e1
    have sc := sc_Stretch___init__
    exact ⟨_, (show JSs _ F ⟨[.at x, sv (tC T.a_WalkTable ["_ends", "_marks"] (a2 (tT K (aV tI)) (tT K (aV tI)))) x0, sv tI x1, sv tAny x2], [.ins x dx T.a_Stretch [] aN ()]⟩ _ ⟨fun _ H' => Q .non H', Q, fun _ _ => False, fun _ _ => False⟩ _ from
      (js_fld (i := 0) (j := 0) T.cl_Stretch T.nf_Stretch_table (je_var (i := 1) (A := (tC T.a_WalkTable ["_ends", "_marks"] (a2 (tT K (aV tI)) (tT K (aV tI))))) (a := x0) rfl) (fun f217 => (js_fld (i := 0) (j := 0) T.cl_Stretch T.nf_Stretch_length (je_var (i := 2) (A := tI) (a := x1) rfl) (fun f218 => (js_fld (i := 0) (j := 0) T.cl_Stretch T.nf_Stretch_parts (je_var (i := 3) (A := tAny) (a := x2) rfl) (fun f219 => (js_endI (κ := (((List Int) × (List Int)) × Int × Unit)) (u := (f217, f218, f219)) (fun σ H k p => hq _ H p k.same (J.init_end (j := 0) k rfl sn3)))) rfl rfl)) rfl rfl)) rfl rfl)), ⟨Le.refl _, J.init_ok hx hdx hne (Par.cons rfl (Par.cons ⟨v0, rfl, r0⟩ (Par.cons ⟨v1, rfl, r1⟩ (Par.cons ⟨v2, rfl, r2⟩ Par.nil)))), hw⟩⟩

theorem ok_side_stretches (T : Txt K mg) : FnOk Pg w K mg base CX0 4 T.a_side_stretches T.d_side_stretches ["plan"] (spJ (aC (tC T.a_Plan ["_right", "_above"] (a2 (tT K (aV tI)) (tT K (aV tI)))) aN) (rO (tT K (a2 (tC T.a_Stretch ["table", "length", "parts"] (a3 (tC T.a_WalkTable ["_ends", "_marks"] (a2 (tT K (aV tI)) (tT K (aV tI)))) tI tAny)) (tC T.a_Stretch ["table", "length", "parts"] (a3 (tC T.a_WalkTable ["_ends", "_marks"] (a2 (tT K (aV tI)) (tT K (aV tI)))) tI tAny))))) fun t => w_side_stretches t.1) := by
  refine T.F_side_stretches.ok sc_side_stretches (fun vs H Q E h => ?_) (fun cdv A outer s H vs Q E hr h => ?_)
  · obtain ⟨t, P, F, rfl, ⟨v0, _, rfl, r0, e0⟩, _⟩ := h
    have e1 := (e0 : _ = [])
    subst e1
    rfl
  · obtain ⟨⟨x0, _⟩, P, F, rfl, ⟨v0, _, rfl, r0, e0⟩, hw, hrt⟩ := h
    have e1 := (e0 : _ = [])
    subst e1
    have sc := sc_side_stretches
    exact ⟨_, (show JSs _ F ⟨[sv (tC T.a_Plan ["_right", "_above"] (a2 (tT K (aV tI)) (tT K (aV tI)))) x0, .any, .any], []⟩ _ ⟨fun _ H' => Q .non H', Q, fun _ _ => False, fun _ _ => False⟩ _ from
      (js_asgT (je_call (ok_side_tables T) (hr.mono (by decide)) (by rfl) T.g_side_tables T.F_side_tables.kp T.b_side_tables (ja_cons (je_var (i := 0) (A := (tC T.a_Plan ["_right", "_above"] (a2 (tT K (aV tI)) (tT K (aV tI))))) (a := x0) rfl) ja_nil)) (pg_tup rfl (pgs_cons (pg_name (i := 1) sc.nd rfl (Or.inl rfl)) (pgs_cons (pg_name (i := 2) sc.nd rfl (Or.inl rfl)) pgs_nil))) (tg_pair (tg_name) (tg_name)) (fun t213 => (js_ret hrt (je_tup2 (je_make (T := (aC (tC T.a_WalkTable ["_ends", "_marks"] (a2 (tT K (aV tI)) (tT K (aV tI)))) (aC tI (aC tAny aN)))) (U := (a3 (tC T.a_WalkTable ["_ends", "_marks"] (a2 (tT K (aV tI)) (tT K (aV tI)))) tI tAny)) (w := fun t => w_Stretch___init__ t.1 t.2.1 t.2.2.1) T.M_Stretch___init__ (ok_Stretch___init__ T) (hr.mono (by decide)) (by rfl) T.g_Stretch T.b_Stretch___init__ (ja_cons (je_var (i := 1) (A := (tC T.a_WalkTable ["_ends", "_marks"] (a2 (tT K (aV tI)) (tT K (aV tI))))) (a := t213.1) rfl) (ja_cons je_int (ja_cons (je_any (je_lst0 (A := tI))) ja_nil)))) (je_make (T := (aC (tC T.a_WalkTable ["_ends", "_marks"] (a2 (tT K (aV tI)) (tT K (aV tI)))) (aC tI (aC tAny aN)))) (U := (a3 (tC T.a_WalkTable ["_ends", "_marks"] (a2 (tT K (aV tI)) (tT K (aV tI)))) tI tAny)) (w := fun t => w_Stretch___init__ t.1 t.2.1 t.2.2.1) T.M_Stretch___init__ (ok_Stretch___init__ T) (hr.mono (by decide)) (by rfl) T.g_Stretch T.b_Stretch___init__ (ja_cons (je_var (i := 2) (A := (tC T.a_WalkTable ["_ends", "_marks"] (a2 (tT K (aV tI)) (tT K (aV tI))))) (a := t213.2) rfl) (ja_cons je_int (ja_cons (je_any (je_lst0 (A := tI))) ja_nil))))))))), ⟨Le.refl _, ⟨Same.refl _, (Par.cons ⟨v0, rfl, J.fr_in r0⟩ (Par.cons trivial (Par.cons trivial Par.nil))), List.nodup_nil, fun c hc => by cases hc⟩, hw⟩⟩

theorem ok_check_in_tree (T : Txt K mg) : FnOk Pg w K mg base CX0 2 T.a_check_in_tree T.d_check_in_tree ["p", "q"] (spJ (aC tI (aC tI aN)) (rO tN) fun t => w_check_in_tree t.1 t.2.1) := by
  refine T.F_check_in_tree.ok sc_check_in_tree (fun vs H Q E h => ?_) (fun cdv A outer s H vs Q E hr h => ?_)
  · obtain ⟨t, P, F, rfl, ⟨v0, _, rfl, r0, v1, _, rfl, r1, e0⟩, _⟩ := h
    have e1 := (e0 : _ = [])
    subst e1
    rfl
  · obtain ⟨⟨x0, x1, _⟩, P, F, rfl, ⟨v0, _, rfl, r0, v1, _, rfl, r1, e0⟩, hw, hrt⟩ := h
    have e1 := (e0 : _ = [])
    subst e1
    have sc := sc_check_in_tree
    have hnx : ∀ (σ : L2.St) (H' : Hp), Same F.H H' → P () → Q .non H' := fun _ H' s p => hrt () .non H' p s rfl
    exact ⟨_, (show JSs _ F ⟨[sv tI x0, sv tI x1], []⟩ _ ⟨fun _ H' => Q .non H', Q, fun _ _ => False, fun _ _ => False⟩ _ from
      (js_expr (je_call (ok_check_direction T) (hr.mono (by decide)) (by rfl) T.g_check_direction T.F_check_direction.kp T.b_check_direction (ja_cons (je_var (i := 0) (A := tI) (a := x0) rfl) (ja_cons (je_var (i := 1) (A := tI) (a := x1) rfl) ja_nil))) (js_if (jt_w (jw_or (jt_eqI (je_var (i := 0) (A := tI) (a := x0) rfl) je_int) (jw_oneO (jt_eqI (je_var (i := 1) (A := tI) (a := x1) rfl) je_int)))) js_never (js_endN hnx)))), ⟨Le.refl _, ⟨Same.refl _, (Par.cons ⟨v0, rfl, J.fr_in r0⟩ (Par.cons ⟨v1, rfl, J.fr_in r1⟩ Par.nil)), List.nodup_nil, fun c hc => by cases hc⟩, hw⟩⟩

theorem ok_steps (T : Txt K mg) : FnOk Pg w K mg base CX0 3 T.a_steps T.d_steps ["p", "q"] (spJ (aC tI (aC tI aN)) (rN (tT K (a2 tS tI))) fun t => w_steps t.1 t.2.1) := by
  refine T.F_steps.ok sc_steps (fun vs H Q E h => ?_) (fun cdv A outer s H vs Q E hr h => ?_)
  · obtain ⟨t, P, F, rfl, ⟨v0, _, rfl, r0, v1, _, rfl, r1, e0⟩, _⟩ := h
    have e1 := (e0 : _ = [])
    subst e1
    rfl
  · obtain ⟨⟨x0, x1, _⟩, P, F, rfl, ⟨v0, _, rfl, r0, v1, _, rfl, r1, e0⟩, hw, hrt⟩ := h
    have e1 := (e0 : _ = [])
    subst e1
    have sc := sc_steps
    exact ⟨_, (show JSs _ F ⟨[sv tI x0, sv tI x1, .any, .any], []⟩ _ ⟨fun _ H' => Q .non H', Q, fun _ _ => False, fun _ _ => False⟩ _ from
      (js_expr (je_call (ok_check_in_tree T) (hr.mono (by decide)) (by rfl) T.g_check_in_tree T.F_check_in_tree.kp T.b_check_in_tree (ja_cons (je_var (i := 0) (A := tI) (a := x0) rfl) (ja_cons (je_var (i := 1) (A := tI) (a := x1) rfl) ja_nil))) (js_stN (i := 2) (ps_set (i := 2) sc.nd rfl (by first | exact Or.inl rfl | exact Or.inr rfl) (je_lst0 (A := (tT K (a2 tS tI)))) rfl (by first | exact .inl rfl | exact .inr rfl)) (fun p236 runs_235 => (js_while (S := fun (s237 : Int × Int × (List (Str × Int))) => ⟨[sv tI s237.1, sv tI s237.2.1, .at p236, .any], [.lst p236 (tT K (a2 tS tI)) s237.2.2]⟩) (s0 := (x0, x1, runs_235)) ⟨(.same (.same (.same (.any .nil)))), (.cons₂ _ .slnil)⟩ (fun s237 => (jt_neI (je_var (i := 0) (A := tI) (a := s237.1) rfl) (je_var (i := 1) (A := tI) (a := s237.2.1) rfl))) (fun nxt238 brk239 s237 => (js_if (jt_gt (je_var (i := 0) (A := tI) (a := s237.1) rfl) (je_var (i := 1) (A := tI) (a := s237.2.1) rfl)) (js_asg (i := 3) (je_fdiv (je_sub (je_var (i := 0) (A := tI) (a := s237.1) rfl) je_int) (je_var (i := 1) (A := tI) (a := s237.2.1) rfl)) (fun count_242 => (js_app (i := 2) (j := 0) (pe_bm PySem.F.plainAttrs_list PySem.F.slot_list_append PySem.F.type_list_append mt_append (pv 2) (pa_cons (je_tup2 (je_globS (by rfl) T.c_FLAT ⟨_, rfl⟩) (je_var (i := 3) (A := tI) (a := count_242) rfl)) pa_nil)) (fun y243 => (js_asg (i := 0) (je_sub (je_var (i := 0) (A := tI) (a := s237.1) rfl) (je_mul (je_var (i := 3) (A := tI) (a := count_242) rfl) (je_var (i := 1) (A := tI) (a := s237.2.1) rfl))) (fun p_244 => (js_end (p_244, s237.2.1, (s237.2.2 ++ [y243])) ⟨(.same (.same (.same (.any .nil)))), (.cons₂ _ .slnil)⟩)) sc.nd)) rfl rfl)) sc.nd) (js_asg (i := 3) (je_fdiv (je_sub (je_var (i := 1) (A := tI) (a := s237.2.1) rfl) je_int) (je_var (i := 0) (A := tI) (a := s237.1) rfl)) (fun count_246 => (js_app (i := 2) (j := 0) (pe_bm PySem.F.plainAttrs_list PySem.F.slot_list_append PySem.F.type_list_append mt_append (pv 2) (pa_cons (je_tup2 (je_globS (by rfl) T.c_STEEP ⟨_, rfl⟩) (je_var (i := 3) (A := tI) (a := count_246) rfl)) pa_nil)) (fun y247 => (js_asg (i := 1) (je_sub (je_var (i := 1) (A := tI) (a := s237.2.1) rfl) (je_mul (je_var (i := 3) (A := tI) (a := count_246) rfl) (je_var (i := 0) (A := tI) (a := s237.1) rfl))) (fun q_248 => (js_end (s237.1, q_248, (s237.2.2 ++ [y247])) ⟨(.same (.same (.same (.any .nil)))), (.cons₂ _ .slnil)⟩)) sc.nd)) rfl rfl)) sc.nd))) (fun s237 => (js_retC (i := 2) (j := 0) hrt rfl rfl)) PassesOwn.never))))), ⟨Le.refl _, ⟨Same.refl _, (Par.cons ⟨v0, rfl, J.fr_in r0⟩ (Par.cons ⟨v1, rfl, J.fr_in r1⟩ (Par.cons trivial (Par.cons trivial Par.nil)))), List.nodup_nil, fun c hc => by cases hc⟩, hw⟩⟩

theorem ok_WalkTable___init__ (T : Txt K mg) : FnOk Pg w K mg base CX0 1 T.a_WalkTable___init__ T.d_WalkTable___init__ ["self", "ends", "marks"] (spI T.a_WalkTable ["_ends", "_marks"] (aC (tK tI) (aC (tK tI) aN)) (a2 (tT K (aV tI)) (tT K (aV tI))) fun t => w_WalkTable___init__ t.1 t.2.1) := by
  refine T.F_WalkTable___init__.ok sc_WalkTable___init__ (fun vs H Q E h => ?_) (fun cdv A outer s H vs Q E hr h => ?_)
  · obtain ⟨x, dx, ws, t, P, F, rfl, hx, hdx, hne, rfl, ⟨v0, _, rfl, r0, v1, _, rfl, r1, e0⟩, _⟩ := h
    have e1 := (e0 : _ = [])
    subst e1
    rfl
  · obtain ⟨x, dx, ws, ⟨x0, x1, _⟩, P, F, rfl, hx, hdx, hne, rfl, ⟨v0, _, rfl, r0, v1, _, rfl, r1, e0⟩, hw, hq⟩ := h
    have e1 := (e0 : _ = [])
    subst e1
    have sc := sc_WalkTable___init__
    exact ⟨_, (show JSs _ F ⟨[.at x, sv (tK tI) x0, sv (tK tI) x1], [.ins x dx T.a_WalkTable [] aN ()]⟩ _ ⟨fun _ H' => Q .non H', Q, fun _ _ => False, fun _ _ => False⟩ _ from
      (js_fld (i := 0) (j := 0) T.cl_WalkTable T.nf_WalkTable__ends (je_tupleL (by rfl) T.m_tuple (je_e (je_eK (je_var (i := 1) (A := (tK tI)) (a := x0) rfl)))) (fun f271 => (js_fld (i := 0) (j := 0) T.cl_WalkTable T.nf_WalkTable__marks (je_tupleL (by rfl) T.m_tuple (je_e (je_eK (je_var (i := 2) (A := (tK tI)) (a := x1) rfl)))) (fun f272 => (js_endI (κ := ((List Int) × (List Int))) (u := (f271, f272)) (fun σ H k p => hq _ H p k.same (J.init_end (j := 0) k rfl sn2)))) rfl rfl)) rfl rfl)), ⟨Le.refl _, J.init_ok hx hdx hne (Par.cons rfl (Par.cons ⟨v0, rfl, r0⟩ (Par.cons ⟨v1, rfl, r1⟩ Par.nil))), hw⟩⟩

theorem ok_WalkTable_resting (T : Txt K mg) : FnOk Pg w K mg base CX0 3 T.a_WalkTable_resting T.d_WalkTable_resting ["size"] (spJ (aC tI aN) (rO (tC T.a_WalkTable ["_ends", "_marks"] (a2 (tT K (aV tI)) (tT K (aV tI))))) fun t => w_WalkTable_resting t.1) := by
  refine T.F_WalkTable_resting.ok sc_WalkTable_resting (fun vs H Q E h => ?_) (fun cdv A outer s H vs Q E hr h => ?_)
  · obtain ⟨t, P, F, rfl, ⟨v0, _, rfl, r0, e0⟩, _⟩ := h
    have e1 := (e0 : _ = [])
    subst e1
    rfl
  · obtain ⟨⟨x0, _⟩, P, F, rfl, ⟨v0, _, rfl, r0, e0⟩, hw, hrt⟩ := h
    have e1 := (e0 : _ = [])
    subst e1
    have sc := sc_WalkTable_resting
    exact ⟨_, (show JSs _ F ⟨[sv tI x0], []⟩ _ ⟨fun _ H' => Q .non H', Q, fun _ _ => False, fun _ _ => False⟩ _ from
      (js_ret hrt (je_make (T := (aC (tK tI) (aC (tK tI) aN))) (U := (a2 (tT K (aV tI)) (tT K (aV tI)))) (w := fun t => w_WalkTable___init__ t.1 t.2.1) T.M_WalkTable___init__ (ok_WalkTable___init__ T) (hr.mono (by decide)) (by rfl) T.g_WalkTable T.b_WalkTable___init__ (ja_cons (je_new (je_listR (by rfl) T.m_list (by rfl) T.m_range (je_var (i := 0) (A := tI) (a := x0) rfl))) (ja_cons (je_new (je_rep (je_eN (je_lst (ja_consV je_int (ja_nilV (A := tI))))) (je_var (i := 0) (A := tI) (a := x0) rfl))) ja_nil))))), ⟨Le.refl _, ⟨Same.refl _, (Par.cons ⟨v0, rfl, J.fr_in r0⟩ Par.nil), List.nodup_nil, fun c hc => by cases hc⟩, hw⟩⟩

theorem ok_WalkTable___mul__ (T : Txt K mg) : FnOk Pg w K mg base CX0 3 T.a_WalkTable___mul__ T.d_WalkTable___mul__ ["self", "other"] (spJ (aC (tC T.a_WalkTable ["_ends", "_marks"] (a2 (tT K (aV tI)) (tT K (aV tI)))) (aC (tC T.a_WalkTable ["_ends", "_marks"] (a2 (tT K (aV tI)) (tT K (aV tI)))) aN)) (rO (tC T.a_WalkTable ["_ends", "_marks"] (a2 (tT K (aV tI)) (tT K (aV tI))))) fun t => w_WalkTable___mul__ t.1 t.2.1) := by
  refine T.F_WalkTable___mul__.ok sc_WalkTable___mul__ (fun vs H Q E h => ?_) (fun cdv A outer s H vs Q E hr h => ?_)
  · obtain ⟨t, P, F, rfl, ⟨v0, _, rfl, r0, v1, _, rfl, r1, e0⟩, _⟩ := h
    have e1 := (e0 : _ = [])
    subst e1
    rfl
  · obtain ⟨⟨x0, x1, _⟩, P, F, rfl, ⟨v0, _, rfl, r0, v1, _, rfl, r1, e0⟩, hw, hrt⟩ := h
    have e1 := (e0 : _ = [])
    subst e1
    have sc := sc_WalkTable___mul__
    exact ⟨_, (show JSs _ F ⟨[sv (tC T.a_WalkTable ["_ends", "_marks"] (a2 (tT K (aV tI)) (tT K (aV tI)))) x0, sv (tC T.a_WalkTable ["_ends", "_marks"] (a2 (tT K (aV tI)) (tT K (aV tI)))) x1, .any, .any, .any, .any], []⟩ _ ⟨fun _ H' => Q .non H', Q, fun _ _ => False, fun _ _ => False⟩ _ from
      (js_ifX (jt_neI (je_prop (je_var (i := 0) (A := (tC T.a_WalkTable ["_ends", "_marks"] (a2 (tT K (aV tI)) (tT K (aV tI))))) (a := x0) rfl) T.cl_WalkTable T.M_WalkTable_size (ok_WalkTable_size T) (hr.mono (by decide)) T.b_WalkTable_size) (je_prop (je_var (i := 1) (A := (tC T.a_WalkTable ["_ends", "_marks"] (a2 (tT K (aV tI)) (tT K (aV tI))))) (a := x1) rfl) T.cl_WalkTable T.M_WalkTable_size (ok_WalkTable_size T) (hr.mono (by decide)) T.b_WalkTable_size)) js_never (js_stF (i := 2) (ps_lc (i := 2) (own := [("there", 4)]) (B := tI) (ji_T (je_fld (A := (tT K (aV tI))) (h := fun (t : ((List Int) × (List Int))) => t.1) (je_var (i := 0) (A := (tC T.a_WalkTable ["_ends", "_marks"] (a2 (tT K (aV tI)) (tT K (aV tI))))) (a := x0) rfl) T.cl_WalkTable T.nf_WalkTable__ends (fun _ _ _ ⟨y0, y1, e0, h0, h1⟩ => ⟨y0, by rw [e0]; rfl, h0⟩))) sc.nd (blkOk_by (N := ["self", "other", "ends", "marks", "there", "mark"]) (sc := defScope s_WalkTable___mul__) (by decide +kernel)) (tgw_name) (fun _ _ _ _ _ => (pg_name (i := 4) sc.nd rfl (Or.inl rfl))) (fun D284 acc285 there_286 _ _ _ _ _ => (je_ixV (je_fld (A := (tT K (aV tI))) (h := fun (t : ((List Int) × (List Int))) => t.1) (je_var (i := 1) (A := (tC T.a_WalkTable ["_ends", "_marks"] (a2 (tT K (aV tI)) (tT K (aV tI))))) (a := x1) rfl) T.cl_WalkTable T.nf_WalkTable__ends (fun _ _ _ ⟨y0, y1, e0, h0, h1⟩ => ⟨y0, by rw [e0]; rfl, h0⟩)) (je_var (i := 4) (A := tI) (a := there_286) rfl))) (sw_true rfl rfl rfl (by decide +kernel))) (fun ends_290 => (js_stF (i := 3) (ps_lc (i := 3) (own := [("there", 4), ("mark", 5)]) (B := tI) (ji_zipT (by rfl) T.m_zip (je_fld (A := (tT K (aV tI))) (h := fun (t : ((List Int) × (List Int))) => t.1) (je_var (i := 0) (A := (tC T.a_WalkTable ["_ends", "_marks"] (a2 (tT K (aV tI)) (tT K (aV tI))))) (a := x0) rfl) T.cl_WalkTable T.nf_WalkTable__ends (fun _ _ _ ⟨y0, y1, e0, h0, h1⟩ => ⟨y0, by rw [e0]; rfl, h0⟩)) (je_fld (A := (tT K (aV tI))) (h := fun (t : ((List Int) × (List Int))) => t.2) (je_var (i := 0) (A := (tC T.a_WalkTable ["_ends", "_marks"] (a2 (tT K (aV tI)) (tT K (aV tI))))) (a := x0) rfl) T.cl_WalkTable T.nf_WalkTable__marks (fun _ _ _ ⟨y0, y1, e0, h0, h1⟩ => ⟨y1, by rw [e0]; rfl, h1⟩))) sc.nd (blkOk_by (N := ["self", "other", "ends", "marks", "there", "mark"]) (sc := defScope s_WalkTable___mul__) (by decide +kernel)) (tgw_pair) (fun _ _ _ _ _ => (pg_tup rfl (pgs_cons (pg_name (i := 4) sc.nd rfl (Or.inl rfl)) (pgs_cons (pg_name (i := 5) sc.nd rfl (Or.inl rfl)) pgs_nil)))) (fun D291 acc292 x293 _ _ _ _ _ => (je_or2 (je_var (i := 5) (A := tI) (a := x293.2) rfl) (je_ixV (je_fld (A := (tT K (aV tI))) (h := fun (t : ((List Int) × (List Int))) => t.2) (je_var (i := 1) (A := (tC T.a_WalkTable ["_ends", "_marks"] (a2 (tT K (aV tI)) (tT K (aV tI))))) (a := x1) rfl) T.cl_WalkTable T.nf_WalkTable__marks (fun _ _ _ ⟨y0, y1, e0, h0, h1⟩ => ⟨y1, by rw [e0]; rfl, h1⟩)) (je_var (i := 4) (A := tI) (a := x293.1) rfl)))) (sw_true rfl rfl rfl (by decide +kernel))) (fun marks_297 => (js_ret hrt (je_make (T := (aC (tK tI) (aC (tK tI) aN))) (U := (a2 (tT K (aV tI)) (tT K (aV tI)))) (w := fun t => w_WalkTable___init__ t.1 t.2.1) T.M_WalkTable___init__ (ok_WalkTable___init__ T) (hr.mono (by decide)) (by rfl) T.g_WalkTable T.b_WalkTable___init__ (ja_cons (je_var (i := 2) (A := (tK tI)) (a := ends_290) rfl) (ja_cons (je_var (i := 3) (A := (tK tI)) (a := marks_297) rfl) ja_nil)))))))))), ⟨Le.refl _, ⟨Same.refl _, (Par.cons ⟨v0, rfl, J.fr_in r0⟩ (Par.cons ⟨v1, rfl, J.fr_in r1⟩ (Par.cons trivial (Par.cons trivial (Par.cons trivial (Par.cons trivial Par.nil)))))), List.nodup_nil, fun c hc => by cases hc⟩, hw⟩⟩

theorem ok_WalkTable_repeated (T : Txt K mg) : FnOk Pg w K mg base CX0 4 T.a_WalkTable_repeated T.d_WalkTable_repeated ["self", "count"] (spJ (aC (tC T.a_WalkTable ["_ends", "_marks"] (a2 (tT K (aV tI)) (tT K (aV tI)))) (aC tI aN)) (rO (tC T.a_WalkTable ["_ends", "_marks"] (a2 (tT K (aV tI)) (tT K (aV tI))))) fun t => w_WalkTable_repeated t.1 t.2.1) := by
  refine T.F_WalkTable_repeated.ok sc_WalkTable_repeated (fun vs H Q E h => ?_) (fun cdv A outer s H vs Q E hr h => ?_)
  · obtain ⟨t, P, F, rfl, ⟨v0, _, rfl, r0, v1, _, rfl, r1, e0⟩, _⟩ := h
    have e1 := (e0 : _ = [])
    subst e1
    rfl
  · obtain ⟨⟨x0, x1, _⟩, P, F, rfl, ⟨v0, _, rfl, r0, v1, _, rfl, r1, e0⟩, hw, hrt⟩ := h
    have e1 := (e0 : _ = [])
    subst e1
    have sc := sc_WalkTable_repeated
    exact ⟨_, (show JSs _ F ⟨[sv (tC T.a_WalkTable ["_ends", "_marks"] (a2 (tT K (aV tI)) (tT K (aV tI)))) x0, sv tI x1, .any, .any], []⟩ _ ⟨fun _ H' => Q .non H', Q, fun _ _ => False, fun _ _ => False⟩ _ from
      (js_asg (i := 2) (je_smeth (by rfl) T.g_WalkTable T.rd_WalkTable T.M_WalkTable_resting (ok_WalkTable_resting T) (hr.mono (by decide)) T.b_WalkTable_resting (ja_cons (je_prop (je_var (i := 0) (A := (tC T.a_WalkTable ["_ends", "_marks"] (a2 (tT K (aV tI)) (tT K (aV tI))))) (a := x0) rfl) T.cl_WalkTable T.M_WalkTable_size (ok_WalkTable_size T) (hr.mono (by decide)) T.b_WalkTable_size) ja_nil)) (fun joined_274 => (js_asg (i := 3) (je_var (i := 0) (A := (tC T.a_WalkTable ["_ends", "_marks"] (a2 (tT K (aV tI)) (tT K (aV tI))))) (a := x0) rfl) (fun power_275 => (js_while (S := fun (s276 : Int × ((List Int) × (List Int)) × ((List Int) × (List Int))) => ⟨[sv (tC T.a_WalkTable ["_ends", "_marks"] (a2 (tT K (aV tI)) (tT K (aV tI)))) x0, sv tI s276.1, sv (tC T.a_WalkTable ["_ends", "_marks"] (a2 (tT K (aV tI)) (tT K (aV tI)))) s276.2.1, sv (tC T.a_WalkTable ["_ends", "_marks"] (a2 (tT K (aV tI)) (tT K (aV tI)))) s276.2.2], []⟩) (s0 := (x1, joined_274, power_275)) ⟨(.same (.same (.same (.same .nil)))), .slnil⟩ (fun s276 => (jt_gt (je_var (i := 1) (A := tI) (a := s276.1) rfl) je_int)) (fun nxt277 brk278 s276 => (js_ifJ (S := fun (s280 : ((List Int) × (List Int))) => ⟨[sv (tC T.a_WalkTable ["_ends", "_marks"] (a2 (tT K (aV tI)) (tT K (aV tI)))) x0, sv tI s276.1, sv (tC T.a_WalkTable ["_ends", "_marks"] (a2 (tT K (aV tI)) (tT K (aV tI)))) s280, sv (tC T.a_WalkTable ["_ends", "_marks"] (a2 (tT K (aV tI)) (tT K (aV tI)))) s276.2.2], []⟩) (jt_eqI (je_modL (je_var (i := 1) (A := tI) (a := s276.1) rfl)) je_int) (fun (J281 : ((List Int) × (List Int)) → Prop) => (js_asg (i := 2) (je_binO (je_var (i := 2) (A := (tC T.a_WalkTable ["_ends", "_marks"] (a2 (tT K (aV tI)) (tT K (aV tI))))) (a := s276.2.1) rfl) (je_var (i := 3) (A := (tC T.a_WalkTable ["_ends", "_marks"] (a2 (tT K (aV tI)) (tT K (aV tI))))) (a := s276.2.2) rfl) T.M_WalkTable___mul__ T.sf_WalkTable (ok_WalkTable___mul__ T) (hr.mono (by decide)) T.b_WalkTable___mul__) (fun joined_283 => (js_end joined_283 ⟨(.same (.same (.same (.same .nil)))), .slnil⟩)) sc.nd)) (fun (J281 : ((List Int) × (List Int)) → Prop) => (js_end s276.2.1 ⟨(.same (.same (.same (.same .nil)))), .slnil⟩)) (fun s280 => (js_asg (i := 3) (je_binO (je_var (i := 3) (A := (tC T.a_WalkTable ["_ends", "_marks"] (a2 (tT K (aV tI)) (tT K (aV tI))))) (a := s276.2.2) rfl) (je_var (i := 3) (A := (tC T.a_WalkTable ["_ends", "_marks"] (a2 (tT K (aV tI)) (tT K (aV tI))))) (a := s276.2.2) rfl) T.M_WalkTable___mul__ T.sf_WalkTable (ok_WalkTable___mul__ T) (hr.mono (by decide)) T.b_WalkTable___mul__) (fun power_286 => (js_asg (i := 1) (je_fdivL (je_var (i := 1) (A := tI) (a := s276.1) rfl)) (fun count_287 => (js_end (count_287, s280, power_286) ⟨(.same (.same (.same (.same .nil)))), .slnil⟩)) sc.nd)) sc.nd)))) (fun s276 => (js_ret hrt (je_var (i := 2) (A := (tC T.a_WalkTable ["_ends", "_marks"] (a2 (tT K (aV tI)) (tT K (aV tI))))) (a := s276.2.1) rfl))) PassesOwn.never)) sc.nd)) sc.nd)), ⟨Le.refl _, ⟨Same.refl _, (Par.cons ⟨v0, rfl, J.fr_in r0⟩ (Par.cons ⟨v1, rfl, J.fr_in r1⟩ (Par.cons trivial (Par.cons trivial Par.nil)))), List.nodup_nil, fun c hc => by cases hc⟩, hw⟩⟩

theorem ok_put_together (T : Txt K mg) : FnOk Pg w K mg base CX0 5 T.a_put_together T.d_put_together ["one", "copies_of_one", "two", "copies_of_two"] (spJ (aC (tC T.a_Stretch ["table", "length", "parts"] (a3 (tC T.a_WalkTable ["_ends", "_marks"] (a2 (tT K (aV tI)) (tT K (aV tI)))) tI tAny)) (aC tI (aC (tC T.a_Stretch ["table", "length", "parts"] (a3 (tC T.a_WalkTable ["_ends", "_marks"] (a2 (tT K (aV tI)) (tT K (aV tI)))) tI tAny)) (aC tI aN)))) (rO (tC T.a_Stretch ["table", "length", "parts"] (a3 (tC T.a_WalkTable ["_ends", "_marks"] (a2 (tT K (aV tI)) (tT K (aV tI)))) tI tAny))) fun t => w_put_together t.1 t.2.1 t.2.2.1 t.2.2.2.1) := by
  refine T.F_put_together.ok sc_put_together (fun vs H Q E h => ?_) (fun cdv A outer s H vs Q E hr h => ?_)
  · obtain ⟨t, P, F, rfl, ⟨v0, _, rfl, r0, v1, _, rfl, r1, v2, _, rfl, r2, v3, _, rfl, r3, e0⟩, _⟩ := h
    have e1 := (e0 : _ = [])
    subst e1
    rfl
  · obtain ⟨⟨x0, x1, x2, x3, _⟩, P, F, rfl, ⟨v0, _, rfl, r0, v1, _, rfl, r1, v2, _, rfl, r2, v3, _, rfl, r3, e0⟩, hw, hrt⟩ := h
    have e1 := (e0 : _ = [])
    subst e1
    have sc := sc_put_together
    exact ⟨_, (show JSs _ F ⟨[sv (tC T.a_Stretch ["table", "length", "parts"] (a3 (tC T.a_WalkTable ["_ends", "_marks"] (a2 (tT K (aV tI)) (tT K (aV tI)))) tI tAny)) x0, sv tI x1, sv (tC T.a_Stretch ["table", "length", "parts"] (a3 (tC T.a_WalkTable ["_ends", "_marks"] (a2 (tT K (aV tI)) (tT K (aV tI)))) tI tAny)) x2, sv tI x3, .any, .any], []⟩ _ ⟨fun _ H' => Q .non H', Q, fun _ _ => False, fun _ _ => False⟩ _ from
      (js_asg (i := 4) (je_binO (je_meth (je_fld (A := (tC T.a_WalkTable ["_ends", "_marks"] (a2 (tT K (aV tI)) (tT K (aV tI))))) (h := fun (t : (((List Int) × (List Int)) × Int × Unit)) => t.1) (je_var (i := 0) (A := (tC T.a_Stretch ["table", "length", "parts"] (a3 (tC T.a_WalkTable ["_ends", "_marks"] (a2 (tT K (aV tI)) (tT K (aV tI)))) tI tAny))) (a := x0) rfl) T.cl_Stretch T.nf_Stretch_table (fun _ _ _ ⟨y0, y1, y2, e0, h0, h1, h2⟩ => ⟨y0, by rw [e0]; rfl, h0⟩)) T.cl_WalkTable T.M_WalkTable_repeated (ok_WalkTable_repeated T) (hr.mono (by decide)) T.b_WalkTable_repeated (ja_cons (je_var (i := 1) (A := tI) (a := x1) rfl) ja_nil) (fun vs h => match vs, h with | [_, _], _ => rfl)) (je_meth (je_fld (A := (tC T.a_WalkTable ["_ends", "_marks"] (a2 (tT K (aV tI)) (tT K (aV tI))))) (h := fun (t : (((List Int) × (List Int)) × Int × Unit)) => t.1) (je_var (i := 2) (A := (tC T.a_Stretch ["table", "length", "parts"] (a3 (tC T.a_WalkTable ["_ends", "_marks"] (a2 (tT K (aV tI)) (tT K (aV tI)))) tI tAny))) (a := x2) rfl) T.cl_Stretch T.nf_Stretch_table (fun _ _ _ ⟨y0, y1, y2, e0, h0, h1, h2⟩ => ⟨y0, by rw [e0]; rfl, h0⟩)) T.cl_WalkTable T.M_WalkTable_repeated (ok_WalkTable_repeated T) (hr.mono (by decide)) T.b_WalkTable_repeated (ja_cons (je_var (i := 3) (A := tI) (a := x3) rfl) ja_nil) (fun vs h => match vs, h with | [_, _], _ => rfl)) T.M_WalkTable___mul__ T.sf_WalkTable (ok_WalkTable___mul__ T) (hr.mono (by decide)) T.b_WalkTable___mul__) (fun table_293 => (js_asg (i := 5) (je_add (je_mul (je_fld (A := tI) (h := fun (t : (((List Int) × (List Int)) × Int × Unit)) => t.2.1) (je_var (i := 0) (A := (tC T.a_Stretch ["table", "length", "parts"] (a3 (tC T.a_WalkTable ["_ends", "_marks"] (a2 (tT K (aV tI)) (tT K (aV tI)))) tI tAny))) (a := x0) rfl) T.cl_Stretch T.nf_Stretch_length (fun _ _ _ ⟨y0, y1, y2, e0, h0, h1, h2⟩ => ⟨y1, by rw [e0]; rfl, h1⟩)) (je_var (i := 1) (A := tI) (a := x1) rfl)) (je_mul (je_fld (A := tI) (h := fun (t : (((List Int) × (List Int)) × Int × Unit)) => t.2.1) (je_var (i := 2) (A := (tC T.a_Stretch ["table", "length", "parts"] (a3 (tC T.a_WalkTable ["_ends", "_marks"] (a2 (tT K (aV tI)) (tT K (aV tI)))) tI tAny))) (a := x2) rfl) T.cl_Stretch T.nf_Stretch_length (fun _ _ _ ⟨y0, y1, y2, e0, h0, h1, h2⟩ => ⟨y1, by rw [e0]; rfl, h1⟩)) (je_var (i := 3) (A := tI) (a := x3) rfl))) (fun length_294 => (js_ret hrt (je_make (T := (aC (tC T.a_WalkTable ["_ends", "_marks"] (a2 (tT K (aV tI)) (tT K (aV tI)))) (aC tI (aC tAny aN)))) (U := (a3 (tC T.a_WalkTable ["_ends", "_marks"] (a2 (tT K (aV tI)) (tT K (aV tI)))) tI tAny)) (w := fun t => w_Stretch___init__ t.1 t.2.1 t.2.2.1) T.M_Stretch___init__ (ok_Stretch___init__ T) (hr.mono (by decide)) (by rfl) T.g_Stretch T.b_Stretch___init__ (ja_cons (je_var (i := 4) (A := (tC T.a_WalkTable ["_ends", "_marks"] (a2 (tT K (aV tI)) (tT K (aV tI))))) (a := table_293) rfl) (ja_cons (je_var (i := 5) (A := tI) (a := length_294) rfl) (ja_cons (je_any (je_lst (ja_consV (je_tup2 (je_var (i := 0) (A := (tC T.a_Stretch ["table", "length", "parts"] (a3 (tC T.a_WalkTable ["_ends", "_marks"] (a2 (tT K (aV tI)) (tT K (aV tI)))) tI tAny))) (a := x0) rfl) (je_var (i := 1) (A := tI) (a := x1) rfl)) (ja_consV (je_tup2 (je_var (i := 2) (A := (tC T.a_Stretch ["table", "length", "parts"] (a3 (tC T.a_WalkTable ["_ends", "_marks"] (a2 (tT K (aV tI)) (tT K (aV tI)))) tI tAny))) (a := x2) rfl) (je_var (i := 3) (A := tI) (a := x3) rfl)) (ja_nilV (A := (tT K (a2 (tC T.a_Stretch ["table", "length", "parts"] (a3 (tC T.a_WalkTable ["_ends", "_marks"] (a2 (tT K (aV tI)) (tT K (aV tI)))) tI tAny)) tI)))))))) ja_nil)))))) sc.nd)) sc.nd)), ⟨Le.refl _, ⟨Same.refl _, (Par.cons ⟨v0, rfl, J.fr_in r0⟩ (Par.cons ⟨v1, rfl, J.fr_in r1⟩ (Par.cons ⟨v2, rfl, J.fr_in r2⟩ (Par.cons ⟨v3, rfl, J.fr_in r3⟩ (Par.cons trivial (Par.cons trivial Par.nil)))))), List.nodup_nil, fun c hc => by cases hc⟩, hw⟩⟩

theorem ok_rounds_of_neighbors (T : Txt K mg) : FnOk Pg w K mg base CX0 6 T.a_rounds_of_neighbors T.d_rounds_of_neighbors ["plan", "p", "q"] (spJ (aC (tC T.a_Plan ["_right", "_above"] (a2 (tT K (aV tI)) (tT K (aV tI)))) (aC tI (aC tI aN))) (rO (tT K (a2 (tC T.a_Stretch ["table", "length", "parts"] (a3 (tC T.a_WalkTable ["_ends", "_marks"] (a2 (tT K (aV tI)) (tT K (aV tI)))) tI tAny)) (tC T.a_Stretch ["table", "length", "parts"] (a3 (tC T.a_WalkTable ["_ends", "_marks"] (a2 (tT K (aV tI)) (tT K (aV tI)))) tI tAny))))) fun t => w_rounds_of_neighbors t.1 t.2.1 t.2.2.1) := by
  refine T.F_rounds_of_neighbors.ok sc_rounds_of_neighbors (fun vs H Q E h => ?_) (fun cdv A outer s H vs Q E hr h => ?_)
  · obtain ⟨t, P, F, rfl, ⟨v0, _, rfl, r0, v1, _, rfl, r1, v2, _, rfl, r2, e0⟩, _⟩ := h
    have e1 := (e0 : _ = [])
    subst e1
    rfl
  · obtain ⟨⟨x0, x1, x2, _⟩, P, F, rfl, ⟨v0, _, rfl, r0, v1, _, rfl, r1, v2, _, rfl, r2, e0⟩, hw, hrt⟩ := h
    have e1 := (e0 : _ = [])
    subst e1
    have sc := sc_rounds_of_neighbors
    exact ⟨_, (show JSs _ F ⟨[sv (tC T.a_Plan ["_right", "_above"] (a2 (tT K (aV tI)) (tT K (aV tI)))) x0, sv tI x1, sv tI x2, .any, .any, .any, .any, .any], []⟩ _ ⟨fun _ H' => Q .non H', Q, fun _ _ => False, fun _ _ => False⟩ _ from
      (js_stF (i := 3) (ps_set (i := 3) sc.nd rfl (by first | exact Or.inl rfl | exact Or.inr rfl) (je_call (ok_steps T) (hr.mono (by decide)) (by rfl) T.g_steps T.F_steps.kp T.b_steps (ja_cons (je_var (i := 1) (A := tI) (a := x1) rfl) (ja_cons (je_var (i := 2) (A := tI) (a := x2) rfl) ja_nil))) rfl (by first | exact .inl rfl | exact .inr rfl)) (fun runs_252 => (js_asgT (je_call (ok_side_stretches T) (hr.mono (by decide)) (by rfl) T.g_side_stretches T.F_side_stretches.kp T.b_side_stretches (ja_cons (je_var (i := 0) (A := (tC T.a_Plan ["_right", "_above"] (a2 (tT K (aV tI)) (tT K (aV tI))))) (a := x0) rfl) ja_nil)) (pg_tup rfl (pgs_cons (pg_name (i := 4) sc.nd rfl (Or.inl rfl)) (pgs_cons (pg_name (i := 5) sc.nd rfl (Or.inl rfl)) pgs_nil))) (tg_pair (tg_name) (tg_name)) (fun t253 => (js_forL (A := (tT K (a2 tS tI))) (S := fun v254 xs255 => fun (s256 : (((List Int) × (List Int)) × Int × Unit) × (((List Int) × (List Int)) × Int × Unit)) => ⟨[sv (tC T.a_Plan ["_right", "_above"] (a2 (tT K (aV tI)) (tT K (aV tI)))) x0, sv tI x1, sv tI x2, sv (tK (tT K (a2 tS tI))) runs_252, sv (tC T.a_Stretch ["table", "length", "parts"] (a3 (tC T.a_WalkTable ["_ends", "_marks"] (a2 (tT K (aV tI)) (tT K (aV tI)))) tI tAny)) s256.1, sv (tC T.a_Stretch ["table", "length", "parts"] (a3 (tC T.a_WalkTable ["_ends", "_marks"] (a2 (tT K (aV tI)) (tT K (aV tI)))) tI tAny)) s256.2, .any, .any], [.fix (tK (tT K (a2 tS tI))) v254 xs255]⟩) (s0 := (t253.1, t253.2)) (j := 0) (je_var (i := 3) (A := (tK (tT K (a2 tS tI)))) (a := runs_252) rfl) (fun v254 xs255 => ⟨(.same (.same (.same (.same (.same (.same (.any (.any .nil)))))))), (.cons₂ _ .slnil)⟩) (fun v254 xs255 _ => rfl) (pg_tup rfl (pgs_cons (pg_name (i := 6) sc.nd rfl (Or.inl rfl)) (pgs_cons (pg_name (i := 7) sc.nd rfl (Or.inl rfl)) pgs_nil))) (tg_pair (tg_name) (tg_name)) (fun v254 xs255 nxt258 brk259 x257 s256 => (js_if (jt_eqS (je_var (i := 6) (A := tS) (a := x257.1) rfl) (je_globS (by rfl) T.c_FLAT ⟨_, rfl⟩)) (js_asg (i := 5) (je_call (ok_put_together T) (hr.mono (by decide)) (by rfl) T.g_put_together T.F_put_together.kp T.b_put_together (ja_cons (je_var (i := 4) (A := (tC T.a_Stretch ["table", "length", "parts"] (a3 (tC T.a_WalkTable ["_ends", "_marks"] (a2 (tT K (aV tI)) (tT K (aV tI)))) tI tAny))) (a := s256.1) rfl) (ja_cons (je_var (i := 7) (A := tI) (a := x257.2) rfl) (ja_cons (je_var (i := 5) (A := (tC T.a_Stretch ["table", "length", "parts"] (a3 (tC T.a_WalkTable ["_ends", "_marks"] (a2 (tT K (aV tI)) (tT K (aV tI)))) tI tAny))) (a := s256.2) rfl) (ja_cons je_int ja_nil))))) (fun steep_299 => (js_end (s256.1, steep_299) ⟨(.same (.same (.same (.same (.same (.same (.any (.any .nil)))))))), (.cons₂ _ .slnil)⟩)) sc.nd) (js_asg (i := 4) (je_call (ok_put_together T) (hr.mono (by decide)) (by rfl) T.g_put_together T.F_put_together.kp T.b_put_together (ja_cons (je_var (i := 4) (A := (tC T.a_Stretch ["table", "length", "parts"] (a3 (tC T.a_WalkTable ["_ends", "_marks"] (a2 (tT K (aV tI)) (tT K (aV tI)))) tI tAny))) (a := s256.1) rfl) (ja_cons je_int (ja_cons (je_var (i := 5) (A := (tC T.a_Stretch ["table", "length", "parts"] (a3 (tC T.a_WalkTable ["_ends", "_marks"] (a2 (tT K (aV tI)) (tT K (aV tI)))) tI tAny))) (a := s256.2) rfl) (ja_cons (je_var (i := 7) (A := tI) (a := x257.2) rfl) ja_nil))))) (fun flat_302 => (js_end (flat_302, s256.2) ⟨(.same (.same (.same (.same (.same (.same (.any (.any .nil)))))))), (.cons₂ _ .slnil)⟩)) sc.nd))) (fun v254 xs255 s256 => (js_ret hrt (je_tup2 (je_var (i := 4) (A := (tC T.a_Stretch ["table", "length", "parts"] (a3 (tC T.a_WalkTable ["_ends", "_marks"] (a2 (tT K (aV tI)) (tT K (aV tI)))) tI tAny))) (a := s256.1) rfl) (je_var (i := 5) (A := (tC T.a_Stretch ["table", "length", "parts"] (a3 (tC T.a_WalkTable ["_ends", "_marks"] (a2 (tT K (aV tI)) (tT K (aV tI)))) tI tAny))) (a := s256.2) rfl)))) PassesOwn.never)))))), ⟨Le.refl _, ⟨Same.refl _, (Par.cons ⟨v0, rfl, J.fr_in r0⟩ (Par.cons ⟨v1, rfl, J.fr_in r1⟩ (Par.cons ⟨v2, rfl, J.fr_in r2⟩ (Par.cons trivial (Par.cons trivial (Par.cons trivial (Par.cons trivial (Par.cons trivial Par.nil)))))))), List.nodup_nil, fun c hc => by cases hc⟩, hw⟩⟩

theorem ok_stretch_of_round (T : Txt K mg) : FnOk Pg w K mg base CX0 7 T.a_stretch_of_round T.d_stretch_of_round ["plan", "p", "q"] (spJ (aC (tC T.a_Plan ["_right", "_above"] (a2 (tT K (aV tI)) (tT K (aV tI)))) (aC tI (aC tI aN))) (rO (tC T.a_Stretch ["table", "length", "parts"] (a3 (tC T.a_WalkTable ["_ends", "_marks"] (a2 (tT K (aV tI)) (tT K (aV tI)))) tI tAny))) fun t => w_stretch_of_round t.1 t.2.1 t.2.2.1) := by
  refine T.F_stretch_of_round.ok sc_stretch_of_round (fun vs H Q E h => ?_) (fun cdv A outer s H vs Q E hr h => ?_)
  · obtain ⟨t, P, F, rfl, ⟨v0, _, rfl, r0, v1, _, rfl, r1, v2, _, rfl, r2, e0⟩, _⟩ := h
    have e1 := (e0 : _ = [])
    subst e1
    rfl
  · obtain ⟨⟨x0, x1, x2, _⟩, P, F, rfl, ⟨v0, _, rfl, r0, v1, _, rfl, r1, v2, _, rfl, r2, e0⟩, hw, hrt⟩ := h
    have e1 := (e0 : _ = [])
    subst e1
    have sc := sc_stretch_of_round
    exact ⟨_, (show JSs _ F ⟨[sv (tC T.a_Plan ["_right", "_above"] (a2 (tT K (aV tI)) (tT K (aV tI)))) x0, sv tI x1, sv tI x2, .any, .any, .any, .any], []⟩ _ ⟨fun _ H' => Q .non H', Q, fun _ _ => False, fun _ _ => False⟩ _ from
      (js_expr (je_call (ok_check_direction T) (hr.mono (by decide)) (by rfl) T.g_check_direction T.F_check_direction.kp T.b_check_direction (ja_cons (je_var (i := 1) (A := tI) (a := x1) rfl) (ja_cons (je_var (i := 2) (A := tI) (a := x2) rfl) ja_nil))) (js_ifX_a (jt_w (jw_or (jt_eqI (je_var (i := 1) (A := tI) (a := x1) rfl) je_int) (jw_oneO (jt_eqI (je_var (i := 2) (A := tI) (a := x2) rfl) je_int)))) (js_asgT (je_call (ok_side_stretches T) (hr.mono (by decide)) (by rfl) T.g_side_stretches T.F_side_stretches.kp T.b_side_stretches (ja_cons (je_var (i := 0) (A := (tC T.a_Plan ["_right", "_above"] (a2 (tT K (aV tI)) (tT K (aV tI))))) (a := x0) rfl) ja_nil)) (pg_tup rfl (pgs_cons (pg_name (i := 3) sc.nd rfl (Or.inl rfl)) (pgs_cons (pg_name (i := 4) sc.nd rfl (Or.inl rfl)) pgs_nil))) (tg_pair (tg_name) (tg_name)) (fun t223 => (js_ret hrt (je_if (jt_eqI (je_var (i := 2) (A := tI) (a := x2) rfl) je_int) (je_var (i := 3) (A := (tC T.a_Stretch ["table", "length", "parts"] (a3 (tC T.a_WalkTable ["_ends", "_marks"] (a2 (tT K (aV tI)) (tT K (aV tI)))) tI tAny))) (a := t223.1) rfl) (je_var (i := 4) (A := (tC T.a_Stretch ["table", "length", "parts"] (a3 (tC T.a_WalkTable ["_ends", "_marks"] (a2 (tT K (aV tI)) (tT K (aV tI)))) tI tAny))) (a := t223.2) rfl))))) (js_asgT (je_call (ok_rounds_of_neighbors T) (hr.mono (by decide)) (by rfl) T.g_rounds_of_neighbors T.F_rounds_of_neighbors.kp T.b_rounds_of_neighbors (ja_cons (je_var (i := 0) (A := (tC T.a_Plan ["_right", "_above"] (a2 (tT K (aV tI)) (tT K (aV tI))))) (a := x0) rfl) (ja_cons (je_var (i := 1) (A := tI) (a := x1) rfl) (ja_cons (je_var (i := 2) (A := tI) (a := x2) rfl) ja_nil)))) (pg_tup rfl (pgs_cons (pg_name (i := 5) sc.nd rfl (Or.inl rfl)) (pgs_cons (pg_name (i := 6) sc.nd rfl (Or.inl rfl)) pgs_nil))) (tg_pair (tg_name) (tg_name)) (fun t306 => (js_ret hrt (je_call (ok_put_together T) (hr.mono (by decide)) (by rfl) T.g_put_together T.F_put_together.kp T.b_put_together (ja_cons (je_var (i := 5) (A := (tC T.a_Stretch ["table", "length", "parts"] (a3 (tC T.a_WalkTable ["_ends", "_marks"] (a2 (tT K (aV tI)) (tT K (aV tI)))) tI tAny))) (a := t306.1) rfl) (ja_cons je_int (ja_cons (je_var (i := 6) (A := (tC T.a_Stretch ["table", "length", "parts"] (a3 (tC T.a_WalkTable ["_ends", "_marks"] (a2 (tT K (aV tI)) (tT K (aV tI)))) tI tAny))) (a := t306.2) rfl) (ja_cons je_int ja_nil))))))))))), ⟨Le.refl _, ⟨Same.refl _, (Par.cons ⟨v0, rfl, J.fr_in r0⟩ (Par.cons ⟨v1, rfl, J.fr_in r1⟩ (Par.cons ⟨v2, rfl, J.fr_in r2⟩ (Par.cons trivial (Par.cons trivial (Par.cons trivial (Par.cons trivial Par.nil))))))), List.nodup_nil, fun c hc => by cases hc⟩, hw⟩⟩

theorem ok_walk_table (T : Txt K mg) : FnOk Pg w K mg base CX0 8 T.a_walk_table T.d_walk_table ["plan", "p", "q", "crossings"] (spJ (aC (tC T.a_Plan ["_right", "_above"] (a2 (tT K (aV tI)) (tT K (aV tI)))) (aC tI (aC tI (aC tN aN)))) (rO (tC T.a_WalkTable ["_ends", "_marks"] (a2 (tT K (aV tI)) (tT K (aV tI))))) fun t => w_walk_table t.1 t.2.1 t.2.2.1 t.2.2.2.1) := by
  refine T.F_walk_table.ok0 sc_walk_table (fun vs H Q E h => ?_) (fun cdv A outer s H vs Q E hr h => ?_)
  · obtain ⟨t, P, F, rfl, ⟨v0, _, rfl, r0, v1, _, rfl, r1, v2, _, rfl, r2, v3, _, rfl, r3, e0⟩, _⟩ := h
    have e1 := (e0 : _ = [])
    subst e1
    rfl
  · obtain ⟨⟨x0, x1, x2, x3, _⟩, P, F, rfl, ⟨v0, _, rfl, r0, v1, _, rfl, r1, v2, _, rfl, r2, v3, _, rfl, r3, e0⟩, hw, hrt⟩ := h
    have e1 := (e0 : _ = [])
    subst e1
    have sc := sc_walk_table
    exact ⟨_, (show JSs _ F ⟨[sv (tC T.a_Plan ["_right", "_above"] (a2 (tT K (aV tI)) (tT K (aV tI)))) x0, sv tI x1, sv tI x2, sv tN x3, .any], []⟩ _ ⟨fun _ H' => Q .non H', Q, fun _ _ => False, fun _ _ => False⟩ _ from
      (js_asg (i := 4) (je_call (ok_stretch_of_round T) (hr.mono (by decide)) (by rfl) T.g_stretch_of_round T.F_stretch_of_round.kp T.b_stretch_of_round (ja_cons (je_var (i := 0) (A := (tC T.a_Plan ["_right", "_above"] (a2 (tT K (aV tI)) (tT K (aV tI))))) (a := x0) rfl) (ja_cons (je_var (i := 1) (A := tI) (a := x1) rfl) (ja_cons (je_var (i := 2) (A := tI) (a := x2) rfl) ja_nil)))) (fun one_round_311 => (js_ifX (jt_isN (je_N2O (je_var (i := 3) (A := tN) (a := x3) rfl))) (js_ret hrt (je_fld (A := (tC T.a_WalkTable ["_ends", "_marks"] (a2 (tT K (aV tI)) (tT K (aV tI))))) (h := fun (t : (((List Int) × (List Int)) × Int × Unit)) => t.1) (je_var (i := 4) (A := (tC T.a_Stretch ["table", "length", "parts"] (a3 (tC T.a_WalkTable ["_ends", "_marks"] (a2 (tT K (aV tI)) (tT K (aV tI)))) tI tAny))) (a := one_round_311) rfl) T.cl_Stretch T.nf_Stretch_table (fun _ _ _ ⟨y0, y1, y2, e0, h0, h1, h2⟩ => ⟨y0, by rw [e0]; rfl, h0⟩))) js_never)) sc.nd)), ⟨Le.refl _, ⟨Same.refl _, (Par.cons ⟨v0, rfl, J.fr_in r0⟩ (Par.cons ⟨v1, rfl, J.fr_in r1⟩ (Par.cons ⟨v2, rfl, J.fr_in r2⟩ (Par.cons ⟨v3, rfl, J.fr_in r3⟩ (Par.cons trivial Par.nil))))), List.nodup_nil, fun c hc => by cases hc⟩, hw⟩⟩

theorem ok_rings_at (T : Txt K mg) : FnOk Pg w K mg base CX0 9 T.a_rings_at T.d_rings_at ["plan", "p", "q"] (spJ (aC (tC T.a_Plan ["_right", "_above"] (a2 (tT K (aV tI)) (tT K (aV tI)))) (aC tI (aC tI aN))) (rN (tT K (a3 tI tI (tT K (aV tI))))) fun t => w_rings_at t.1 t.2.1 t.2.2.1) := by
  refine T.F_rings_at.ok sc_rings_at (fun vs H Q E h => ?_) (fun cdv A outer s H vs Q E hr h => ?_)
  · obtain ⟨t, P, F, rfl, ⟨v0, _, rfl, r0, v1, _, rfl, r1, v2, _, rfl, r2, e0⟩, _⟩ := h
    have e1 := (e0 : _ = [])
    subst e1
    rfl
  · obtain ⟨⟨x0, x1, x2, _⟩, P, F, rfl, ⟨v0, _, rfl, r0, v1, _, rfl, r1, v2, _, rfl, r2, e0⟩, hw, hrt⟩ := h
    have e1 := (e0 : _ = [])
    subst e1
    have sc := sc_rings_at
    exact ⟨_, (show JSs _ F ⟨[sv (tC T.a_Plan ["_right", "_above"] (a2 (tT K (aV tI)) (tT K (aV tI)))) x0, sv tI x1, sv tI x2], []⟩ _ ⟨fun _ H' => Q .non H', Q, fun _ _ => False, fun _ _ => False⟩ _ from
      (js_ret hrt (je_call (ok_rings_of T) (hr.mono (by decide)) (by rfl) T.g_rings_of T.F_rings_of.kp T.b_rings_of (ja_cons (je_callD (T := (aC (tC T.a_Plan ["_right", "_above"] (a2 (tT K (aV tI)) (tT K (aV tI)))) (aC tI (aC tI (aC tN aN))))) (T' := (aC (tC T.a_Plan ["_right", "_above"] (a2 (tT K (aV tI)) (tT K (aV tI)))) (aC tI (aC tI aN)))) (ext := (fun (t : ((List Int) × (List Int)) × Int × Int × Unit) => (t.1, t.2.1, t.2.2.1, (), ()))) (ok_walk_table T) (hr.mono (by decide)) (by rfl) T.g_walk_table T.F_walk_table.kp T.b_walk_table (fun H vs t h => by obtain ⟨v0, _, rfl, r0, v1, _, rfl, r1, v2, _, rfl, r2, e0⟩ := h; have e1 := (e0 : _ = []); subst e1; exact ⟨v0, _, rfl, r0, v1, _, rfl, r1, v2, _, rfl, r2, .non, [], rfl, rfl, rfl⟩) (ja_cons (je_var (i := 0) (A := (tC T.a_Plan ["_right", "_above"] (a2 (tT K (aV tI)) (tT K (aV tI))))) (a := x0) rfl) (ja_cons (je_var (i := 1) (A := tI) (a := x1) rfl) (ja_cons (je_var (i := 2) (A := tI) (a := x2) rfl) ja_nil)))) ja_nil)))), ⟨Le.refl _, ⟨Same.refl _, (Par.cons ⟨v0, rfl, J.fr_in r0⟩ (Par.cons ⟨v1, rfl, J.fr_in r1⟩ (Par.cons ⟨v2, rfl, J.fr_in r2⟩ Par.nil))), List.nodup_nil, fun c hc => by cases hc⟩, hw⟩⟩

theorem ok_law_is_number (T : Txt K mg) : FnOk Pg w K mg base CX0 1 T.a_law_is_number T.d_law_is_number ["_law_value"] (spJ (aC tI aN) (rO tB) fun t => w_law_is_number t.1) := by
  refine T.F_law_is_number.ok sc_law_is_number (fun vs H Q E h => ?_) (fun cdv A outer s H vs Q E hr h => ?_)
  · obtain ⟨t, P, F, rfl, ⟨v0, _, rfl, r0, e0⟩, _⟩ := h
    have e1 := (e0 : _ = [])
    subst e1
    rfl
  · obtain ⟨⟨x0, _⟩, P, F, rfl, ⟨v0, _, rfl, r0, e0⟩, hw, hrt⟩ := h
    have e1 := (e0 : _ = [])
    subst e1
    have sc := sc_law_is_number
    exact ⟨_, (show JSs _ F ⟨[sv tI x0], []⟩ _ ⟨fun _ H' => Q .non H', Q, fun _ _ => False, fun _ _ => False⟩ _ from
      (js_ret hrt (je_and (je_isi (T := "int") (t := "int") (b := true) (by rfl) T.m_isinstance tyI (by decide +kernel) (je_b (je_var (i := 0) (A := tI) (a := x0) rfl)) (pe_bltn (by rfl) T.m_int (by decide +kernel) rfl)) (je_one (je_not (je_isi (T := "bool") (t := "int") (b := false) (by rfl) T.m_isinstance tyI (by decide +kernel) (je_b (je_var (i := 0) (A := tI) (a := x0) rfl)) (pe_bltn (by rfl) T.m_bool (by decide +kernel) rfl))))))), ⟨Le.refl _, ⟨Same.refl _, (Par.cons ⟨v0, rfl, J.fr_in r0⟩ Par.nil), List.nodup_nil, fun c hc => by cases hc⟩, hw⟩⟩

theorem ok_law_is_row (T : Txt K mg) : FnOk Pg w K mg base CX0 2 T.a_law_is_row T.d_law_is_row ["_law_actual", "_law_expected"] (spJ (aC (tT K (aV tI)) (aC (tT K (aV tI)) aN)) (rO tB) fun t => w_law_is_row t.1 t.2.1) := by
  refine T.F_law_is_row.ok sc_law_is_row (fun vs H Q E h => ?_) (fun cdv A outer s H vs Q E hr h => ?_)
  · obtain ⟨t, P, F, rfl, ⟨v0, _, rfl, r0, v1, _, rfl, r1, e0⟩, _⟩ := h
    have e1 := (e0 : _ = [])
    subst e1
    rfl
  · obtain ⟨⟨x0, x1, _⟩, P, F, rfl, ⟨v0, _, rfl, r0, v1, _, rfl, r1, e0⟩, hw, hrt⟩ := h
    have e1 := (e0 : _ = [])
    subst e1
    have sc := sc_law_is_row
    exact ⟨_, (show JSs _ F ⟨[sv (tT K (aV tI)) x0, sv (tT K (aV tI)) x1, .any], []⟩ _ ⟨fun _ H' => Q .non H', Q, fun _ _ => False, fun _ _ => False⟩ _ from
      (js_ifX (jt_w (jw_or (jt_not (jt_val (je_isi (T := "tuple") (t := "tuple") (b := true) (by rfl) T.m_isinstance tyT (by decide +kernel) (je_b (je_var (i := 0) (A := (tT K (aV tI))) (a := x0) rfl)) (pe_bltn (by rfl) T.m_tuple (by decide +kernel) rfl)))) (jw_oneO (jt_neI (je_lenT (by rfl) T.m_len (je_var (i := 0) (A := (tT K (aV tI))) (a := x0) rfl) len_aV) (je_lenT (by rfl) T.m_len (je_var (i := 1) (A := (tT K (aV tI))) (a := x1) rfl) len_aV))))) (js_ret hrt je_bl) (js_forR (S := fun (s332 : Unit) => ⟨[sv (tT K (aV tI)) x0, sv (tT K (aV tI)) x1, .any], []⟩) (s0 := ()) (by rfl) T.m_range (je_lenT (by rfl) T.m_len (je_var (i := 1) (A := (tT K (aV tI))) (a := x1) rfl) len_aV) ⟨(.same (.same (.any .nil))), .slnil⟩ (pg_name (i := 2) sc.nd rfl (Or.inl rfl)) (tg_name) (fun nxt334 brk335 k_333 s332 => (js_if (jt_w (jw_or (jt_not (jt_val (je_call (ok_law_is_number T) (hr.mono (by decide)) (by rfl) T.g_law_is_number T.F_law_is_number.kp T.b_law_is_number (ja_cons (je_ixV (je_var (i := 0) (A := (tT K (aV tI))) (a := x0) rfl) (je_var (i := 2) (A := tI) (a := k_333) rfl)) ja_nil)))) (jw_oneO (jt_neI (je_ixV (je_var (i := 0) (A := (tT K (aV tI))) (a := x0) rfl) (je_var (i := 2) (A := tI) (a := k_333) rfl)) (je_ixV (je_var (i := 1) (A := (tT K (aV tI))) (a := x1) rfl) (je_var (i := 2) (A := tI) (a := k_333) rfl)))))) (js_ret hrt je_bl) (js_end () ⟨(.same (.same (.any .nil))), .slnil⟩))) (fun s332 => (js_ret hrt je_bl)) PassesOwn.never))), ⟨Le.refl _, ⟨Same.refl _, (Par.cons ⟨v0, rfl, J.fr_in r0⟩ (Par.cons ⟨v1, rfl, J.fr_in r1⟩ (Par.cons trivial Par.nil))), List.nodup_nil, fun c hc => by cases hc⟩, hw⟩⟩

theorem ok_law_is_rings (T : Txt K mg) : FnOk Pg w K mg base CX0 3 T.a_law_is_rings T.d_law_is_rings ["_law_actual", "_law_expected"] (spJ (aC (tK (tT K (a3 tI tI (tT K (aV tI))))) (aC (tK (tT K (a3 tI tI (tT K (aV tI))))) aN)) (rO tB) fun t => w_law_is_rings t.1 t.2.1) := by
  refine T.F_law_is_rings.ok sc_law_is_rings (fun vs H Q E h => ?_) (fun cdv A outer s H vs Q E hr h => ?_)
  · obtain ⟨t, P, F, rfl, ⟨v0, _, rfl, r0, v1, _, rfl, r1, e0⟩, _⟩ := h
    have e1 := (e0 : _ = [])
    subst e1
    rfl
  · obtain ⟨⟨x0, x1, _⟩, P, F, rfl, ⟨v0, _, rfl, r0, v1, _, rfl, r1, e0⟩, hw, hrt⟩ := h
    have e1 := (e0 : _ = [])
    subst e1
    have sc := sc_law_is_rings
    exact ⟨_, (show JSs _ F ⟨[sv (tK (tT K (a3 tI tI (tT K (aV tI))))) x0, sv (tK (tT K (a3 tI tI (tT K (aV tI))))) x1, .any, .any], []⟩ _ ⟨fun _ H' => Q .non H', Q, fun _ _ => False, fun _ _ => False⟩ _ from
      (js_ifX (jt_w (jw_or (jt_not (jt_val (je_isi (T := "list") (t := "list") (b := true) (by rfl) T.m_isinstance tyK (by decide +kernel) (je_b (je_var (i := 0) (A := (tK (tT K (a3 tI tI (tT K (aV tI)))))) (a := x0) rfl)) (pe_bltn (by rfl) T.m_list (by decide +kernel) rfl)))) (jw_oneO (jt_neI (je_lenL (by rfl) T.m_len (je_ebL (je_e (je_eK (je_var (i := 0) (A := (tK (tT K (a3 tI tI (tT K (aV tI)))))) (a := x0) rfl))))) (je_lenL (by rfl) T.m_len (je_ebL (je_e (je_eK (je_var (i := 1) (A := (tK (tT K (a3 tI tI (tT K (aV tI)))))) (a := x1) rfl))))))))) (js_ret hrt je_bl) (js_forR (S := fun (s321 : Unit) => ⟨[sv (tK (tT K (a3 tI tI (tT K (aV tI))))) x0, sv (tK (tT K (a3 tI tI (tT K (aV tI))))) x1, .any, .any], []⟩) (s0 := ()) (by rfl) T.m_range (je_lenL (by rfl) T.m_len (je_ebL (je_e (je_eK (je_var (i := 1) (A := (tK (tT K (a3 tI tI (tT K (aV tI)))))) (a := x1) rfl))))) ⟨(.same (.same (.any (.any .nil)))), .slnil⟩ (pg_name (i := 2) sc.nd rfl (Or.inl rfl)) (tg_name) (fun nxt323 brk324 k_322 s321 => (js_asg (i := 3) (je_ixL (je_e (je_eK (je_var (i := 0) (A := (tK (tT K (a3 tI tI (tT K (aV tI)))))) (a := x0) rfl))) (je_var (i := 2) (A := tI) (a := k_322) rfl)) (fun ring_327 => (js_ifX (jt_w (jw_or (jt_not (jt_val (je_isi (T := "tuple") (t := "tuple") (b := true) (by rfl) T.m_isinstance tyT (by decide +kernel) (je_b (je_var (i := 3) (A := (tT K (a3 tI tI (tT K (aV tI))))) (a := ring_327) rfl)) (pe_bltn (by rfl) T.m_tuple (by decide +kernel) rfl)))) (jw_oneO (jt_neI (je_lenT (by rfl) T.m_len (je_var (i := 3) (A := (tT K (a3 tI tI (tT K (aV tI))))) (a := ring_327) rfl) len_a3) je_int)))) (js_ret hrt je_bl) (js_if (jt_w (jw_or (jt_not (jt_val (je_call (ok_law_is_row T) (hr.mono (by decide)) (by rfl) T.g_law_is_row T.F_law_is_row.kp T.b_law_is_row (ja_cons (je_cut3 (je_var (i := 3) (A := (tT K (a3 tI tI (tT K (aV tI))))) (a := ring_327) rfl)) (ja_cons (je_cut3 (je_ixL (je_e (je_eK (je_var (i := 1) (A := (tK (tT K (a3 tI tI (tT K (aV tI)))))) (a := x1) rfl))) (je_var (i := 2) (A := tI) (a := k_322) rfl))) ja_nil))))) (jw_oneO (jt_not (jt_val (je_call (ok_law_is_row T) (hr.mono (by decide)) (by rfl) T.g_law_is_row T.F_law_is_row.kp T.b_law_is_row (ja_cons (je_3c (je_var (i := 3) (A := (tT K (a3 tI tI (tT K (aV tI))))) (a := ring_327) rfl)) (ja_cons (je_3c (je_ixL (je_e (je_eK (je_var (i := 1) (A := (tK (tT K (a3 tI tI (tT K (aV tI)))))) (a := x1) rfl))) (je_var (i := 2) (A := tI) (a := k_322) rfl))) ja_nil)))))))) (js_ret hrt je_bl) (js_end () ⟨(.same (.same (.any (.any .nil)))), .slnil⟩)))) sc.nd)) (fun s321 => (js_ret hrt je_bl)) PassesOwn.never))), ⟨Le.refl _, ⟨Same.refl _, (Par.cons ⟨v0, rfl, J.fr_in r0⟩ (Par.cons ⟨v1, rfl, J.fr_in r1⟩ (Par.cons trivial (Par.cons trivial Par.nil)))), List.nodup_nil, fun c hc => by cases hc⟩, hw⟩⟩

theorem ok_law_rings (T : Txt K mg) : FnOk Pg w K mg base CX0 1 T.a_law_rings T.d_law_rings ["_law_table"] (spJ (aC (tK (tK tI)) aN) (rN (tT K (a3 tI tI (tT K (aV tI))))) fun t => w_law_rings t.1) := by
  refine T.F_law_rings.ok sc_law_rings (fun vs H Q E h => ?_) (fun cdv A outer s H vs Q E hr h => ?_)
  · obtain ⟨t, P, F, rfl, ⟨v0, _, rfl, r0, e0⟩, _⟩ := h
    have e1 := (e0 : _ = [])
    subst e1
    rfl
  · obtain ⟨⟨x0, _⟩, P, F, rfl, ⟨v0, _, rfl, r0, e0⟩, hw, hrt⟩ := h
    have e1 := (e0 : _ = [])
    subst e1
    have sc := sc_law_rings
    exact ⟨_, (show JSs _ F ⟨[sv (tK (tK tI)) x0, .any, .any, .any, .any, .any, .any, .any, .any], []⟩ _ ⟨fun _ H' => Q .non H', Q, fun _ _ => False, fun _ _ => False⟩ _ from
      (js_stN (i := 1) (ps_set (i := 1) sc.nd rfl (by first | exact Or.inl rfl | exact Or.inr rfl) (je_lst0 (A := (tT K (a3 tI tI (tT K (aV tI)))))) rfl (by first | exact .inl rfl | exact .inr rfl)) (fun p352 rings_here_351 => (js_stN (i := 2) (ps_set (i := 2) sc.nd rfl (by first | exact Or.inl rfl | exact Or.inr rfl) (je_lst0 (A := tI)) rfl (by first | exact .inl rfl | exact .inr rfl)) (fun p354 done_353 => (js_asg (i := 3) (je_lenL (by rfl) T.m_len (je_ebL (je_e (je_eK (je_ixL (je_e (je_eK (je_var (i := 0) (A := (tK (tK tI))) (a := x0) rfl))) je_int))))) (fun size_356 => (js_forR (S := fun (s357 : (List Int) × (List (Int × Int × (List Int)))) => ⟨[sv (tK (tK tI)) x0, .at p352, .at p354, sv tI size_356, .any, .any, .any, .any, .any], [.lst p354 tI s357.1, .lst p352 (tT K (a3 tI tI (tT K (aV tI)))) s357.2]⟩) (s0 := (done_353, rings_here_351)) (by rfl) T.m_range (je_var (i := 3) (A := tI) (a := size_356) rfl) ⟨(.same (.same (.same (.same (.any (.any (.any (.any (.any .nil))))))))), (.cons₂ _ (.cons₂ _ .slnil))⟩ (pg_name (i := 4) sc.nd rfl (Or.inl rfl)) (tg_name) (fun nxt359 brk360 first_358 s357 => (js_if (jt_niL (je_var (i := 4) (A := tI) (a := first_358) rfl) (je_ebL (je_e (je_cell (i := 2) (j := 0) (p := p354) (A := tI) (xs := s357.1) rfl rfl)))) (js_asg (i := 5) (je_var (i := 4) (A := tI) (a := first_358) rfl) (fun room_363 => (js_asg (i := 6) je_int (fun rounds_364 => (js_asg (i := 7) je_int (fun mark_365 => (js_forR (S := fun (s366 : Int × Int × Int × (List Int)) => ⟨[sv (tK (tK tI)) x0, .at p352, .at p354, sv tI size_356, sv tI first_358, sv tI s366.1, sv tI s366.2.1, sv tI s366.2.2.1, .any], [.lst p354 tI s366.2.2.2, .lst p352 (tT K (a3 tI tI (tT K (aV tI)))) s357.2]⟩) (s0 := (room_363, rounds_364, mark_365, s357.1)) (by rfl) T.m_range (je_var (i := 3) (A := tI) (a := size_356) rfl) ⟨(.same (.same (.same (.same (.same (.same (.same (.same (.any .nil))))))))), (.cons₂ _ (.cons₂ _ .slnil))⟩ (pg_name (i := 8) sc.nd rfl (Or.inl rfl)) (tg_name) (fun nxt368 brk369 k_367 s366 => (js_if (jt_niL (je_var (i := 5) (A := tI) (a := s366.1) rfl) (je_ebL (je_e (je_cell (i := 2) (j := 0) (p := p354) (A := tI) (xs := s366.2.2.2) rfl rfl)))) (js_app (i := 2) (j := 0) (pe_bm PySem.F.plainAttrs_list PySem.F.slot_list_append PySem.F.type_list_append mt_append (pv 2) (pa_cons (je_var (i := 5) (A := tI) (a := s366.1) rfl) pa_nil)) (fun y372 => (js_asg (i := 6) (je_add (je_var (i := 6) (A := tI) (a := s366.2.1) rfl) je_int) (fun rounds_373 => (js_asg (i := 7) (je_or2 (je_var (i := 7) (A := tI) (a := s366.2.2.1) rfl) (je_ixL (je_e (je_eK (je_ixL (je_e (je_eK (je_var (i := 0) (A := (tK (tK tI))) (a := x0) rfl))) je_int))) (je_var (i := 5) (A := tI) (a := s366.1) rfl))) (fun mark_376 => (js_asg (i := 5) (je_ixL (je_e (je_eK (je_ixL (je_e (je_eK (je_var (i := 0) (A := (tK (tK tI))) (a := x0) rfl))) je_int))) (je_var (i := 5) (A := tI) (a := s366.1) rfl)) (fun room_379 => (js_end (room_379, rounds_373, mark_376, (s366.2.2.2 ++ [y372])) ⟨(.same (.same (.same (.same (.same (.same (.same (.same (.any .nil))))))))), (.cons₂ _ (.cons₂ _ .slnil))⟩)) sc.nd)) sc.nd)) sc.nd)) rfl rfl) (js_end (s366.1, s366.2.1, s366.2.2.1, s366.2.2.2) ⟨(.same (.same (.same (.same (.same (.same (.same (.same (.any .nil))))))))), (.cons₂ _ (.cons₂ _ .slnil))⟩))) (fun s366 => (js_app (i := 1) (j := 1) (pe_bm PySem.F.plainAttrs_list PySem.F.slot_list_append PySem.F.type_list_append mt_append (pv 1) (pa_cons (je_tup3 (je_var (i := 4) (A := tI) (a := first_358) rfl) (je_var (i := 6) (A := tI) (a := s366.2.1) rfl) (je_tupleL (by rfl) T.m_tuple (je_e (je_eN (je_compF (own := [("_law_k", 8)]) (B := tI) (ji_R (by rfl) T.m_range (je_var (i := 3) (A := tI) (a := size_356) rfl)) sc.nd (blkOk_by (N := ["_law_table", "_law_rings_here", "_law_done", "_law_size", "_law_first", "_law_room", "_law_rounds", "_law_mark", "_law_k"]) (sc := defScope s_law_rings) (by decide +kernel)) (tgw_name) (fun _ _ _ _ _ => (pg_name (i := 8) sc.nd rfl (Or.inl rfl))) (fun D381 acc382 k_383 _ _ _ _ _ => (jt_eqI (je_and2 (je_shr (je_var (i := 7) (A := tI) (a := s366.2.2.1) rfl) (je_var (i := 8) (A := tI) (a := k_383) rfl)) je_int) je_int)) (fun D381 acc382 k_383 _ _ _ _ _ => (je_var (i := 8) (A := tI) (a := k_383) rfl))))))) pa_nil)) (fun y388 => (js_end (s366.2.2.2, (s357.2 ++ [y388])) ⟨(.same (.same (.same (.same (.any (.any (.any (.any (.any .nil))))))))), (.cons₂ _ (.cons₂ _ .slnil))⟩)) rfl rfl)) PassesOwn.never)) sc.nd)) sc.nd)) sc.nd) (js_end (s357.1, s357.2) ⟨(.same (.same (.same (.same (.any (.any (.any (.any (.any .nil))))))))), (.cons₂ _ (.cons₂ _ .slnil))⟩))) (fun s357 => (js_retC (i := 1) (j := 1) hrt rfl rfl)) PassesOwn.never)) sc.nd)))))), ⟨Le.refl _, ⟨Same.refl _, (Par.cons ⟨v0, rfl, J.fr_in r0⟩ (Par.cons trivial (Par.cons trivial (Par.cons trivial (Par.cons trivial (Par.cons trivial (Par.cons trivial (Par.cons trivial (Par.cons trivial Par.nil))))))))), List.nodup_nil, fun c hc => by cases hc⟩, hw⟩⟩

theorem ok_law_sides (T : Txt K mg) : FnOk Pg w K mg base CX0 1 T.a_law_sides T.d_law_sides ["_law_right", "_law_above"] (spJ (aC (tK tI) (aC (tK tI) aN)) (rN (tK (tK tI))) fun t => w_law_sides t.1 t.2.1) := by
  refine T.F_law_sides.ok sc_law_sides (fun vs H Q E h => ?_) (fun cdv A outer s H vs Q E hr h => ?_)
  · obtain ⟨t, P, F, rfl, ⟨v0, _, rfl, r0, v1, _, rfl, r1, e0⟩, _⟩ := h
    have e1 := (e0 : _ = [])
    subst e1
    rfl
  · obtain ⟨⟨x0, x1, _⟩, P, F, rfl, ⟨v0, _, rfl, r0, v1, _, rfl, r1, e0⟩, hw, hrt⟩ := h
    have e1 := (e0 : _ = [])
    subst e1
    have sc := sc_law_sides
    exact ⟨_, (show JSs _ F ⟨[sv (tK tI) x0, sv (tK tI) x1, .any, .any], []⟩ _ ⟨fun _ H' => Q .non H', Q, fun _ _ => False, fun _ _ => False⟩ _ from
      (js_stF (i := 2) (ps_lc (i := 2) (own := [("_law_room", 3)]) (B := tI) (ji_R (by rfl) T.m_range (je_lenL (by rfl) T.m_len (je_ebL (je_e (je_eK (je_var (i := 0) (A := (tK tI)) (a := x0) rfl)))))) sc.nd (blkOk_by (N := ["_law_right", "_law_above", "_law_marks", "_law_room"]) (sc := defScope s_law_sides) (by decide +kernel)) (tgw_name) (fun _ _ _ _ _ => (pg_name (i := 3) sc.nd rfl (Or.inl rfl))) (fun D396 acc397 room_398 _ _ _ _ _ => (je_shl je_int (je_var (i := 3) (A := tI) (a := room_398) rfl))) (sw_true rfl rfl rfl (by decide +kernel))) (fun marks_401 => (js_ret hrt (je_lst (ja_consV (je_new (je_lst (ja_consV (je_new (je_listL (by rfl) T.m_list (je_e (je_eK (je_var (i := 0) (A := (tK tI)) (a := x0) rfl))))) (ja_consV (je_new (je_listL (by rfl) T.m_list (je_e (je_eK (je_var (i := 2) (A := (tK tI)) (a := marks_401) rfl))))) (ja_nilV (A := (tK tI))))))) (ja_consV (je_new (je_lst (ja_consV (je_new (je_listL (by rfl) T.m_list (je_e (je_eK (je_var (i := 1) (A := (tK tI)) (a := x1) rfl))))) (ja_consV (je_new (je_listL (by rfl) T.m_list (je_e (je_eK (je_var (i := 2) (A := (tK tI)) (a := marks_401) rfl))))) (ja_nilV (A := (tK tI))))))) (ja_nilV (A := (tK (tK tI))))))))))), ⟨Le.refl _, ⟨Same.refl _, (Par.cons ⟨v0, rfl, J.fr_in r0⟩ (Par.cons ⟨v1, rfl, J.fr_in r1⟩ (Par.cons trivial (Par.cons trivial Par.nil)))), List.nodup_nil, fun c hc => by cases hc⟩, hw⟩⟩

theorem ok_law_join (T : Txt K mg) : FnOk Pg w K mg base CX0 1 T.a_law_join T.d_law_join ["_law_one", "_law_two"] (spJ (aC (tK (tK tI)) (aC (tK (tK tI)) aN)) (rN (tK tI)) fun t => w_law_join t.1 t.2.1) := by
  refine T.F_law_join.ok sc_law_join (fun vs H Q E h => ?_) (fun cdv A outer s H vs Q E hr h => ?_)
  · obtain ⟨t, P, F, rfl, ⟨v0, _, rfl, r0, v1, _, rfl, r1, e0⟩, _⟩ := h
    have e1 := (e0 : _ = [])
    subst e1
    rfl
  · obtain ⟨⟨x0, x1, _⟩, P, F, rfl, ⟨v0, _, rfl, r0, v1, _, rfl, r1, e0⟩, hw, hrt⟩ := h
    have e1 := (e0 : _ = [])
    subst e1
    have sc := sc_law_join
    exact ⟨_, (show JSs _ F ⟨[sv (tK (tK tI)) x0, sv (tK (tK tI)) x1, .any, .any, .any, .any], []⟩ _ ⟨fun _ H' => Q .non H', Q, fun _ _ => False, fun _ _ => False⟩ _ from
      (js_stF (i := 2) (ps_lc (i := 2) (own := [("_law_room", 4)]) (B := tI) (ji_L (je_ixL (je_e (je_eK (je_var (i := 0) (A := (tK (tK tI))) (a := x0) rfl))) je_int)) sc.nd (blkOk_by (N := ["_law_one", "_law_two", "_law_ends", "_law_marks", "_law_room", "_law_k"]) (sc := defScope s_law_join) (by decide +kernel)) (tgw_name) (fun _ _ _ _ _ => (pg_name (i := 4) sc.nd rfl (Or.inl rfl))) (fun D416 acc417 room_418 _ _ _ _ _ => (je_ixL (je_e (je_eK (je_ixL (je_e (je_eK (je_var (i := 1) (A := (tK (tK tI))) (a := x1) rfl))) je_int))) (je_var (i := 4) (A := tI) (a := room_418) rfl))) (sw_true rfl rfl rfl (by decide +kernel))) (fun ends_423 => (js_stF (i := 3) (ps_lc (i := 3) (own := [("_law_k", 5)]) (B := tI) (ji_R (by rfl) T.m_range (je_lenL (by rfl) T.m_len (je_ebL (je_e (je_eK (je_var (i := 2) (A := (tK tI)) (a := ends_423) rfl)))))) sc.nd (blkOk_by (N := ["_law_one", "_law_two", "_law_ends", "_law_marks", "_law_room", "_law_k"]) (sc := defScope s_law_join) (by decide +kernel)) (tgw_name) (fun _ _ _ _ _ => (pg_name (i := 5) sc.nd rfl (Or.inl rfl))) (fun D424 acc425 k_426 _ _ _ _ _ => (je_or2 (je_ixL (je_e (je_eK (je_ixL (je_e (je_eK (je_var (i := 0) (A := (tK (tK tI))) (a := x0) rfl))) je_int))) (je_var (i := 5) (A := tI) (a := k_426) rfl)) (je_ixL (je_e (je_eK (je_ixL (je_e (je_eK (je_var (i := 1) (A := (tK (tK tI))) (a := x1) rfl))) je_int))) (je_ixL (je_e (je_eK (je_ixL (je_e (je_eK (je_var (i := 0) (A := (tK (tK tI))) (a := x0) rfl))) je_int))) (je_var (i := 5) (A := tI) (a := k_426) rfl))))) (sw_true rfl rfl rfl (by decide +kernel))) (fun marks_435 => (js_ret hrt (je_lst (ja_consV (je_var (i := 2) (A := (tK tI)) (a := ends_423) rfl) (ja_consV (je_var (i := 3) (A := (tK tI)) (a := marks_435) rfl) (ja_nilV (A := (tK tI)))))))))))), ⟨Le.refl _, ⟨Same.refl _, (Par.cons ⟨v0, rfl, J.fr_in r0⟩ (Par.cons ⟨v1, rfl, J.fr_in r1⟩ (Par.cons trivial (Par.cons trivial (Par.cons trivial (Par.cons trivial Par.nil)))))), List.nodup_nil, fun c hc => by cases hc⟩, hw⟩⟩

theorem ok_law_power (T : Txt K mg) : FnOk Pg w K mg base CX0 2 T.a_law_power T.d_law_power ["_law_table", "_law_count"] (spJ (aC (tK (tK tI)) (aC tI aN)) (rO (tK (tK tI))) fun t => w_law_power t.1 t.2.1) := by
  refine T.F_law_power.ok sc_law_power (fun vs H Q E h => ?_) (fun cdv A outer s H vs Q E hr h => ?_)
  · obtain ⟨t, P, F, rfl, ⟨v0, _, rfl, r0, v1, _, rfl, r1, e0⟩, _⟩ := h
    have e1 := (e0 : _ = [])
    subst e1
    rfl
  · obtain ⟨⟨x0, x1, _⟩, P, F, rfl, ⟨v0, _, rfl, r0, v1, _, rfl, r1, e0⟩, hw, hrt⟩ := h
    have e1 := (e0 : _ = [])
    subst e1
    have sc := sc_law_power
    exact ⟨_, (show JSs _ F ⟨[sv (tK (tK tI)) x0, sv tI x1, .any, .any], []⟩ _ ⟨fun _ H' => Q .non H', Q, fun _ _ => False, fun _ _ => False⟩ _ from
      (js_stF (i := 2) (ps_set (i := 2) sc.nd rfl (by first | exact Or.inl rfl | exact Or.inr rfl) (je_lst (ja_consV (je_new (je_listR (by rfl) T.m_list (by rfl) T.m_range (je_lenL (by rfl) T.m_len (je_ebL (je_e (je_eK (je_ixL (je_e (je_eK (je_var (i := 0) (A := (tK (tK tI))) (a := x0) rfl))) je_int))))))) (ja_consV (je_new (je_comp (own := [("_law_room", 3)]) (B := tI) (ji_L (je_ixL (je_e (je_eK (je_var (i := 0) (A := (tK (tK tI))) (a := x0) rfl))) je_int)) sc.nd (blkOk_by (N := ["_law_table", "_law_count", "_law_result", "_law_room"]) (sc := defScope s_law_power) (by decide +kernel)) (tgw_name) (fun _ _ _ _ _ => (pg_name (i := 3) sc.nd rfl (Or.inl rfl))) (fun D440 acc441 room_442 _ _ _ _ _ => je_int))) (ja_nilV (A := (tK tI)))))) rfl (by first | exact .inl rfl | exact .inr rfl)) (fun result_445 => (js_while (S := fun (s446 : (List (List Int)) × Int × (List (List Int))) => ⟨[sv (tK (tK tI)) s446.1, sv tI s446.2.1, sv (tK (tK tI)) s446.2.2, .any], []⟩) (s0 := (x0, x1, result_445)) ⟨(.same (.same (.same (.any .nil)))), .slnil⟩ (fun s446 => (jt_gt (je_var (i := 1) (A := tI) (a := s446.2.1) rfl) je_int)) (fun nxt447 brk448 s446 => (js_ifJ (S := fun (s450 : (List (List Int))) => ⟨[sv (tK (tK tI)) s446.1, sv tI s446.2.1, sv (tK (tK tI)) s450, .any], []⟩) (jt_eqI (je_modL (je_int1 (by rfl) T.m_int (je_var (i := 1) (A := tI) (a := s446.2.1) rfl))) je_int) (fun (J451 : (List (List Int)) → Prop) => (js_stF (i := 2) (ps_set (i := 2) sc.nd rfl (by first | exact Or.inl rfl | exact Or.inr rfl) (je_call (ok_law_join T) (hr.mono (by decide)) (by rfl) T.g_law_join T.F_law_join.kp T.b_law_join (ja_cons (je_var (i := 2) (A := (tK (tK tI))) (a := s446.2.2) rfl) (ja_cons (je_var (i := 0) (A := (tK (tK tI))) (a := s446.1) rfl) ja_nil))) rfl (by first | exact .inl rfl | exact .inr rfl)) (fun result_453 => (js_end result_453 ⟨(.same (.same (.same (.any .nil)))), .slnil⟩)))) (fun (J451 : (List (List Int)) → Prop) => (js_end s446.2.2 ⟨(.same (.same (.same (.any .nil)))), .slnil⟩)) (fun s450 => (js_stF (i := 0) (ps_set (i := 0) sc.nd rfl (by first | exact Or.inl rfl | exact Or.inr rfl) (je_call (ok_law_join T) (hr.mono (by decide)) (by rfl) T.g_law_join T.F_law_join.kp T.b_law_join (ja_cons (je_var (i := 0) (A := (tK (tK tI))) (a := s446.1) rfl) (ja_cons (je_var (i := 0) (A := (tK (tK tI))) (a := s446.1) rfl) ja_nil))) rfl (by first | exact .inl rfl | exact .inr rfl)) (fun table_456 => (js_asg (i := 1) (je_fdivL (je_var (i := 1) (A := tI) (a := s446.2.1) rfl)) (fun count_457 => (js_end (table_456, count_457, s450) ⟨(.same (.same (.same (.any .nil)))), .slnil⟩)) sc.nd)))))) (fun s446 => (js_ret hrt (je_var (i := 2) (A := (tK (tK tI))) (a := s446.2.2) rfl))) PassesOwn.never)))), ⟨Le.refl _, ⟨Same.refl _, (Par.cons ⟨v0, rfl, J.fr_in r0⟩ (Par.cons ⟨v1, rfl, J.fr_in r1⟩ (Par.cons trivial (Par.cons trivial Par.nil)))), List.nodup_nil, fun c hc => by cases hc⟩, hw⟩⟩

theorem ok_law_round (T : Txt K mg) : FnOk Pg w K mg base CX0 3 T.a_law_round T.d_law_round ["_law_right", "_law_above", "_law_p", "_law_q"] (spJ (aC (tK tI) (aC (tK tI) (aC tI (aC tI aN)))) (rO (tK (tK tI))) fun t => w_law_round t.1 t.2.1 t.2.2.1 t.2.2.2.1) := by
  refine T.F_law_round.ok sc_law_round (fun vs H Q E h => ?_) (fun cdv A outer s H vs Q E hr h => ?_)
  · obtain ⟨t, P, F, rfl, ⟨v0, _, rfl, r0, v1, _, rfl, r1, v2, _, rfl, r2, v3, _, rfl, r3, e0⟩, _⟩ := h
    have e1 := (e0 : _ = [])
    subst e1
    rfl
  · obtain ⟨⟨x0, x1, x2, x3, _⟩, P, F, rfl, ⟨v0, _, rfl, r0, v1, _, rfl, r1, v2, _, rfl, r2, v3, _, rfl, r3, e0⟩, hw, hrt⟩ := h
    have e1 := (e0 : _ = [])
    subst e1
    have sc := sc_law_round
    exact ⟨_, (show JSs _ F ⟨[sv (tK tI) x0, sv (tK tI) x1, sv tI x2, sv tI x3, .any, .any, .any], []⟩ _ ⟨fun _ H' => Q .non H', Q, fun _ _ => False, fun _ _ => False⟩ _ from
      (js_asgL2 (i := 4) (j := 5) (je_new (je_call (ok_law_sides T) (hr.mono (by decide)) (by rfl) T.g_law_sides T.F_law_sides.kp T.b_law_sides (ja_cons (je_var (i := 0) (A := (tK tI)) (a := x0) rfl) (ja_cons (je_var (i := 1) (A := (tK tI)) (a := x1) rfl) ja_nil)))) (pgs_cons (pg_name (i := 4) sc.nd rfl (Or.inl rfl)) (pgs_cons (pg_name (i := 5) sc.nd rfl (Or.inl rfl)) pgs_nil)) (fun first_403 second_404 => (js_ifX (jt_eqI (je_var (i := 3) (A := tI) (a := x3) rfl) je_int) (js_ret hrt (je_var (i := 4) (A := (tK (tK tI))) (a := first_403) rfl)) (js_ifX (jt_eqI (je_var (i := 2) (A := tI) (a := x2) rfl) je_int) (js_ret hrt (je_var (i := 5) (A := (tK (tK tI))) (a := second_404) rfl)) (js_while (S := fun (s407 : Int × Int × (List (List Int)) × (List (List Int))) => ⟨[sv (tK tI) x0, sv (tK tI) x1, sv tI s407.1, sv tI s407.2.1, sv (tK (tK tI)) s407.2.2.1, sv (tK (tK tI)) s407.2.2.2, .any], []⟩) (s0 := (x2, x3, first_403, second_404)) ⟨(.same (.same (.same (.same (.same (.same (.any .nil))))))), .slnil⟩ (fun s407 => (jt_neI (je_var (i := 2) (A := tI) (a := s407.1) rfl) (je_var (i := 3) (A := tI) (a := s407.2.1) rfl))) (fun nxt408 brk409 s407 => (js_if (jt_gt (je_var (i := 2) (A := tI) (a := s407.1) rfl) (je_var (i := 3) (A := tI) (a := s407.2.1) rfl)) (js_asg (i := 6) (je_fdiv (je_sub (je_var (i := 2) (A := tI) (a := s407.1) rfl) je_int) (je_var (i := 3) (A := tI) (a := s407.2.1) rfl)) (fun count_412 => (js_stF (i := 5) (ps_set (i := 5) sc.nd rfl (by first | exact Or.inl rfl | exact Or.inr rfl) (je_call (ok_law_join T) (hr.mono (by decide)) (by rfl) T.g_law_join T.F_law_join.kp T.b_law_join (ja_cons (je_call (ok_law_power T) (hr.mono (by decide)) (by rfl) T.g_law_power T.F_law_power.kp T.b_law_power (ja_cons (je_var (i := 4) (A := (tK (tK tI))) (a := s407.2.2.1) rfl) (ja_cons (je_var (i := 6) (A := tI) (a := count_412) rfl) ja_nil))) (ja_cons (je_var (i := 5) (A := (tK (tK tI))) (a := s407.2.2.2) rfl) ja_nil))) rfl (by first | exact .inl rfl | exact .inr rfl)) (fun second_461 => (js_asg (i := 2) (je_sub (je_var (i := 2) (A := tI) (a := s407.1) rfl) (je_mul (je_var (i := 6) (A := tI) (a := count_412) rfl) (je_var (i := 3) (A := tI) (a := s407.2.1) rfl))) (fun p_462 => (js_end (p_462, s407.2.1, s407.2.2.1, second_461) ⟨(.same (.same (.same (.same (.same (.same (.any .nil))))))), .slnil⟩)) sc.nd)))) sc.nd) (js_asg (i := 6) (je_fdiv (je_sub (je_var (i := 3) (A := tI) (a := s407.2.1) rfl) je_int) (je_var (i := 2) (A := tI) (a := s407.1) rfl)) (fun count_466 => (js_stF (i := 4) (ps_set (i := 4) sc.nd rfl (by first | exact Or.inl rfl | exact Or.inr rfl) (je_call (ok_law_join T) (hr.mono (by decide)) (by rfl) T.g_law_join T.F_law_join.kp T.b_law_join (ja_cons (je_var (i := 4) (A := (tK (tK tI))) (a := s407.2.2.1) rfl) (ja_cons (je_call (ok_law_power T) (hr.mono (by decide)) (by rfl) T.g_law_power T.F_law_power.kp T.b_law_power (ja_cons (je_var (i := 5) (A := (tK (tK tI))) (a := s407.2.2.2) rfl) (ja_cons (je_var (i := 6) (A := tI) (a := count_466) rfl) ja_nil))) ja_nil))) rfl (by first | exact .inl rfl | exact .inr rfl)) (fun first_467 => (js_asg (i := 3) (je_sub (je_var (i := 3) (A := tI) (a := s407.2.1) rfl) (je_mul (je_var (i := 6) (A := tI) (a := count_466) rfl) (je_var (i := 2) (A := tI) (a := s407.1) rfl))) (fun q_468 => (js_end (s407.1, q_468, first_467, s407.2.2.2) ⟨(.same (.same (.same (.same (.same (.same (.any .nil))))))), .slnil⟩)) sc.nd)))) sc.nd))) (fun s407 => (js_ret hrt (je_new (je_call (ok_law_join T) (hr.mono (by decide)) (by rfl) T.g_law_join T.F_law_join.kp T.b_law_join (ja_cons (je_var (i := 4) (A := (tK (tK tI))) (a := s407.2.2.1) rfl) (ja_cons (je_var (i := 5) (A := (tK (tK tI))) (a := s407.2.2.2) rfl) ja_nil)))))) PassesOwn.never)))))), ⟨Le.refl _, ⟨Same.refl _, (Par.cons ⟨v0, rfl, J.fr_in r0⟩ (Par.cons ⟨v1, rfl, J.fr_in r1⟩ (Par.cons ⟨v2, rfl, J.fr_in r2⟩ (Par.cons ⟨v3, rfl, J.fr_in r3⟩ (Par.cons trivial (Par.cons trivial (Par.cons trivial Par.nil))))))), List.nodup_nil, fun c hc => by cases hc⟩, hw⟩⟩

theorem ok_law_letter (T : Txt K mg) : FnOk Pg w K mg base CX0 1 T.a_law_letter T.d_law_letter ["_law_pair", "_law_index"] (spJ (aC (tT K (a2 tI tI)) (aC tI aN)) (rO tS) fun t => w_law_letter t.1 t.2.1) := by
  refine T.F_law_letter.ok sc_law_letter (fun vs H Q E h => ?_) (fun cdv A outer s H vs Q E hr h => ?_)
  · obtain ⟨t, P, F, rfl, ⟨v0, _, rfl, r0, v1, _, rfl, r1, e0⟩, _⟩ := h
    have e1 := (e0 : _ = [])
    subst e1
    rfl
  · obtain ⟨⟨x0, x1, _⟩, P, F, rfl, ⟨v0, _, rfl, r0, v1, _, rfl, r1, e0⟩, hw, hrt⟩ := h
    have e1 := (e0 : _ = [])
    subst e1
    have sc := sc_law_letter
    exact ⟨_, (show JSs _ F ⟨[sv (tT K (a2 tI tI)) x0, sv tI x1, .any], []⟩ _ ⟨fun _ H' => Q .non H', Q, fun _ _ => False, fun _ _ => False⟩ _ from
      (js_asg (i := 2) (je_add (je_2a (je_var (i := 0) (A := (tT K (a2 tI tI))) (a := x0) rfl)) (je_2b (je_var (i := 0) (A := (tT K (a2 tI tI))) (a := x0) rfl))) (fun length_507 => (js_ifX (jt_gt (je_fdiv (je_mul (je_add (je_var (i := 1) (A := tI) (a := x1) rfl) je_int) (je_2b (je_var (i := 0) (A := (tT K (a2 tI tI))) (a := x0) rfl))) (je_var (i := 2) (A := tI) (a := length_507) rfl)) (je_fdiv (je_mul (je_var (i := 1) (A := tI) (a := x1) rfl) (je_2b (je_var (i := 0) (A := (tT K (a2 tI tI))) (a := x0) rfl))) (je_var (i := 2) (A := tI) (a := length_507) rfl))) (js_ret hrt je_str) (js_ret hrt je_str))) sc.nd)), ⟨Le.refl _, ⟨Same.refl _, (Par.cons ⟨v0, rfl, J.fr_in r0⟩ (Par.cons ⟨v1, rfl, J.fr_in r1⟩ (Par.cons trivial Par.nil))), List.nodup_nil, fun c hc => by cases hc⟩, hw⟩⟩

theorem ok_law_ring_is_walked (T : Txt K mg) : FnOk Pg w K mg base CX0 2 T.a_law_ring_is_walked T.d_law_ring_is_walked ["_law_lists", "_law_pair", "_law_ring"] (spJ (aC (tK (tK tI)) (aC (tT K (a2 tI tI)) (aC (tT K (a3 tI tI (tT K (aV tI)))) aN))) (rO tB) fun t => w_law_ring_is_walked t.1 t.2.1 t.2.2.1) := by
  refine T.F_law_ring_is_walked.ok sc_law_ring_is_walked (fun vs H Q E h => ?_) (fun cdv A outer s H vs Q E hr h => ?_)
  · obtain ⟨t, P, F, rfl, ⟨v0, _, rfl, r0, v1, _, rfl, r1, v2, _, rfl, r2, e0⟩, _⟩ := h
    have e1 := (e0 : _ = [])
    subst e1
    rfl
  · obtain ⟨⟨x0, x1, x2, _⟩, P, F, rfl, ⟨v0, _, rfl, r0, v1, _, rfl, r1, v2, _, rfl, r2, e0⟩, hw, hrt⟩ := h
    have e1 := (e0 : _ = [])
    subst e1
    have sc := sc_law_ring_is_walked
    exact ⟨_, (show JSs _ F ⟨[sv (tK (tK tI)) x0, sv (tT K (a2 tI tI)) x1, sv (tT K (a3 tI tI (tT K (aV tI)))) x2, .any, .any, .any, .any, .any, .any], []⟩ _ ⟨fun _ H' => Q .non H', Q, fun _ _ => False, fun _ _ => False⟩ _ from
      (js_asg (i := 3) (je_add (je_2a (je_var (i := 1) (A := (tT K (a2 tI tI))) (a := x1) rfl)) (je_2b (je_var (i := 1) (A := (tT K (a2 tI tI))) (a := x1) rfl))) (fun length_487 => (js_asg (i := 4) (je_3a (je_var (i := 2) (A := (tT K (a3 tI tI (tT K (aV tI))))) (a := x2) rfl)) (fun room_488 => (js_stN (i := 5) (ps_set (i := 5) sc.nd rfl (by first | exact Or.inl rfl | exact Or.inr rfl) (je_comp (own := [("_law_side", 7)]) (B := tI) (ji_L (je_ixL (je_e (je_eK (je_var (i := 0) (A := (tK (tK tI))) (a := x0) rfl))) je_int)) sc.nd (blkOk_by (N := ["_law_lists", "_law_pair", "_law_ring", "_law_length", "_law_room", "_law_passed", "_law_index", "_law_side", "_law_k"]) (sc := defScope s_law_ring_is_walked) (by decide +kernel)) (tgw_name) (fun _ _ _ _ _ => (pg_name (i := 7) sc.nd rfl (Or.inl rfl))) (fun D490 acc491 side_492 _ _ _ _ _ => je_int)) rfl (by first | exact .inl rfl | exact .inr rfl)) (fun p496 passed_495 => (js_forR (S := fun (s497 : Int × (List Int)) => ⟨[sv (tK (tK tI)) x0, sv (tT K (a2 tI tI)) x1, sv (tT K (a3 tI tI (tT K (aV tI)))) x2, sv tI length_487, sv tI s497.1, .at p496, .any, .any, .any], [.lst p496 tI s497.2]⟩) (s0 := (room_488, passed_495)) (by rfl) T.m_range (je_mul (je_3b (je_var (i := 2) (A := (tT K (a3 tI tI (tT K (aV tI))))) (a := x2) rfl)) (je_var (i := 3) (A := tI) (a := length_487) rfl)) ⟨(.same (.same (.same (.same (.same (.same (.any (.any (.any .nil))))))))), (.cons₂ _ .slnil)⟩ (pg_name (i := 6) sc.nd rfl (Or.inl rfl)) (tg_name) (fun nxt499 brk500 index_498 s497 => (js_ifX_b (jt_w (jw_and (jt_gt (je_var (i := 6) (A := tI) (a := index_498) rfl) je_int) (jw_and (jt_eqI (je_mod (je_int1 (by rfl) T.m_int (je_var (i := 6) (A := tI) (a := index_498) rfl)) (je_var (i := 3) (A := tI) (a := length_487) rfl)) je_int) (jw_one (jt_eqI (je_var (i := 4) (A := tI) (a := s497.1) rfl) (je_3a (je_var (i := 2) (A := (tT K (a3 tI tI (tT K (aV tI))))) (a := x2) rfl))))))) (js_ret hrt je_bl) (js_setL (i := 5) (j := 0) (ps_asg je_int (pg_sub (pv 5) (je_var (i := 4) (A := tI) (a := s497.1) rfl) set_list)) (fun passed_503 => (js_asg (i := 4) (je_ixL (je_e (je_eK (je_ixL (je_e (je_eK (je_var (i := 0) (A := (tK (tK tI))) (a := x0) rfl))) (je_intB (by rfl) T.m_int (je_eqS (je_call (ok_law_letter T) (hr.mono (by decide)) (by rfl) T.g_law_letter T.F_law_letter.kp T.b_law_letter (ja_cons (je_var (i := 1) (A := (tT K (a2 tI tI))) (a := x1) rfl) (ja_cons (je_var (i := 6) (A := tI) (a := index_498) rfl) ja_nil))) je_str))))) (je_var (i := 4) (A := tI) (a := s497.1) rfl)) (fun room_511 => (js_end (room_511, passed_503) ⟨(.same (.same (.same (.same (.same (.same (.any (.any (.any .nil))))))))), (.cons₂ _ .slnil)⟩)) sc.nd)) rfl rfl))) (fun s497 => (js_ret hrt (je_and (je_eqI (je_var (i := 4) (A := tI) (a := s497.1) rfl) (je_3a (je_var (i := 2) (A := (tT K (a3 tI tI (tT K (aV tI))))) (a := x2) rfl))) (je_one (je_eqD (K := K) (A := (tT K (aV tI))) hr.units (je_b (je_tupleL (by rfl) T.m_tuple (je_e (je_eN (je_compF (own := [("_law_k", 8)]) (B := tI) (ji_R (by rfl) T.m_range (je_lenL (by rfl) T.m_len (je_ebL (je_e (je_cell (i := 5) (j := 0) (p := p496) (A := tI) (xs := s497.2) rfl rfl))))) sc.nd (blkOk_by (N := ["_law_lists", "_law_pair", "_law_ring", "_law_length", "_law_room", "_law_passed", "_law_index", "_law_side", "_law_k"]) (sc := defScope s_law_ring_is_walked) (by decide +kernel)) (tgw_name) (fun _ _ _ _ _ => (pg_name (i := 8) sc.nd rfl (Or.inl rfl))) (fun D514 acc515 k_516 _ _ _ _ _ => (jt_eqI (je_ixL (je_e (je_cell (i := 5) (j := 1) (p := p496) (A := tI) (xs := s497.2) rfl rfl)) (je_var (i := 8) (A := tI) (a := k_516) rfl)) je_int)) (fun D514 acc515 k_516 _ _ _ _ _ => (je_var (i := 8) (A := tI) (a := k_516) rfl))))))) (je_b (je_3c (je_var (i := 2) (A := (tT K (a3 tI tI (tT K (aV tI))))) (a := x2) rfl)))))))) PassesOwn.never)))) sc.nd)) sc.nd)), ⟨Le.refl _, ⟨Same.refl _, (Par.cons ⟨v0, rfl, J.fr_in r0⟩ (Par.cons ⟨v1, rfl, J.fr_in r1⟩ (Par.cons ⟨v2, rfl, J.fr_in r2⟩ (Par.cons trivial (Par.cons trivial (Par.cons trivial (Par.cons trivial (Par.cons trivial (Par.cons trivial Par.nil))))))))), List.nodup_nil, fun c hc => by cases hc⟩, hw⟩⟩

theorem ok_law_is_row_l (T : Txt K mg) : FnOk Pg w K mg base CX0 2 T.a_law_is_row T.d_law_is_row ["_law_actual", "_law_expected"] (spJ (aC (tT K (aV tI)) (aC (tK tI) aN)) (rO tB) fun t => w_law_is_row_l t.1 t.2.1) := by
  refine T.F_law_is_row.ok sc_law_is_row (fun vs H Q E h => ?_) (fun cdv A outer s H vs Q E hr h => ?_)
  · obtain ⟨t, P, F, rfl, ⟨v0, _, rfl, r0, v1, _, rfl, r1, e0⟩, _⟩ := h
    have e1 := (e0 : _ = [])
    subst e1
    rfl
  · obtain ⟨⟨x0, x1, _⟩, P, F, rfl, ⟨v0, _, rfl, r0, v1, _, rfl, r1, e0⟩, hw, hrt⟩ := h
    have e1 := (e0 : _ = [])
    subst e1
    have sc := sc_law_is_row
    exact ⟨_, (show JSs _ F ⟨[sv (tT K (aV tI)) x0, sv (tK tI) x1, .any], []⟩ _ ⟨fun _ H' => Q .non H', Q, fun _ _ => False, fun _ _ => False⟩ _ from
      (js_ifX (jt_w (jw_or (jt_not (jt_val (je_isi (T := "tuple") (t := "tuple") (b := true) (by rfl) T.m_isinstance tyT (by decide +kernel) (je_b (je_var (i := 0) (A := (tT K (aV tI))) (a := x0) rfl)) (pe_bltn (by rfl) T.m_tuple (by decide +kernel) rfl)))) (jw_oneO (jt_neI (je_lenT (by rfl) T.m_len (je_var (i := 0) (A := (tT K (aV tI))) (a := x0) rfl) len_aV) (je_lenL (by rfl) T.m_len (je_ebL (je_e (je_eK (je_var (i := 1) (A := (tK tI)) (a := x1) rfl))))))))) (js_ret hrt je_bl) (js_forR (S := fun (s499 : Unit) => ⟨[sv (tT K (aV tI)) x0, sv (tK tI) x1, .any], []⟩) (s0 := ()) (by rfl) T.m_range (je_lenL (by rfl) T.m_len (je_ebL (je_e (je_eK (je_var (i := 1) (A := (tK tI)) (a := x1) rfl))))) ⟨(.same (.same (.any .nil))), .slnil⟩ (pg_name (i := 2) sc.nd rfl (Or.inl rfl)) (tg_name) (fun nxt501 brk502 k_500 s499 => (js_if (jt_w (jw_or (jt_not (jt_val (je_call (ok_law_is_number T) (hr.mono (by decide)) (by rfl) T.g_law_is_number T.F_law_is_number.kp T.b_law_is_number (ja_cons (je_ixV (je_var (i := 0) (A := (tT K (aV tI))) (a := x0) rfl) (je_var (i := 2) (A := tI) (a := k_500) rfl)) ja_nil)))) (jw_oneO (jt_neI (je_ixV (je_var (i := 0) (A := (tT K (aV tI))) (a := x0) rfl) (je_var (i := 2) (A := tI) (a := k_500) rfl)) (je_ixL (je_e (je_eK (je_var (i := 1) (A := (tK tI)) (a := x1) rfl))) (je_var (i := 2) (A := tI) (a := k_500) rfl)))))) (js_ret hrt je_bl) (js_end () ⟨(.same (.same (.any .nil))), .slnil⟩))) (fun s499 => (js_ret hrt je_bl)) PassesOwn.never))), ⟨Le.refl _, ⟨Same.refl _, (Par.cons ⟨v0, rfl, J.fr_in r0⟩ (Par.cons ⟨v1, rfl, J.fr_in r1⟩ (Par.cons trivial Par.nil))), List.nodup_nil, fun c hc => by cases hc⟩, hw⟩⟩

theorem ok_law (T : Txt K mg) : FnOk Pg w K mg base CX0 10 T.a_law T.d_law ["_law_script"] (spJ (aC (tL K tI) aN) (rO tB) fun t => w_law t.1) := by
  refine T.F_law.ok sc_law (fun vs H Q E h => ?_) (fun cdv A outer s H vs Q E hr h => ?_)
  · obtain ⟨t, P, F, rfl, ⟨v0, _, rfl, r0, e0⟩, _⟩ := h
    have e1 := (e0 : _ = [])
    subst e1
    rfl
  · obtain ⟨⟨x0, _⟩, P, F, rfl, ⟨v0, _, rfl, r0, e0⟩, hw, hrt⟩ := h
    have e1 := (e0 : _ = [])
    subst e1
    have sc := sc_law
    exact ⟨_, (show JSs _ F ⟨[sv (tL K tI) x0, .any, .any, .any, .any, .any, .any, .any, .any, .any, .any, .any, .any, .any, .any], []⟩ _ ⟨fun _ H' => Q .non H', Q, fun _ _ => False, fun _ _ => False⟩ _ from
      (js_asg (i := 1) (je_add je_int (je_modL (je_int1 (by rfl) T.m_int (je_call (ok_law_cell T) (hr.mono (by decide)) (by rfl) T.g_law_cell T.F_law_cell.kp T.b_law_cell (ja_cons (je_var (i := 0) (A := (tL K tI)) (a := x0) rfl) (ja_cons je_int ja_nil)))))) (fun size_6 => (js_stF (i := 2) (ps_set (i := 2) sc.nd rfl (by first | exact Or.inl rfl | exact Or.inr rfl) (je_lst (ja_consV (je_new (je_call (ok_law_order T) (hr.mono (by decide)) (by rfl) T.g_law_order T.F_law_order.kp T.b_law_order (ja_cons (je_call (ok_law_cell T) (hr.mono (by decide)) (by rfl) T.g_law_cell T.F_law_cell.kp T.b_law_cell (ja_cons (je_var (i := 0) (A := (tL K tI)) (a := x0) rfl) (ja_cons je_int ja_nil))) (ja_cons (je_var (i := 1) (A := tI) (a := size_6) rfl) ja_nil)))) (ja_consV (je_new (je_call (ok_law_order T) (hr.mono (by decide)) (by rfl) T.g_law_order T.F_law_order.kp T.b_law_order (ja_cons (je_call (ok_law_cell T) (hr.mono (by decide)) (by rfl) T.g_law_cell T.F_law_cell.kp T.b_law_cell (ja_cons (je_var (i := 0) (A := (tL K tI)) (a := x0) rfl) (ja_cons je_int ja_nil))) (ja_cons (je_var (i := 1) (A := tI) (a := size_6) rfl) ja_nil)))) (ja_nilV (A := (tK tI)))))) rfl (by first | exact .inl rfl | exact .inr rfl)) (fun lists_40 => (js_ifJ (S := fun (s41 : (List (List Int))) => ⟨[sv (tL K tI) x0, sv tI size_6, sv (tK (tK tI)) s41, .any, .any, .any, .any, .any, .any, .any, .any, .any, .any, .any, .any], []⟩) (jt_eqI (je_modL (je_fdivL (je_int1 (by rfl) T.m_int (je_call (ok_law_cell T) (hr.mono (by decide)) (by rfl) T.g_law_cell T.F_law_cell.kp T.b_law_cell (ja_cons (je_var (i := 0) (A := (tL K tI)) (a := x0) rfl) (ja_cons je_int ja_nil)))))) je_int) (fun (J42 : (List (List Int)) → Prop) => (js_stF (i := 2) (ps_lc (i := 2) (own := [("_law_k", 12)]) (B := (tK tI)) (ji_R (by rfl) T.m_range je_int) sc.nd (blkOk_by (N := ["_law_script", "_law_size", "_law_lists", "_law_one", "_law_two", "_law_small", "_law_pair", "_law_many", "_law_plan", "_law_there", "_law_found", "_law_ring", "_law_k", "_law_side", "_law_room"]) (sc := defScope s_law) (by decide +kernel)) (tgw_name) (fun _ _ _ _ _ => (pg_name (i := 12) sc.nd rfl (Or.inr rfl))) (fun D44 acc45 k_46 _ _ _ _ _ => (je_new (je_comp (own := [("_law_room", 14)]) (B := tI) (ji_R (by rfl) T.m_range (je_var (i := 1) (A := tI) (a := size_6) rfl)) sc.nd (blkOk_by (by kernel_rfl)) (tgw_name) (fun _ _ _ _ _ => (pg_name (i := 14) sc.nd rfl (Or.inl rfl))) (fun D47 acc48 room_49 _ _ _ _ _ => (je_mod (je_int1 (by rfl) T.m_int (je_add (je_var (i := 14) (A := tI) (a := room_49) rfl) (je_call (ok_law_cell T) (hr.mono (by decide)) (by rfl) T.g_law_cell T.F_law_cell.kp T.b_law_cell (ja_cons (je_var (i := 0) (A := (tL K tI)) (a := x0) rfl) (ja_cons (je_add je_int (je_var (i := 12) (A := tI) (a := k_46) rfl)) ja_nil))))) (je_var (i := 1) (A := tI) (a := size_6) rfl)))))) (sw_true rfl rfl rfl (by decide +kernel))) (fun lists_55 => (js_end lists_55 ⟨(.same (.same (.same (.any (.any (.any (.any (.any (.any (.any (.any (.any (.any (.any (.any .nil))))))))))))))), .slnil⟩)))) (fun (J42 : (List (List Int)) → Prop) => (js_end lists_40 ⟨(.same (.same (.same (.any (.any (.any (.any (.any (.any (.any (.any (.any (.any (.any (.any .nil))))))))))))))), .slnil⟩)) (fun s41 => (js_asg (i := 3) (je_call (ok_law_cell T) (hr.mono (by decide)) (by rfl) T.g_law_cell T.F_law_cell.kp T.b_law_cell (ja_cons (je_var (i := 0) (A := (tL K tI)) (a := x0) rfl) (ja_cons je_int ja_nil))) (fun one_57 => (js_asg (i := 4) (je_call (ok_law_cell T) (hr.mono (by decide)) (by rfl) T.g_law_cell T.F_law_cell.kp T.b_law_cell (ja_cons (je_var (i := 0) (A := (tL K tI)) (a := x0) rfl) (ja_cons je_int ja_nil))) (fun two_58 => (js_asg (i := 5) (je_eqI (je_modL (je_int1 (by rfl) T.m_int (je_call (ok_law_cell T) (hr.mono (by decide)) (by rfl) T.g_law_cell T.F_law_cell.kp T.b_law_cell (ja_cons (je_var (i := 0) (A := (tL K tI)) (a := x0) rfl) (ja_cons je_int ja_nil))))) je_int) (fun small_59 => (js_ifJ (S := fun (s60 : Int × Int) => ⟨[sv (tL K tI) x0, sv tI size_6, sv (tK (tK tI)) s41, sv tI s60.1, sv tI s60.2, sv tB small_59, .any, .any, .any, .any, .any, .any, .any, .any, .any], []⟩) (jt_val (je_var (i := 5) (A := tB) (a := small_59) rfl)) (fun (J61 : (Int × Int) → Prop) => (js_asg (i := 3) (je_modL (je_int1 (by rfl) T.m_int (je_var (i := 3) (A := tI) (a := one_57) rfl))) (fun one_63 => (js_asg (i := 4) (je_modL (je_int1 (by rfl) T.m_int (je_var (i := 4) (A := tI) (a := two_58) rfl))) (fun two_64 => (js_end (one_63, two_64) ⟨(.same (.same (.same (.same (.same (.same (.any (.any (.any (.any (.any (.any (.any (.any (.any .nil))))))))))))))), .slnil⟩)) sc.nd)) sc.nd)) (fun (J61 : (Int × Int) → Prop) => (js_end (one_57, two_58) ⟨(.same (.same (.same (.same (.same (.same (.any (.any (.any (.any (.any (.any (.any (.any (.any .nil))))))))))))))), .slnil⟩)) (fun s60 => (js_asg (i := 6) (je_call (ok_law_direction T) (hr.mono (by decide)) (by rfl) T.g_law_direction T.F_law_direction.kp T.b_law_direction (ja_cons (je_var (i := 3) (A := tI) (a := s60.1) rfl) (ja_cons (je_var (i := 4) (A := tI) (a := s60.2) rfl) (ja_cons je_int ja_nil)))) (fun pair_82 => (js_ifJ (S := fun (s83 : (List (List Int))) => ⟨[sv (tL K tI) x0, sv tI size_6, sv (tK (tK tI)) s83, sv tI s60.1, sv tI s60.2, sv tB small_59, sv (tT K (a2 tI tI)) pair_82, .any, .any, .any, .any, .any, .any, .any, .any], []⟩) (jt_w (jw_and (jt_val (je_var (i := 5) (A := tB) (a := small_59) rfl)) (jw_one (jt_eqI (je_modL (je_fdivL (je_int1 (by rfl) T.m_int (je_call (ok_law_cell T) (hr.mono (by decide)) (by rfl) T.g_law_cell T.F_law_cell.kp T.b_law_cell (ja_cons (je_var (i := 0) (A := (tL K tI)) (a := x0) rfl) (ja_cons je_int ja_nil)))))) je_int)))) (fun (J84 : (List (List Int)) → Prop) => (js_asg (i := 7) (je_mul (je_fdiv je_int (je_var (i := 1) (A := tI) (a := size_6) rfl)) (je_var (i := 1) (A := tI) (a := size_6) rfl)) (fun many_86 => (js_stF (i := 2) (ps_lc (i := 2) (own := [("_law_side", 13)]) (B := (tK tI)) (ji_L (je_var (i := 2) (A := (tK (tK tI))) (a := s41) rfl)) sc.nd (blkOk_by (N := ["_law_script", "_law_size", "_law_lists", "_law_one", "_law_two", "_law_small", "_law_pair", "_law_many", "_law_plan", "_law_there", "_law_found", "_law_ring", "_law_k", "_law_side", "_law_room"]) (sc := defScope s_law) (by decide +kernel)) (tgw_name) (fun _ _ _ _ _ => (pg_name (i := 13) sc.nd rfl (Or.inr rfl))) (fun D87 acc88 side_89 _ _ _ _ _ => (je_new (je_comp (own := [("_law_k", 12)]) (B := tI) (ji_R (by rfl) T.m_range (je_var (i := 7) (A := tI) (a := many_86) rfl)) sc.nd (blkOk_by (by kernel_rfl)) (tgw_name) (fun _ _ _ _ _ => (pg_name (i := 12) sc.nd rfl (Or.inl rfl))) (fun D90 acc91 k_92 _ _ _ _ _ => (je_add (je_mul (je_var (i := 1) (A := tI) (a := size_6) rfl) (je_fdiv (je_var (i := 12) (A := tI) (a := k_92) rfl) (je_var (i := 1) (A := tI) (a := size_6) rfl))) (je_ixL (je_e (je_eK (je_var (i := 13) (A := (tK tI)) (a := side_89) rfl))) (je_mod (je_var (i := 12) (A := tI) (a := k_92) rfl) (je_var (i := 1) (A := tI) (a := size_6) rfl)))))))) (sw_true rfl rfl rfl (by decide +kernel))) (fun lists_98 => (js_end lists_98 ⟨(.same (.same (.same (.same (.same (.same (.same (.any (.any (.any (.any (.any (.any (.any (.any .nil))))))))))))))), .slnil⟩)))) sc.nd)) (fun (J84 : (List (List Int)) → Prop) => (js_end s41 ⟨(.same (.same (.same (.same (.same (.same (.same (.any (.any (.any (.any (.any (.any (.any (.any .nil))))))))))))))), .slnil⟩)) (fun s83 => (js_asg (i := 8) (je_make (T := (aC (tK tI) (aC (tK tI) aN))) (U := (a2 (tT K (aV tI)) (tT K (aV tI)))) (w := fun t => w_Plan___init__ t.1 t.2.1) T.M_Plan___init__ (ok_Plan___init__ T) (hr.mono (by decide)) (by rfl) T.g_Plan T.b_Plan___init__ (ja_cons (je_new (je_listL (by rfl) T.m_list (je_e (je_eK (je_ixL (je_e (je_eK (je_var (i := 2) (A := (tK (tK tI))) (a := s83) rfl))) je_int))))) (ja_cons (je_new (je_listL (by rfl) T.m_list (je_e (je_eK (je_ixL (je_e (je_eK (je_var (i := 2) (A := (tK (tK tI))) (a := s83) rfl))) je_int))))) ja_nil))) (fun plan_115 => (js_forL (A := (tT K (a2 tI tI))) (S := fun v116 xs117 => fun (s118 : Unit) => ⟨[sv (tL K tI) x0, sv tI size_6, sv (tK (tK tI)) s83, sv tI s60.1, sv tI s60.2, sv tB small_59, sv (tT K (a2 tI tI)) pair_82, .any, sv (tC T.a_Plan ["_right", "_above"] (a2 (tT K (aV tI)) (tT K (aV tI)))) plan_115, .any, .any, .any, .any, .any, .any], [.fix (tK (tT K (a2 tI tI))) v116 xs117]⟩) (s0 := ()) (j := 0) (je_new (je_lst (ja_consV (je_var (i := 6) (A := (tT K (a2 tI tI))) (a := pair_82) rfl) (ja_consV (je_tup2 (je_2b (je_var (i := 6) (A := (tT K (a2 tI tI))) (a := pair_82) rfl)) (je_2a (je_var (i := 6) (A := (tT K (a2 tI tI))) (a := pair_82) rfl))) (ja_consV (je_var (i := 6) (A := (tT K (a2 tI tI))) (a := pair_82) rfl) (ja_nilV (A := (tT K (a2 tI tI))))))))) (fun v116 xs117 => ⟨(.same (.same (.same (.same (.same (.same (.same (.any (.same (.any (.any (.any (.any (.any (.any .nil))))))))))))))), (.cons₂ _ .slnil)⟩) (fun v116 xs117 _ => rfl) (pg_name (i := 9) sc.nd rfl (Or.inl rfl)) (tg_name) (fun v116 xs117 nxt120 brk121 there_119 s118 => (js_stN (i := 10) (ps_set (i := 10) sc.nd rfl (by first | exact Or.inl rfl | exact Or.inr rfl) (je_call (ok_rings_at T) (hr.mono (by decide)) (by rfl) T.g_rings_at T.F_rings_at.kp T.b_rings_at (ja_cons (je_var (i := 8) (A := (tC T.a_Plan ["_right", "_above"] (a2 (tT K (aV tI)) (tT K (aV tI))))) (a := plan_115) rfl) (ja_cons (je_2a (je_var (i := 9) (A := (tT K (a2 tI tI))) (a := there_119) rfl)) (ja_cons (je_2b (je_var (i := 9) (A := (tT K (a2 tI tI))) (a := there_119) rfl)) ja_nil)))) rfl (by first | exact .inl rfl | exact .inr rfl)) (fun p317 found_316 => (js_ifX (jt_not (jt_val (je_callb (ok_law_is_rings T) (hr.mono (by decide)) (by rfl) T.g_law_is_rings T.F_law_is_rings.kp T.b_law_is_rings (jb_cons (je_eb (je_cell (i := 10) (j := 0) (p := p317) (A := (tT K (a3 tI tI (tT K (aV tI))))) (xs := found_316) rfl rfl)) (jb_cons (je_b (je_new (je_call (ok_law_rings T) (hr.mono (by decide)) (by rfl) T.g_law_rings T.F_law_rings.kp T.b_law_rings (ja_cons (je_call (ok_law_round T) (hr.mono (by decide)) (by rfl) T.g_law_round T.F_law_round.kp T.b_law_round (ja_cons (je_ixL (je_e (je_eK (je_var (i := 2) (A := (tK (tK tI))) (a := s83) rfl))) je_int) (ja_cons (je_ixL (je_e (je_eK (je_var (i := 2) (A := (tK (tK tI))) (a := s83) rfl))) je_int) (ja_cons (je_2a (je_var (i := 9) (A := (tT K (a2 tI tI))) (a := there_119) rfl)) (ja_cons (je_2b (je_var (i := 9) (A := (tT K (a2 tI tI))) (a := there_119) rfl)) ja_nil))))) ja_nil)))) jb_nil))))) (js_ret hrt je_bl) (js_ifJ (S := fun (s478 : Unit) => ⟨[sv (tL K tI) x0, sv tI size_6, sv (tK (tK tI)) s83, sv tI s60.1, sv tI s60.2, sv tB small_59, sv (tT K (a2 tI tI)) pair_82, .any, sv (tC T.a_Plan ["_right", "_above"] (a2 (tT K (aV tI)) (tT K (aV tI)))) plan_115, sv (tT K (a2 tI tI)) there_119, .at p317, .any, .any, .any, .any], [.lst p317 (tT K (a3 tI tI (tT K (aV tI)))) found_316, .fix (tK (tT K (a2 tI tI))) v116 xs117]⟩) (jt_val (je_var (i := 5) (A := tB) (a := small_59) rfl)) (fun (J479 : Unit → Prop) => (js_forC (A := (tT K (a3 tI tI (tT K (aV tI))))) (S := fun (s481 : Unit) => ⟨[sv (tL K tI) x0, sv tI size_6, sv (tK (tK tI)) s83, sv tI s60.1, sv tI s60.2, sv tB small_59, sv (tT K (a2 tI tI)) pair_82, .any, sv (tC T.a_Plan ["_right", "_above"] (a2 (tT K (aV tI)) (tT K (aV tI)))) plan_115, sv (tT K (a2 tI tI)) there_119, .at p317, .any, .any, .any, .any], [.lst p317 (tT K (a3 tI tI (tT K (aV tI)))) found_316, .fix (tK (tT K (a2 tI tI))) v116 xs117]⟩) (s0 := ()) (i := 10) (j := 0) (l := p317) (xs := found_316) rfl ⟨(.same (.same (.same (.same (.same (.same (.same (.any (.same (.same (.same (.any (.any (.any (.any .nil))))))))))))))), (.cons₂ _ (.cons₂ _ .slnil))⟩ (fun _ => rfl) (pg_name (i := 11) sc.nd rfl (Or.inl rfl)) (tg_name) (fun nxt483 brk484 ring_482 s481 => (js_if (jt_not (jt_val (je_call (ok_law_ring_is_walked T) (hr.mono (by decide)) (by rfl) T.g_law_ring_is_walked T.F_law_ring_is_walked.kp T.b_law_ring_is_walked (ja_cons (je_var (i := 2) (A := (tK (tK tI))) (a := s83) rfl) (ja_cons (je_var (i := 9) (A := (tT K (a2 tI tI))) (a := there_119) rfl) (ja_cons (je_var (i := 11) (A := (tT K (a3 tI tI (tT K (aV tI))))) (a := ring_482) rfl) ja_nil)))))) (js_ret hrt je_bl) (js_end () ⟨(.same (.same (.same (.same (.same (.same (.same (.any (.same (.same (.same (.any (.any (.any (.any .nil))))))))))))))), (.cons₂ _ (.cons₂ _ .slnil))⟩))) (fun s481 => (js_end () ⟨(.same (.same (.same (.same (.same (.same (.same (.any (.same (.same (.same (.any (.any (.any (.any .nil))))))))))))))), (.cons₂ _ (.cons₂ _ .slnil))⟩)) PassesOwn.never)) (fun (J479 : Unit → Prop) => (js_end () ⟨(.same (.same (.same (.same (.same (.same (.same (.any (.same (.same (.same (.any (.any (.any (.any .nil))))))))))))))), (.cons₂ _ (.cons₂ _ .slnil))⟩)) (fun s478 => (js_app (i := 10) (j := 0) (pe_bm PySem.F.plainAttrs_list PySem.F.slot_list_append PySem.F.type_list_append mt_append (pv 10) (pa_cons (je_tup3 je_int je_int (je_tupV (ja_nilV (A := tI)))) pa_nil)) (fun y490 => (js_end () ⟨(.same (.same (.same (.same (.same (.same (.same (.any (.same (.any (.any (.any (.any (.any (.any .nil))))))))))))))), (.cons _ (.cons₂ _ .slnil))⟩)) rfl rfl))))))) (fun v116 xs117 s118 => (js_ret hrt (je_and (je_call (ok_law_is_row_l T) (hr.mono (by decide)) (by rfl) T.g_law_is_row T.F_law_is_row.kp T.b_law_is_row (ja_cons (je_prop (je_var (i := 8) (A := (tC T.a_Plan ["_right", "_above"] (a2 (tT K (aV tI)) (tT K (aV tI))))) (a := plan_115) rfl) T.cl_Plan T.M_Plan_right (ok_Plan_right T) (hr.mono (by decide)) T.b_Plan_right) (ja_cons (je_ixL (je_e (je_eK (je_var (i := 2) (A := (tK (tK tI))) (a := s83) rfl))) je_int) ja_nil))) (je_one (je_call (ok_law_is_row_l T) (hr.mono (by decide)) (by rfl) T.g_law_is_row T.F_law_is_row.kp T.b_law_is_row (ja_cons (je_prop (je_var (i := 8) (A := (tC T.a_Plan ["_right", "_above"] (a2 (tT K (aV tI)) (tT K (aV tI))))) (a := plan_115) rfl) T.cl_Plan T.M_Plan_above (ok_Plan_above T) (hr.mono (by decide)) T.b_Plan_above) (ja_cons (je_ixL (je_e (je_eK (je_var (i := 2) (A := (tK (tK tI))) (a := s83) rfl))) je_int) ja_nil))))))) PassesOwn.never)) sc.nd)))) sc.nd)))) sc.nd)) sc.nd)) sc.nd)))))) sc.nd)), ⟨Le.refl _, ⟨Same.refl _, (Par.cons ⟨v0, rfl, J.fr_in r0⟩ (Par.cons trivial (Par.cons trivial (Par.cons trivial (Par.cons trivial (Par.cons trivial (Par.cons trivial (Par.cons trivial (Par.cons trivial (Par.cons trivial (Par.cons trivial (Par.cons trivial (Par.cons trivial (Par.cons trivial (Par.cons trivial Par.nil))))))))))))))), List.nodup_nil, fun c hc => by cases hc⟩, hw⟩⟩

end
theorem all_mk {l : PySem.W.OpenLaw} {w : World} {K : PySem.W.Frag} {h : Heap} {mg : Str → Option Value} {fa : Addr} (X : K.In h) (G : h.Ns mainGlobals mg) (hfa : mg "law" = some (.ref fa))
    {aPlan : Addr}
    {aWalkTable : Addr}
    {aStretch : Addr}
    {tvPlan_MOST_ROOMS : Tok}
    {alaw_cell : Addr} {odlaw_cell anlaw_cell : Option Addr} {sllaw_cell : Array (Option Value)} {oclaw_cell kVlaw_cell dclaw_cell pmlaw_cell cdlaw_cell ctlaw_cell : Value}
    {alaw_row : Addr} {odlaw_row anlaw_row : Option Addr} {sllaw_row : Array (Option Value)} {oclaw_row kVlaw_row dclaw_row pmlaw_row cdlaw_row ctlaw_row : Value}
    {alaw_order : Addr} {odlaw_order anlaw_order : Option Addr} {sllaw_order : Array (Option Value)} {oclaw_order kVlaw_order dclaw_order pmlaw_order cdlaw_order ctlaw_order : Value}
    {alaw_direction : Addr} {odlaw_direction anlaw_direction : Option Addr} {sllaw_direction : Array (Option Value)} {oclaw_direction kVlaw_direction dclaw_direction pmlaw_direction cdlaw_direction ctlaw_direction : Value}
    {ais_order : Addr} {odis_order anis_order : Option Addr} {slis_order : Array (Option Value)} {ocis_order kVis_order dcis_order pmis_order cdis_order ctis_order : Value}
    {aPlan___init__ : Addr} {odPlan___init__ anPlan___init__ : Option Addr} {slPlan___init__ : Array (Option Value)} {ocPlan___init__ kVPlan___init__ dcPlan___init__ pmPlan___init__ cdPlan___init__ ctPlan___init__ : Value}
    {aWalkTable_form : Addr} {odWalkTable_form anWalkTable_form : Option Addr} {slWalkTable_form : Array (Option Value)} {ocWalkTable_form kVWalkTable_form dcWalkTable_form pmWalkTable_form cdWalkTable_form ctWalkTable_form : Value}
    {pWalkTable_form : Addr} {restWalkTable_form : List Value}
    {aWalkTable_size : Addr} {odWalkTable_size anWalkTable_size : Option Addr} {slWalkTable_size : Array (Option Value)} {ocWalkTable_size kVWalkTable_size dcWalkTable_size pmWalkTable_size cdWalkTable_size ctWalkTable_size : Value}
    {pWalkTable_size : Addr} {restWalkTable_size : List Value}
    {aring_from : Addr} {odring_from anring_from : Option Addr} {slring_from : Array (Option Value)} {ocring_from kVring_from dcring_from pmring_from cdring_from ctring_from : Value}
    {arooms_in : Addr} {odrooms_in anrooms_in : Option Addr} {slrooms_in : Array (Option Value)} {ocrooms_in kVrooms_in dcrooms_in pmrooms_in cdrooms_in ctrooms_in : Value}
    {arings_of : Addr} {odrings_of anrings_of : Option Addr} {slrings_of : Array (Option Value)} {ocrings_of kVrings_of dcrings_of pmrings_of cdrings_of ctrings_of : Value}
    {acheck_direction : Addr} {odcheck_direction ancheck_direction : Option Addr} {slcheck_direction : Array (Option Value)} {occheck_direction kVcheck_direction dccheck_direction pmcheck_direction cdcheck_direction ctcheck_direction : Value}
    {aPlan_size : Addr} {odPlan_size anPlan_size : Option Addr} {slPlan_size : Array (Option Value)} {ocPlan_size kVPlan_size dcPlan_size pmPlan_size cdPlan_size ctPlan_size : Value}
    {pPlan_size : Addr} {restPlan_size : List Value}
    {amark_of : Addr} {odmark_of anmark_of : Option Addr} {slmark_of : Array (Option Value)} {ocmark_of kVmark_of dcmark_of pmmark_of cdmark_of ctmark_of : Value}
    {aPlan_right : Addr} {odPlan_right anPlan_right : Option Addr} {slPlan_right : Array (Option Value)} {ocPlan_right kVPlan_right dcPlan_right pmPlan_right cdPlan_right ctPlan_right : Value}
    {pPlan_right : Addr} {restPlan_right : List Value}
    {aWalkTable___init__ : Addr} {odWalkTable___init__ anWalkTable___init__ : Option Addr} {slWalkTable___init__ : Array (Option Value)} {ocWalkTable___init__ kVWalkTable___init__ dcWalkTable___init__ pmWalkTable___init__ cdWalkTable___init__ ctWalkTable___init__ : Value}
    {aPlan_above : Addr} {odPlan_above anPlan_above : Option Addr} {slPlan_above : Array (Option Value)} {ocPlan_above kVPlan_above dcPlan_above pmPlan_above cdPlan_above ctPlan_above : Value}
    {pPlan_above : Addr} {restPlan_above : List Value}
    {aside_tables : Addr} {odside_tables anside_tables : Option Addr} {slside_tables : Array (Option Value)} {ocside_tables kVside_tables dcside_tables pmside_tables cdside_tables ctside_tables : Value}
    {aStretch___init__ : Addr} {odStretch___init__ anStretch___init__ : Option Addr} {slStretch___init__ : Array (Option Value)} {ocStretch___init__ kVStretch___init__ dcStretch___init__ pmStretch___init__ cdStretch___init__ ctStretch___init__ : Value}
    {aside_stretches : Addr} {odside_stretches anside_stretches : Option Addr} {slside_stretches : Array (Option Value)} {ocside_stretches kVside_stretches dcside_stretches pmside_stretches cdside_stretches ctside_stretches : Value}
    {acheck_in_tree : Addr} {odcheck_in_tree ancheck_in_tree : Option Addr} {slcheck_in_tree : Array (Option Value)} {occheck_in_tree kVcheck_in_tree dccheck_in_tree pmcheck_in_tree cdcheck_in_tree ctcheck_in_tree : Value}
    {asteps : Addr} {odsteps ansteps : Option Addr} {slsteps : Array (Option Value)} {ocsteps kVsteps dcsteps pmsteps cdsteps ctsteps : Value}
    {aWalkTable_resting : Addr} {odWalkTable_resting anWalkTable_resting : Option Addr} {slWalkTable_resting : Array (Option Value)} {ocWalkTable_resting kVWalkTable_resting dcWalkTable_resting pmWalkTable_resting cdWalkTable_resting ctWalkTable_resting : Value}
    {pWalkTable_resting : Addr} {restWalkTable_resting : List Value}
    {aWalkTable___mul__ : Addr} {odWalkTable___mul__ anWalkTable___mul__ : Option Addr} {slWalkTable___mul__ : Array (Option Value)} {ocWalkTable___mul__ kVWalkTable___mul__ dcWalkTable___mul__ pmWalkTable___mul__ cdWalkTable___mul__ ctWalkTable___mul__ : Value}
    {aWalkTable_repeated : Addr} {odWalkTable_repeated anWalkTable_repeated : Option Addr} {slWalkTable_repeated : Array (Option Value)} {ocWalkTable_repeated kVWalkTable_repeated dcWalkTable_repeated pmWalkTable_repeated cdWalkTable_repeated ctWalkTable_repeated : Value}
    {aput_together : Addr} {odput_together anput_together : Option Addr} {slput_together : Array (Option Value)} {ocput_together kVput_together dcput_together pmput_together cdput_together ctput_together : Value}
    {arounds_of_neighbors : Addr} {odrounds_of_neighbors anrounds_of_neighbors : Option Addr} {slrounds_of_neighbors : Array (Option Value)} {ocrounds_of_neighbors kVrounds_of_neighbors dcrounds_of_neighbors pmrounds_of_neighbors cdrounds_of_neighbors ctrounds_of_neighbors : Value}
    {astretch_of_round : Addr} {odstretch_of_round anstretch_of_round : Option Addr} {slstretch_of_round : Array (Option Value)} {ocstretch_of_round kVstretch_of_round dcstretch_of_round pmstretch_of_round cdstretch_of_round ctstretch_of_round : Value}
    {awalk_table kdwalk_table : Addr} {odwalk_table anwalk_table : Option Addr} {slwalk_table : Array (Option Value)} {ocwalk_table dcwalk_table pmwalk_table cdwalk_table ctwalk_table : Value}
    {arings_at : Addr} {odrings_at anrings_at : Option Addr} {slrings_at : Array (Option Value)} {ocrings_at kVrings_at dcrings_at pmrings_at cdrings_at ctrings_at : Value}
    {alaw_is_number : Addr} {odlaw_is_number anlaw_is_number : Option Addr} {sllaw_is_number : Array (Option Value)} {oclaw_is_number kVlaw_is_number dclaw_is_number pmlaw_is_number cdlaw_is_number ctlaw_is_number : Value}
    {alaw_is_row : Addr} {odlaw_is_row anlaw_is_row : Option Addr} {sllaw_is_row : Array (Option Value)} {oclaw_is_row kVlaw_is_row dclaw_is_row pmlaw_is_row cdlaw_is_row ctlaw_is_row : Value}
    {alaw_is_rings : Addr} {odlaw_is_rings anlaw_is_rings : Option Addr} {sllaw_is_rings : Array (Option Value)} {oclaw_is_rings kVlaw_is_rings dclaw_is_rings pmlaw_is_rings cdlaw_is_rings ctlaw_is_rings : Value}
    {alaw_rings : Addr} {odlaw_rings anlaw_rings : Option Addr} {sllaw_rings : Array (Option Value)} {oclaw_rings kVlaw_rings dclaw_rings pmlaw_rings cdlaw_rings ctlaw_rings : Value}
    {alaw_sides : Addr} {odlaw_sides anlaw_sides : Option Addr} {sllaw_sides : Array (Option Value)} {oclaw_sides kVlaw_sides dclaw_sides pmlaw_sides cdlaw_sides ctlaw_sides : Value}
    {alaw_join : Addr} {odlaw_join anlaw_join : Option Addr} {sllaw_join : Array (Option Value)} {oclaw_join kVlaw_join dclaw_join pmlaw_join cdlaw_join ctlaw_join : Value}
    {alaw_power : Addr} {odlaw_power anlaw_power : Option Addr} {sllaw_power : Array (Option Value)} {oclaw_power kVlaw_power dclaw_power pmlaw_power cdlaw_power ctlaw_power : Value}
    {alaw_round : Addr} {odlaw_round anlaw_round : Option Addr} {sllaw_round : Array (Option Value)} {oclaw_round kVlaw_round dclaw_round pmlaw_round cdlaw_round ctlaw_round : Value}
    {alaw_letter : Addr} {odlaw_letter anlaw_letter : Option Addr} {sllaw_letter : Array (Option Value)} {oclaw_letter kVlaw_letter dclaw_letter pmlaw_letter cdlaw_letter ctlaw_letter : Value}
    {alaw_ring_is_walked : Addr} {odlaw_ring_is_walked anlaw_ring_is_walked : Option Addr} {sllaw_ring_is_walked : Array (Option Value)} {oclaw_ring_is_walked kVlaw_ring_is_walked dclaw_ring_is_walked pmlaw_ring_is_walked cdlaw_ring_is_walked ctlaw_ring_is_walked : Value}
    {alaw : Addr} {odlaw anlaw : Option Addr} {sllaw : Array (Option Value)} {oclaw kVlaw dclaw pmlaw cdlaw ctlaw : Value}
    {tFLAT : Tok}
    {tSTEEP : Tok}
    (nPlan : PySem.W.nsIn K mainGlobals "Plan" = some (some (.ref aPlan)))
    (pgPlan : PySem.W.plainGet K aPlan Str.empty = true)
    (hdPlan : PySem.W.hasDictIn K aPlan = true)
    (poPlan : PySem.W.plainOver K aPlan = true)
    (saPlan : PySem.W.findIn K (.ref aPlan) "__setattr__" = some (some (.builtin "object.__setattr__")))
    (nWalkTable : PySem.W.nsIn K mainGlobals "WalkTable" = some (some (.ref aWalkTable)))
    (pgWalkTable : PySem.W.plainGet K aWalkTable Str.empty = true)
    (hdWalkTable : PySem.W.hasDictIn K aWalkTable = true)
    (poWalkTable : PySem.W.plainOver K aWalkTable = true)
    (saWalkTable : PySem.W.findIn K (.ref aWalkTable) "__setattr__" = some (some (.builtin "object.__setattr__")))
    (nStretch : PySem.W.nsIn K mainGlobals "Stretch" = some (some (.ref aStretch)))
    (pgStretch : PySem.W.plainGet K aStretch Str.empty = true)
    (hdStretch : PySem.W.hasDictIn K aStretch = true)
    (poStretch : PySem.W.plainOver K aStretch = true)
    (saStretch : PySem.W.findIn K (.ref aStretch) "__setattr__" = some (some (.builtin "object.__setattr__")))
    (mkPlan : PySem.W.makesIn K aPlan = true)
    (kcPlan : PySem.W.keepIn K (.ref aPlan) = true)
    (mkWalkTable : PySem.W.makesIn K aWalkTable = true)
    (kcWalkTable : PySem.W.keepIn K (.ref aWalkTable) = true)
    (mkStretch : PySem.W.makesIn K aStretch = true)
    (kcStretch : PySem.W.keepIn K (.ref aStretch) = true)
    (nfPlan__right : PySem.W.findIn K (.ref aPlan) "_right" = some none)
    (nfPlan__above : PySem.W.findIn K (.ref aPlan) "_above" = some none)
    (nfWalkTable__ends : PySem.W.findIn K (.ref aWalkTable) "_ends" = some none)
    (nfWalkTable__marks : PySem.W.findIn K (.ref aWalkTable) "_marks" = some none)
    (nfStretch_table : PySem.W.findIn K (.ref aStretch) "table" = some none)
    (nfStretch_length : PySem.W.findIn K (.ref aStretch) "length" = some none)
    (nfStretch_parts : PySem.W.findIn K (.ref aStretch) "parts" = some none)
    (rrPlan : PySem.W.readsIn K aPlan (.type "type") = true)
    (rgPlan : PySem.W.specialIn K (.ref aPlan) "__getattribute__" = some (some (.builtin "type.__getattribute__")))
    (rrWalkTable : PySem.W.readsIn K aWalkTable (.type "type") = true)
    (rgWalkTable : PySem.W.specialIn K (.ref aWalkTable) "__getattribute__" = some (some (.builtin "type.__getattribute__")))
    (sfWalkTable : PySem.W.selfFirst K aWalkTable = true)
    (cvPlan_MOST_ROOMS : PySem.W.findCls K (.ref aPlan) (.type "type") "MOST_ROOMS" = some (.val (.int (100) tvPlan_MOST_ROOMS)))
    (nlaw_cell : PySem.W.nsIn K mainGlobals "_law_cell" = some (some (.ref alaw_cell)))
    (llaw_cell : K.lookup alaw_cell = some ⟨oclaw_cell, odlaw_cell, .func (PySem.W.fnOf "_law_cell" "_law_cell" (defArgs s_law_cell) (defBody s_law_cell) (defScope s_law_cell) .none kVlaw_cell dclaw_cell pmlaw_cell anlaw_cell cdlaw_cell ctlaw_cell), sllaw_cell⟩)
    (claw_cell : PySem.W.codeIn K cdlaw_cell "_law_cell" = true)
    (klaw_cell : PySem.W.keepIn K (.ref alaw_cell) = true)
    (nlaw_row : PySem.W.nsIn K mainGlobals "_law_row" = some (some (.ref alaw_row)))
    (llaw_row : K.lookup alaw_row = some ⟨oclaw_row, odlaw_row, .func (PySem.W.fnOf "_law_row" "_law_row" (defArgs s_law_row) (defBody s_law_row) (defScope s_law_row) .none kVlaw_row dclaw_row pmlaw_row anlaw_row cdlaw_row ctlaw_row), sllaw_row⟩)
    (claw_row : PySem.W.codeIn K cdlaw_row "_law_row" = true)
    (klaw_row : PySem.W.keepIn K (.ref alaw_row) = true)
    (nlaw_order : PySem.W.nsIn K mainGlobals "_law_order" = some (some (.ref alaw_order)))
    (llaw_order : K.lookup alaw_order = some ⟨oclaw_order, odlaw_order, .func (PySem.W.fnOf "_law_order" "_law_order" (defArgs s_law_order) (defBody s_law_order) (defScope s_law_order) .none kVlaw_order dclaw_order pmlaw_order anlaw_order cdlaw_order ctlaw_order), sllaw_order⟩)
    (claw_order : PySem.W.codeIn K cdlaw_order "_law_order" = true)
    (klaw_order : PySem.W.keepIn K (.ref alaw_order) = true)
    (nlaw_direction : PySem.W.nsIn K mainGlobals "_law_direction" = some (some (.ref alaw_direction)))
    (llaw_direction : K.lookup alaw_direction = some ⟨oclaw_direction, odlaw_direction, .func (PySem.W.fnOf "_law_direction" "_law_direction" (defArgs s_law_direction) (defBody s_law_direction) (defScope s_law_direction) .none kVlaw_direction dclaw_direction pmlaw_direction anlaw_direction cdlaw_direction ctlaw_direction), sllaw_direction⟩)
    (claw_direction : PySem.W.codeIn K cdlaw_direction "_law_direction" = true)
    (klaw_direction : PySem.W.keepIn K (.ref alaw_direction) = true)
    (nis_order : PySem.W.nsIn K mainGlobals "is_order" = some (some (.ref ais_order)))
    (lis_order : K.lookup ais_order = some ⟨ocis_order, odis_order, .func (PySem.W.fnOf "is_order" "is_order" (defArgs s_is_order) (defBody s_is_order) (defScope s_is_order) .none kVis_order dcis_order pmis_order anis_order cdis_order ctis_order), slis_order⟩)
    (cis_order : PySem.W.codeIn K cdis_order "is_order" = true)
    (kis_order : PySem.W.keepIn K (.ref ais_order) = true)
    (nPlan___init__ : PySem.W.findIn K (.ref aPlan) "__init__" = some (some (.ref aPlan___init__)))
    (iPlan___init__ : PySem.W.isFn K (.ref aPlan___init__) = true)
    (lPlan___init__ : K.lookup aPlan___init__ = some ⟨ocPlan___init__, odPlan___init__, .func (PySem.W.fnOf "__init__" "Plan.__init__" (defArgs s_Plan___init__) (defBody s_Plan___init__) (defScope s_Plan___init__) .none kVPlan___init__ dcPlan___init__ pmPlan___init__ anPlan___init__ cdPlan___init__ ctPlan___init__), slPlan___init__⟩)
    (cPlan___init__ : PySem.W.codeIn K cdPlan___init__ "Plan.__init__" = true)
    (kPlan___init__ : PySem.W.keepIn K (.ref aPlan___init__) = true)
    (nWalkTable_form : PySem.W.findIn K (.ref aWalkTable) "form" = some (some (.ref pWalkTable_form)))
    (geWalkTable_form : PySem.W.specialIn K (.ref pWalkTable_form) "__get__" = some (some (.builtin "property.__get__")))
    (tkWalkTable_form : PySem.W.takesIn K (.ref pWalkTable_form) = some true)
    (rcWalkTable_form : PySem.W.recIn K pWalkTable_form "property" = some (.ref aWalkTable_form :: restWalkTable_form))
    (lWalkTable_form : K.lookup aWalkTable_form = some ⟨ocWalkTable_form, odWalkTable_form, .func (PySem.W.fnOf "form" "WalkTable.form" (defArgs s_WalkTable_form) (defBody s_WalkTable_form) (defScope s_WalkTable_form) .none kVWalkTable_form dcWalkTable_form pmWalkTable_form anWalkTable_form cdWalkTable_form ctWalkTable_form), slWalkTable_form⟩)
    (cWalkTable_form : PySem.W.codeIn K cdWalkTable_form "WalkTable.form" = true)
    (kWalkTable_form : PySem.W.keepIn K (.ref aWalkTable_form) = true)
    (nWalkTable_size : PySem.W.findIn K (.ref aWalkTable) "size" = some (some (.ref pWalkTable_size)))
    (geWalkTable_size : PySem.W.specialIn K (.ref pWalkTable_size) "__get__" = some (some (.builtin "property.__get__")))
    (tkWalkTable_size : PySem.W.takesIn K (.ref pWalkTable_size) = some true)
    (rcWalkTable_size : PySem.W.recIn K pWalkTable_size "property" = some (.ref aWalkTable_size :: restWalkTable_size))
    (lWalkTable_size : K.lookup aWalkTable_size = some ⟨ocWalkTable_size, odWalkTable_size, .func (PySem.W.fnOf "size" "WalkTable.size" (defArgs s_WalkTable_size) (defBody s_WalkTable_size) (defScope s_WalkTable_size) .none kVWalkTable_size dcWalkTable_size pmWalkTable_size anWalkTable_size cdWalkTable_size ctWalkTable_size), slWalkTable_size⟩)
    (cWalkTable_size : PySem.W.codeIn K cdWalkTable_size "WalkTable.size" = true)
    (kWalkTable_size : PySem.W.keepIn K (.ref aWalkTable_size) = true)
    (nring_from : PySem.W.nsIn K mainGlobals "_ring_from" = some (some (.ref aring_from)))
    (lring_from : K.lookup aring_from = some ⟨ocring_from, odring_from, .func (PySem.W.fnOf "_ring_from" "_ring_from" (defArgs s_ring_from) (defBody s_ring_from) (defScope s_ring_from) .none kVring_from dcring_from pmring_from anring_from cdring_from ctring_from), slring_from⟩)
    (cring_from : PySem.W.codeIn K cdring_from "_ring_from" = true)
    (kring_from : PySem.W.keepIn K (.ref aring_from) = true)
    (nrooms_in : PySem.W.nsIn K mainGlobals "rooms_in" = some (some (.ref arooms_in)))
    (lrooms_in : K.lookup arooms_in = some ⟨ocrooms_in, odrooms_in, .func (PySem.W.fnOf "rooms_in" "rooms_in" (defArgs s_rooms_in) (defBody s_rooms_in) (defScope s_rooms_in) .none kVrooms_in dcrooms_in pmrooms_in anrooms_in cdrooms_in ctrooms_in), slrooms_in⟩)
    (crooms_in : PySem.W.codeIn K cdrooms_in "rooms_in" = true)
    (krooms_in : PySem.W.keepIn K (.ref arooms_in) = true)
    (nrings_of : PySem.W.nsIn K mainGlobals "rings_of" = some (some (.ref arings_of)))
    (lrings_of : K.lookup arings_of = some ⟨ocrings_of, odrings_of, .func (PySem.W.fnOf "rings_of" "rings_of" (defArgs s_rings_of) (defBody s_rings_of) (defScope s_rings_of) .none kVrings_of dcrings_of pmrings_of anrings_of cdrings_of ctrings_of), slrings_of⟩)
    (crings_of : PySem.W.codeIn K cdrings_of "rings_of" = true)
    (krings_of : PySem.W.keepIn K (.ref arings_of) = true)
    (ncheck_direction : PySem.W.nsIn K mainGlobals "check_direction" = some (some (.ref acheck_direction)))
    (lcheck_direction : K.lookup acheck_direction = some ⟨occheck_direction, odcheck_direction, .func (PySem.W.fnOf "check_direction" "check_direction" (defArgs s_check_direction) (defBody s_check_direction) (defScope s_check_direction) .none kVcheck_direction dccheck_direction pmcheck_direction ancheck_direction cdcheck_direction ctcheck_direction), slcheck_direction⟩)
    (ccheck_direction : PySem.W.codeIn K cdcheck_direction "check_direction" = true)
    (kcheck_direction : PySem.W.keepIn K (.ref acheck_direction) = true)
    (nPlan_size : PySem.W.findIn K (.ref aPlan) "size" = some (some (.ref pPlan_size)))
    (gePlan_size : PySem.W.specialIn K (.ref pPlan_size) "__get__" = some (some (.builtin "property.__get__")))
    (tkPlan_size : PySem.W.takesIn K (.ref pPlan_size) = some true)
    (rcPlan_size : PySem.W.recIn K pPlan_size "property" = some (.ref aPlan_size :: restPlan_size))
    (lPlan_size : K.lookup aPlan_size = some ⟨ocPlan_size, odPlan_size, .func (PySem.W.fnOf "size" "Plan.size" (defArgs s_Plan_size) (defBody s_Plan_size) (defScope s_Plan_size) .none kVPlan_size dcPlan_size pmPlan_size anPlan_size cdPlan_size ctPlan_size), slPlan_size⟩)
    (cPlan_size : PySem.W.codeIn K cdPlan_size "Plan.size" = true)
    (kPlan_size : PySem.W.keepIn K (.ref aPlan_size) = true)
    (nmark_of : PySem.W.nsIn K mainGlobals "mark_of" = some (some (.ref amark_of)))
    (lmark_of : K.lookup amark_of = some ⟨ocmark_of, odmark_of, .func (PySem.W.fnOf "mark_of" "mark_of" (defArgs s_mark_of) (defBody s_mark_of) (defScope s_mark_of) .none kVmark_of dcmark_of pmmark_of anmark_of cdmark_of ctmark_of), slmark_of⟩)
    (cmark_of : PySem.W.codeIn K cdmark_of "mark_of" = true)
    (kmark_of : PySem.W.keepIn K (.ref amark_of) = true)
    (nPlan_right : PySem.W.findIn K (.ref aPlan) "right" = some (some (.ref pPlan_right)))
    (gePlan_right : PySem.W.specialIn K (.ref pPlan_right) "__get__" = some (some (.builtin "property.__get__")))
    (tkPlan_right : PySem.W.takesIn K (.ref pPlan_right) = some true)
    (rcPlan_right : PySem.W.recIn K pPlan_right "property" = some (.ref aPlan_right :: restPlan_right))
    (lPlan_right : K.lookup aPlan_right = some ⟨ocPlan_right, odPlan_right, .func (PySem.W.fnOf "right" "Plan.right" (defArgs s_Plan_right) (defBody s_Plan_right) (defScope s_Plan_right) .none kVPlan_right dcPlan_right pmPlan_right anPlan_right cdPlan_right ctPlan_right), slPlan_right⟩)
    (cPlan_right : PySem.W.codeIn K cdPlan_right "Plan.right" = true)
    (kPlan_right : PySem.W.keepIn K (.ref aPlan_right) = true)
    (nWalkTable___init__ : PySem.W.findIn K (.ref aWalkTable) "__init__" = some (some (.ref aWalkTable___init__)))
    (iWalkTable___init__ : PySem.W.isFn K (.ref aWalkTable___init__) = true)
    (lWalkTable___init__ : K.lookup aWalkTable___init__ = some ⟨ocWalkTable___init__, odWalkTable___init__, .func (PySem.W.fnOf "__init__" "WalkTable.__init__" (defArgs s_WalkTable___init__) (defBody s_WalkTable___init__) (defScope s_WalkTable___init__) .none kVWalkTable___init__ dcWalkTable___init__ pmWalkTable___init__ anWalkTable___init__ cdWalkTable___init__ ctWalkTable___init__), slWalkTable___init__⟩)
    (cWalkTable___init__ : PySem.W.codeIn K cdWalkTable___init__ "WalkTable.__init__" = true)
    (kWalkTable___init__ : PySem.W.keepIn K (.ref aWalkTable___init__) = true)
    (nPlan_above : PySem.W.findIn K (.ref aPlan) "above" = some (some (.ref pPlan_above)))
    (gePlan_above : PySem.W.specialIn K (.ref pPlan_above) "__get__" = some (some (.builtin "property.__get__")))
    (tkPlan_above : PySem.W.takesIn K (.ref pPlan_above) = some true)
    (rcPlan_above : PySem.W.recIn K pPlan_above "property" = some (.ref aPlan_above :: restPlan_above))
    (lPlan_above : K.lookup aPlan_above = some ⟨ocPlan_above, odPlan_above, .func (PySem.W.fnOf "above" "Plan.above" (defArgs s_Plan_above) (defBody s_Plan_above) (defScope s_Plan_above) .none kVPlan_above dcPlan_above pmPlan_above anPlan_above cdPlan_above ctPlan_above), slPlan_above⟩)
    (cPlan_above : PySem.W.codeIn K cdPlan_above "Plan.above" = true)
    (kPlan_above : PySem.W.keepIn K (.ref aPlan_above) = true)
    (nside_tables : PySem.W.nsIn K mainGlobals "side_tables" = some (some (.ref aside_tables)))
    (lside_tables : K.lookup aside_tables = some ⟨ocside_tables, odside_tables, .func (PySem.W.fnOf "side_tables" "side_tables" (defArgs s_side_tables) (defBody s_side_tables) (defScope s_side_tables) .none kVside_tables dcside_tables pmside_tables anside_tables cdside_tables ctside_tables), slside_tables⟩)
    (cside_tables : PySem.W.codeIn K cdside_tables "side_tables" = true)
    (kside_tables : PySem.W.keepIn K (.ref aside_tables) = true)
    (nStretch___init__ : PySem.W.findIn K (.ref aStretch) "__init__" = some (some (.ref aStretch___init__)))
    (iStretch___init__ : PySem.W.isFn K (.ref aStretch___init__) = true)
    (lStretch___init__ : K.lookup aStretch___init__ = some ⟨ocStretch___init__, odStretch___init__, .func (PySem.W.fnOf "__init__" "Stretch.__init__" (defArgs s_Stretch___init__) (defBody s_Stretch___init__) (defScope s_Stretch___init__) .none kVStretch___init__ dcStretch___init__ pmStretch___init__ anStretch___init__ cdStretch___init__ ctStretch___init__), slStretch___init__⟩)
    (cStretch___init__ : PySem.W.codeIn K cdStretch___init__ "Stretch.__init__" = true)
    (kStretch___init__ : PySem.W.keepIn K (.ref aStretch___init__) = true)
    (nside_stretches : PySem.W.nsIn K mainGlobals "_side_stretches" = some (some (.ref aside_stretches)))
    (lside_stretches : K.lookup aside_stretches = some ⟨ocside_stretches, odside_stretches, .func (PySem.W.fnOf "_side_stretches" "_side_stretches" (defArgs s_side_stretches) (defBody s_side_stretches) (defScope s_side_stretches) .none kVside_stretches dcside_stretches pmside_stretches anside_stretches cdside_stretches ctside_stretches), slside_stretches⟩)
    (cside_stretches : PySem.W.codeIn K cdside_stretches "_side_stretches" = true)
    (kside_stretches : PySem.W.keepIn K (.ref aside_stretches) = true)
    (ncheck_in_tree : PySem.W.nsIn K mainGlobals "check_in_tree" = some (some (.ref acheck_in_tree)))
    (lcheck_in_tree : K.lookup acheck_in_tree = some ⟨occheck_in_tree, odcheck_in_tree, .func (PySem.W.fnOf "check_in_tree" "check_in_tree" (defArgs s_check_in_tree) (defBody s_check_in_tree) (defScope s_check_in_tree) .none kVcheck_in_tree dccheck_in_tree pmcheck_in_tree ancheck_in_tree cdcheck_in_tree ctcheck_in_tree), slcheck_in_tree⟩)
    (ccheck_in_tree : PySem.W.codeIn K cdcheck_in_tree "check_in_tree" = true)
    (kcheck_in_tree : PySem.W.keepIn K (.ref acheck_in_tree) = true)
    (nsteps : PySem.W.nsIn K mainGlobals "steps" = some (some (.ref asteps)))
    (lsteps : K.lookup asteps = some ⟨ocsteps, odsteps, .func (PySem.W.fnOf "steps" "steps" (defArgs s_steps) (defBody s_steps) (defScope s_steps) .none kVsteps dcsteps pmsteps ansteps cdsteps ctsteps), slsteps⟩)
    (csteps : PySem.W.codeIn K cdsteps "steps" = true)
    (ksteps : PySem.W.keepIn K (.ref asteps) = true)
    (nWalkTable_resting : PySem.W.findCls K (.ref aWalkTable) (.type "type") "resting" = some (.get (.builtin "staticmethod.__get__") (.ref pWalkTable_resting) .none (.ref aWalkTable)))
    (rcWalkTable_resting : PySem.W.recIn K pWalkTable_resting "staticmethod" = some (.ref aWalkTable_resting :: restWalkTable_resting))
    (lWalkTable_resting : K.lookup aWalkTable_resting = some ⟨ocWalkTable_resting, odWalkTable_resting, .func (PySem.W.fnOf "resting" "WalkTable.resting" (defArgs s_WalkTable_resting) (defBody s_WalkTable_resting) (defScope s_WalkTable_resting) .none kVWalkTable_resting dcWalkTable_resting pmWalkTable_resting anWalkTable_resting cdWalkTable_resting ctWalkTable_resting), slWalkTable_resting⟩)
    (cWalkTable_resting : PySem.W.codeIn K cdWalkTable_resting "WalkTable.resting" = true)
    (kWalkTable_resting : PySem.W.keepIn K (.ref aWalkTable_resting) = true)
    (nWalkTable___mul__ : PySem.W.findIn K (.ref aWalkTable) "__mul__" = some (some (.ref aWalkTable___mul__)))
    (iWalkTable___mul__ : PySem.W.isFn K (.ref aWalkTable___mul__) = true)
    (lWalkTable___mul__ : K.lookup aWalkTable___mul__ = some ⟨ocWalkTable___mul__, odWalkTable___mul__, .func (PySem.W.fnOf "__mul__" "WalkTable.__mul__" (defArgs s_WalkTable___mul__) (defBody s_WalkTable___mul__) (defScope s_WalkTable___mul__) .none kVWalkTable___mul__ dcWalkTable___mul__ pmWalkTable___mul__ anWalkTable___mul__ cdWalkTable___mul__ ctWalkTable___mul__), slWalkTable___mul__⟩)
    (cWalkTable___mul__ : PySem.W.codeIn K cdWalkTable___mul__ "WalkTable.__mul__" = true)
    (kWalkTable___mul__ : PySem.W.keepIn K (.ref aWalkTable___mul__) = true)
    (nWalkTable_repeated : PySem.W.findIn K (.ref aWalkTable) "repeated" = some (some (.ref aWalkTable_repeated)))
    (iWalkTable_repeated : PySem.W.isFn K (.ref aWalkTable_repeated) = true)
    (lWalkTable_repeated : K.lookup aWalkTable_repeated = some ⟨ocWalkTable_repeated, odWalkTable_repeated, .func (PySem.W.fnOf "repeated" "WalkTable.repeated" (defArgs s_WalkTable_repeated) (defBody s_WalkTable_repeated) (defScope s_WalkTable_repeated) .none kVWalkTable_repeated dcWalkTable_repeated pmWalkTable_repeated anWalkTable_repeated cdWalkTable_repeated ctWalkTable_repeated), slWalkTable_repeated⟩)
    (cWalkTable_repeated : PySem.W.codeIn K cdWalkTable_repeated "WalkTable.repeated" = true)
    (kWalkTable_repeated : PySem.W.keepIn K (.ref aWalkTable_repeated) = true)
    (nput_together : PySem.W.nsIn K mainGlobals "_put_together" = some (some (.ref aput_together)))
    (lput_together : K.lookup aput_together = some ⟨ocput_together, odput_together, .func (PySem.W.fnOf "_put_together" "_put_together" (defArgs s_put_together) (defBody s_put_together) (defScope s_put_together) .none kVput_together dcput_together pmput_together anput_together cdput_together ctput_together), slput_together⟩)
    (cput_together : PySem.W.codeIn K cdput_together "_put_together" = true)
    (kput_together : PySem.W.keepIn K (.ref aput_together) = true)
    (nrounds_of_neighbors : PySem.W.nsIn K mainGlobals "_rounds_of_neighbors" = some (some (.ref arounds_of_neighbors)))
    (lrounds_of_neighbors : K.lookup arounds_of_neighbors = some ⟨ocrounds_of_neighbors, odrounds_of_neighbors, .func (PySem.W.fnOf "_rounds_of_neighbors" "_rounds_of_neighbors" (defArgs s_rounds_of_neighbors) (defBody s_rounds_of_neighbors) (defScope s_rounds_of_neighbors) .none kVrounds_of_neighbors dcrounds_of_neighbors pmrounds_of_neighbors anrounds_of_neighbors cdrounds_of_neighbors ctrounds_of_neighbors), slrounds_of_neighbors⟩)
    (crounds_of_neighbors : PySem.W.codeIn K cdrounds_of_neighbors "_rounds_of_neighbors" = true)
    (krounds_of_neighbors : PySem.W.keepIn K (.ref arounds_of_neighbors) = true)
    (nstretch_of_round : PySem.W.nsIn K mainGlobals "_stretch_of_round" = some (some (.ref astretch_of_round)))
    (lstretch_of_round : K.lookup astretch_of_round = some ⟨ocstretch_of_round, odstretch_of_round, .func (PySem.W.fnOf "_stretch_of_round" "_stretch_of_round" (defArgs s_stretch_of_round) (defBody s_stretch_of_round) (defScope s_stretch_of_round) .none kVstretch_of_round dcstretch_of_round pmstretch_of_round anstretch_of_round cdstretch_of_round ctstretch_of_round), slstretch_of_round⟩)
    (cstretch_of_round : PySem.W.codeIn K cdstretch_of_round "_stretch_of_round" = true)
    (kstretch_of_round : PySem.W.keepIn K (.ref astretch_of_round) = true)
    (nwalk_table : PySem.W.nsIn K mainGlobals "walk_table" = some (some (.ref awalk_table)))
    (lwalk_table : K.lookup awalk_table = some ⟨ocwalk_table, odwalk_table, .func (PySem.W.fnOf "walk_table" "walk_table" (defArgs s_walk_table) (defBody s_walk_table) (defScope s_walk_table) .none (.ref kdwalk_table) dcwalk_table pmwalk_table anwalk_table cdwalk_table ctwalk_table), slwalk_table⟩)
    (cwalk_table : PySem.W.codeIn K cdwalk_table "walk_table" = true)
    (kwalk_table : PySem.W.keepIn K (.ref awalk_table) = true)
    (dkwalk_table : PySem.W.nsIn K kdwalk_table "crossings" = some (some .none))
    (nrings_at : PySem.W.nsIn K mainGlobals "rings_at" = some (some (.ref arings_at)))
    (lrings_at : K.lookup arings_at = some ⟨ocrings_at, odrings_at, .func (PySem.W.fnOf "rings_at" "rings_at" (defArgs s_rings_at) (defBody s_rings_at) (defScope s_rings_at) .none kVrings_at dcrings_at pmrings_at anrings_at cdrings_at ctrings_at), slrings_at⟩)
    (crings_at : PySem.W.codeIn K cdrings_at "rings_at" = true)
    (krings_at : PySem.W.keepIn K (.ref arings_at) = true)
    (nlaw_is_number : PySem.W.nsIn K mainGlobals "_law_is_number" = some (some (.ref alaw_is_number)))
    (llaw_is_number : K.lookup alaw_is_number = some ⟨oclaw_is_number, odlaw_is_number, .func (PySem.W.fnOf "_law_is_number" "_law_is_number" (defArgs s_law_is_number) (defBody s_law_is_number) (defScope s_law_is_number) .none kVlaw_is_number dclaw_is_number pmlaw_is_number anlaw_is_number cdlaw_is_number ctlaw_is_number), sllaw_is_number⟩)
    (claw_is_number : PySem.W.codeIn K cdlaw_is_number "_law_is_number" = true)
    (klaw_is_number : PySem.W.keepIn K (.ref alaw_is_number) = true)
    (nlaw_is_row : PySem.W.nsIn K mainGlobals "_law_is_row" = some (some (.ref alaw_is_row)))
    (llaw_is_row : K.lookup alaw_is_row = some ⟨oclaw_is_row, odlaw_is_row, .func (PySem.W.fnOf "_law_is_row" "_law_is_row" (defArgs s_law_is_row) (defBody s_law_is_row) (defScope s_law_is_row) .none kVlaw_is_row dclaw_is_row pmlaw_is_row anlaw_is_row cdlaw_is_row ctlaw_is_row), sllaw_is_row⟩)
    (claw_is_row : PySem.W.codeIn K cdlaw_is_row "_law_is_row" = true)
    (klaw_is_row : PySem.W.keepIn K (.ref alaw_is_row) = true)
    (nlaw_is_rings : PySem.W.nsIn K mainGlobals "_law_is_rings" = some (some (.ref alaw_is_rings)))
    (llaw_is_rings : K.lookup alaw_is_rings = some ⟨oclaw_is_rings, odlaw_is_rings, .func (PySem.W.fnOf "_law_is_rings" "_law_is_rings" (defArgs s_law_is_rings) (defBody s_law_is_rings) (defScope s_law_is_rings) .none kVlaw_is_rings dclaw_is_rings pmlaw_is_rings anlaw_is_rings cdlaw_is_rings ctlaw_is_rings), sllaw_is_rings⟩)
    (claw_is_rings : PySem.W.codeIn K cdlaw_is_rings "_law_is_rings" = true)
    (klaw_is_rings : PySem.W.keepIn K (.ref alaw_is_rings) = true)
    (nlaw_rings : PySem.W.nsIn K mainGlobals "_law_rings" = some (some (.ref alaw_rings)))
    (llaw_rings : K.lookup alaw_rings = some ⟨oclaw_rings, odlaw_rings, .func (PySem.W.fnOf "_law_rings" "_law_rings" (defArgs s_law_rings) (defBody s_law_rings) (defScope s_law_rings) .none kVlaw_rings dclaw_rings pmlaw_rings anlaw_rings cdlaw_rings ctlaw_rings), sllaw_rings⟩)
    (claw_rings : PySem.W.codeIn K cdlaw_rings "_law_rings" = true)
    (klaw_rings : PySem.W.keepIn K (.ref alaw_rings) = true)
    (nlaw_sides : PySem.W.nsIn K mainGlobals "_law_sides" = some (some (.ref alaw_sides)))
    (llaw_sides : K.lookup alaw_sides = some ⟨oclaw_sides, odlaw_sides, .func (PySem.W.fnOf "_law_sides" "_law_sides" (defArgs s_law_sides) (defBody s_law_sides) (defScope s_law_sides) .none kVlaw_sides dclaw_sides pmlaw_sides anlaw_sides cdlaw_sides ctlaw_sides), sllaw_sides⟩)
    (claw_sides : PySem.W.codeIn K cdlaw_sides "_law_sides" = true)
    (klaw_sides : PySem.W.keepIn K (.ref alaw_sides) = true)
    (nlaw_join : PySem.W.nsIn K mainGlobals "_law_join" = some (some (.ref alaw_join)))
    (llaw_join : K.lookup alaw_join = some ⟨oclaw_join, odlaw_join, .func (PySem.W.fnOf "_law_join" "_law_join" (defArgs s_law_join) (defBody s_law_join) (defScope s_law_join) .none kVlaw_join dclaw_join pmlaw_join anlaw_join cdlaw_join ctlaw_join), sllaw_join⟩)
    (claw_join : PySem.W.codeIn K cdlaw_join "_law_join" = true)
    (klaw_join : PySem.W.keepIn K (.ref alaw_join) = true)
    (nlaw_power : PySem.W.nsIn K mainGlobals "_law_power" = some (some (.ref alaw_power)))
    (llaw_power : K.lookup alaw_power = some ⟨oclaw_power, odlaw_power, .func (PySem.W.fnOf "_law_power" "_law_power" (defArgs s_law_power) (defBody s_law_power) (defScope s_law_power) .none kVlaw_power dclaw_power pmlaw_power anlaw_power cdlaw_power ctlaw_power), sllaw_power⟩)
    (claw_power : PySem.W.codeIn K cdlaw_power "_law_power" = true)
    (klaw_power : PySem.W.keepIn K (.ref alaw_power) = true)
    (nlaw_round : PySem.W.nsIn K mainGlobals "_law_round" = some (some (.ref alaw_round)))
    (llaw_round : K.lookup alaw_round = some ⟨oclaw_round, odlaw_round, .func (PySem.W.fnOf "_law_round" "_law_round" (defArgs s_law_round) (defBody s_law_round) (defScope s_law_round) .none kVlaw_round dclaw_round pmlaw_round anlaw_round cdlaw_round ctlaw_round), sllaw_round⟩)
    (claw_round : PySem.W.codeIn K cdlaw_round "_law_round" = true)
    (klaw_round : PySem.W.keepIn K (.ref alaw_round) = true)
    (nlaw_letter : PySem.W.nsIn K mainGlobals "_law_letter" = some (some (.ref alaw_letter)))
    (llaw_letter : K.lookup alaw_letter = some ⟨oclaw_letter, odlaw_letter, .func (PySem.W.fnOf "_law_letter" "_law_letter" (defArgs s_law_letter) (defBody s_law_letter) (defScope s_law_letter) .none kVlaw_letter dclaw_letter pmlaw_letter anlaw_letter cdlaw_letter ctlaw_letter), sllaw_letter⟩)
    (claw_letter : PySem.W.codeIn K cdlaw_letter "_law_letter" = true)
    (klaw_letter : PySem.W.keepIn K (.ref alaw_letter) = true)
    (nlaw_ring_is_walked : PySem.W.nsIn K mainGlobals "_law_ring_is_walked" = some (some (.ref alaw_ring_is_walked)))
    (llaw_ring_is_walked : K.lookup alaw_ring_is_walked = some ⟨oclaw_ring_is_walked, odlaw_ring_is_walked, .func (PySem.W.fnOf "_law_ring_is_walked" "_law_ring_is_walked" (defArgs s_law_ring_is_walked) (defBody s_law_ring_is_walked) (defScope s_law_ring_is_walked) .none kVlaw_ring_is_walked dclaw_ring_is_walked pmlaw_ring_is_walked anlaw_ring_is_walked cdlaw_ring_is_walked ctlaw_ring_is_walked), sllaw_ring_is_walked⟩)
    (claw_ring_is_walked : PySem.W.codeIn K cdlaw_ring_is_walked "_law_ring_is_walked" = true)
    (klaw_ring_is_walked : PySem.W.keepIn K (.ref alaw_ring_is_walked) = true)
    (nlaw : PySem.W.nsIn K mainGlobals "law" = some (some (.ref alaw)))
    (llaw : K.lookup alaw = some ⟨oclaw, odlaw, .func (PySem.W.fnOf "law" "law" (defArgs s_law) (defBody s_law) (defScope s_law) .none kVlaw dclaw pmlaw anlaw cdlaw ctlaw), sllaw⟩)
    (claw : PySem.W.codeIn K cdlaw "law" = true)
    (klaw : PySem.W.keepIn K (.ref alaw) = true)
    (zbool : PySem.W.nsIn K mainGlobals "bool" = some none)
    (zgcd : PySem.W.nsIn K mainGlobals "gcd" = some (some (.builtin "math.gcd")))
    (zint : PySem.W.nsIn K mainGlobals "int" = some none)
    (zisinstance : PySem.W.nsIn K mainGlobals "isinstance" = some none)
    (zlen : PySem.W.nsIn K mainGlobals "len" = some none)
    (zlist : PySem.W.nsIn K mainGlobals "list" = some none)
    (zrange : PySem.W.nsIn K mainGlobals "range" = some none)
    (zset : PySem.W.nsIn K mainGlobals "set" = some none)
    (zsorted : PySem.W.nsIn K mainGlobals "sorted" = some none)
    (ztuple : PySem.W.nsIn K mainGlobals "tuple" = some none)
    (zzip : PySem.W.nsIn K mainGlobals "zip" = some none)
    (yFLAT : PySem.W.nsIn K mainGlobals "FLAT" = some (some (.str "flat" tFLAT)))
    (ySTEEP : PySem.W.nsIn K mainGlobals "STEEP" = some (some (.str "steep" tSTEEP))) :
    ∃ fd : FuncData, (∀ (s : Shared) (v : Value), BindsTo s fd ⟨[v], []⟩ [("_law_script", v)]) ∧ ∀ base : Heap, K.In base → base.Ns mainGlobals mg → FnOk l.prog w K mg base CX0 10 fa fd ["_law_script"] (J.spLaw K) := by
  have e := hfa.symm.trans (PySem.W.mg_of X G nlaw)
  cases e
  exact ⟨PySem.W.fnOf "law" "law" (defArgs s_law) (defBody s_law) (defScope s_law) .none kVlaw dclaw pmlaw anlaw cdlaw ctlaw, fun s v => .of_eq rfl, fun base _ _ => (ok_law (Pg := l.prog) (w := w) (base := base) (⟨_, ⟨pgPlan, hdPlan, poPlan, saPlan⟩, PySem.W.mg_of X G nPlan, _, ⟨pgWalkTable, hdWalkTable, poWalkTable, saWalkTable⟩, PySem.W.mg_of X G nWalkTable, _, ⟨pgStretch, hdStretch, poStretch, saStretch⟩, PySem.W.mg_of X G nStretch, nfPlan__right, nfPlan__above, nfWalkTable__ends, nfWalkTable__marks, nfStretch_table, nfStretch_length, nfStretch_parts, ⟨rrPlan, rgPlan⟩, ⟨rrWalkTable, rgWalkTable⟩, sfWalkTable, _, ⟨cvPlan_MOST_ROOMS, ⟨_, rfl⟩⟩, _, _, fun_mk (st := s_law_cell) llaw_cell claw_cell klaw_cell, (fun_mk (st := s_law_cell) llaw_cell claw_cell klaw_cell).binds (ps := ["_law_script", "_law_k"]) fun _ _ _ _ _ _ us hl => match us, hl with | [_, _], _ => rfl, PySem.W.mg_of X G nlaw_cell, _, _, fun_mk (st := s_law_row) llaw_row claw_row klaw_row, (fun_mk (st := s_law_row) llaw_row claw_row klaw_row).binds (ps := ["_law_cell_here", "_law_count"]) fun _ _ _ _ _ _ us hl => match us, hl with | [_, _], _ => rfl, PySem.W.mg_of X G nlaw_row, _, _, fun_mk (st := s_law_order) llaw_order claw_order klaw_order, (fun_mk (st := s_law_order) llaw_order claw_order klaw_order).binds (ps := ["_law_cell_here", "_law_size"]) fun _ _ _ _ _ _ us hl => match us, hl with | [_, _], _ => rfl, PySem.W.mg_of X G nlaw_order, _, _, fun_mk (st := s_law_direction) llaw_direction claw_direction klaw_direction, (fun_mk (st := s_law_direction) llaw_direction claw_direction klaw_direction).binds (ps := ["_law_one", "_law_two", "_law_least"]) fun _ _ _ _ _ _ us hl => match us, hl with | [_, _, _], _ => rfl, PySem.W.mg_of X G nlaw_direction, _, _, fun_mk (st := s_is_order) lis_order cis_order kis_order, (fun_mk (st := s_is_order) lis_order cis_order kis_order).binds (ps := ["rooms", "size"]) fun _ _ _ _ _ _ us hl => match us, hl with | [_, _], _ => rfl, PySem.W.mg_of X G nis_order, _, _, fun_mk (st := s_Plan___init__) lPlan___init__ cPlan___init__ kPlan___init__, (fun_mk (st := s_Plan___init__) lPlan___init__ cPlan___init__ kPlan___init__).binds (ps := ["self", "right", "above"]) fun _ _ _ _ _ _ us hl => match us, hl with | [_, _, _], _ => rfl, ⟨mkPlan, nPlan___init__, iPlan___init__, kcPlan⟩, _, _, fun_mk (st := s_WalkTable_form) lWalkTable_form cWalkTable_form kWalkTable_form, (fun_mk (st := s_WalkTable_form) lWalkTable_form cWalkTable_form kWalkTable_form).binds (ps := ["self"]) fun _ _ _ _ _ _ us hl => match us, hl with | [_], _ => rfl, _, ⟨nWalkTable_form, geWalkTable_form, tkWalkTable_form, _, rcWalkTable_form⟩, _, _, fun_mk (st := s_WalkTable_size) lWalkTable_size cWalkTable_size kWalkTable_size, (fun_mk (st := s_WalkTable_size) lWalkTable_size cWalkTable_size kWalkTable_size).binds (ps := ["self"]) fun _ _ _ _ _ _ us hl => match us, hl with | [_], _ => rfl, _, ⟨nWalkTable_size, geWalkTable_size, tkWalkTable_size, _, rcWalkTable_size⟩, _, _, fun_mk (st := s_ring_from) lring_from cring_from kring_from, (fun_mk (st := s_ring_from) lring_from cring_from kring_from).binds (ps := ["start", "ends"]) fun _ _ _ _ _ _ us hl => match us, hl with | [_, _], _ => rfl, PySem.W.mg_of X G nring_from, _, _, fun_mk (st := s_rooms_in) lrooms_in crooms_in krooms_in, (fun_mk (st := s_rooms_in) lrooms_in crooms_in krooms_in).binds (ps := ["mark"]) fun _ _ _ _ _ _ us hl => match us, hl with | [_], _ => rfl, PySem.W.mg_of X G nrooms_in, _, _, fun_mk (st := s_rings_of) lrings_of crings_of krings_of, (fun_mk (st := s_rings_of) lrings_of crings_of krings_of).binds (ps := ["table"]) fun _ _ _ _ _ _ us hl => match us, hl with | [_], _ => rfl, PySem.W.mg_of X G nrings_of, _, _, fun_mk (st := s_check_direction) lcheck_direction ccheck_direction kcheck_direction, (fun_mk (st := s_check_direction) lcheck_direction ccheck_direction kcheck_direction).binds (ps := ["p", "q"]) fun _ _ _ _ _ _ us hl => match us, hl with | [_, _], _ => rfl, PySem.W.mg_of X G ncheck_direction, _, _, fun_mk (st := s_Plan_size) lPlan_size cPlan_size kPlan_size, (fun_mk (st := s_Plan_size) lPlan_size cPlan_size kPlan_size).binds (ps := ["self"]) fun _ _ _ _ _ _ us hl => match us, hl with | [_], _ => rfl, _, ⟨nPlan_size, gePlan_size, tkPlan_size, _, rcPlan_size⟩, _, _, fun_mk (st := s_mark_of) lmark_of cmark_of kmark_of, (fun_mk (st := s_mark_of) lmark_of cmark_of kmark_of).binds (ps := ["room"]) fun _ _ _ _ _ _ us hl => match us, hl with | [_], _ => rfl, PySem.W.mg_of X G nmark_of, _, _, fun_mk (st := s_Plan_right) lPlan_right cPlan_right kPlan_right, (fun_mk (st := s_Plan_right) lPlan_right cPlan_right kPlan_right).binds (ps := ["self"]) fun _ _ _ _ _ _ us hl => match us, hl with | [_], _ => rfl, _, ⟨nPlan_right, gePlan_right, tkPlan_right, _, rcPlan_right⟩, _, _, fun_mk (st := s_WalkTable___init__) lWalkTable___init__ cWalkTable___init__ kWalkTable___init__, (fun_mk (st := s_WalkTable___init__) lWalkTable___init__ cWalkTable___init__ kWalkTable___init__).binds (ps := ["self", "ends", "marks"]) fun _ _ _ _ _ _ us hl => match us, hl with | [_, _, _], _ => rfl, ⟨mkWalkTable, nWalkTable___init__, iWalkTable___init__, kcWalkTable⟩, _, _, fun_mk (st := s_Plan_above) lPlan_above cPlan_above kPlan_above, (fun_mk (st := s_Plan_above) lPlan_above cPlan_above kPlan_above).binds (ps := ["self"]) fun _ _ _ _ _ _ us hl => match us, hl with | [_], _ => rfl, _, ⟨nPlan_above, gePlan_above, tkPlan_above, _, rcPlan_above⟩, _, _, fun_mk (st := s_side_tables) lside_tables cside_tables kside_tables, (fun_mk (st := s_side_tables) lside_tables cside_tables kside_tables).binds (ps := ["plan"]) fun _ _ _ _ _ _ us hl => match us, hl with | [_], _ => rfl, PySem.W.mg_of X G nside_tables, _, _, fun_mk (st := s_Stretch___init__) lStretch___init__ cStretch___init__ kStretch___init__, (fun_mk (st := s_Stretch___init__) lStretch___init__ cStretch___init__ kStretch___init__).binds (ps := ["self", "table", "length", "parts"]) fun _ _ _ _ _ _ us hl => match us, hl with | [_, _, _, _], _ => rfl, ⟨mkStretch, nStretch___init__, iStretch___init__, kcStretch⟩, _, _, fun_mk (st := s_side_stretches) lside_stretches cside_stretches kside_stretches, (fun_mk (st := s_side_stretches) lside_stretches cside_stretches kside_stretches).binds (ps := ["plan"]) fun _ _ _ _ _ _ us hl => match us, hl with | [_], _ => rfl, PySem.W.mg_of X G nside_stretches, _, _, fun_mk (st := s_check_in_tree) lcheck_in_tree ccheck_in_tree kcheck_in_tree, (fun_mk (st := s_check_in_tree) lcheck_in_tree ccheck_in_tree kcheck_in_tree).binds (ps := ["p", "q"]) fun _ _ _ _ _ _ us hl => match us, hl with | [_, _], _ => rfl, PySem.W.mg_of X G ncheck_in_tree, _, _, fun_mk (st := s_steps) lsteps csteps ksteps, (fun_mk (st := s_steps) lsteps csteps ksteps).binds (ps := ["p", "q"]) fun _ _ _ _ _ _ us hl => match us, hl with | [_, _], _ => rfl, PySem.W.mg_of X G nsteps, _, _, fun_mk (st := s_WalkTable_resting) lWalkTable_resting cWalkTable_resting kWalkTable_resting, (fun_mk (st := s_WalkTable_resting) lWalkTable_resting cWalkTable_resting kWalkTable_resting).binds (ps := ["size"]) fun _ _ _ _ _ _ us hl => match us, hl with | [_], _ => rfl, _, ⟨nWalkTable_resting, ⟨_, rcWalkTable_resting⟩, rfl, kWalkTable_resting⟩, _, _, fun_mk (st := s_WalkTable___mul__) lWalkTable___mul__ cWalkTable___mul__ kWalkTable___mul__, (fun_mk (st := s_WalkTable___mul__) lWalkTable___mul__ cWalkTable___mul__ kWalkTable___mul__).binds (ps := ["self", "other"]) fun _ _ _ _ _ _ us hl => match us, hl with | [_, _], _ => rfl, ⟨nWalkTable___mul__, iWalkTable___mul__, kWalkTable___mul__⟩, _, _, fun_mk (st := s_WalkTable_repeated) lWalkTable_repeated cWalkTable_repeated kWalkTable_repeated, (fun_mk (st := s_WalkTable_repeated) lWalkTable_repeated cWalkTable_repeated kWalkTable_repeated).binds (ps := ["self", "count"]) fun _ _ _ _ _ _ us hl => match us, hl with | [_, _], _ => rfl, ⟨nWalkTable_repeated, iWalkTable_repeated, kWalkTable_repeated⟩, _, _, fun_mk (st := s_put_together) lput_together cput_together kput_together, (fun_mk (st := s_put_together) lput_together cput_together kput_together).binds (ps := ["one", "copies_of_one", "two", "copies_of_two"]) fun _ _ _ _ _ _ us hl => match us, hl with | [_, _, _, _], _ => rfl, PySem.W.mg_of X G nput_together, _, _, fun_mk (st := s_rounds_of_neighbors) lrounds_of_neighbors crounds_of_neighbors krounds_of_neighbors, (fun_mk (st := s_rounds_of_neighbors) lrounds_of_neighbors crounds_of_neighbors krounds_of_neighbors).binds (ps := ["plan", "p", "q"]) fun _ _ _ _ _ _ us hl => match us, hl with | [_, _, _], _ => rfl, PySem.W.mg_of X G nrounds_of_neighbors, _, _, fun_mk (st := s_stretch_of_round) lstretch_of_round cstretch_of_round kstretch_of_round, (fun_mk (st := s_stretch_of_round) lstretch_of_round cstretch_of_round kstretch_of_round).binds (ps := ["plan", "p", "q"]) fun _ _ _ _ _ _ us hl => match us, hl with | [_, _, _], _ => rfl, PySem.W.mg_of X G nstretch_of_round, _, _, L2.funD_none (st := s_walk_table) lwalk_table cwalk_table kwalk_table dkwalk_table, (L2.funD_none (st := s_walk_table) lwalk_table cwalk_table kwalk_table dkwalk_table).binds0 (ps := ["plan", "p", "q", "crossings"]) 3 (by simp) rfl (fun D doc pm an cdv ct us ks hu hk => match us, ks, hu, hk with | [_, _, _], [_], _, _ => ⟨_, _, _, _, _, _, rfl, rfl, rfl⟩), PySem.W.mg_of X G nwalk_table, _, _, fun_mk (st := s_rings_at) lrings_at crings_at krings_at, (fun_mk (st := s_rings_at) lrings_at crings_at krings_at).binds (ps := ["plan", "p", "q"]) fun _ _ _ _ _ _ us hl => match us, hl with | [_, _, _], _ => rfl, PySem.W.mg_of X G nrings_at, _, _, fun_mk (st := s_law_is_number) llaw_is_number claw_is_number klaw_is_number, (fun_mk (st := s_law_is_number) llaw_is_number claw_is_number klaw_is_number).binds (ps := ["_law_value"]) fun _ _ _ _ _ _ us hl => match us, hl with | [_], _ => rfl, PySem.W.mg_of X G nlaw_is_number, _, _, fun_mk (st := s_law_is_row) llaw_is_row claw_is_row klaw_is_row, (fun_mk (st := s_law_is_row) llaw_is_row claw_is_row klaw_is_row).binds (ps := ["_law_actual", "_law_expected"]) fun _ _ _ _ _ _ us hl => match us, hl with | [_, _], _ => rfl, PySem.W.mg_of X G nlaw_is_row, _, _, fun_mk (st := s_law_is_rings) llaw_is_rings claw_is_rings klaw_is_rings, (fun_mk (st := s_law_is_rings) llaw_is_rings claw_is_rings klaw_is_rings).binds (ps := ["_law_actual", "_law_expected"]) fun _ _ _ _ _ _ us hl => match us, hl with | [_, _], _ => rfl, PySem.W.mg_of X G nlaw_is_rings, _, _, fun_mk (st := s_law_rings) llaw_rings claw_rings klaw_rings, (fun_mk (st := s_law_rings) llaw_rings claw_rings klaw_rings).binds (ps := ["_law_table"]) fun _ _ _ _ _ _ us hl => match us, hl with | [_], _ => rfl, PySem.W.mg_of X G nlaw_rings, _, _, fun_mk (st := s_law_sides) llaw_sides claw_sides klaw_sides, (fun_mk (st := s_law_sides) llaw_sides claw_sides klaw_sides).binds (ps := ["_law_right", "_law_above"]) fun _ _ _ _ _ _ us hl => match us, hl with | [_, _], _ => rfl, PySem.W.mg_of X G nlaw_sides, _, _, fun_mk (st := s_law_join) llaw_join claw_join klaw_join, (fun_mk (st := s_law_join) llaw_join claw_join klaw_join).binds (ps := ["_law_one", "_law_two"]) fun _ _ _ _ _ _ us hl => match us, hl with | [_, _], _ => rfl, PySem.W.mg_of X G nlaw_join, _, _, fun_mk (st := s_law_power) llaw_power claw_power klaw_power, (fun_mk (st := s_law_power) llaw_power claw_power klaw_power).binds (ps := ["_law_table", "_law_count"]) fun _ _ _ _ _ _ us hl => match us, hl with | [_, _], _ => rfl, PySem.W.mg_of X G nlaw_power, _, _, fun_mk (st := s_law_round) llaw_round claw_round klaw_round, (fun_mk (st := s_law_round) llaw_round claw_round klaw_round).binds (ps := ["_law_right", "_law_above", "_law_p", "_law_q"]) fun _ _ _ _ _ _ us hl => match us, hl with | [_, _, _, _], _ => rfl, PySem.W.mg_of X G nlaw_round, _, _, fun_mk (st := s_law_letter) llaw_letter claw_letter klaw_letter, (fun_mk (st := s_law_letter) llaw_letter claw_letter klaw_letter).binds (ps := ["_law_pair", "_law_index"]) fun _ _ _ _ _ _ us hl => match us, hl with | [_, _], _ => rfl, PySem.W.mg_of X G nlaw_letter, _, _, fun_mk (st := s_law_ring_is_walked) llaw_ring_is_walked claw_ring_is_walked klaw_ring_is_walked, (fun_mk (st := s_law_ring_is_walked) llaw_ring_is_walked claw_ring_is_walked klaw_ring_is_walked).binds (ps := ["_law_lists", "_law_pair", "_law_ring"]) fun _ _ _ _ _ _ us hl => match us, hl with | [_, _, _], _ => rfl, PySem.W.mg_of X G nlaw_ring_is_walked, _, _, fun_mk (st := s_law) llaw claw klaw, (fun_mk (st := s_law) llaw claw klaw).binds (ps := ["_law_script"]) fun _ _ _ _ _ _ us hl => match us, hl with | [_], _ => rfl, PySem.W.mg_of X G nlaw, PySem.W.mg_none_of X G zbool, PySem.W.mg_of X G zgcd, PySem.W.mg_none_of X G zint, PySem.W.mg_none_of X G zisinstance, PySem.W.mg_none_of X G zlen, PySem.W.mg_none_of X G zlist, PySem.W.mg_none_of X G zrange, PySem.W.mg_none_of X G zset, PySem.W.mg_none_of X G zsorted, PySem.W.mg_none_of X G ztuple, PySem.W.mg_none_of X G zzip, _, PySem.W.mg_of X G yFLAT, _, PySem.W.mg_of X G ySTEEP⟩ : Txt K mg)).imp (J.law_of law_math)⟩

end Slw

open PySem PySem.W PyProof.Rows in
set_option maxRecDepth 100000 in
set_option maxHeartbeats 0 in
theorem PySem.Challenge.cw_slantwalk_k27_whole_rings_at_any_directi_holds : PySem.Challenge.rw_slantwalk_k27_whole_rings_at_any_directi.Holds := by
  w_on; o_law; k_head; (case hw => w_witness2)
  k_fill
  refine L2.walk_of (l := PySem.Challenge.rw_slantwalk_k27_whole_rings_at_any_directi) (n := 63) (k := 10) (x := "_law_script") (CX := fun _ => L2.CX0) (sp := fun w => J.spLaw _) rfl (by decide) rfl ⟨rfl, by decide, by decide⟩ (fun w h Y => PySem.W.kIn_of Y) ?F (fun _ _ a ns hl _ hS => ⟨a, ns, rfl, hS, hl, fun _ => rfl⟩) (fun _ _ _ _ _ h => h)
  case F =>
    intro w mg fa h KX G hmg
    refine' Slw.all_mk KX G hmg ?nPlan ?pgPlan ?hdPlan ?poPlan ?saPlan ?nWalkTable ?pgWalkTable ?hdWalkTable ?poWalkTable ?saWalkTable ?nStretch ?pgStretch ?hdStretch ?poStretch ?saStretch ?mkPlan ?kcPlan ?mkWalkTable ?kcWalkTable ?mkStretch ?kcStretch ?nfPlan__right ?nfPlan__above ?nfWalkTable__ends ?nfWalkTable__marks ?nfStretch_table ?nfStretch_length ?nfStretch_parts ?rrPlan ?rgPlan ?rrWalkTable ?rgWalkTable ?sfWalkTable ?cvPlan_MOST_ROOMS ?nlaw_cell ?llaw_cell ?claw_cell ?klaw_cell ?nlaw_row ?llaw_row ?claw_row ?klaw_row ?nlaw_order ?llaw_order ?claw_order ?klaw_order ?nlaw_direction ?llaw_direction ?claw_direction ?klaw_direction ?nis_order ?lis_order ?cis_order ?kis_order ?nPlan___init__ ?iPlan___init__ ?lPlan___init__ ?cPlan___init__ ?kPlan___init__ ?nWalkTable_form ?geWalkTable_form ?tkWalkTable_form ?rcWalkTable_form ?lWalkTable_form ?cWalkTable_form ?kWalkTable_form ?nWalkTable_size ?geWalkTable_size ?tkWalkTable_size ?rcWalkTable_size ?lWalkTable_size ?cWalkTable_size ?kWalkTable_size ?nring_from ?lring_from ?cring_from ?kring_from ?nrooms_in ?lrooms_in ?crooms_in ?krooms_in ?nrings_of ?lrings_of ?crings_of ?krings_of ?ncheck_direction ?lcheck_direction ?ccheck_direction ?kcheck_direction ?nPlan_size ?gePlan_size ?tkPlan_size ?rcPlan_size ?lPlan_size ?cPlan_size ?kPlan_size ?nmark_of ?lmark_of ?cmark_of ?kmark_of ?nPlan_right ?gePlan_right ?tkPlan_right ?rcPlan_right ?lPlan_right ?cPlan_right ?kPlan_right ?nWalkTable___init__ ?iWalkTable___init__ ?lWalkTable___init__ ?cWalkTable___init__ ?kWalkTable___init__ ?nPlan_above ?gePlan_above ?tkPlan_above ?rcPlan_above ?lPlan_above ?cPlan_above ?kPlan_above ?nside_tables ?lside_tables ?cside_tables ?kside_tables ?nStretch___init__ ?iStretch___init__ ?lStretch___init__ ?cStretch___init__ ?kStretch___init__ ?nside_stretches ?lside_stretches ?cside_stretches ?kside_stretches ?ncheck_in_tree ?lcheck_in_tree ?ccheck_in_tree ?kcheck_in_tree ?nsteps ?lsteps ?csteps ?ksteps ?nWalkTable_resting ?rcWalkTable_resting ?lWalkTable_resting ?cWalkTable_resting ?kWalkTable_resting ?nWalkTable___mul__ ?iWalkTable___mul__ ?lWalkTable___mul__ ?cWalkTable___mul__ ?kWalkTable___mul__ ?nWalkTable_repeated ?iWalkTable_repeated ?lWalkTable_repeated ?cWalkTable_repeated ?kWalkTable_repeated ?nput_together ?lput_together ?cput_together ?kput_together ?nrounds_of_neighbors ?lrounds_of_neighbors ?crounds_of_neighbors ?krounds_of_neighbors ?nstretch_of_round ?lstretch_of_round ?cstretch_of_round ?kstretch_of_round ?nwalk_table ?lwalk_table ?cwalk_table ?kwalk_table ?dkwalk_table ?nrings_at ?lrings_at ?crings_at ?krings_at ?nlaw_is_number ?llaw_is_number ?claw_is_number ?klaw_is_number ?nlaw_is_row ?llaw_is_row ?claw_is_row ?klaw_is_row ?nlaw_is_rings ?llaw_is_rings ?claw_is_rings ?klaw_is_rings ?nlaw_rings ?llaw_rings ?claw_rings ?klaw_rings ?nlaw_sides ?llaw_sides ?claw_sides ?klaw_sides ?nlaw_join ?llaw_join ?claw_join ?klaw_join ?nlaw_power ?llaw_power ?claw_power ?klaw_power ?nlaw_round ?llaw_round ?claw_round ?klaw_round ?nlaw_letter ?llaw_letter ?claw_letter ?klaw_letter ?nlaw_ring_is_walked ?llaw_ring_is_walked ?claw_ring_is_walked ?klaw_ring_is_walked ?nlaw ?llaw ?claw ?klaw ?zbool ?zgcd ?zint ?zisinstance ?zlen ?zlist ?zrange ?zset ?zsorted ?ztuple ?zzip ?yFLAT ?ySTEEP
    (case nPlan => k_is)
    (case pgPlan => k_is)
    (case hdPlan => k_is)
    (case poPlan => k_is)
    (case saPlan => k_is)
    (case nWalkTable => k_is)
    (case pgWalkTable => k_is)
    (case hdWalkTable => k_is)
    (case poWalkTable => k_is)
    (case saWalkTable => k_is)
    (case nStretch => k_is)
    (case pgStretch => k_is)
    (case hdStretch => k_is)
    (case poStretch => k_is)
    (case saStretch => k_is)
    (case mkPlan => k_is)
    (case kcPlan => k_is)
    (case mkWalkTable => k_is)
    (case kcWalkTable => k_is)
    (case mkStretch => k_is)
    (case kcStretch => k_is)
    (case nfPlan__right => k_is)
    (case nfPlan__above => k_is)
    (case nfWalkTable__ends => k_is)
    (case nfWalkTable__marks => k_is)
    (case nfStretch_table => k_is)
    (case nfStretch_length => k_is)
    (case nfStretch_parts => k_is)
    (case rrPlan => k_is)
    (case rgPlan => k_is)
    (case rrWalkTable => k_is)
    (case rgWalkTable => k_is)
    (case sfWalkTable => k_is)
    (case cvPlan_MOST_ROOMS => k_is)
    (case nlaw_cell => k_is)
    (case llaw_cell => k_is)
    (case claw_cell => k_is)
    (case klaw_cell => k_is)
    (case nlaw_row => k_is)
    (case llaw_row => k_is)
    (case claw_row => k_is)
    (case klaw_row => k_is)
    (case nlaw_order => k_is)
    (case llaw_order => k_is)
    (case claw_order => k_is)
    (case klaw_order => k_is)
    (case nlaw_direction => k_is)
    (case llaw_direction => k_is)
    (case claw_direction => k_is)
    (case klaw_direction => k_is)
    (case nis_order => k_is)
    (case lis_order => k_is)
    (case cis_order => k_is)
    (case kis_order => k_is)
    (case nPlan___init__ => k_is)
    (case iPlan___init__ => k_is)
    (case lPlan___init__ => k_is)
    (case cPlan___init__ => k_is)
    (case kPlan___init__ => k_is)
    (case nWalkTable_form => k_is)
    (case geWalkTable_form => k_is)
    (case tkWalkTable_form => k_is)
    (case rcWalkTable_form => k_is)
    (case lWalkTable_form => k_is)
    (case cWalkTable_form => k_is)
    (case kWalkTable_form => k_is)
    (case nWalkTable_size => k_is)
    (case geWalkTable_size => k_is)
    (case tkWalkTable_size => k_is)
    (case rcWalkTable_size => k_is)
    (case lWalkTable_size => k_is)
    (case cWalkTable_size => k_is)
    (case kWalkTable_size => k_is)
    (case nring_from => k_is)
    (case lring_from => k_is)
    (case cring_from => k_is)
    (case kring_from => k_is)
    (case nrooms_in => k_is)
    (case lrooms_in => k_is)
    (case crooms_in => k_is)
    (case krooms_in => k_is)
    (case nrings_of => k_is)
    (case lrings_of => k_is)
    (case crings_of => k_is)
    (case krings_of => k_is)
    (case ncheck_direction => k_is)
    (case lcheck_direction => k_is)
    (case ccheck_direction => k_is)
    (case kcheck_direction => k_is)
    (case nPlan_size => k_is)
    (case gePlan_size => k_is)
    (case tkPlan_size => k_is)
    (case rcPlan_size => k_is)
    (case lPlan_size => k_is)
    (case cPlan_size => k_is)
    (case kPlan_size => k_is)
    (case nmark_of => k_is)
    (case lmark_of => k_is)
    (case cmark_of => k_is)
    (case kmark_of => k_is)
    (case nPlan_right => k_is)
    (case gePlan_right => k_is)
    (case tkPlan_right => k_is)
    (case rcPlan_right => k_is)
    (case lPlan_right => k_is)
    (case cPlan_right => k_is)
    (case kPlan_right => k_is)
    (case nWalkTable___init__ => k_is)
    (case iWalkTable___init__ => k_is)
    (case lWalkTable___init__ => k_is)
    (case cWalkTable___init__ => k_is)
    (case kWalkTable___init__ => k_is)
    (case nPlan_above => k_is)
    (case gePlan_above => k_is)
    (case tkPlan_above => k_is)
    (case rcPlan_above => k_is)
    (case lPlan_above => k_is)
    (case cPlan_above => k_is)
    (case kPlan_above => k_is)
    (case nside_tables => k_is)
    (case lside_tables => k_is)
    (case cside_tables => k_is)
    (case kside_tables => k_is)
    (case nStretch___init__ => k_is)
    (case iStretch___init__ => k_is)
    (case lStretch___init__ => k_is)
    (case cStretch___init__ => k_is)
    (case kStretch___init__ => k_is)
    (case nside_stretches => k_is)
    (case lside_stretches => k_is)
    (case cside_stretches => k_is)
    (case kside_stretches => k_is)
    (case ncheck_in_tree => k_is)
    (case lcheck_in_tree => k_is)
    (case ccheck_in_tree => k_is)
    (case kcheck_in_tree => k_is)
    (case nsteps => k_is)
    (case lsteps => k_is)
    (case csteps => k_is)
    (case ksteps => k_is)
    (case nWalkTable_resting => k_is)
    (case rcWalkTable_resting => k_is)
    (case lWalkTable_resting => k_is)
    (case cWalkTable_resting => k_is)
    (case kWalkTable_resting => k_is)
    (case nWalkTable___mul__ => k_is)
    (case iWalkTable___mul__ => k_is)
    (case lWalkTable___mul__ => k_is)
    (case cWalkTable___mul__ => k_is)
    (case kWalkTable___mul__ => k_is)
    (case nWalkTable_repeated => k_is)
    (case iWalkTable_repeated => k_is)
    (case lWalkTable_repeated => k_is)
    (case cWalkTable_repeated => k_is)
    (case kWalkTable_repeated => k_is)
    (case nput_together => k_is)
    (case lput_together => k_is)
    (case cput_together => k_is)
    (case kput_together => k_is)
    (case nrounds_of_neighbors => k_is)
    (case lrounds_of_neighbors => k_is)
    (case crounds_of_neighbors => k_is)
    (case krounds_of_neighbors => k_is)
    (case nstretch_of_round => k_is)
    (case lstretch_of_round => k_is)
    (case cstretch_of_round => k_is)
    (case kstretch_of_round => k_is)
    (case nwalk_table => k_is)
    (case lwalk_table => k_is)
    (case cwalk_table => k_is)
    (case kwalk_table => k_is)
    (case dkwalk_table => k_is)
    (case nrings_at => k_is)
    (case lrings_at => k_is)
    (case crings_at => k_is)
    (case krings_at => k_is)
    (case nlaw_is_number => k_is)
    (case llaw_is_number => k_is)
    (case claw_is_number => k_is)
    (case klaw_is_number => k_is)
    (case nlaw_is_row => k_is)
    (case llaw_is_row => k_is)
    (case claw_is_row => k_is)
    (case klaw_is_row => k_is)
    (case nlaw_is_rings => k_is)
    (case llaw_is_rings => k_is)
    (case claw_is_rings => k_is)
    (case klaw_is_rings => k_is)
    (case nlaw_rings => k_is)
    (case llaw_rings => k_is)
    (case claw_rings => k_is)
    (case klaw_rings => k_is)
    (case nlaw_sides => k_is)
    (case llaw_sides => k_is)
    (case claw_sides => k_is)
    (case klaw_sides => k_is)
    (case nlaw_join => k_is)
    (case llaw_join => k_is)
    (case claw_join => k_is)
    (case klaw_join => k_is)
    (case nlaw_power => k_is)
    (case llaw_power => k_is)
    (case claw_power => k_is)
    (case klaw_power => k_is)
    (case nlaw_round => k_is)
    (case llaw_round => k_is)
    (case claw_round => k_is)
    (case klaw_round => k_is)
    (case nlaw_letter => k_is)
    (case llaw_letter => k_is)
    (case claw_letter => k_is)
    (case klaw_letter => k_is)
    (case nlaw_ring_is_walked => k_is)
    (case llaw_ring_is_walked => k_is)
    (case claw_ring_is_walked => k_is)
    (case klaw_ring_is_walked => k_is)
    (case nlaw => k_is)
    (case llaw => k_is)
    (case claw => k_is)
    (case klaw => k_is)
    (case zbool => k_is)
    (case zgcd => k_is)
    (case zint => k_is)
    (case zisinstance => k_is)
    (case zlen => k_is)
    (case zlist => k_is)
    (case zrange => k_is)
    (case zset => k_is)
    (case zsorted => k_is)
    (case ztuple => k_is)
    (case zzip => k_is)
    (case yFLAT => k_is)
    (case ySTEEP => k_is)
