import PyProof.Rows.All
import Wide.All
import OpenK.AllK
import Wide.FinOn
import PySem.Challenge.RW_bothroads_k01_words_and_machines_by_hand
import HandS.ForMost
import HandS.ForExc
import HandS.TryMany
import HandS.CallSlots
import KE.KDictKeyed
import KE.KDictCopyH
import HandS.Lambda
import HandS.Flow
import HandS.TupAny
import HandS.TupMul
import HandS.IsInst
import HandS.Deep
import HandS.WideBits
import PyProof.P3In
import HandS.Words
import HandS.Iter
import HandS.Conv
import KE.GoesZip
import KE.GoesEnum
import KE.GoesEnumKw
import HandS.NoneIn
import HandS.DictComp
import KE.KExcInit
import KE.KExcIs
import HandS.ExcIs
import HandS.List
import HandS.SortInts
import HandS.Style
import HandS.TupSets
import HandS.Wide
import HandS.EndBits
import HandS.EndTab
import HandS.More
import HandS.Rev
import KE.DatumOrd
import KE.GoesCell
import KE.KEqDict
import KE.KDictZip
import KE.KItemsList
import HandS.MapObj
set_option Elab.async false
set_option linter.all false
set_option maxRecDepth 100000
set_option autoImplicit false
noncomputable section
namespace Rh
open PySem PySem.Spec PyProof.Rows L2

/-! ### data: values are trees over numbered boxes; boxes (what can change) stand in a table -/
inductive Ty where | int | bool | str | tuple | list | dict | none
  deriving DecidableEq
def Ty.name : Ty → String
  | .int => "int" | .bool => "bool" | .str => "str" | .tuple => "tuple" | .list => "list" | .dict => "dict" | .none => "NoneType"
/-- values; `gl x` is what the module's name x holds -/
inductive D where
  | non | bl (b : Bool) | int (i : Int) | str (x : Str)
  | tup (ds : List D) | box (n : Nat) | ty (n : Ty) | scr (ds : List D) | gl (x : Str)
  /-- the lambda that was handed in: only a slot holds it -/
  | lm
/-- what stands in a box -/
inductive O where
  | lst (ds : List D)
  | dct (nks : List NestedKey) (ks vs : List D)
  | lam (q : Nat) (cs : List D)
  | exo (c : Str) (fs : List (Str × D))

/-! a table by binary places -/
inductive Tr (α : Type) where
  | nil
  | node (v : Option α) (l r : Tr α)
def Tr.getC {α : Type} : Tr α → Nat → Option α
  | .nil, _ => none
  | .node v l r, i => match Nat.beq i 0 with
    | true => v
    | false => match Nat.beq (i % 2) 1 with
      | true => l.getC (i / 2)
      | false => r.getC (i / 2 - 1)
def Tr.get {α : Type} (t : Tr α) : Nat → Option α := Tr.rec (motive := fun _ => Nat → Option α) (fun _ => none) (fun v _ _ pl pr i => match Nat.beq i 0 with
  | true => v
  | false => match Nat.beq (Nat.mod i 2) 1 with
    | true => pl (Nat.div i 2)
    | false => pr (Nat.sub (Nat.div i 2) 1)) t
def Tr.put0 {α : Type} (a : α) : Nat → Tr α → Nat → Option (Tr α)
  | 0, _, _ => none
  | f + 1, .nil, i => match Nat.beq i 0 with
    | true => some (.node (some a) .nil .nil)
    | false => match Nat.beq (i % 2) 1 with
      | true => match Tr.put0 a f .nil (i / 2) with
        | some t => some (.node none t .nil)
        | none => none
      | false => match Tr.put0 a f .nil (i / 2 - 1) with
        | some t => some (.node none .nil t)
        | none => none
  | f + 1, .node v l r, i => match Nat.beq i 0 with
    | true => some (.node (some a) l r)
    | false => match Nat.beq (i % 2) 1 with
      | true => match Tr.put0 a f l (i / 2) with
        | some t => some (.node v t r)
        | none => none
      | false => match Tr.put0 a f r (i / 2 - 1) with
        | some t => some (.node v l t)
        | none => none
theorem beq_dec (i j : Nat) : Nat.beq i j = decide (i = j) := by
  by_cases h : i = j
  · subst h; simp [Nat.beq_refl]
  · rw [decide_eq_false h]; exact Bool.eq_false_iff.mpr fun q => h (Nat.eq_of_beq_eq_true q)
theorem Tr.get_node {α : Type} (v : Option α) (l r : Tr α) (i : Nat) : (Tr.node v l r).get i = if i = 0 then v else if i % 2 = 1 then l.get (i / 2) else r.get (i / 2 - 1) := by
  show (match Nat.beq i 0 with | true => v | false => match Nat.beq (i % 2) 1 with | true => l.get (i / 2) | false => r.get (i / 2 - 1)) = _
  rw [beq_dec, beq_dec]
  by_cases h : i = 0
  · simp [h]
  · by_cases q : i % 2 = 1 <;> simp [h, q]
theorem Tr.get_nil {α : Type} (i : Nat) : (Tr.nil : Tr α).get i = none := rfl
theorem Tr.put0_get {α : Type} {a : α} : ∀ {f : Nat} {t t' : Tr α} {i : Nat}, Tr.put0 a f t i = some t' → ∀ j, t'.get j = if j = i then some a else t.get j
  | 0, _, _, _, h, _ => by cases h
  | f + 1, .nil, t', i, h, j => by
    unfold Tr.put0 at h
    rw [beq_dec, beq_dec] at h
    by_cases h0 : i = 0
    · subst h0
      simp at h; subst h
      rw [Tr.get_node, Tr.get_nil, Tr.get_nil]
      by_cases hj : j = 0 <;> simp [hj, Tr.get_nil]
    · by_cases h1 : i % 2 = 1
      · simp only [h0, h1, decide_false, decide_true] at h
        cases e : Tr.put0 a f .nil (i / 2) with
        | none => rw [e] at h; cases h
        | some u =>
          rw [e] at h; cases h
          rw [Tr.get_node, Tr.put0_get e, Tr.get_nil]
          by_cases hj : j = 0
          · subst hj; simp [Tr.get_nil, Ne.symm h0]
          · by_cases hp : j % 2 = 1
            · simp only [hj, hp, if_true, if_false]
              by_cases q : j / 2 = i / 2
              · have : j = i := by omega
                simp [this]
              · have : j ≠ i := fun z => q (by rw [z])
                simp [q, this, Tr.get_nil]
            · have : j ≠ i := fun z => hp (by rw [z]; exact h1)
              simp [hj, hp, this, Tr.get_nil]
      · simp only [h0, h1, decide_false] at h
        cases e : Tr.put0 a f .nil (i / 2 - 1) with
        | none => rw [e] at h; cases h
        | some u =>
          rw [e] at h; cases h
          rw [Tr.get_node, Tr.put0_get e, Tr.get_nil]
          by_cases hj : j = 0
          · subst hj; simp [Tr.get_nil, Ne.symm h0]
          · by_cases hp : j % 2 = 1
            · have : j ≠ i := fun z => h1 (by rw [← z]; exact hp)
              simp [hj, hp, this, Tr.get_nil]
            · simp only [hj, hp, if_false]
              by_cases q : j / 2 - 1 = i / 2 - 1
              · have : j = i := by omega
                simp [this]
              · have : j ≠ i := fun z => q (by rw [z])
                simp [q, this, Tr.get_nil]
  | f + 1, .node v l r, t', i, h, j => by
    unfold Tr.put0 at h
    rw [beq_dec, beq_dec] at h
    by_cases h0 : i = 0
    · subst h0
      simp at h; subst h
      rw [Tr.get_node, Tr.get_node]
      by_cases hj : j = 0 <;> simp [hj]
    · by_cases h1 : i % 2 = 1
      · simp only [h0, h1, decide_false, decide_true] at h
        cases e : Tr.put0 a f l (i / 2) with
        | none => rw [e] at h; cases h
        | some u =>
          rw [e] at h; cases h
          rw [Tr.get_node, Tr.put0_get e, Tr.get_node]
          by_cases hj : j = 0
          · subst hj; simp [Ne.symm h0]
          · by_cases hp : j % 2 = 1
            · simp only [hj, hp, if_true, if_false]
              by_cases q : j / 2 = i / 2
              · have : j = i := by omega
                simp [this]
              · have : j ≠ i := fun z => q (by rw [z])
                simp [q, this, Tr.get_nil]
            · have : j ≠ i := fun z => hp (by rw [z]; exact h1)
              simp [hj, hp, this]
      · simp only [h0, h1, decide_false] at h
        cases e : Tr.put0 a f r (i / 2 - 1) with
        | none => rw [e] at h; cases h
        | some u =>
          rw [e] at h; cases h
          rw [Tr.get_node, Tr.put0_get e, Tr.get_node]
          by_cases hj : j = 0
          · subst hj; simp [Ne.symm h0]
          · by_cases hp : j % 2 = 1
            · have : j ≠ i := fun z => h1 (by rw [← z]; exact hp)
              simp [hj, hp, this]
            · simp only [hj, hp, if_false]
              by_cases q : j / 2 - 1 = i / 2 - 1
              · have : j = i := by omega
                simp [this]
              · have : j ≠ i := fun z => q (by rw [z])
                simp [q, this, Tr.get_nil]
def Tr.putC {α : Type} (a : α) (f : Nat) : Tr α → Nat → Option (Tr α)
  | .nil, i => match Nat.beq i 0 with
    | true => some (.node (some a) .nil .nil)
    | false => Tr.put0 a f .nil i
  | .node v l r, i => match Nat.beq i 0 with
    | true => some (.node (some a) l r)
    | false => match Nat.beq (i % 2) 1 with
      | true => match Tr.putC a f l (i / 2) with
        | some t => some (.node v t r)
        | none => none
      | false => match Tr.putC a f r (i / 2 - 1) with
        | some t => some (.node v l t)
        | none => none
def Tr.put {α : Type} (a : α) (f : Nat) (t : Tr α) : Nat → Option (Tr α) := Tr.rec (motive := fun _ => Nat → Option (Tr α)) (fun i => match Nat.beq i 0 with
  | true => some (.node (some a) .nil .nil)
  | false => Tr.put0 a f .nil i) (fun v l r pl pr i => match Nat.beq i 0 with
  | true => some (.node (some a) l r)
  | false => match Nat.beq (Nat.mod i 2) 1 with
    | true => match pl (Nat.div i 2) with
      | some t => some (.node v t r)
      | none => none
    | false => match pr (Nat.sub (Nat.div i 2) 1) with
      | some t => some (.node v l t)
      | none => none) t
theorem Tr.put_nil {α : Type} {a : α} {f i : Nat} : Tr.put a f .nil i = if i = 0 then some (.node (some a) .nil .nil) else Tr.put0 a f .nil i := by
  show (match Nat.beq i 0 with | true => some (Tr.node (some a) .nil .nil) | false => Tr.put0 a f .nil i) = _
  rw [beq_dec]
  by_cases h : i = 0 <;> simp [h]
theorem Tr.put_node {α : Type} {a : α} {f i : Nat} {v : Option α} {l r : Tr α} : Tr.put a f (.node v l r) i = if i = 0 then some (.node (some a) l r) else if i % 2 = 1 then (Tr.put a f l (i / 2)).map (fun t => Tr.node v t r) else (Tr.put a f r (i / 2 - 1)).map fun t => Tr.node v l t := by
  show (match Nat.beq i 0 with
    | true => some (Tr.node (some a) l r)
    | false => match Nat.beq (i % 2) 1 with
      | true => match Tr.put a f l (i / 2) with
        | some t => some (Tr.node v t r)
        | none => none
      | false => match Tr.put a f r (i / 2 - 1) with
        | some t => some (Tr.node v l t)
        | none => none) = _
  rw [beq_dec, beq_dec]
  by_cases h : i = 0
  · simp [h]
  · by_cases q : i % 2 = 1
    · simp only [h, q, decide_false, decide_true, if_true, if_false]
      cases Tr.put a f l (i / 2) <;> rfl
    · simp only [h, q, decide_false, if_false]
      cases Tr.put a f r (i / 2 - 1) <;> rfl
theorem Tr.put_get {α : Type} {a : α} {f : Nat} : ∀ {t t' : Tr α} {i : Nat}, Tr.put a f t i = some t' → ∀ j, t'.get j = if j = i then some a else t.get j
  | .nil, t', i, h, j => by
    rw [Tr.put_nil] at h
    by_cases h0 : i = 0
    · rw [if_pos h0] at h
      cases h
      subst h0
      rw [Tr.get_node, Tr.get_nil, Tr.get_nil]
      by_cases hj : j = 0 <;> simp [hj, Tr.get_nil]
    · rw [if_neg h0] at h
      exact Tr.put0_get h j
  | .node v l r, t', i, h, j => by
    rw [Tr.put_node] at h
    by_cases h0 : i = 0
    · rw [if_pos h0] at h
      cases h
      subst h0
      rw [Tr.get_node, Tr.get_node]
      by_cases hj : j = 0 <;> simp [hj]
    · rw [if_neg h0] at h
      by_cases h1 : i % 2 = 1
      · rw [if_pos h1] at h
        obtain ⟨u, e, rfl⟩ := Option.map_eq_some_iff.mp h
        rw [Tr.get_node, Tr.get_node, Tr.put_get e]
        by_cases hj : j = 0
        · subst hj; simp [Ne.symm h0]
        · by_cases hp : j % 2 = 1
          · simp only [hj, hp, if_true, if_false]
            by_cases q : j / 2 = i / 2
            · have : j = i := by omega
              simp [this]
            · have : j ≠ i := fun z => q (by rw [z])
              simp [q, this]
          · have : j ≠ i := fun z => hp (by rw [z]; exact h1)
            simp [hj, hp, this]
      · rw [if_neg h1] at h
        obtain ⟨u, e, rfl⟩ := Option.map_eq_some_iff.mp h
        rw [Tr.get_node, Tr.get_node, Tr.put_get e]
        by_cases hj : j = 0
        · subst hj; simp [Ne.symm h0]
        · by_cases hp : j % 2 = 1
          · have : j ≠ i := fun z => h1 (by rw [← z]; exact hp)
            simp [hj, hp, this]
          · simp only [hj, hp, if_false]
            by_cases q : j / 2 - 1 = i / 2 - 1
            · have : j = i := by omega
              simp [this]
            · have : j ≠ i := fun z => q (by rw [z])
              simp [q, this]
/-- all boxes -/
structure Hs where
  n : Nat
  t : Tr O
  /-- boxes that are walked: not to be changed -/
  lk : List Nat
def Hs.get (h : Hs) (i : Nat) : Option O := h.t.get i
def Hs.set (h : Hs) (i : Nat) (o : O) : Option Hs := match h.lk.all fun j => !Nat.beq j i with
  | false => none
  | true => match Tr.put o 40 h.t i with
    | some t => some ⟨h.n, t, h.lk⟩
    | none => none
def Hs.new (h : Hs) (o : O) : Option Hs := match Tr.put o 40 h.t h.n with
  | some t => some ⟨h.n + 1, t, h.lk⟩
  | none => none
theorem Hs.set_ok {h h' : Hs} {i : Nat} {o : O} (e : h.set i o = some h') : i ∉ h.lk ∧ h'.lk = h.lk ∧ h'.n = h.n ∧ ∀ j, h'.get j = if j = i then some o else h.get j := by
  unfold Hs.set at e
  split at e
  · cases e
  · rename_i hl
    split at e
    · rename_i t q
      cases e
      refine ⟨fun m => ?_, rfl, rfl, Tr.put_get q⟩
      have := List.all_eq_true.mp hl i m
      rw [Nat.beq_refl] at this
      cases this
    · cases e
theorem Hs.new_lk {h h' : Hs} {o : O} (e : h.new o = some h') : h'.lk = h.lk := by
  unfold Hs.new at e; split at e <;> cases e; rfl
theorem Hs.new_n {h h' : Hs} {o : O} (e : h.new o = some h') : h'.n = h.n + 1 := by
  unfold Hs.new at e; split at e <;> cases e; rfl
theorem Hs.new_get {h h' : Hs} {o : O} (e : h.new o = some h') (j : Nat) : h'.get j = if j = h.n then some o else h.get j := by
  unfold Hs.new at e
  split at e
  · rename_i t q; cases e; exact Tr.put_get q j
  · cases e

/-! ### keys -/
mutual
def keyD : D → Option NestedKey
  | .non => some .none
  | .bl b => some (.num (if b = true then 1 else 0))
  | .int i => some (.num i)
  | .str x => some (.text x)
  | .tup ds => (keysD ds).map .tup
  | .box _ => none
  | .gl _ => none
  | .ty _ => none
  | .scr _ => none
  | .lm => none
def keysD : List D → Option (List NestedKey)
  | [] => some []
  | d :: ds => match keyD d, keysD ds with
    | some k, some ks => some (k :: ks)
    | _, _ => none
end
/-- keys of one kind: plain ones alone, or tuples not too deep -/
def leafK : NestedKey → Bool
  | .tup _ => false
  | _ => true
def homK (ks : List NestedKey) : Bool := ks.all leafK || ks.all fun x => !leafK x && decide (x.depth ≤ 8)
/-- a dict's raw object: entries with the keys' kinds -/
def DicO (w : World) (a : Addr) (es : Nat × List (NestedKey × V × V)) : HO := .ext fun h => (a == sysModules) = false ∧ es.2.length ≤ sizeLine ∧ ∃ (o : Obj) (ents : Array DictEntry), h.get? a = some o ∧ o.ExactDict ∧ o.data = .dict ents es.1 ∧
  Paired (fun (e : NestedKey × V × V) (d : DictEntry) => d.hash = e.1.hash w ∧ RelV e.2.1 d.key ∧ RelV e.2.2 d.val) es.2 ents.toList ∧ (es.2.map (·.1)).Nodup ∧ homK (es.2.map (·.1)) = true

/-- a tuple: tracked, or of the written part -/
def TupAt (K : PySem.W.Frag) (H : Hp) (a : Addr) (vs : List V) : Prop := H a = some (.tup vs) ∨
    ∃ (o : Obj) (its : Array Value) (n : Nat), K.lookup a = some o ∧ o.cls = .type "tuple" ∧ o.data = .seq its n ∧ its.size ≤ sizeLine ∧ Vals vs its.toList
theorem TupAt.sq {K : PySem.W.Frag} {H : Hp} {a : Addr} {vs : List V} (h : TupAt K H a vs) : SqT K H a vs := by
  rcases h with h | h
  · exact .inl (.inl h)
  · exact .inr h
/-- the script's list: kept by the law's head, never changed -/
def ScrAt (K : PySem.W.Frag) (H : Hp) (a : Addr) (vs : List V) : Prop := (∃ o, H a = some (.frz o (.lst vs))) ∨
    ∃ (o : Obj) (its : Array Value) (n : Nat), K.lookup a = some o ∧ o.cls = .type "list" ∧ o.dict = none ∧ o.data = .seq its n ∧ its.size ≤ sizeLine ∧ Vals vs its.toList
theorem ScrAt.sqL {K : PySem.W.Frag} {H : Hp} {a : Addr} {vs : List V} (h : ScrAt K H a vs) : SqL K H a vs := by
  rcases h with h | h
  · exact .inl (.inr h)
  · exact .inr h
/-- the tables of code objects that a lambda's making writes, and the names of the defs that make them -/
abbrev Mu0 := List Addr
class Tbs where
  T : List (Addr × Str)
  /-- where the lambda stands that was handed in -/
  fn : Option Addr
  /-- the boxes that stood where a def with a lambda began -/
  base : Mu0
  /-- code objects that stand -/
  cod : List (Addr × Str)
/-- the surroundings that values are read in -/
structure Ct where
  w : World
  K : PySem.W.Frag
  mg : Str → Option Value
abbrev Mu := List Addr
section
variable (C : Ct) (μ : Mu) (H : Hp)
mutual
def RepV : D → V → Prop
  | .non, v => v = .non
  | .bl b, v => v = .bl b
  | .int i, v => v = .int i
  | .str x, v => v = .str x
  | .tup ds, v => ∃ a vs, v = .ref a ∧ TupAt C.K H a vs ∧ RepL ds vs
  | .scr ds, v => ∃ a vs, v = .ref a ∧ ScrAt C.K H a vs ∧ RepL ds vs
  | .box n, v => ∃ a, v = .ref a ∧ μ[n]? = some a
  | .gl x, v => ∃ a, v = .ref a ∧ C.mg x = some (.ref a)
  | .ty n, v => v = .ty n.name
  | .lm, _ => False
def RepL : List D → List V → Prop
  | [], vs => vs = []
  | d :: ds, vs => ∃ v r, vs = v :: r ∧ RepV d v ∧ RepL ds r
end
/-- a box's content at its address -/
def ObR (a : Addr) : O → Prop
  | .lst ds => ∃ vs, H a = some (.lst vs) ∧ RepL C μ H ds vs
  | .dct nks ks vs => ∃ es, H a = some (DicO C.w a es) ∧ es.2.map (·.1) = nks ∧ keysD ks = some nks ∧ RepL C μ H ks (es.2.map (·.2.1)) ∧ RepL C μ H vs (es.2.map (·.2.2))
  | .lam _ _ => False
  | .exo _ _ => False
/-- the tables, the code objects -/
def TbA [Tbs] (H : Hp) : Prop := LamX.Tabs Tbs.T H ∧ ∀ p ∈ Tbs.cod, H p.1 = some (LamX.CodeO p.1 p.2)
theorem TbA.ext [Tbs] {H H' : Hp} (t : TbA H) (s : ∀ b o, H b = some o → H' b = some o) : TbA H' := ⟨t.1.ext s, fun p hp => s _ _ (t.2 p hp)⟩
structure HR [Tbs] (L : List Nat) (μ : Mu) (H : Hp) (h : Hs) : Prop where
  lk : h.lk = L
  len : μ.length = h.n
  nd : μ.Nodup ∧ Tbs.base <+: μ
  tb : TbA H
  ob : ∀ (i : Nat) (a : Addr), μ[i]? = some a → ∃ o, h.get i = some o ∧ ObR C μ H a o
end
variable [Tbs]
/-- nothing, or a table -/
def NoT (o : Option HO) : Prop := ∀ u, o = some u → ∃ ps, u = .tbl ps
theorem NoT.none {o : Option HO} (e : o = none) : NoT o := fun u z => by rw [e] at z; cases z
theorem NoT.not {o : Option HO} {u : HO} (n : NoT o) (e : o = some u) (nt : ∀ ps, u ≠ .tbl ps) : False := let ⟨ps, z⟩ := n u e; nt ps z
theorem Mut.noT {u : HO} (m : Mut (some u)) : ∀ ps, u ≠ .tbl ps := fun ps z => by rw [z] at m; exact m
/-- from one heap to a later one: boxes are only added; what is no box stays, the tables aside -/
structure Go (L : List Nat) (μ : Mu) (H : Hp) (μ' : Mu) (H' : Hp) : Prop where
  lk : ∀ i ∈ L, ∀ a, μ[i]? = some a → H' a = H a
  keep : ∀ a o, H a = some o → (∀ ps, o ≠ .tbl ps) → a ∉ μ → H' a = some o
  dom : ∀ a, NoT (H' a) → NoT (H a)
  ext : ∃ r, μ' = μ ++ r
  new : ∀ a, a ∈ μ' → a ∈ μ ∨ NoT (H a)
section
variable {C : Ct} {L : List Nat} {μ μ' μ1 μ2 : Mu} {H H' H1 H2 : Hp} {h h' h1 h2 : Hs}
theorem Go.at_ (g : Go L μ H μ' H') {i : Nat} {a : Addr} (e : μ[i]? = some a) : μ'[i]? = some a := by
  obtain ⟨r, rfl⟩ := g.ext
  rw [List.getElem?_append_left (List.getElem?_eq_some_iff.mp e).1]; exact e
theorem noT_same (s : Same H H') : ∀ a, NoT (H' a) → NoT (H a) := fun a n u e => n u (s _ _ e)
theorem Go.refl : Go L μ H μ H := ⟨fun _ _ _ _ => rfl, fun _ _ e _ _ => e, fun _ e => e, ⟨[], (List.append_nil _).symm⟩, fun _ m => .inl m⟩
theorem Go.trans (g : Go L μ H μ1 H1) (g2 : Go L μ1 H1 μ2 H2) : Go L μ H μ2 H2 := by
  refine ⟨fun i m a e => (g2.lk i m a (g.at_ e)).trans (g.lk i m a e), fun a o e nt n => ?_, fun a e => g.dom a (g2.dom a e), ?_, fun a m => ?_⟩
  · refine g2.keep a o (g.keep a o e nt n) nt fun m => ?_
    rcases g.new a m with q | q
    · exact n q
    · exact q.not e nt
  · obtain ⟨r, rfl⟩ := g.ext
    obtain ⟨r2, rfl⟩ := g2.ext
    exact ⟨r ++ r2, by rw [List.append_assoc]⟩
  · rcases g2.new a m with q | q
    · exact g.new a q
    · exact .inr (g.dom a q)
theorem Go.mem (g : Go L μ H μ' H') {a : Addr} (e : a ∈ μ) : a ∈ μ' := by
  obtain ⟨r, rfl⟩ := g.ext
  exact List.mem_append_left _ e
theorem HR.mut (r : HR C L μ H h) {a : Addr} (m : a ∈ μ) : ∃ o, H a = some o ∧ Mut (some o) := by
  obtain ⟨i, e⟩ := List.mem_iff_getElem?.mp m
  obtain ⟨o, _, q⟩ := r.ob i a e
  cases o with
  | lst ds => obtain ⟨vs, e, _⟩ := q; exact ⟨_, e, True.intro⟩
  | dct nks ks vs => obtain ⟨es, e, _⟩ := q; exact ⟨_, e, True.intro⟩
  | lam _ _ => exact q.elim
  | exo _ _ => exact q.elim
theorem HR.some_at (r : HR C L μ H h) {i : Nat} {a : Addr} (e : μ[i]? = some a) : ∃ u, H a = some u := let ⟨o, q, _⟩ := r.mut (List.mem_of_getElem? e); ⟨o, q⟩
/-- new objects alone -/
theorem Go.same (r : HR C L μ H h) (s : Same H H') (d : ∀ a, H' a = none → H a = none) : Go L μ H μ H' := ⟨fun i _ a e => by obtain ⟨u, q⟩ := r.some_at e; rw [q, s _ _ q], fun a o e _ _ => s _ _ e, noT_same s, ⟨[], (List.append_nil _).symm⟩, fun _ m => .inl m⟩
theorem HR.not_mem (r : HR C L μ H h) {a : Addr} {o : HO} (e : H a = some o) (nm : ¬ Mut (some o)) : a ∉ μ := fun m => by
  obtain ⟨u, e2, q⟩ := r.mut m
  rw [e] at e2; cases e2
  exact nm q
/-- what is immutable stays -/
structure Stay (μ : Mu) (H : Hp) (μ' : Mu) (H' : Hp) : Prop where
  b : ∀ (i : Nat) (a : Addr), μ[i]? = some a → μ'[i]? = some a
  t : ∀ a xs, H a = some (.tup xs) → H' a = some (.tup xs)
  f : ∀ a o u, H a = some (.frz o u) → H' a = some (.frz o u)
theorem Stay.refl : Stay μ H μ H := ⟨fun _ _ e => e, fun _ _ e => e, fun _ _ _ e => e⟩
theorem Stay.trans (s : Stay μ H μ1 H1) (s2 : Stay μ1 H1 μ2 H2) : Stay μ H μ2 H2 := ⟨fun i a e => s2.b i a (s.b i a e), fun a xs e => s2.t a xs (s.t a xs e), fun a o u e => s2.f a o u (s.f a o u e)⟩
theorem Go.stay (r : HR C L μ H h) (g : Go L μ H μ' H') : Stay μ H μ' H' :=
  ⟨fun i a e => g.at_ e, fun a xs e => g.keep a _ e (fun _ z => nomatch z) (r.not_mem e fun q => q), fun a o u e => g.keep a _ e (fun _ z => nomatch z) (r.not_mem e fun q => q)⟩
theorem Same.stay (s : Same H H') : Stay μ H μ H' := ⟨fun _ _ e => e, fun a xs e => s _ _ e, fun a o u e => s _ _ e⟩
theorem Stay.tupAt {K : PySem.W.Frag} (s : Stay μ H μ' H') {a : Addr} {vs : List V} (h : TupAt K H a vs) : TupAt K H' a vs := by
  rcases h with h | h
  · exact .inl (s.t _ _ h)
  · exact .inr h
theorem Stay.scr {K : PySem.W.Frag} (s : Stay μ H μ' H') {a : Addr} {vs : List V} (h : ScrAt K H a vs) : ScrAt K H' a vs := by
  rcases h with ⟨o, h⟩ | h
  · exact .inl ⟨o, s.f _ _ _ h⟩
  · exact .inr h
mutual
theorem RepV.stay (s : Stay μ H μ' H') : ∀ (d : D) (v : V), RepV C μ H d v → RepV C μ' H' d v
  | .non, _, h => h
  | .bl _, _, h => h
  | .int _, _, h => h
  | .str _, _, h => h
  | .gl _, _, h => h
  | .ty _, _, h => h
  | .lm, _, h => h
  | .tup ds, _, ⟨a, vs, e, q, r⟩ => ⟨a, vs, e, s.tupAt q, RepL.stay s ds vs r⟩
  | .scr ds, _, ⟨a, vs, e, q, r⟩ => ⟨a, vs, e, s.scr q, RepL.stay s ds vs r⟩
  | .box n, _, ⟨a, e, q⟩ => ⟨a, e, s.b _ _ q⟩
theorem RepL.stay (s : Stay μ H μ' H') : ∀ (ds : List D) (vs : List V), RepL C μ H ds vs → RepL C μ' H' ds vs
  | [], _, h => h
  | d :: ds, _, ⟨v, r, e, h1, h2⟩ => ⟨v, r, e, RepV.stay s d v h1, RepL.stay s ds r h2⟩
end
theorem RepV.go {d : D} {v : V} (q : RepV C μ H d v) (r : HR C L μ H h) (g : Go L μ H μ' H') : RepV C μ' H' d v := q.stay (g.stay r)
theorem RepL.go {d : List D} {v : List V} (q : RepL C μ H d v) (r : HR C L μ H h) (g : Go L μ H μ' H') : RepL C μ' H' d v := q.stay (g.stay r)
theorem RepL.length : ∀ {ds : List D} {vs : List V}, RepL C μ H ds vs → vs.length = ds.length
  | [], _, h => by rw [show _ = [] from h]; rfl
  | d :: ds, _, ⟨v, r, e, h1, h2⟩ => by rw [e, List.length_cons, List.length_cons, RepL.length h2]
theorem RepL.get : ∀ {ds : List D} {vs : List V} {i : Nat} {d : D}, RepL C μ H ds vs → ds[i]? = some d → ∃ v, vs[i]? = some v ∧ RepV C μ H d v
  | [], _, _, _, _, e => by simp at e
  | d :: ds, _, 0, _, ⟨v, r, e, h1, h2⟩, q => by simp at q; subst q; subst e; exact ⟨v, rfl, h1⟩
  | d :: ds, _, i + 1, _, ⟨v, r, e, h1, h2⟩, q => by
    subst e
    obtain ⟨u, a, b⟩ := RepL.get (i := i) h2 (by simpa using q)
    exact ⟨u, by simpa using a, b⟩
theorem RepL.append : ∀ {ds es : List D} {vs us : List V}, RepL C μ H ds vs → RepL C μ H es us → RepL C μ H (ds ++ es) (vs ++ us)
  | [], _, _, _, h, g => by rw [show _ = [] from h]; exact g
  | d :: ds, _, _, _, ⟨v, r, e, h1, h2⟩, g => by subst e; exact ⟨v, _, rfl, h1, RepL.append h2 g⟩
theorem RepL.set : ∀ {ds : List D} {vs : List V} {d : D} {v : V} (i : Nat), RepL C μ H ds vs → RepV C μ H d v → RepL C μ H (ds.set i d) (vs.set i v)
  | [], _, _, _, _, h, _ => by rw [show _ = [] from h]; rfl
  | d :: ds, _, _, _, 0, ⟨v, r, e, h1, h2⟩, g => by subst e; exact ⟨_, _, rfl, g, h2⟩
  | d :: ds, _, _, _, i + 1, ⟨v, r, e, h1, h2⟩, g => by subst e; exact ⟨v, _, rfl, h1, RepL.set i h2 g⟩
theorem RepL.drop : ∀ {ds : List D} {vs : List V} (i : Nat), RepL C μ H ds vs → RepL C μ H (ds.drop i) (vs.drop i)
  | _, _, 0, h => h
  | [], _, i + 1, h => by rw [show _ = [] from h]; rfl
  | d :: ds, _, i + 1, ⟨v, r, e, h1, h2⟩ => by subst e; exact RepL.drop i h2
theorem RepL.take : ∀ {ds : List D} {vs : List V} (i : Nat), RepL C μ H ds vs → RepL C μ H (ds.take i) (vs.take i)
  | _, _, 0, h => rfl
  | [], _, i + 1, h => by rw [show _ = [] from h]; rfl
  | d :: ds, _, i + 1, ⟨v, r, e, h1, h2⟩ => by subst e; exact ⟨v, _, rfl, h1, RepL.take i h2⟩
theorem RepL.eraseIdx : ∀ {ds : List D} {vs : List V} (i : Nat), RepL C μ H ds vs → RepL C μ H (ds.eraseIdx i) (vs.eraseIdx i)
  | [], _, _, h => by rw [show _ = [] from h]; rfl
  | d :: ds, _, 0, ⟨v, r, e, h1, h2⟩ => by subst e; exact h2
  | d :: ds, _, i + 1, ⟨v, r, e, h1, h2⟩ => by subst e; exact ⟨v, _, rfl, h1, RepL.eraseIdx i h2⟩
theorem RepL.nil_iff {ds : List D} {vs : List V} (h : RepL C μ H ds vs) : vs = [] ↔ ds = [] := by
  cases ds with
  | nil => exact ⟨fun _ => rfl, fun _ => h⟩
  | cons d ds => obtain ⟨v, r, rfl, _⟩ := h; exact ⟨fun e => (nomatch e), fun e => (nomatch e)⟩
theorem RepL.rev : ∀ {ds : List D} {vs : List V}, RepL C μ H ds vs → RepL C μ H ds.reverse vs.reverse
  | [], _, h => by rw [show _ = [] from h]; rfl
  | d :: ds, _, ⟨v, r, e, h1, h2⟩ => by
    subst e
    rw [List.reverse_cons, List.reverse_cons]
    exact (RepL.rev h2).append ⟨v, [], rfl, h1, rfl⟩
theorem ObR.stay {a : Addr} {o : O} (s : Stay μ H μ' H') (q : ObR C μ H a o) (e : H' a = H a) : ObR C μ' H' a o := by
  cases o with
  | lst ds => obtain ⟨vs, e1, r⟩ := q; exact ⟨vs, e.trans e1, r.stay s⟩
  | dct nks ks vs => obtain ⟨es, e1, k1, k2, r1, r2⟩ := q; exact ⟨es, e.trans e1, k1, k2, r1.stay s, r2.stay s⟩
  | lam _ _ => exact q.elim
  | exo _ _ => exact q.elim
theorem ObR.there {a : Addr} {o : O} (q : ObR C μ H a o) : ∃ u, H a = some u ∧ Mut (some u) := by
  cases o with
  | lst ds => obtain ⟨vs, e, _⟩ := q; exact ⟨_, e, True.intro⟩
  | dct nks ks vs => obtain ⟨es, e, _⟩ := q; exact ⟨_, e, True.intro⟩
  | lam _ _ => exact q.elim
  | exo _ _ => exact q.elim
/-- new objects alone, none of them a box -/
theorem HR.same (r : HR C L μ H h) (s : Same H H') : HR C L μ H' h :=
  ⟨r.lk, r.len, r.nd, r.tb.ext s, fun i a e => let ⟨o, e1, q⟩ := r.ob i a e; ⟨o, e1, q.stay (Same.stay s) (by obtain ⟨u, e2, _⟩ := q.there; rw [e2, s _ _ e2])⟩⟩
/-- no code object is a box -/
def heapN : Nat → Heap
  | 0 => { objs := #[] }
  | n + 1 => (heapN n).push { cls := .none, data := .fields #[] }
theorem heapN_size : ∀ n, (heapN n).objs.size = n
  | 0 => rfl
  | n + 1 => by
    show ((heapN n).push _).objs.size = n + 1
    rw [size_push', heapN_size n]
theorem codeO_ne_dic {c a : Addr} {q : Str} {w : World} {es : Nat × List (NestedKey × V × V)} (h : LamX.CodeO c q = DicO w c es) : False := by
  have ho : ((heapN c).push { cls := .none, data := .fields #[.none, .str q 0] }).get? c = some { cls := .none, data := .fields #[.none, .str q 0] } := by
    have := Heap.get?_push_size (heapN c) (o := { cls := .none, data := .fields #[.none, .str q 0] }) rfl
    rw [heapN_size] at this
    exact this
  unfold LamX.CodeO DicO at h
  injection h with h
  have h2 := congrFun h ((heapN c).push { cls := .none, data := .fields #[.none, .str q 0] })
  obtain ⟨_, _, o, ents, e1, e2, e3, _⟩ := h2.mp ⟨_, #[.none, .str q 0], 0, ho, rfl, rfl⟩
  rw [ho] at e1
  cases e1
  cases e3
theorem HR.code (r : HR C L μ H h) {c : Addr} {q : Str} (e : H c = some (LamX.CodeO c q)) : c ∉ μ := fun m => by
  obtain ⟨i, ei⟩ := List.mem_iff_getElem?.mp m
  obtain ⟨o, _, b⟩ := r.ob i c ei
  cases o with
  | lst ds => obtain ⟨vs, e1, _⟩ := b; rw [e] at e1; cases e1
  | dct nks ks vs => obtain ⟨es, e1, _⟩ := b; rw [e] at e1; exact codeO_ne_dic (a := c) (Option.some.inj e1)
  | lam _ _ => exact b.elim
  | exo _ _ => exact b.elim
/-- the tables, where no more than boxes change -/
theorem HR.tabs (r : HR C L μ H h) (k : ∀ b, b ∉ μ → H' b = H b) : TbA H' := by
  refine ⟨fun p hp => ?_, fun p hp => (k _ (r.code (r.tb.2 p hp))).trans (r.tb.2 p hp)⟩
  obtain ⟨ps, h1, h2, h3⟩ := r.tb.1 p hp
  refine ⟨ps, (k _ (r.not_mem h1 fun q => q)).trans h1, h2, fun pos cv hc => ?_⟩
  obtain ⟨c, e1, e2⟩ := h3 pos cv hc
  exact ⟨c, e1, (k _ (r.code e2)).trans e2⟩
/-- a new box -/
theorem HR.new {a : Addr} {o : O} (r : HR C L μ H h) (s : Same H H') (d : ∀ b, H' b = none → H b = none) (ha : H a = none) (q : ObR C (μ ++ [a]) H' a o) (e : h.new o = some h') : HR C L (μ ++ [a]) H' h' ∧ Go L μ H (μ ++ [a]) H' := by
  have na : a ∉ μ := fun m => by obtain ⟨u, e2, _⟩ := r.mut m; rw [ha] at e2; cases e2
  have st : Stay μ H (μ ++ [a]) H' := ⟨fun i b e => by rw [List.getElem?_append_left (List.getElem?_eq_some_iff.mp e).1]; exact e, fun _ _ e => s _ _ e, fun _ _ _ e => s _ _ e⟩
  refine ⟨⟨(Hs.new_lk e).trans r.lk, by rw [List.length_append, r.len, Hs.new_n e]; rfl, ⟨?_, r.nd.2.trans ⟨[a], rfl⟩⟩, r.tb.ext s, fun i b eb => ?_⟩, fun i _ b eb => by obtain ⟨u, q⟩ := r.some_at eb; rw [q, s _ _ q], fun b u eb _ _ => s _ _ eb, noT_same s, ⟨[a], rfl⟩, fun b m => ?_⟩
  · rw [List.nodup_append]
    exact ⟨r.nd.1, by simp, fun x hx y hy => by rw [List.mem_singleton] at hy; subst hy; exact fun z => na (z ▸ hx)⟩
  · rw [Hs.new_get e]
    by_cases hi : i = h.n
    · subst hi
      rw [if_pos rfl]
      rw [← r.len, List.getElem?_append_right (Nat.le_refl _)] at eb
      simp at eb; subst eb
      exact ⟨o, rfl, q⟩
    · rw [if_neg hi]
      have hl := (List.getElem?_eq_some_iff.mp eb).1
      rw [List.length_append, List.length_singleton, r.len] at hl
      rw [List.getElem?_append_left (by rw [r.len]; omega)] at eb
      obtain ⟨u, e1, q1⟩ := r.ob i b eb
      exact ⟨u, e1, q1.stay st (by obtain ⟨y, e2, _⟩ := q1.there; rw [e2, s _ _ e2])⟩
  · rcases List.mem_append.mp m with m | m
    · exact .inl m
    · rw [List.mem_singleton] at m; subst m; exact .inr (NoT.none ha)
/-- a box changed -/
theorem HR.set {a : Addr} {o : O} {i : Nat} (r : HR C L μ H h) (ha : μ[i]? = some a) (hb : ∀ b, b ≠ a → H' b = H b) (hs : ∃ u, H' a = some u) (q : ObR C μ H' a o) (e : h.set i o = some h') : HR C L μ H' h' ∧ Go L μ H μ H' := by
  have ma : a ∈ μ := List.mem_of_getElem? ha
  have st : Stay μ H μ H' := ⟨fun _ _ e => e, fun b xs e => by rw [hb b fun z => r.not_mem e (fun q => q) (z ▸ ma)]; exact e, fun b u v e => by rw [hb b fun z => r.not_mem e (fun q => q) (z ▸ ma)]; exact e⟩
  obtain ⟨nl, el, en, eg⟩ := Hs.set_ok e
  have na : ∀ j b, μ[j]? = some b → j ≠ i → b ≠ a := fun j b eb hj z => by
    subst z
    exact hj ((List.getElem?_inj (List.getElem?_eq_some_iff.mp eb).1 r.nd.1).mp (eb.trans ha.symm))
  refine ⟨⟨el.trans r.lk, by rw [r.len, en], r.nd, r.tabs fun b nb => hb b fun z => nb (z ▸ ma), fun j b eb => ?_⟩, fun j m b eb => hb b (na j b eb fun z => nl (by rw [r.lk]; exact z ▸ m)), fun b u eb _ nb => by rw [hb b fun z => nb (z ▸ ma)]; exact eb, fun b eb => ?_, ⟨[], (List.append_nil _).symm⟩, fun _ m => .inl m⟩
  · rw [eg]
    by_cases hj : j = i
    · subst hj
      rw [if_pos rfl]
      rw [ha] at eb; cases eb
      exact ⟨o, rfl, q⟩
    · rw [if_neg hj]
      have nb : b ≠ a := na j b eb hj
      obtain ⟨u, e1, q1⟩ := r.ob j b eb
      exact ⟨u, e1, q1.stay st (hb b nb)⟩
  · by_cases z : b = a
    · subst z; obtain ⟨u, e2, m2⟩ := q.there; exact (NoT.not eb e2 (Mut.noT m2)).elim
    · rw [← hb b z]; exact eb
end

/-! ### the frame -/
abbrev En := List (Option D)
/-- a slot's value -/
def RepS (C : Ct) (μ : Mu) (H : Hp) : D → V → Prop
  | .lm, v => ∃ a, Tbs.fn = some a ∧ v = .ref a
  | d, v => RepV C μ H d v
structure Rel (C : Ct) (L : List Nat) (ρ : En) (σ : L2.St) (μ : Mu) (H : Hp) (h : Hs) : Prop where
  len : ρ.length = σ.length
  val : ∀ (i : Nat) (d : D), ρ[i]? = some (some d) → ∃ v, σ[i]? = some (some v) ∧ RepS C μ H d v
  hr : HR C L μ H h
section
variable {C : Ct} {L : List Nat} {ρ : En} {σ : L2.St} {μ μ' : Mu} {H H' : Hp} {h h' : Hs}
theorem RepV.s {d : D} {v : V} (q : RepV C μ H d v) : RepS C μ H d v := by
  cases d <;> first | exact q | exact False.elim q
theorem RepS.v {d : D} {v : V} (q : RepS C μ H d v) (n : d ≠ .lm) : RepV C μ H d v := by
  cases d <;> first | exact q | exact absurd rfl n
theorem RepS.stay {d : D} {v : V} (q : RepS C μ H d v) (s : Stay μ H μ' H') : RepS C μ' H' d v := by
  cases d <;> first | exact RepV.stay s _ _ q | exact q
theorem RepS.go {d : D} {v : V} (q : RepS C μ H d v) (r : HR C L μ H h) (g : Go L μ H μ' H') : RepS C μ' H' d v := q.stay (g.stay r)
theorem Rel.go (r : Rel C L ρ σ μ H h) (g : Go L μ H μ' H') (r' : HR C L μ' H' h') : Rel C L ρ σ μ' H' h' :=
  ⟨r.len, fun i d e => let ⟨v, a, b⟩ := r.val i d e; ⟨v, a, b.go r.hr g⟩, r'⟩
theorem Rel.set (r : Rel C L ρ σ μ H h) {i : Nat} {d : D} {x : V} (q : RepV C μ H d x) : Rel C L (ρ.set i (some d)) (σ.set i (some x)) μ H h := by
  refine ⟨by rw [List.length_set, List.length_set]; exact r.len, fun j e ej => ?_, r.hr⟩
  by_cases hj : i = j
  · subst hj
    have hl : i < ρ.length := by
      have := (List.getElem?_eq_some_iff.mp ej).1
      rwa [List.length_set] at this
    rw [List.getElem?_set_self hl] at ej; cases ej
    exact ⟨x, List.getElem?_set_self (r.len ▸ hl), q.s⟩
  · rw [List.getElem?_set_ne hj] at ej ⊢
    exact r.val j e ej
end
end Rh

set_option Elab.async false
set_option linter.all false
set_option maxRecDepth 100000
set_option autoImplicit false
namespace Rh
open PySem PySem.Spec PyProof.Rows L2
variable [Tbs]

abbrev ctX (X : Cx) : Ct := ⟨X.w, X.K, X.mg⟩
inductive R (α : Type) where
  | ok (a : α) (h : Hs)
  | ex (c : Str) (fs : List (Str × D)) (h : Hs)
abbrev M (α : Type) := En → Hs → Option (R α)
def mPure {α : Type} (a : α) : M α := fun _ h => some (.ok a h)
def mBind {α β : Type} (m : M α) (g : α → M β) : M β := fun ρ h => match m ρ h with
  | none => none
  | some (.ok a h1) => g a ρ h1
  | some (.ex c fs h1) => some (.ex c fs h1)
/-- an exception -/
def RepX (C : Ct) (μ : Mu) (H : Hp) (c : Str) (fs : List (Str × D)) (cls : Value) (d : Option Addr) : Prop :=
  (∃ a, C.mg c = some (.ref a) ∧ cls = .ref a) ∧ match fs with
    | [] => d = none
    | fs => ∃ dx vs, d = some dx ∧ H dx = some (.xd vs) ∧ vs.map (·.1) = fs.map (·.1) ∧ RepL C μ H (fs.map (·.2)) (vs.map (·.2))
section
variable (X : Cx) (W : WX)
def Sat {α : Type} (L : List Nat) (σ : L2.St) (μ : Mu) (H : Hp) (o : Option (R α)) (P : α → Hs → Mu → Hp → Prop) : Prop := match o with
  | none => False
  | some (.ok a h') => ∀ μ' H', Go L μ H μ' H' → HR (ctX X) L μ' H' h' → P a h' μ' H'
  | some (.ex c fs h') => ∀ cls d μ' H', Go L μ H μ' H' → HR (ctX X) L μ' H' h' → RepX (ctX X) μ' H' c fs cls d → W cls d σ H'
/-- a mirror's reading, from some frame and boxes -/
def rdG {α : Type} (m : M α) (σ : L2.St) (H : Hp) (P : En → List Nat → α → Hs → Mu → Hp → Prop) : Prop := ∃ ρ L μ h, Rel (ctX X) L ρ σ μ H h ∧ Sat X W L σ μ H (m ρ h) (P ρ L)
def rd (m : M D) : TE := fun σ H Q => rdG X W m σ H fun _ _ d _ μ' H' => ∀ x, RepV (ctX X) μ' H' d x → Q x H'
def rdA (m : M (List D)) : TA := fun σ H Q => rdG X W m σ H fun _ _ ds _ μ' H' => ∀ xs, RepL (ctX X) μ' H' ds xs → Q xs H'
def rdT (m : M Bool) : TT := fun σ H Q => rdG X W m σ H fun _ _ b _ _ H' => Q b H'
end
section
variable {X : Cx} {W : WX} {L : List Nat} {ρ : En} {σ : L2.St} {H H' H1 H2 : Hp} {μ μ' μ1 μ2 : Mu} {h h' h1 h2 : Hs}
theorem Sat.none {α : Type} {P : α → Hs → Mu → Hp → Prop} (q : Sat X W L σ μ H none P) {C : Prop} : C := False.elim q
/-- sequence, the later part in a later state -/
theorem Sat.bind {α β : Type} {m : M α} {g : α → M β} {P : β → Hs → Mu → Hp → Prop} (r : Rel (ctX X) L ρ σ μ H h) (q : Sat X W L σ μ H (mBind m g ρ h) P) :
    Sat X W L σ μ H (m ρ h) fun a h1 μ1 H1 => Go L μ H μ1 H1 ∧ Rel (ctX X) L ρ σ μ1 H1 h1 ∧ Sat X W L σ μ1 H1 (g a ρ h1) P := by
  unfold mBind at q
  cases e : m ρ h with
  | none => rw [e] at q; exact q.none
  | some o =>
    rw [e] at q
    cases o with
    | ex c fs ρ1 => exact q
    | ok a h1 =>
      intro μ1 H1 g1 r1
      have q : Sat X W L σ μ H (g a ρ h1) P := q
      refine ⟨g1, r.go g1 r1, ?_⟩
      cases e2 : g a ρ h1 with
      | none => rw [e2] at q; exact q.none
      | some o =>
        rw [e2] at q
        cases o with
        | ok b h2 => exact fun μ2 H2 g2 r2 => q μ2 H2 (g1.trans g2) r2
        | ex c fs h2 => exact fun cls d μ2 H2 g2 r2 x => q cls d μ2 H2 (g1.trans g2) r2 x
theorem Sat.imp {α : Type} {o : Option (R α)} {P P' : α → Hs → Mu → Hp → Prop} (q : Sat X W L σ μ H o P) (k : ∀ a h' μ' H', Go L μ H μ' H' → HR (ctX X) L μ' H' h' → P a h' μ' H' → P' a h' μ' H') : Sat X W L σ μ H o P' := by
  cases o with
  | none => exact q.none
  | some o =>
    cases o with
    | ok a h1 => exact fun μ1 H1 g r => k _ _ _ _ g r (q μ1 H1 g r)
    | ex c fs ρ1 => exact q
theorem Sat.start {α : Type} {o : Option (R α)} {P : α → Hs → Mu → Hp → Prop} (q : Sat X W L σ μ H o P) (g : Go L μ H μ1 H1) : Sat X W L σ μ1 H1 o P := by
  cases o with
  | none => exact q.none
  | some o =>
    cases o with
    | ok a h1 => exact fun μ2 H2 g2 r => q μ2 H2 (g.trans g2) r
    | ex c fs h1 => exact fun cls d μ2 H2 g2 r x => q cls d μ2 H2 (g.trans g2) r x
theorem rdG_bind {α β : Type} {m : M α} {g : α → M β} {P : En → List Nat → β → Hs → Mu → Hp → Prop} (q : rdG X W (mBind m g) σ H P) :
    rdG X W m σ H fun ρ L a h1 μ1 H1 => Rel (ctX X) L ρ σ μ1 H1 h1 ∧ Sat X W L σ μ1 H1 (g a ρ h1) (P ρ L) := by
  obtain ⟨ρ, L, μ, h, rel, q⟩ := q
  exact ⟨ρ, L, μ, h, rel, (q.bind rel).imp fun a h1 μ1 H1 _ _ p => p.2⟩
theorem rdG_imp {α : Type} {m : M α} {P P' : En → List Nat → α → Hs → Mu → Hp → Prop} (q : rdG X W m σ H P) (k : ∀ ρ L a h' μ' H', P ρ L a h' μ' H' → P' ρ L a h' μ' H') : rdG X W m σ H P' := by
  obtain ⟨ρ, L, μ, h, rel, q⟩ := q
  exact ⟨ρ, L, μ, h, rel, q.imp fun a h1 μ1 H1 _ _ p => k _ _ _ _ _ _ p⟩
theorem rdG_pure {α : Type} {a : α} {P : En → List Nat → α → Hs → Mu → Hp → Prop} (q : rdG X W (mPure a) σ H P) : ∃ ρ L μ h, Rel (ctX X) L ρ σ μ H h ∧ P ρ L a h μ H := by
  obtain ⟨ρ, L, μ, h, rel, q⟩ := q
  exact ⟨ρ, L, μ, h, rel, q μ H .refl rel.hr⟩
end

/-! ### values from values -/
/-- a value, or what a new box holds -/
inductive Nv where | v (d : D) | n (o : O)
def Nv.lift (n : Nv) (h : Hs) : Option (R D) := match n with
  | .v d => some (.ok d h)
  | .n o => match h.new o with
    | some h' => some (.ok (.box h.n) h')
    | none => none
def RepN (C : Ct) (μ : Mu) (H H' : Hp) (n : Nv) (x : V) : Prop := match n with
  | .v d => RepV C μ H' d x
  | .n o => ∃ a, x = .ref a ∧ H a = none ∧ ∀ r, ObR C (μ ++ r) H' a o
/-- what is wanted of a value rule: new objects alone -/
abbrev Want (C : Ct) (μ : Mu) (H : Hp) (n : Nv) (Q : VK) : Prop := ∀ x H', Same H H' → (∀ a, H' a = none → H a = none) → RepN C μ H H' n x → Q x H'
def Cov2 (C : Ct) (r : R2) (f : Hs → D → D → Option Nv) : Prop := ∀ (H : Hp) (L : List Nat) (μ : Mu) (h : Hs) (x y : V) (d e : D) (n : Nv) (Q : VK), HR C L μ H h → RepV C μ H d x → RepV C μ H e y → f h d e = some n → Want C μ H n Q → r x y H Q
def Cov1 (C : Ct) (r : V → Hp → VK → Prop) (f : Hs → D → Option Nv) : Prop := ∀ (H : Hp) (L : List Nat) (μ : Mu) (h : Hs) (x : V) (d : D) (n : Nv) (Q : VK), HR C L μ H h → RepV C μ H d x → f h d = some n → Want C μ H n Q → r x H Q
def CovA (C : Ct) (r : List V → Hp → VK → Prop) (f : Hs → List D → Option Nv) : Prop := ∀ (H : Hp) (L : List Nat) (μ : Mu) (h : Hs) (xs : List V) (ds : List D) (n : Nv) (Q : VK), HR C L μ H h → RepL C μ H ds xs → f h ds = some n → Want C μ H n Q → r xs H Q
def lift (h : Hs) (o : Option Nv) : Option (R D) := match o with
  | none => none
  | some n => n.lift h
def mOp2 (f : Hs → D → D → Option Nv) (a b : M D) : M D := mBind a fun x => mBind b fun y => fun _ h => lift h (f h x y)
def mOp1 (f : Hs → D → Option Nv) (a : M D) : M D := mBind a fun x => fun _ h => lift h (f h x)
def mOpA (f : Hs → List D → Option Nv) (a : M (List D)) : M D := mBind a fun xs => fun _ h => lift h (f h xs)
section
variable {X : Cx} {W : WX} {L : List Nat} {ρ : En} {σ : L2.St} {H H' H1 H2 : Hp} {μ μ' μ1 μ2 : Mu} {h h' h1 h2 : Hs} {Q : VK}
/-- the end of a value rule -/
theorem Sat.lift {n : Option Nv} (r : HR (ctX X) L μ H h) (q : Sat X W L σ μ H (lift h n) fun d h' μ' H' => ∀ x, RepV (ctX X) μ' H' d x → Q x H') : ∃ m, n = some m ∧ Want (ctX X) μ H m Q := by
  cases n with
  | none => exact q.none
  | some m =>
    refine ⟨m, rfl, fun x H' s dm rn => ?_⟩
    cases m with
    | v d => exact q μ H' (.same r s dm) (r.same s) x rn
    | n o =>
      obtain ⟨a, rfl, ha, ob⟩ := rn
      have q : Sat X W L σ μ H ((Nv.n o).lift h) fun d h' μ' H' => ∀ x, RepV (ctX X) μ' H' d x → Q x H' := q
      unfold Nv.lift at q
      cases e : h.new o with
      | none => simp only [e] at q; exact q.none
      | some h' =>
        simp only [e] at q
        obtain ⟨r', g⟩ := r.new s dm ha (ob [a]) e
        refine q _ H' g r' (.ref a) ⟨a, rfl, ?_⟩
        rw [← r.len, List.getElem?_append_right (Nat.le_refl _)]
        simp
theorem rd_op2 {r : R2} {f : Hs → D → D → Option Nv} {a b : M D} (c : Cov2 (ctX X) r f) (q : rd X W (mOp2 f a b) σ H Q) : tOp r (rd X W a) (rd X W b) σ H Q := by
  obtain ⟨ρ, L, μ, h, rel, q⟩ := q
  refine ⟨ρ, L, μ, h, rel, (q.bind rel).imp fun x h1 μ1 H1 g1 _ ⟨_, rel1, q1⟩ vx rx => ⟨ρ, L, μ1, h1, rel1, (q1.bind rel1).imp fun y h2 μ2 H2 g2 _ ⟨_, rel2, q2⟩ vy ry => ?_⟩⟩
  obtain ⟨n, en, want⟩ := Sat.lift rel2.hr q2
  exact c _ _ _ _ _ _ _ _ _ _ rel2.hr (rx.go rel1.hr g2) ry en want
theorem rd_op1 {r : V → Hp → VK → Prop} {f : Hs → D → Option Nv} {a : M D} (c : Cov1 (ctX X) r f) (q : rd X W (mOp1 f a) σ H Q) : tUn r (rd X W a) σ H Q := by
  obtain ⟨ρ, L, μ, h, rel, q⟩ := q
  refine ⟨ρ, L, μ, h, rel, (q.bind rel).imp fun x h1 μ1 H1 g1 _ ⟨_, rel1, q1⟩ vx rx => ?_⟩
  obtain ⟨n, en, want⟩ := Sat.lift rel1.hr q1
  exact c _ _ _ _ _ _ _ _ rel1.hr rx en want
theorem rd_opA {r : List V → Hp → VK → Prop} {f : Hs → List D → Option Nv} {a : M (List D)} (c : CovA (ctX X) r f) (q : rd X W (mOpA f a) σ H Q) : tCB r (rdA X W a) σ H Q := by
  obtain ⟨ρ, L, μ, h, rel, q⟩ := q
  refine ⟨ρ, L, μ, h, rel, (q.bind rel).imp fun x h1 μ1 H1 g1 _ ⟨_, rel1, q1⟩ vx rx => ?_⟩
  obtain ⟨n, en, want⟩ := Sat.lift rel1.hr q1
  exact c _ _ _ _ _ _ _ _ rel1.hr rx en want

/-! ### expressions -/
theorem pe_imp {e : Expr} {t t' : TE} (p : PE X e t) (h : ∀ σ H Q, t' σ H Q → t σ H Q) : PE X e t' := ⟨fun pins s σ H Q I q => p.run pins s σ H Q I (h _ _ _ q)⟩
theorem pt_imp {e : Expr} {t t' : TT} (p : PT X e t) (h : ∀ σ H Q, t' σ H Q → t σ H Q) : PT X e t' := ⟨fun pins s σ H Q I q => p.run pins s σ H Q I (h _ _ _ q)⟩
theorem pw_imp {e : Expr} {t t' : TT} (p : PW X e t) (h : ∀ σ H Q, t' σ H Q → t σ H Q) : PW X e t' := ⟨fun wh pins s σ H Q I q => p.run wh pins s σ H Q I (h _ _ _ q)⟩
theorem pa_imp {e : List Expr} {t t' : TA} (p : PA X e t) (h : ∀ σ H Q, t' σ H Q → t σ H Q) : PA X e t' := ⟨fun pos pins s σ H Q I q => p.run pos pins s σ H Q I (h _ _ _ q)⟩
theorem ps_imp {e : Stmt} {t t' : TS} (p : PS X e t) (h : ∀ D σ H, t' D σ H → t D σ H) : PS X e t' := ⟨fun pins s σ H D I q => p.run pins s σ H D I (h _ _ _ q)⟩
theorem pss_imp {e : List Stmt} {t t' : TS} (p : PSs X e t) (h : ∀ D σ H, t' D σ H → t D σ H) : PSs X e t' := ⟨fun pins s σ H D I q => p.run pins s σ H D I (h _ _ _ q)⟩
theorem pi_imp {tg e : Expr} {t t' : TI} (p : PI X tg e t) (h : ∀ σ H Q, t' σ H Q → t σ H Q) : PI X tg e t' := ⟨fun pins s σ H Q I q => p.run pins s σ H Q I (h _ _ _ q)⟩
theorem pg_imp {e : Expr} {t t' : TG} (p : PG X e t) (h : ∀ v σ H Q, t' v σ H Q → t v σ H Q) : PG X e t' := ⟨fun pins s σ H v u Q I r q => p.run pins s σ H v u Q I r (h _ _ _ _ q)⟩
theorem pgs_imp {e : List Expr} {t t' : TGs} (p : PGs X e t) (h : ∀ v σ H Q, t' v σ H Q → t v σ H Q) : PGs X e t' := ⟨fun pins s σ H v u Q I r q => p.run pins s σ H v u Q I r (h _ _ _ _ q)⟩

def okS (d : D) (h : Hs) : Option (R D) := match d with
  | .lm => none
  | d => some (.ok d h)
theorem okS_ok {d : D} {h : Hs} (nl : d ≠ .lm) : okS d h = some (.ok d h) := by
  cases d <;> first | rfl | exact absurd rfl nl
def mVar (i : Nat) : M D := fun ρ h => match ρ[i]? with
  | some (some d) => okS d h
  | _ => none
def mCon (d : D) : M D := mPure d
theorem e_var {i : Nat} {x : Str} {pos : Pos} (hN : X.N[i]? = some x) (hv : Vis X.env.scope x) (hd : (x == ("__debug__" : Str)) = false := by decide) (hcd : (x == ("__classdict__" : Str)) = false := by decide) : PE X (.Name x pos) (rd X W (mVar i)) := by
  refine pe_imp (pe_var hN hv hd hcd) fun σ H Q ⟨ρ, L, μ, h, rel, q⟩ => ?_
  unfold mVar at q
  cases e : ρ[i]? with
  | none => rw [e] at q; exact q.none
  | some o =>
    cases o with
    | none => rw [e] at q; exact q.none
    | some d =>
      rw [e] at q
      obtain ⟨y, e1, ry⟩ := rel.val i d e
      cases d <;> first | exact q.none | exact ⟨y, e1, q μ H .refl rel.hr y ry⟩
theorem rd_con {d : D} {v : V} (hv : ∀ μ H, RepV (ctX X) μ H d v) (q : rd X W (mCon d) σ H Q) : Q v H := by
  obtain ⟨ρ, L, μ, h, rel, q⟩ := rdG_pure q
  exact q v (hv _ _)
theorem e_int {i : Int} {j} {pos : Pos} : PE X (.Constant (.int i) j pos) (rd X W (mCon (.int i))) := pe_imp pe_int fun _ _ _ q => rd_con (d := .int i) (fun _ _ => rfl) q
theorem e_bl {b : Bool} {j} {pos : Pos} : PE X (.Constant (.bool b) j pos) (rd X W (mCon (.bl b))) := pe_imp pe_bl fun _ _ _ q => rd_con (d := .bl b) (fun _ _ => rfl) q
theorem e_non {j} {pos : Pos} : PE X (.Constant .none j pos) (rd X W (mCon .non)) := pe_imp pe_non fun _ _ _ q => rd_con (d := .non) (fun _ _ => rfl) q
theorem e_str {x : Str} {j} {pos : Pos} : PE X (.Constant (.str x) j pos) (rd X W (mCon (.str x))) := pe_imp pe_str fun _ _ _ q => rd_con (d := .str x) (fun _ _ => rfl) q
theorem e_ty {x : Str} {n : Ty} {pos : Pos} (hg : Gl X x) (hm : X.mg x = none) (hv : bootBuiltins x = some (.type n.name)) (hn : x ≠ "__name__" := by decide) (hd : (x == ("__debug__" : Str)) = false := by decide) : PE X (.Name x pos) (rd X W (mCon (.ty n))) :=
  pe_imp (pe_bltn (v := .ty n.name) hg hm hv rfl hn hd) fun _ _ _ q => rd_con (d := .ty n) (fun _ _ => rfl) q
theorem e_bin {op : Operator} {r : R2} {f : Hs → D → D → Option Nv} {a b : Expr} {ma mb : M D} {pos : Pos} (ho : OpR X (binaryOp op) r) (c : Cov2 (ctX X) r f) (ha : PE X a (rd X W ma)) (hb : PE X b (rd X W mb)) : PE X (.BinOp a op b pos) (rd X W (mOp2 f ma mb)) :=
  pe_imp (pe_op ho ha hb) fun _ _ _ q => rd_op2 c q
theorem e_cmp {op : CmpOp} {r : R2} {f : Hs → D → D → Option Nv} {a b : Expr} {ma mb : M D} {pos : Pos} (ho : OpR X (compareOp op) r) (c : Cov2 (ctX X) r f) (hm : behindInMarks op b = false) (ha : PE X a (rd X W ma)) (hb : PE X b (rd X W mb)) : PE X (.Compare a [op] [b] pos) (rd X W (mOp2 f ma mb)) :=
  pe_imp (pe_cmpR ho ha hb hm) fun _ _ _ q => rd_op2 c q
theorem e_un {op : UnaryOp} {r : V → Hp → VK → Prop} {f : Hs → D → Option Nv} {a : Expr} {ma : M D} {pos : Pos} (ho : UnR X (unaryOp op) r) (c : Cov1 (ctX X) r f) (ha : PE X a (rd X W ma)) : PE X (.UnaryOp op a pos) (rd X W (mOp1 f ma)) :=
  pe_imp (pe_un ho ha) fun _ _ _ q => rd_op1 c q
theorem e_ix {r : R2} {f : Hs → D → D → Option Nv} {a b : Expr} {ma mb : M D} {pos : Pos} (ho : IxR X r) (c : Cov2 (ctX X) r f) (ha : PE X a (rd X W ma)) (hb : PE X b (rd X W mb)) (hs : PlainIx b := by exact fun _ _ => rfl) : PE X (.Subscript a b pos) (rd X W (mOp2 f ma mb)) :=
  pe_imp (pe_ix ho ha hb hs) fun _ _ _ q => rd_op2 c q

/-! argument lists, displays -/
def mNil : M (List D) := mPure []
def mCons (a : M D) (r : M (List D)) : M (List D) := mBind a fun x => mBind r fun xs => mPure (x :: xs)
theorem a_nil : PA X [] (rdA X W mNil) := pa_imp pa_nil fun σ H Q q => let ⟨_, _, _, _, _, k⟩ := rdG_pure q; k [] rfl
theorem rd_cons {m : M D} {ms : M (List D)} {Q : List V → Hp → Prop} (q : rdA X W (mCons m ms) σ H Q) : rd X W m σ H fun x H1 => rdA X W ms σ H1 fun xs H2 => Q (x :: xs) H2 := by
  obtain ⟨ρ, L, μ, h, rel, q⟩ := q
  refine ⟨ρ, L, μ, h, rel, (q.bind rel).imp fun x h1 μ1 H1 g1 _ ⟨_, rel1, q1⟩ vx rx => ⟨ρ, L, μ1, h1, rel1, (q1.bind rel1).imp fun y h2 μ2 H2 g2 _ ⟨_, rel2, q2⟩ vy ry => ?_⟩⟩
  exact q2 μ2 H2 .refl rel2.hr (vx :: vy) ⟨vx, vy, rfl, rx.go rel1.hr g2, ry⟩
theorem a_cons {e : Expr} {es : List Expr} {m : M D} {ms : M (List D)} (ha : PE X e (rd X W m)) (hr : PA X es (rdA X W ms)) (hs : starEach (e :: es) X.env = (false, eval e X.env) :: starEach es X.env := by rfl) : PA X (e :: es) (rdA X W (mCons m ms)) :=
  pa_imp (pa_cons ha hr hs) fun σ H Q q => rd_cons q
theorem small6 {n : Nat} (h : n ≤ 1000000) : n ≤ sizeLine := by rw [sizeLine_eq]; omega
theorem small6' {n : Nat} (h : n < 1000000) : n < sizeLine := by rw [sizeLine_eq]; omega
theorem same_new {p : Addr} {o : HO} (h : H p = none) : Same H (upd H p o) ∧ ∀ a, upd H p o a = none → H a = none := by
  refine ⟨fun b x e => by rw [upd_ne (ne_of_none e h)]; exact e, fun a e => ?_⟩
  unfold upd at e
  split at e
  · cases e
  · exact e
theorem Want.old {C : Ct} {d : D} {x : V} (k : Want C μ H (.v d) Q) (r : RepV C μ H d x) : Q x H := k x H (fun _ _ e => e) (fun _ e => e) r
theorem Want.tup {C : Ct} {ds : List D} {vs : List V} {p : Addr} (k : Want C μ H (.v (.tup ds)) Q) (r : RepL C μ H ds vs) (hp : H p = none) : Q (.ref p) (upd H p (.tup vs)) := by
  obtain ⟨s, dm⟩ := same_new (o := .tup vs) hp
  exact k _ _ s dm ⟨p, vs, rfl, .inl upd_same, r.stay (Same.stay s)⟩
theorem stay_more {r : Mu} (s : Same H H') : Stay μ H (μ ++ r) H' := ⟨fun i a e => by rw [List.getElem?_append_left (List.getElem?_eq_some_iff.mp e).1]; exact e, fun a xs e => s _ _ e, fun a o u e => s _ _ e⟩
theorem Want.lst {C : Ct} {ds : List D} {vs : List V} {p : Addr} (k : Want C μ H (.n (.lst ds)) Q) (r : RepL C μ H ds vs) (hp : H p = none) : Q (.ref p) (upd H p (.lst vs)) := by
  obtain ⟨s, dm⟩ := same_new (o := .lst vs) hp
  exact k _ _ s dm ⟨p, rfl, hp, fun m => ⟨vs, upd_same, r.stay (stay_more s)⟩⟩
def mDisp (f : List D → Nv) (ms : M (List D)) : M D := mBind ms fun ds => fun _ h => if ds.length ≤ 1000000 then (f ds).lift h else none
theorem rd_disp {f : List D → Nv} {ms : M (List D)} {ts : List V → Hp → Prop} (q : rd X W (mDisp f ms) σ H Q)
    (k : ∀ ds vs μ1 H1, ds.length ≤ 1000000 → RepL (ctX X) μ1 H1 ds vs → Want (ctX X) μ1 H1 (f ds) Q → ts vs H1) : rdA X W ms σ H ts := by
  obtain ⟨ρ, L, μ, h, rel, q⟩ := q
  refine ⟨ρ, L, μ, h, rel, (q.bind rel).imp fun ds h1 μ1 H1 g1 _ ⟨_, rel1, q1⟩ vs rs => ?_⟩
  split at q1
  · rename_i hl
    obtain ⟨m, em, want⟩ := Sat.lift (n := some (f ds)) rel1.hr q1
    cases em
    exact k ds vs μ1 H1 hl rs want
  · exact q1.none
def mTup (ms : M (List D)) : M D := mDisp (fun ds => .v (.tup ds)) ms
def mLst (ms : M (List D)) : M D := mDisp (fun ds => .n (.lst ds)) ms
theorem e_tup {es : List Expr} {ms : M (List D)} {x1} {pos : Pos} (ha : PA X es (rdA X W ms)) : PE X (.Tuple es x1 pos) (rd X W (mTup ms)) :=
  pe_imp (pe_tup ha) fun σ H Q q => rd_disp q fun ds vs μ1 H1 hl rl want => ⟨by rw [rl.length]; exact small6 hl, fun p hp => want.tup rl hp⟩
theorem e_lst {es : List Expr} {ms : M (List D)} {pos : Pos} (ha : PA X es (rdA X W ms)) : PE X (.List es pos) (rd X W (mLst ms)) :=
  pe_imp (pe_lst ha) fun σ H Q q => rd_disp q fun ds vs μ1 H1 hl rl want => ⟨by rw [rl.length]; exact small6 hl, fun p hp => want.lst rl hp⟩
end
end Rh

set_option Elab.async false
set_option linter.all false
set_option maxRecDepth 100000
set_option maxHeartbeats 2000000
set_option autoImplicit false
namespace Rh
open PySem PySem.Spec PyProof.Rows L2
variable [Tbs]

/-! ### boxes read -/
section
variable {C : Ct} {L : List Nat} {μ : Mu} {H : Hp} {h : Hs}
theorem HR.box (r : HR C L μ H h) {n : Nat} {x : V} (q : RepV C μ H (.box n) x) : ∃ a o, x = .ref a ∧ μ[n]? = some a ∧ h.get n = some o ∧ ObR C μ H a o := by
  obtain ⟨a, e, m⟩ := q
  obtain ⟨o, e1, e2⟩ := r.ob n a m
  exact ⟨a, o, e, m, e1, e2⟩
theorem HR.lst (r : HR C L μ H h) {n : Nat} {x : V} {ds : List D} (q : RepV C μ H (.box n) x) (e : h.get n = some (.lst ds)) : ∃ a vs, x = .ref a ∧ μ[n]? = some a ∧ H a = some (.lst vs) ∧ RepL C μ H ds vs := by
  obtain ⟨a, o, e1, m, e2, ob⟩ := r.box q
  rw [e] at e2; cases e2
  obtain ⟨vs, e3, rl⟩ := ob
  exact ⟨a, vs, e1, m, e3, rl⟩
theorem HR.dct (r : HR C L μ H h) {n : Nat} {x : V} {nks : List NestedKey} {ks vs : List D} (q : RepV C μ H (.box n) x) (e : h.get n = some (.dct nks ks vs)) :
    ∃ a es, x = .ref a ∧ μ[n]? = some a ∧ H a = some (DicO C.w a es) ∧ es.2.map (·.1) = nks ∧ keysD ks = some nks ∧ RepL C μ H ks (es.2.map (·.2.1)) ∧ RepL C μ H vs (es.2.map (·.2.2)) := by
  obtain ⟨a, o, e1, m, e2, ob⟩ := r.box q
  rw [e] at e2; cases e2
  obtain ⟨es, e3, k⟩ := ob
  exact ⟨a, es, e1, m, e3, k⟩
/-- a list's items, be it a box or the script -/
def lstD (h : Hs) : D → Option (List D)
  | .box n => match h.get n with
    | some (.lst ds) => some ds
    | _ => none
  | .scr ds => some ds
  | _ => none
theorem lstD_ok (r : HR C L μ H h) {d : D} {x : V} {ds : List D} (q : RepV C μ H d x) (e : lstD h d = some ds) : ∃ a vs, x = .ref a ∧ SqL C.K H a vs ∧ RepL C μ H ds vs := by
  unfold lstD at e
  split at e
  · rename_i n
    split at e
    · rename_i es e1
      cases e
      obtain ⟨a, vs, e2, _, e3, rl⟩ := r.lst q e1
      exact ⟨a, vs, e2, .inl (.inl e3), rl⟩
    · cases e
  · cases e
    obtain ⟨a, vs, e2, t, rl⟩ := (show RepV C μ H (.scr _) x from q)
    exact ⟨a, vs, e2, t.sqL, rl⟩
  · cases e
/-- what is a sequence -/
def seqD (h : Hs) (d : D) : Option (List D) := match d with
  | .tup ds => some ds
  | d => lstD h d
theorem seqD_ok (r : HR C L μ H h) {d : D} {x : V} {ds : List D} (q : RepV C μ H d x) (e : seqD h d = some ds) : ∃ p vs, x = .ref p ∧ (SqL C.K H p vs ∨ SqT C.K H p vs) ∧ RepL C μ H ds vs := by
  cases d with
  | tup es =>
    cases e
    obtain ⟨a, vs, rfl, t, q⟩ := (show RepV C μ H (.tup ds) x from q)
    exact ⟨a, vs, rfl, .inr t.sq, q⟩
  | _ => obtain ⟨a, vs, e1, e2, e3⟩ := lstD_ok r q e; exact ⟨a, vs, e1, .inl e2, e3⟩
end
/-! ### covers -/
section
variable {C : Ct} {L : List Nat}
theorem Cov2.or {r r' : R2} {f g : Hs → D → D → Option Nv} (c : Cov2 C r f) (c' : Cov2 C r' g) : Cov2 C (fun x y H Q => r x y H Q ∨ r' x y H Q) fun h d e => match f h d e with | some n => some n | none => g h d e := by
  intro H L μ h x y d e n Q hr r1 r2 hf want
  cases e1 : f h d e with
  | some m => simp only [e1] at hf; cases hf; exact .inl (c H L μ h x y d e _ Q hr r1 r2 e1 want)
  | none => simp only [e1] at hf; exact .inr (c' H L μ h x y d e _ Q hr r1 r2 hf want)
theorem CovA.or {r r' : List V → Hp → VK → Prop} {f g : Hs → List D → Option Nv} (c : CovA C r f) (c' : CovA C r' g) : CovA C (fun x H Q => r x H Q ∨ r' x H Q) fun h d => match f h d with | some n => some n | none => g h d := by
  intro H L μ h x d n Q hr r1 hf want
  cases e1 : f h d with
  | some m => simp only [e1] at hf; cases hf; exact .inl (c H L μ h x d _ Q hr r1 e1 want)
  | none => simp only [e1] at hf; exact .inr (c' H L μ h x d _ Q hr r1 hf want)
def flat0 : D → Option V
  | .non => some .non
  | .bl b => some (.bl b)
  | .int i => some (.int i)
  | .str x => some (.str x)
  | _ => none
theorem flat0_rep {μ : Mu} {H : Hp} {d : D} {v : V} (h : flat0 d = some v) : RepV C μ H d v := by
  cases d <;> simp only [flat0] at h <;> first | (cases h; done) | (cases h; rfl)
def dIntC (c : Int → Int → Bool) (g : Int → Int → D) (_ : Hs) (d e : D) : Option Nv := match d, e with
  | .int i, .int j => if c i j = true then some (.v (g i j)) else none
  | _, _ => none
theorem dIntC_some {c : Int → Int → Bool} {g : Int → Int → D} {h : Hs} {d e : D} {n : Nv} (q : dIntC c g h d e = some n) : ∃ i j, d = .int i ∧ e = .int j ∧ c i j = true ∧ n = .v (g i j) := by
  unfold dIntC at q
  split at q
  · split at q
    · exact ⟨_, _, rfl, rfl, by assumption, (Option.some.inj q).symm⟩
    · cases q
  · cases q
def dInt (g : Int → Int → D) : Hs → D → D → Option Nv := dIntC (fun _ _ => true) g
theorem cov_rI0 {gv : Int → Int → V} {g : Int → Int → D} (hg : ∀ i j, flat0 (g i j) = some (gv i j)) : Cov2 C (rI0 gv) (dInt g) := by
  intro H L μ h x y d e n Q hr r1 r2 hf want
  obtain ⟨i, j, rfl, rfl, _, rfl⟩ := dIntC_some hf
  exact ⟨i, j, r1, r2, want.old (flat0_rep (hg i j))⟩
theorem cov_rI {P : Int → Int → Prop} {c : Int → Int → Bool} {gv : Int → Int → V} {g : Int → Int → D} (hc : ∀ i j, c i j = true → P i j) (hg : ∀ i j, flat0 (g i j) = some (gv i j)) : Cov2 C (rI P gv) (dIntC c g) := by
  intro H L μ h x y d e n Q hr r1 r2 hf want
  obtain ⟨i, j, rfl, rfl, k, rfl⟩ := dIntC_some hf
  exact ⟨i, j, r1, r2, hc i j k, want.old (flat0_rep (hg i j))⟩
/-! tuples, lists -/
def dCatT (_ : Hs) (d e : D) : Option Nv := match d, e with
  | .tup a, .tup b => if a.length + b.length ≤ 1000000 then some (.v (.tup (a ++ b))) else none
  | _, _ => none
def dCatL (h : Hs) (d e : D) : Option Nv := match d, e with
  | .box n, .box m => (match h.get n, h.get m with
    | some (.lst a), some (.lst b) => if a.length + b.length ≤ 1000000 then some (.n (.lst (a ++ b))) else none
    | _, _ => none)
  | _, _ => none
theorem cov_catT : Cov2 C (rCatA C.K) dCatT := by
  intro H L μ h x y d e n Q hr r1 r2 hf want
  unfold dCatT at hf
  split at hf
  · rename_i a b
    split at hf
    · rename_i hl
      cases hf
      obtain ⟨p, vs, rfl, t1, q1⟩ := (show RepV C μ H (.tup a) x from r1)
      obtain ⟨p2, us, rfl, t2, q2⟩ := (show RepV C μ H (.tup b) y from r2)
      have l1 := q1.length
      have l2 := q2.length
      refine ⟨p, p2, vs, us, rfl, rfl, t1.sq, t2.sq, small6 (by omega), fun h => ?_, fun _ h => ?_, fun _ _ q hq => want.tup (q1.append q2) hq⟩
      · subst h
        have : a = [] := List.eq_nil_of_length_eq_zero l1.symm
        subst this
        exact want.old ⟨p2, us, rfl, t2, q2⟩
      · subst h
        have : b = [] := List.eq_nil_of_length_eq_zero l2.symm
        subst this
        rw [List.append_nil] at want
        exact want.old ⟨p, vs, rfl, t1, q1⟩
    · cases hf
  · cases hf
theorem cov_catL : Cov2 C rCat dCatL := by
  intro H L μ h x y d e n Q hr r1 r2 hf want
  unfold dCatL at hf
  split at hf
  · split at hf
    · rename_i a b e1 e2
      split at hf
      · rename_i hl
        cases hf
        obtain ⟨p, vs, rfl, _, t1, q1⟩ := hr.lst r1 e1
        obtain ⟨p2, us, rfl, _, t2, q2⟩ := hr.lst r2 e2
        have l1 := q1.length
        have l2 := q2.length
        exact ⟨p, p2, vs, us, rfl, rfl, t1, t2, small6 (by omega), fun q hq => want.lst (q1.append q2) hq⟩
      · cases hf
    · cases hf
  · cases hf
theorem RepL.rep {μ : Mu} {H : Hp} {ds : List D} {vs : List V} (h : RepL C μ H ds vs) : ∀ k : Nat, RepL C μ H (List.replicate k ds).flatten (List.replicate k vs).flatten
  | 0 => rfl
  | k + 1 => by
    rw [List.replicate_succ, List.replicate_succ, List.flatten_cons, List.flatten_cons]
    exact h.append (RepL.rep h k)
def dRepL (h : Hs) (d e : D) : Option Nv := match d, e with
  | .box n, .int k => (match h.get n with
    | some (.lst a) => if -1000000 ≤ k ∧ k ≤ 1000000 ∧ a.length * k.toNat ≤ 1000000 then some (.n (.lst (List.replicate k.toNat a).flatten)) else none
    | _ => none)
  | _, _ => none
theorem cov_repL : Cov2 C rRep dRepL := by
  intro H L μ h x y d e n Q hr r1 r2 hf want
  unfold dRepL at hf
  split at hf
  · split at hf
    · rename_i a e1
      split at hf
      · rename_i hl
        cases hf
        obtain ⟨p, vs, rfl, _, t1, q1⟩ := hr.lst r1 e1
        have l1 := q1.length
        exact ⟨p, _, vs, rfl, r2, t1, by omega, by omega, by rw [l1]; exact small6 hl.2.2, fun q hq => want.lst (q1.rep _) hq⟩
      · cases hf
    · cases hf
  · cases hf
/-! items -/
theorem RepL.atI {μ : Mu} {H : Hp} {ds : List D} {vs : List V} {i : Int} {d : D} (q : RepL C μ H ds vs) (e : L2.atI ds i = some d) : ∃ v, L2.atI vs i = some v ∧ RepV C μ H d v := by
  unfold L2.atI at e ⊢
  rw [q.length]
  cases e2 : ixN ds.length i with
  | none => rw [e2] at e; cases e
  | some j => rw [e2] at e; exact q.get e
def dIxT (_ : Hs) (d e : D) : Option Nv := match d, e with
  | .tup a, .int i => (atI a i).map .v
  | _, _ => none
def dIxL (h : Hs) (d e : D) : Option Nv := match lstD h d, e with
  | some a, .int i => (atI a i).map .v
  | _, _ => none
theorem cov_ixT : Cov2 C (rIxT C.K) dIxT := by
  intro H L μ h x y d e n Q hr r1 r2 hf want
  unfold dIxT at hf
  split at hf
  · rename_i a i
    obtain ⟨c, e1, rfl⟩ := Option.map_eq_some_iff.mp hf
    obtain ⟨p, vs, rfl, t1, q1⟩ := (show RepV C μ H (.tup a) x from r1)
    obtain ⟨v, e2, rv⟩ := q1.atI e1
    exact ⟨p, vs, i, v, rfl, r2, t1.sq, e2, want.old rv⟩
  · cases hf
theorem cov_ixL : Cov2 C (rIxL C.K) dIxL := by
  intro H L μ h x y d e n Q hr r1 r2 hf want
  unfold dIxL at hf
  split at hf
  · rename_i a i ea
    obtain ⟨c, e1, rfl⟩ := Option.map_eq_some_iff.mp hf
    obtain ⟨p, vs, rfl, t1, q1⟩ := lstD_ok hr r1 ea
    obtain ⟨v, e2, rv⟩ := q1.atI e1
    exact ⟨p, vs, i, v, rfl, r2, t1, e2, want.old rv⟩
  · cases hf
/-! == -/
def mapO {α β : Type} (f : α → Option β) : List α → Option (List β)
  | [] => some []
  | d :: ds => match f d with
    | some p => match mapO f ds with
      | some ps => some (p :: ps)
      | none => none
    | none => none
def toPy (h : Hs) : Nat → D → Option PyData
  | 0, _ => none
  | n + 1, d => match d with
    | .non => some .none
    | .bl b => some (.bool b)
    | .int i => some (.int i)
    | .str x => some (.str x)
    | .tup ds => match mapO (toPy h n) ds with
      | some ps => some (.tuple ps)
      | none => none
    | .box i => match h.get i with
      | some (.lst ds) => match mapO (toPy h n) ds with
        | some ps => some (.list ps)
        | none => none
      | _ => none
    | _ => none
theorem mapO_dp {μ : Mu} {H : Hp} {f : D → Option PyData} (hf : ∀ d x p, RepV C μ H d x → f d = some p → Dp C.K H x p) : ∀ {ds : List D} {vs : List V} {ps : List PyData}, RepL C μ H ds vs → mapO f ds = some ps → DpAll C.K H vs ps
  | [], _, _, r, h => by cases h; rw [show _ = [] from r]; exact .nil
  | d :: ds, _, _, ⟨v, rr, e, h1, h2⟩, h => by
    subst e
    unfold mapO at h
    cases e1 : f d with
    | none => rw [e1] at h; cases h
    | some p =>
      cases e2 : mapO f ds with
      | none => simp only [e1, e2] at h; cases h
      | some ps =>
        simp only [e1, e2] at h; cases h
        exact .cons (hf d v p h1 e1) (mapO_dp hf h2 e2)
theorem toPy_dp {μ : Mu} {H : Hp} {h : Hs} (hr : HR C L μ H h) : ∀ (n : Nat) (d : D) (x : V) (p : PyData), RepV C μ H d x → toPy h n d = some p → Dp C.K H x p
  | 0, _, _, _, _, e => by cases e
  | n + 1, d, x, p, r, e => by
    unfold toPy at e
    cases d with
    | non => cases e; rw [show _ = V.non from r]; exact .non
    | bl b => cases e; rw [show _ = V.bl b from r]; exact .bl b
    | int i => cases e; rw [show _ = V.int i from r]; exact .int i
    | str y => cases e; rw [show _ = V.str y from r]; exact .str y
    | tup ds =>
      obtain ⟨a, vs, rfl, t, q⟩ := r
      dsimp only at e
      cases e1 : mapO (toPy h n) ds with
      | none => rw [e1] at e; cases e
      | some ps => rw [e1] at e; cases e; exact .tup t.sq (mapO_dp (toPy_dp hr n) q e1)
    | box i =>
      dsimp only at e
      split at e
      · rename_i ds e0
        obtain ⟨a, vs, rfl, _, t, q⟩ := hr.lst r e0
        cases e1 : mapO (toPy h n) ds with
        | none => rw [e1] at e; cases e
        | some ps => rw [e1] at e; cases e; exact .lst (.inl (.inl t)) (mapO_dp (toPy_dp hr n) q e1)
      · cases e
    | ty n => cases e
    | scr ds => cases e
    | gl x => cases e
    | lm => cases e
def dEq (neg : Bool) (h : Hs) (d e : D) : Option Nv := match toPy h 40 d, toPy h 40 e with
  | some p, some q => if SeqAt.shaped p = true ∧ SeqAt.shaped q = true then some (.v (.bl (if neg = true then !PyData.eqv p q else PyData.eqv p q))) else none
  | _, _ => none
theorem dEq_some {neg : Bool} {h : Hs} {d e : D} {n : Nv} (k : dEq neg h d e = some n) : ∃ p q, toPy h 40 d = some p ∧ toPy h 40 e = some q ∧ SeqAt.shaped p = true ∧ SeqAt.shaped q = true ∧ n = .v (.bl (if neg = true then !PyData.eqv p q else PyData.eqv p q)) := by
  unfold dEq at k
  split at k
  · split at k
    · rename_i hs
      exact ⟨_, _, by assumption, by assumption, hs.1, hs.2, (Option.some.inj k).symm⟩
    · cases k
  · cases k
theorem cov_eq : Cov2 C (rEqD C.K) (dEq false) := by
  intro H L μ h x y d e n Q hr r1 r2 hf want
  obtain ⟨p, q, e1, e2, s1, s2, rfl⟩ := dEq_some hf
  exact ⟨p, q, toPy_dp hr _ _ _ _ r1 e1, toPy_dp hr _ _ _ _ r2 e2, s1, s2, want.old rfl⟩
theorem cov_ne : Cov2 C (rNeD C.K) (dEq true) := by
  intro H L μ h x y d e n Q hr r1 r2 hf want
  obtain ⟨p, q, e1, e2, s1, s2, rfl⟩ := dEq_some hf
  exact ⟨p, q, toPy_dp hr _ _ _ _ r1 e1, toPy_dp hr _ _ _ _ r2 e2, s1, s2, want.old rfl⟩
/-! x in seq, x not in seq, x is None -/
def rInQ (K : PySem.W.Frag) (neg : Bool) : R2 := fun x y H Q => ∃ d ds, Dp K H x d ∧ ((Dp K H y (.list ds) ∧ SeqAt.shaped (.list ds) = true) ∨ (Dp K H y (.tuple ds) ∧ SeqAt.shaped (.tuple ds) = true)) ∧ SeqAt.shaped d = true ∧
  Q (.bl (if neg = true then !ds.any fun z => PyData.eqv z d else ds.any fun z => PyData.eqv z d)) H
def dInQ (neg : Bool) (h : Hs) (d e : D) : Option Nv := match toPy h 40 d, toPy h 40 e with
  | some p, some q => if SeqAt.shaped p = true ∧ SeqAt.shaped q = true then (match q with
    | .list ds => some (.v (.bl (if neg = true then !ds.any fun z => PyData.eqv z p else ds.any fun z => PyData.eqv z p)))
    | .tuple ds => some (.v (.bl (if neg = true then !ds.any fun z => PyData.eqv z p else ds.any fun z => PyData.eqv z p)))
    | _ => none) else none
  | _, _ => none
theorem cov_inQ {neg : Bool} : Cov2 C (rInQ C.K neg) (dInQ neg) := by
  intro H L μ h x y d e n Q hr r1 r2 hf want
  unfold dInQ at hf
  split at hf
  · rename_i p q e1 e2
    split at hf
    · rename_i hs
      split at hf
      · cases hf
        exact ⟨p, _, toPy_dp hr _ _ _ _ r1 e1, .inl ⟨toPy_dp hr _ _ _ _ r2 e2, hs.2⟩, hs.1, want.old rfl⟩
      · cases hf
        exact ⟨p, _, toPy_dp hr _ _ _ _ r1 e1, .inr ⟨toPy_dp hr _ _ _ _ r2 e2, hs.2⟩, hs.1, want.old rfl⟩
      · cases hf
    · cases hf
  · cases hf
abbrev rIs0 : R2 := fun x y H Q => y = .non ∧ Q (.bl (decide (x = .non))) H
abbrev rIs1 : R2 := fun x y H Q => y = .non ∧ Q (.bl (!decide (x = .non))) H
def isNon : D → Bool
  | .non => true
  | _ => false
theorem isNon_ok {μ : Mu} {H : Hp} {d : D} {x : V} (r : RepV C μ H d x) : decide (x = .non) = isNon d := by
  cases d with
  | non => cases (show x = .non from r); rfl
  | bl b => cases (show x = .bl b from r); rfl
  | int i => cases (show x = .int i from r); rfl
  | str i => cases (show x = .str i from r); rfl
  | ty i => cases (show x = .ty i.name from r); rfl
  | gl i => obtain ⟨a, rfl, _⟩ := r; rfl
  | tup ds => obtain ⟨a, vs, rfl, _⟩ := r; rfl
  | scr ds => obtain ⟨a, vs, rfl, _⟩ := r; rfl
  | box n => obtain ⟨a, rfl, _⟩ := r; rfl
  | lm => exact r.elim
def dIs (neg : Bool) (_ : Hs) (d e : D) : Option Nv := match e with
  | .non => some (.v (.bl (if neg = true then !isNon d else isNon d)))
  | _ => none
theorem cov_is : Cov2 C rIs0 (dIs false) := by
  intro H L μ h x y d e n Q hr r1 r2 hf want
  unfold dIs at hf
  split at hf
  · cases hf
    refine ⟨r2, ?_⟩
    rw [isNon_ok r1]
    exact want.old rfl
  · cases hf
theorem cov_isnot : Cov2 C rIs1 (dIs true) := by
  intro H L μ h x y d e n Q hr r1 r2 hf want
  unfold dIs at hf
  split at hf
  · cases hf
    refine ⟨r2, ?_⟩
    rw [isNon_ok r1]
    exact want.old rfl
  · cases hf
/-! ### built-ins by values -/
theorem RepL.one {μ : Mu} {H : Hp} {d : D} {xs : List V} (h : RepL C μ H [d] xs) : ∃ x, xs = [x] ∧ RepV C μ H d x := by
  obtain ⟨x, r, rfl, h1, h2⟩ := h
  rw [show r = [] from h2]
  exact ⟨x, rfl, h1⟩
theorem RepL.two {μ : Mu} {H : Hp} {d e : D} {xs : List V} (h : RepL C μ H [d, e] xs) : ∃ x y, xs = [x, y] ∧ RepV C μ H d x ∧ RepV C μ H e y := by
  obtain ⟨x, r, rfl, h1, h2⟩ := h
  obtain ⟨y, rfl, h3⟩ := RepL.one h2
  exact ⟨x, y, rfl, h1, h3⟩
def dLen (h : Hs) : List D → Option Nv
  | [d] => (seqD h d).map fun ds => .v (.int ds.length)
  | _ => none
theorem cov_len : CovA C (fun xs H Q => ∃ p ys, xs = [.ref p] ∧ (SqL C.K H p ys ∨ SqT C.K H p ys) ∧ Q (.int ys.length) H) dLen := by
  intro H L μ h xs ds n Q hr r1 hf want
  unfold dLen at hf
  split at hf
  · obtain ⟨es, e1, rfl⟩ := Option.map_eq_some_iff.mp hf
    obtain ⟨x, rfl, q⟩ := r1.one
    obtain ⟨p, vs, rfl, t, q⟩ := seqD_ok hr q e1
    refine ⟨p, vs, rfl, t, ?_⟩
    rw [q.length]
    exact want.old rfl
  · cases hf
def dList (h : Hs) : List D → Option Nv
  | [d] => (seqD h d).map fun ds => .n (.lst ds)
  | _ => none
theorem cov_list : CovA C (fun xs H Q => ∃ p ys, xs = [.ref p] ∧ (SqL C.K H p ys ∨ SqT C.K H p ys) ∧ ∀ l, H l = none → Q (.ref l) (upd H l (.lst ys))) dList := by
  intro H L μ h xs ds n Q hr r1 hf want
  unfold dList at hf
  split at hf
  · obtain ⟨es, e1, rfl⟩ := Option.map_eq_some_iff.mp hf
    obtain ⟨x, rfl, q⟩ := r1.one
    obtain ⟨p, vs, rfl, t, q⟩ := seqD_ok hr q e1
    exact ⟨p, vs, rfl, t, fun l hl => want.lst q hl⟩
  · cases hf
def dTuple (h : Hs) : List D → Option Nv
  | [d] => (seqD h d).map fun ds => .v (.tup ds)
  | _ => none
theorem cov_tuple : CovA C (fun xs H Q => ∃ p ys, xs = [.ref p] ∧ ((SqL C.K H p ys ∧ ∀ l, H l = none → Q (.ref l) (upd H l (.tup ys))) ∨ (SqT C.K H p ys ∧ Q (.ref p) H))) dTuple := by
  intro H L μ h xs ds n Q hr r1 hf want
  unfold dTuple at hf
  split at hf
  · rename_i d
    obtain ⟨es, e1, rfl⟩ := Option.map_eq_some_iff.mp hf
    obtain ⟨x, rfl, q⟩ := r1.one
    cases d with
    | tup ds =>
      obtain ⟨a, vs, rfl, t, q⟩ := (show RepV C μ H (.tup ds) x from q)
      cases e1
      exact ⟨a, vs, rfl, .inr ⟨t.sq, want.old ⟨a, vs, rfl, t, q⟩⟩⟩
    | _ => obtain ⟨a, vs, rfl, t, q⟩ := lstD_ok hr q e1; exact ⟨a, vs, rfl, .inl ⟨t, fun l hl => want.tup q hl⟩⟩
  · cases hf
def dInt1 (_ : Hs) : List D → Option Nv
  | [.int i] => some (.v (.int i))
  | [.bl b] => some (.v (.int (if b then 1 else 0)))
  | _ => none
theorem cov_int : CovA C (fun xs H Q => (∃ i, xs = [.int i] ∧ Q (.int i) H) ∨ ∃ k, xs = [.bl k] ∧ Q (.int (if k then 1 else 0)) H) dInt1 := by
  intro H L μ h xs ds n Q hr r1 hf want
  unfold dInt1 at hf
  split at hf
  · cases hf
    obtain ⟨x, rfl, q⟩ := r1.one
    cases (show x = V.int _ from q)
    exact .inl ⟨_, rfl, want.old rfl⟩
  · cases hf
    obtain ⟨x, rfl, q⟩ := r1.one
    cases (show x = V.bl _ from q)
    exact .inr ⟨_, rfl, want.old rfl⟩
  · cases hf
def dAbs (_ : Hs) : List D → Option Nv
  | [.int i] => some (.v (.int (if i < 0 then -i else i)))
  | _ => none
theorem cov_abs : CovA C (fun xs H Q => ∃ i, xs = [.int i] ∧ Q (.int (if i < 0 then -i else i)) H) dAbs := by
  intro H L μ h xs ds n Q hr r1 hf want
  unfold dAbs at hf
  split at hf
  · cases hf
    obtain ⟨x, rfl, q⟩ := r1.one
    cases (show x = V.int _ from q)
    exact ⟨_, rfl, want.old rfl⟩
  · cases hf
def boolsD : List D → Option (List Bool)
  | [] => some []
  | .bl b :: ds => (boolsD ds).map (b :: ·)
  | _ => none
theorem boolsD_ok {μ : Mu} {H : Hp} : ∀ {ds : List D} {bs : List Bool} {vs : List V}, RepL C μ H ds vs → boolsD ds = some bs → vs = bs.map V.bl
  | [], _, _, h, e => by cases e; exact h
  | d :: ds, bs, _, ⟨v, r, rfl, h1, h2⟩, e => by
    cases d with
    | bl b =>
      obtain ⟨cs, e1, rfl⟩ := Option.map_eq_some_iff.mp (show (boolsD ds).map (b :: ·) = some bs from e)
      rw [boolsD_ok h2 e1, show v = V.bl b from h1]
      rfl
    | _ => cases e
def boxBs (h : Hs) : List D → Option (List Bool)
  | [.box n] => match h.get n with
    | some (.lst ds) => boolsD ds
    | _ => none
  | _ => none
theorem boxBs_ok {μ : Mu} {H : Hp} {h : Hs} (hr : HR C L μ H h) {ds : List D} {xs : List V} {bs : List Bool} (r : RepL C μ H ds xs) (e : boxBs h ds = some bs) : ∃ a, xs = [.ref a] ∧ SqL C.K H a (bs.map V.bl) := by
  unfold boxBs at e
  split at e
  · split at e
    · rename_i e1
      obtain ⟨x, rfl, q⟩ := r.one
      obtain ⟨a, vs, rfl, _, t, q⟩ := hr.lst q e1
      rw [boolsD_ok q e] at t
      exact ⟨a, rfl, .inl (.inl t)⟩
    · cases e
  · cases e
def dAll (h : Hs) (ds : List D) : Option Nv := (boxBs h ds).map fun bs => .v (.bl (bs.all id))
theorem cov_all : CovA C (rAll C.K) dAll := by
  intro H L μ h xs ds n Q hr r1 hf want
  obtain ⟨bs, e1, rfl⟩ := Option.map_eq_some_iff.mp hf
  obtain ⟨a, rfl, t⟩ := boxBs_ok hr r1 e1
  exact ⟨a, bs, rfl, t, want.old rfl⟩
def dAny (h : Hs) (ds : List D) : Option Nv := (boxBs h ds).map fun bs => .v (.bl (bs.any id))
theorem cov_any : CovA C (rAny C.K) dAny := by
  intro H L μ h xs ds n Q hr r1 hf want
  obtain ⟨bs, e1, rfl⟩ := Option.map_eq_some_iff.mp hf
  obtain ⟨a, rfl, t⟩ := boxBs_ok hr r1 e1
  exact ⟨a, bs, rfl, t, want.old rfl⟩
/-! isinstance -/
def tyD (h : Hs) : D → Option Ty
  | .non => some .none
  | .bl _ => some .bool
  | .int _ => some .int
  | .str _ => some .str
  | .tup _ => some .tuple
  | .box n => match h.get n with
    | some (.lst _) => some .list
    | _ => none
  | _ => none
theorem tyD_ok {μ : Mu} {H : Hp} {h : Hs} (hr : HR C L μ H h) {d : D} {t : Ty} {x : V} (q : RepV C μ H d x) (e : tyD h d = some t) : TyX C.K H x (.type t.name) := by
  cases d with
  | non => cases e; rw [show x = V.non from q]; exact .base .non
  | bl b => cases e; rw [show x = V.bl b from q]; exact .base (.bl b)
  | int b => cases e; rw [show x = V.int b from q]; exact .base (.int b)
  | str b => cases e; rw [show x = V.str b from q]; exact .base (.str b)
  | tup ds =>
    cases e
    obtain ⟨a, vs, rfl, t, q⟩ := q
    rcases t with t | ⟨o, its, n, t, c, _⟩
    · exact .base (.tup t)
    · exact .kTuple t c
  | box n =>
    unfold tyD at e
    dsimp only at e
    split at e
    · rename_i e1
      cases e
      obtain ⟨a, vs, rfl, _, t, q⟩ := hr.lst q e1
      exact .base (.lst t)
    · cases e
  | _ => cases e
def subTy (a b : Ty) : Bool := decide (a = b) || (decide (a = .bool) && decide (b = .int))
theorem subTy_kit (a b : Ty) (hb : b ≠ .none) : kitB a.name b.name = some (subTy a b) := by
  cases b <;> first | exact absurd rfl hb | (cases a <;> decide +kernel)
def tysD : List D → Option (List Ty)
  | [] => some []
  | .ty t :: ds => if t = .none then none else (tysD ds).map (t :: ·)
  | _ => none
theorem tysD_ok {μ : Mu} {H : Hp} : ∀ {ds : List D} {ts : List Ty} {vs : List V}, RepL C μ H ds vs → tysD ds = some ts → Paired ClsV vs (ts.map fun t => Value.type t.name) ∧ ∀ t ∈ ts, t ≠ Ty.none
  | [], _, _, h, e => by cases e; rw [show _ = [] from h]; exact ⟨.nil, fun _ h => nomatch h⟩
  | d :: ds, ts, _, ⟨v, r, rfl, h1, h2⟩, e => by
    cases d with
    | ty t =>
      have e : (if t = Ty.none then none else (tysD ds).map (t :: ·)) = some ts := e
      split at e
      · cases e
      · rename_i hn
        obtain ⟨cs, e1, rfl⟩ := Option.map_eq_some_iff.mp e
        obtain ⟨p1, p2⟩ := tysD_ok h2 e1
        rw [show v = V.ty t.name from h1]
        exact ⟨.cons (.ty _) p1, fun t' ht => (List.mem_cons.mp ht).elim (fun q => by rw [q]; exact hn) (p2 t')⟩
    | _ => cases e
theorem kitAny_tys {K : PySem.W.Frag} {t : Ty} : ∀ {ts : List Ty}, (∀ b ∈ ts, b ≠ Ty.none) → PySem.W.kitAny K (.type t.name) (ts.map fun t => Value.type t.name) = some (ts.any (subTy t))
  | [], _ => rfl
  | b :: ts, h => by
    have ih := kitAny_tys (K := K) (t := t) (ts := ts) fun c hc => h c (List.mem_cons_of_mem _ hc)
    have k1 : PySem.W.kitOne K (.type t.name) (.type b.name) = some (subTy t b) := kit_ty (subTy_kit t b (h b List.mem_cons_self))
    rw [List.map_cons, List.any_cons]
    exact kitAny_cons k1 (fun e => by rw [e, Bool.false_or]; exact ih) fun e => by rw [e, Bool.true_or]
def dIsi (h : Hs) : List D → Option Nv
  | [d, .ty t] => if t = .none then none else (tyD h d).map fun a => .v (.bl (subTy a t))
  | [d, .tup ts] => match tyD h d, tysD ts with
    | some a, some ts => some (.v (.bl (ts.any (subTy a))))
    | _, _ => none
  | _ => none
theorem cov_isi : CovA C (fun xs H Q => rIsi C.K xs H Q ∨ (rIsiT C.K xs H Q ∨ rIsiK C.K xs H Q)) dIsi := by
  intro H L μ h xs ds n Q hr r1 hf want
  unfold dIsi at hf
  split at hf
  · split at hf
    · cases hf
    · rename_i hn
      obtain ⟨a, e1, rfl⟩ := Option.map_eq_some_iff.mp hf
      obtain ⟨x, y, rfl, h1, h2⟩ := r1.two
      cases (show y = V.ty _ from h2)
      exact .inl ⟨x, _, _, _, _, rfl, .ty _, tyD_ok hr h1 e1, kit_ty (subTy_kit a _ hn), want.old rfl⟩
  · split at hf
    · rename_i e1 e2
      cases hf
      obtain ⟨x, y, rfl, h1, h2⟩ := r1.two
      obtain ⟨p, vs, rfl, t, q⟩ := (show RepV C μ H (.tup _) y from h2)
      obtain ⟨q1, q2⟩ := tysD_ok q e2
      rcases t with t | ⟨⟨oc, od, dt, sl⟩, its, n, t, c, hd, _, hv⟩
      · exact .inr (.inl ⟨x, p, vs, _, _, _, rfl, t, q1, tyD_ok hr h1 e1, kitAny_tys q2, want.old rfl⟩)
      · simp only at c hd
        subst c hd
        have e3 := ClsV.all q1 hv
        refine .inr (.inr ⟨x, p, od, its.toList, n, sl, _, _, rfl, ?_, tyD_ok hr h1 e1, ?_, want.old rfl⟩)
        · simpa using t
        · rw [e3]; exact kitAny_tys q2
    · cases hf
  · cases hf
end
end Rh

set_option Elab.async false
set_option linter.all false
set_option maxRecDepth 100000
set_option autoImplicit false
namespace Rh
open PySem PySem.Spec PyProof.Rows L2
variable [Tbs]

/-! ### tests -/
def truthD (h : Hs) : D → Option Bool
  | .non => some false
  | .bl b => some b
  | .int i => some (i != 0)
  | .tup ds => some (!ds.isEmpty)
  | .scr ds => some (!ds.isEmpty)
  | .box n => match h.get n with
    | some (.lst ds) => some (!ds.isEmpty)
    | _ => none
  | _ => none
def mTruth (m : M D) : M Bool := mBind m fun d => fun _ h => match truthD h d with
  | some k => some (.ok k h)
  | none => none
/-- of an expression whose value is a bool -/
def mB (m : M D) : M Bool := mBind m fun d => fun _ h => match d with
  | .bl k => some (.ok k h)
  | _ => none
section
variable {X : Cx} {W : WX} {L : List Nat} {ρ : En} {σ : L2.St} {H H' H1 H2 : Hp} {μ μ' μ1 μ2 : Mu} {h h' h1 h2 : Hs} {Q : VK} {QB : Bool → Hp → Prop}
theorem RepL.isEmpty {C : Ct} {ds : List D} {vs : List V} (h : RepL C μ H ds vs) : (!ds.isEmpty) = !vs.isEmpty := by
  cases ds with
  | nil => rw [show vs = [] from h]; rfl
  | cons d ds => obtain ⟨v, r, rfl, _⟩ := h; rfl
theorem truthD_ok {C : Ct} (hr : HR C L μ H h) {d : D} {x : V} {k : Bool} (q : RepV C μ H d x) (e : truthD h d = some k) : TruV C.K x H k := by
  cases d with
  | non => cases e; rw [show x = V.non from q]; exact rfl
  | bl b => have q : x = V.bl b := q; cases e; rw [q]; exact rfl
  | int i => cases e; rw [show x = V.int i from q]; exact rfl
  | tup ds =>
    cases e
    obtain ⟨a, vs, rfl, t, q⟩ := q
    exact .inr (.inl ⟨vs, t.sq, q.isEmpty⟩)
  | scr ds =>
    cases e
    obtain ⟨a, vs, rfl, t, q⟩ := lstD_ok hr (d := .scr ds) q rfl
    exact .inl ⟨vs, t, q.isEmpty⟩
  | box n =>
    unfold truthD at e
    dsimp only at e
    split at e
    · rename_i e1
      cases e
      obtain ⟨a, vs, rfl, _, t, q⟩ := hr.lst q e1
      exact .inl ⟨vs, .inl (.inl t), q.isEmpty⟩
    · cases e
  | _ => cases e
theorem rd_truth {m : M D} (q : rdT X W (mTruth m) σ H QB) : rd X W m σ H fun x H' => ∃ k, TruV X.K x H' k ∧ QB k H' := by
  refine rdG_imp (rdG_bind q) fun ρ L d h1 μ1 H1 ⟨rel1, q1⟩ x rx => ?_
  cases e2 : truthD h1 d with
  | none => simp only [e2] at q1; exact q1.none
  | some k =>
    simp only [e2] at q1
    exact ⟨k, truthD_ok rel1.hr rx e2, q1 μ1 H1 .refl rel1.hr⟩
theorem rd_mB {m : M D} (q : rdT X W (mB m) σ H QB) : rd X W m σ H fun x H' => ∃ k, x = .bl k ∧ QB k H' := by
  refine rdG_imp (rdG_bind q) fun ρ L d h1 μ1 H1 ⟨rel1, q1⟩ x rx => ?_
  cases d with
  | bl k => exact ⟨k, rx, q1 μ1 H1 .refl rel1.hr⟩
  | _ => exact q1.none
theorem t_val {e : Expr} {m : M D} (ha : PE X e (rd X W m)) (he : ∀ whole, isTrue e X.env whole = (do let v ← whole; standAt e.pos; holding [v] (truthy v)) := by intro _; rfl) : PT X e (rdT X W (mTruth m)) :=
  pt_imp (pt_truth ha he) fun _ _ _ h => rd_truth h
theorem t_cmp {op : CmpOp} {r : R2} {f : Hs → D → D → Option Nv} {a b : Expr} {ma mb : M D} {pos : Pos} (ho : OpR X (compareOp op) r) (c : Cov2 (ctX X) r f) (hm : behindInMarks op b = false) (ha : PE X a (rd X W ma)) (hb : PE X b (rd X W mb)) : PT X (.Compare a [op] [b] pos) (rdT X W (mB (mOp2 f ma mb))) :=
  pt_imp (pt_cmpR ho ha hb hm) fun _ _ _ h => rd_op2 c (rd_mB h)
def mAnd (a b : M Bool) : M Bool := mBind a fun c => if c = true then b else mPure false
def mOr (a b : M Bool) : M Bool := mBind a fun c => if c = true then mPure true else b
def mNot (a : M Bool) : M Bool := mBind a fun c => mPure (!c)
theorem tw_and1 {a : Expr} {ma : M Bool} {pos : Pos} (ha : PT X a (rdT X W ma)) : PW X (.BoolOp .And [a] pos) (rdT X W ma) := pw_and1 ha
theorem tw_or1 {a : Expr} {ma : M Bool} {pos : Pos} (ha : PT X a (rdT X W ma)) : PW X (.BoolOp .Or [a] pos) (rdT X W ma) := pw_or1 ha
theorem tw_and {a b : Expr} {rest : List Expr} {ma mb : M Bool} {pos : Pos} (ha : PT X a (rdT X W ma)) (hb : PW X (.BoolOp .And (b :: rest) pos) (rdT X W mb)) : PW X (.BoolOp .And (a :: b :: rest) pos) (rdT X W (mAnd ma mb)) := by
  refine pw_imp (pw_and ha hb) fun σ H Q q => rdG_imp (rdG_bind q) fun ρ L c h1 μ1 H1 ⟨rel1, q1⟩ => ?_
  cases c with
  | true => exact ⟨ρ, L, μ1, h1, rel1, q1⟩
  | false => exact q1 μ1 H1 .refl rel1.hr
theorem tw_or {a b : Expr} {rest : List Expr} {ma mb : M Bool} {pos : Pos} (ha : PT X a (rdT X W ma)) (hb : PW X (.BoolOp .Or (b :: rest) pos) (rdT X W mb)) : PW X (.BoolOp .Or (a :: b :: rest) pos) (rdT X W (mOr ma mb)) := by
  refine pw_imp (pw_or ha hb) fun σ H Q q => rdG_imp (rdG_bind q) fun ρ L c h1 μ1 H1 ⟨rel1, q1⟩ => ?_
  cases c with
  | false => exact ⟨ρ, L, μ1, h1, rel1, q1⟩
  | true => exact q1 μ1 H1 .refl rel1.hr
theorem t_not {a : Expr} {ma : M Bool} {pos : Pos} (ha : PT X a (rdT X W ma)) : PT X (.UnaryOp .Not a pos) (rdT X W (mNot ma)) :=
  pt_imp (pt_not ha) fun σ H Q q => rdG_imp (rdG_bind q) fun ρ L c h1 μ1 H1 ⟨rel1, q1⟩ => q1 μ1 H1 .refl rel1.hr
theorem t_pw {e : Expr} {t : TT} (h : PW X e t) : PT X e t := ⟨fun pins s σ H Q I q => h.run _ pins s σ H Q I q⟩
/-! as values -/
def mOrV (a b : M D) : M D := mBind a fun x => fun ρ h => match truthD h x with
  | some true => some (.ok x h)
  | some false => b ρ h
  | none => none
def mAndV (a b : M D) : M D := mBind a fun x => fun ρ h => match truthD h x with
  | some true => b ρ h
  | some false => some (.ok x h)
  | none => none
def mNotV (a : M D) : M D := mBind a fun x => fun _ h => match truthD h x with
  | some k => some (.ok (.bl (!k)) h)
  | none => none
theorem e_or {a b : Expr} {rest : List Expr} {ma mb : M D} {pos : Pos} (ha : PE X a (rd X W ma)) (hb : PE X (.BoolOp .Or (b :: rest) pos) (rd X W mb)) : PE X (.BoolOp .Or (a :: b :: rest) pos) (rd X W (mOrV ma mb)) := by
  refine pe_imp (pe_orT ha hb) fun σ H Q q => rdG_imp (rdG_bind q) fun ρ L x h1 μ1 H1 ⟨rel1, q1⟩ vx rx => ?_
  cases e2 : truthD h1 x with
  | none => simp only [e2] at q1; exact q1.none
  | some k =>
    refine ⟨k, truthD_ok rel1.hr rx e2, ?_⟩
    cases k with
    | true => simp only [e2] at q1; exact q1 μ1 H1 .refl rel1.hr vx rx
    | false => simp only [e2] at q1; exact ⟨ρ, L, μ1, h1, rel1, q1⟩
theorem e_and {a b : Expr} {rest : List Expr} {ma mb : M D} {pos : Pos} (ha : PE X a (rd X W ma)) (hb : PE X (.BoolOp .And (b :: rest) pos) (rd X W mb)) : PE X (.BoolOp .And (a :: b :: rest) pos) (rd X W (mAndV ma mb)) := by
  refine pe_imp (pe_andT ha hb) fun σ H Q q => rdG_imp (rdG_bind q) fun ρ L x h1 μ1 H1 ⟨rel1, q1⟩ vx rx => ?_
  cases e2 : truthD h1 x with
  | none => simp only [e2] at q1; exact q1.none
  | some k =>
    refine ⟨k, truthD_ok rel1.hr rx e2, ?_⟩
    cases k with
    | false => simp only [e2] at q1; exact q1 μ1 H1 .refl rel1.hr vx rx
    | true => simp only [e2] at q1; exact ⟨ρ, L, μ1, h1, rel1, q1⟩
theorem e_one {a : Expr} {op} {ma : M D} {pos : Pos} (ha : PE X a (rd X W ma)) : PE X (.BoolOp op [a] pos) (rd X W ma) := pe_one ha
theorem e_not {a : Expr} {ma : M D} {pos : Pos} (ha : PE X a (rd X W ma)) : PE X (.UnaryOp .Not a pos) (rd X W (mNotV ma)) := by
  refine pe_imp (pe_notT ha) fun σ H Q q => rdG_imp (rdG_bind q) fun ρ L x h1 μ1 H1 ⟨rel1, q1⟩ vx rx => ?_
  cases e2 : truthD h1 x with
  | none => simp only [e2] at q1; exact q1.none
  | some k =>
    simp only [e2] at q1
    exact ⟨k, truthD_ok rel1.hr rx e2, q1 μ1 H1 .refl rel1.hr _ rfl⟩
def mIf (c : M Bool) (a b : M D) : M D := mBind c fun k => if k = true then a else b
theorem e_ife {c a b : Expr} {mc : M Bool} {ma mb : M D} {pos : Pos} (hc : PT X c (rdT X W mc)) (ha : PE X a (rd X W ma)) (hb : PE X b (rd X W mb)) : PE X (.IfExp c a b pos) (rd X W (mIf mc ma mb)) := by
  refine pe_imp (pe_ifExp hc ha hb) fun σ H Q q => rdG_imp (rdG_bind q) fun ρ L k h1 μ1 H1 ⟨rel1, q1⟩ => ?_
  cases k with
  | true => exact ⟨ρ, L, μ1, h1, rel1, q1⟩
  | false => exact ⟨ρ, L, μ1, h1, rel1, q1⟩
/-! chains -/
def mChain (f g : Hs → D → D → Option Nv) (a b c : M D) : M D := mBind a fun x => mBind b fun y => fun ρ h => match f h x y with
  | some (.v (.bl true)) => mBind c (fun z => fun _ h3 => lift h3 (g h3 y z)) ρ h
  | some (.v (.bl false)) => some (.ok (.bl false) h)
  | _ => none
theorem rd_chain {r r' : R2} {f g : Hs → D → D → Option Nv} {a b c : M D} (cf : Cov2 (ctX X) r f) (cg : Cov2 (ctX X) r' g) (q : rd X W (mChain f g a b c) σ H Q) : tChain r r' (rd X W a) (rd X W b) (rd X W c) σ H Q := by
  obtain ⟨ρ, L, μ, h, rel, q⟩ := q
  refine ⟨ρ, L, μ, h, rel, (q.bind rel).imp fun x h1 μ1 H1 g1 _ ⟨_, rel1, q1⟩ vx rx => ⟨ρ, L, μ1, h1, rel1, (q1.bind rel1).imp fun y h2 μ2 H2 g2 _ ⟨_, rel2, q2⟩ vy ry => ?_⟩⟩
  cases e3 : f h2 x y with
  | none => simp only [e3] at q2; exact q2.none
  | some n =>
    refine cf _ _ _ _ _ _ _ _ _ _ rel2.hr (rx.go rel1.hr g2) ry e3 fun z H3 sm dm rz => ?_
    cases n with
    | n o => simp only [e3] at q2; exact q2.none
    | v nd =>
      cases nd with
      | bl k =>
        cases (show z = V.bl k from rz)
        refine ⟨k, rfl, ?_⟩
        have g3 : Go L μ2 H2 μ2 H3 := .same rel2.hr sm dm
        have rel3 := rel2.go g3 (rel2.hr.same sm)
        cases k with
        | false =>
          simp only [e3] at q2
          rw [if_neg Bool.false_ne_true]
          exact q2 μ2 H3 g3 rel3.hr _ rfl
        | true =>
          simp only [e3] at q2
          rw [if_pos rfl]
          have q3 := q2.start g3
          refine ⟨ρ, L, μ2, h2, rel3, (q3.bind rel3).imp fun z h4 μ4 H4 g4 _ ⟨_, rel4, q4⟩ vz rz => ?_⟩
          obtain ⟨n, en, want⟩ := Sat.lift rel4.hr q4
          exact cg _ _ _ _ _ _ _ _ _ _ rel4.hr ((ry.go rel2.hr g3).go rel3.hr g4) rz en want
      | _ => simp only [e3] at q2; exact q2.none
theorem e_chain {op op' : CmpOp} {r r' : R2} {f g : Hs → D → D → Option Nv} {a b c : Expr} {ma mb mc : M D} {pos : Pos} (ho : OpR X (compareOp op) r) (ho' : OpR X (compareOp op') r') (cf : Cov2 (ctX X) r f) (cg : Cov2 (ctX X) r' g)
    (ha : PE X a (rd X W ma)) (hb : PE X b (rd X W mb)) (hc : PE X c (rd X W mc)) (hm : lastMarks [op, op'] [b, c] = false := by with_unfolding_all rfl) : PE X (.Compare a [op, op'] [b, c] pos) (rd X W (mChain f g ma mb mc)) :=
  pe_imp (pe_chain ho ho' ha hb hc hm) fun _ _ _ h => rd_chain cf cg h
theorem t_chain {op op' : CmpOp} {r r' : R2} {f g : Hs → D → D → Option Nv} {a b c : Expr} {ma mb mc : M D} {pos : Pos} (ho : OpR X (compareOp op) r) (ho' : OpR X (compareOp op') r') (cf : Cov2 (ctX X) r f) (cg : Cov2 (ctX X) r' g)
    (ha : PE X a (rd X W ma)) (hb : PE X b (rd X W mb)) (hc : PE X c (rd X W mc)) (hm : lastMarks [op, op'] [b, c] = false := by with_unfolding_all rfl) : PT X (.Compare a [op, op'] [b, c] pos) (rdT X W (mB (mChain f g ma mb mc))) :=
  pt_imp (pt_chain ho ho' ha hb hc hm) fun _ _ _ h => rd_chain cf cg (rd_mB h)
/-! built-ins by name -/
theorem e_callB {x : Str} {id : String} {r : List V → Hp → VK → Prop} {f : Hs → List D → Option Nv} {p pos : Pos} {e : Expr} {es : List Expr} {ms : M (List D)} (hc : CallR X (.builtin id) r) (c : CovA (ctX X) r f) (hv : bootBuiltins x = some (.builtin id)) (hg : Gl X x) (hm : X.mg x = none)
    (ha : PA X (e :: es) (rdA X W ms)) (hn : x ≠ "__name__" := by decide) (hdb : (x == ("__debug__" : Str)) = false := by decide) (he : starEach (e :: es) X.env = (false, eval e X.env) :: starEach es X.env := by rfl) (hpl : (backTo pos (starEach es X.env)).any (·.1) = false := by rfl) :
    PE X (.Call (.Name x p) (e :: es) [] pos) (rd X W (mOpA f ms)) := pe_imp (pe_callB hc hg hm hv ha hn hdb he hpl) fun _ _ _ h => rd_opA c h
theorem e_callTy {x : Str} {T : String} {r : List V → Hp → VK → Prop} {f : Hs → List D → Option Nv} {p pos : Pos} {e : Expr} {es : List Expr} {ms : M (List D)} (hc : CallR X (.type T) r) (c : CovA (ctX X) r f) (hv : bootBuiltins x = some (.type T)) (hg : Gl X x) (hm : X.mg x = none)
    (ha : PA X (e :: es) (rdA X W ms)) (hn : x ≠ "__name__" := by decide) (hdb : (x == ("__debug__" : Str)) = false := by decide) (he : starEach (e :: es) X.env = (false, eval e X.env) :: starEach es X.env := by rfl) (hpl : (backTo pos (starEach es X.env)).any (·.1) = false := by rfl) :
    PE X (.Call (.Name x p) (e :: es) [] pos) (rd X W (mOpA f ms)) := pe_imp (pe_callTy hc hg hm hv ha hn hdb he hpl) fun _ _ _ h => rd_opA c h
end

/-! ### statements -/
inductive RS where
  | nx (ρ : En) (h : Hs) | rt (d : D) (h : Hs) | bk (ρ : En) (h : Hs) | ct (ρ : En) (h : Hs)
  | ex (c : Str) (fs : List (Str × D)) (ρ : En) (h : Hs)
abbrev MS := En → Hs → Option RS
def SatS (X : Cx) (W : WX) (D : Ends) (L : List Nat) (μ : Mu) (H : Hp) (o : Option RS) : Prop := match o with
  | none => False
  | some (.nx ρ' h') => ∀ σ' μ' H', Go L μ H μ' H' → Rel (ctX X) L ρ' σ' μ' H' h' → D.nx σ' H'
  | some (.bk ρ' h') => ∀ σ' μ' H', Go L μ H μ' H' → Rel (ctX X) L ρ' σ' μ' H' h' → D.bk σ' H'
  | some (.ct ρ' h') => ∀ σ' μ' H', Go L μ H μ' H' → Rel (ctX X) L ρ' σ' μ' H' h' → D.ct σ' H'
  | some (.rt d h') => ∀ μ' H' x, Go L μ H μ' H' → HR (ctX X) L μ' H' h' → RepV (ctX X) μ' H' d x → D.rt x H'
  | some (.ex c fs ρ' h') => ∀ cls d σ' μ' H', Go L μ H μ' H' → Rel (ctX X) L ρ' σ' μ' H' h' → RepX (ctX X) μ' H' c fs cls d → W cls d σ' H'
def rdS (X : Cx) (W : WX) (m : MS) : TS := fun D σ H => ∃ ρ L μ h, Rel (ctX X) L ρ σ μ H h ∧ SatS X W D L μ H (m ρ h)
def mNx : MS := fun ρ h => some (.nx ρ h)
def mSeq (a b : MS) : MS := fun ρ h => match a ρ h with
  | some (.nx ρ1 h1) => b ρ1 h1
  | o => o
/-- an expression ahead of a statement's end -/
def mDo {α : Type} (m : M α) (g : α → MS) : MS := fun ρ h => match m ρ h with
  | none => none
  | some (.ok a h1) => g a ρ h1
  | some (.ex c fs h1) => some (.ex c fs ρ h1)
section
variable {X : Cx} {W : WX} {L : List Nat} {D0 : Ends} {ρ ρ' : En} {σ σ' : L2.St} {H H' H1 : Hp} {μ μ' μ1 : Mu} {h h' h1 : Hs}
theorem SatS.none {C : Prop} (h : SatS X W D0 L μ H none) : C := False.elim h
theorem SatS.start {o : Option RS} (q : SatS X W D0 L μ H o) (g : Go L μ H μ1 H1) : SatS X W D0 L μ1 H1 o := by
  cases o with
  | none => exact q.none
  | some o =>
    cases o with
    | nx ρ2 => exact fun s2 m2 H2 g2 r => q s2 m2 H2 (g.trans g2) r
    | bk ρ2 => exact fun s2 m2 H2 g2 r => q s2 m2 H2 (g.trans g2) r
    | ct ρ2 => exact fun s2 m2 H2 g2 r => q s2 m2 H2 (g.trans g2) r
    | rt n ρ2 => exact fun m2 H2 x g2 r rr => q m2 H2 x (g.trans g2) r rr
    | ex c fs ρ2 => exact fun cls d s2 m2 H2 g2 r => q cls d s2 m2 H2 (g.trans g2) r
theorem SatS.bind {α : Type} {m : M α} {g : α → MS} (r : Rel (ctX X) L ρ σ μ H h) (q : SatS X W D0 L μ H (mDo m g ρ h)) : Sat X W L σ μ H (m ρ h) fun a h1 μ1 H1 => Rel (ctX X) L ρ σ μ1 H1 h1 ∧ SatS X W D0 L μ1 H1 (g a ρ h1) := by
  unfold mDo at q
  cases e : m ρ h with
  | none => rw [e] at q; exact q.none
  | some o =>
    rw [e] at q
    cases o with
    | ex c fs h1 => exact fun cls d m1 H1 g1 r1 x => q cls d σ m1 H1 g1 (r.go g1 r1) x
    | ok a h1 => exact fun m1 H1 g1 r1 => ⟨r.go g1 r1, SatS.start (show SatS X W D0 L μ H (g a ρ h1) from q) g1⟩
/-- an expression's mirror ahead of a statement's end -/
theorem rdS_bind {α : Type} {m : M α} {g : α → MS} (q : rdS X W (mDo m g) D0 σ H) : rdG X W m σ H fun ρ L a h1 μ1 H1 => Rel (ctX X) L ρ σ μ1 H1 h1 ∧ SatS X W D0 L μ1 H1 (g a ρ h1) := by
  obtain ⟨ρ, L, μ, h, rel, q⟩ := q
  exact ⟨ρ, L, μ, h, rel, q.bind rel⟩
theorem s_nil : PSs X [] (rdS X W mNx) := pss_imp pss_nil fun D σ H ⟨ρ, L, μ, h, rel, q⟩ => q σ μ H .refl rel
theorem s_pass {pos : Pos} : PS X (.Pass pos) (rdS X W mNx) := ps_imp ps_pass fun D σ H ⟨ρ, L, μ, h, rel, q⟩ => q σ μ H .refl rel
def mBk : MS := fun ρ h => some (.bk ρ h)
def mCt : MS := fun ρ h => some (.ct ρ h)
theorem s_break {pos : Pos} : PS X (.Break pos) (rdS X W mBk) := ps_imp ps_break fun D σ H ⟨ρ, L, μ, h, rel, q⟩ => q σ μ H .refl rel
theorem s_continue {pos : Pos} : PS X (.Continue pos) (rdS X W mCt) := ps_imp ps_continue fun D σ H ⟨ρ, L, μ, h, rel, q⟩ => q σ μ H .refl rel
theorem s_cons {s : Stmt} {ss : List Stmt} {m ms : MS} (h1 : PS X s (rdS X W m)) (h2 : PSs X ss (rdS X W ms)) : PSs X (s :: ss) (rdS X W (mSeq m ms)) := by
  refine pss_imp (pss_cons h1 h2) fun D σ H ⟨ρ, L, μ, h, rel, q⟩ => ⟨ρ, L, μ, h, rel, ?_⟩
  unfold mSeq at q
  cases e : m ρ h with
  | none => rw [e] at q; exact q.none
  | some o =>
    rw [e] at q
    cases o with
    | nx ρ1 h1 => exact fun σ1 m1 H1 g r => ⟨ρ1, L, m1, h1, r, SatS.start (show SatS X W D L μ H (ms ρ1 h1) from q) g⟩
    | bk ρ1 => exact q
    | ct ρ1 => exact q
    | rt n ρ1 => exact q
    | ex c fs ρ1 => exact q
def mExpr (m : M D) : MS := mDo m fun _ => mNx
theorem s_expr {e : Expr} {m : M D} {pos : Pos} (he : PE X e (rd X W m)) (hs : swapsWith e none pos.line X.env = pure false := by rfl) : PS X (.Expr e pos) (rdS X W (mExpr m)) :=
  ps_imp (ps_expr he hs) fun D σ H q => rdG_imp (rdS_bind q) fun ρ L d h1 μ1 H1 ⟨rel1, q1⟩ x rx => q1 σ μ1 H1 .refl rel1
def mRet (m : M D) : MS := mDo m fun d => fun _ h => some (.rt d h)
theorem s_ret {e : Expr} {m : M D} {pos : Pos} (he : PE X e (rd X W m)) : PS X (.Return (some e) pos) (rdS X W (mRet m)) :=
  ps_imp (ps_ret he) fun D σ H q => rdG_imp (rdS_bind q) fun ρ L d h1 μ1 H1 ⟨rel1, q1⟩ x rx => q1 μ1 H1 x .refl rel1.hr rx
def mRetN : MS := fun _ h => some (.rt .non h)
theorem s_retN {pos : Pos} : PS X (.Return none pos) (rdS X W mRetN) := ps_imp ps_retN fun D σ H ⟨ρ, L, μ, h, rel, q⟩ => q μ H .non .refl rel.hr rfl
def mIfS (c : M Bool) (a b : MS) : MS := mDo c fun k => if k = true then a else b
theorem s_if {c : Expr} {as bs : List Stmt} {mc : M Bool} {ma mb : MS} {pos : Pos} (hc : PT X c (rdT X W mc)) (ha : PSs X as (rdS X W ma)) (hb : PSs X bs (rdS X W mb)) : PS X (.If c as bs pos) (rdS X W (mIfS mc ma mb)) := by
  refine ps_imp (ps_if hc ha hb) fun D σ H q => rdG_imp (rdS_bind q) fun ρ L k h1 μ1 H1 ⟨rel1, q1⟩ => ?_
  cases k with
  | true => exact ⟨ρ, L, μ1, h1, rel1, q1⟩
  | false => exact ⟨ρ, L, μ1, h1, rel1, q1⟩
/-! storing a name -/
def mSet (i : Nat) (m : M D) : MS := mDo m fun d => fun ρ h => some (.nx (ρ.set i (some d)) h)
theorem s_set {i : Nat} {x : Str} {e : Expr} {m : M D} {pos pos' : Pos} (hN : X.N.Nodup) (hi : X.N[i]? = some x) (hx : Loc X.env.scope x) (he : PE X e (rd X W m)) (hs : swapsWith e (some (.Name x pos')) pos.line X.env = pure false := by rfl)
    (hf : X.fn x = true ∨ X.env.scope.names.lookup x = some .local := by first | exact .inl rfl | exact .inr rfl | assumption) : PS X (.Assign [.Name x pos'] e pos) (rdS X W (mSet i m)) :=
  ps_imp (ps_set hN hi hx he hs hf) fun D σ H q => rdG_imp (rdS_bind q) fun ρ L d h1 μ1 H1 ⟨rel1, q1⟩ y ry => q1 _ μ1 H1 .refl (rel1.set ry)
end
end Rh

set_option Elab.async false
set_option linter.all false
set_option maxRecDepth 100000
set_option maxHeartbeats 2000000
set_option autoImplicit false
namespace Rh
open PySem PySem.Spec PyProof.Rows L2
variable [Tbs]

/-! ### calls of own defs -/
inductive FR where
  | rt (d : D) (h : Hs)
  | ex (c : Str) (fs : List (Str × D)) (h : Hs)
def envOf (n : Nat) (as : List D) : En := as.map some ++ List.replicate (n - as.length) none
/-- a def's mirror from its body's -/
def runDef (n : Nat) (body : MS) (as : List D) (h : Hs) : Option FR := match body (envOf n as) h with
  | some (.nx _ h) => some (.rt .non h)
  | some (.rt r h) => some (.rt r h)
  | some (.ex c fs _ h) => some (.ex c fs h)
  | _ => none
abbrev FM := List D → Hs → Option FR
/-- what a def promises: its mirror -/
def spF (C : Ct) (np : Nat) (f : FM) : Sp := fun vs H Q E => ∃ L μ h as, vs.length = np ∧ RepL C μ H as vs ∧ HR C L μ H h ∧ match f as h with
  | none => False
  | some (.rt d h') => ∀ x μ' H', Go L μ H μ' H' → HR C L μ' H' h' → RepV C μ' H' d x → Q x H'
  | some (.ex c fs h') => ∀ cls dd μ' H', Go L μ H μ' H' → HR C L μ' H' h' → RepX C μ' H' c fs cls dd → E cls dd H'
def mCall (f : FM) (ms : M (List D)) : M D := mBind ms fun as => fun _ h => match f as h with
  | none => none
  | some (.rt d h') => some (.ok d h')
  | some (.ex c fs h') => some (.ex c fs h')
section
variable {X : Cx} {W : WX} {σ : L2.St} {H : Hp} {Q : VK}
theorem passes_at (tk : Takes X W) : ∀ σ, PassesAt (CX X.prog X.w) X σ (fun cls d H' => W cls d σ H') := fun σ pins H s e s' I c => tk e s' (XE.of_call I (fun cls d H' h => h) c)
abbrev LenM (ms : M (List D)) (n : Nat) : Prop := ∀ ρ h bs h1, ms ρ h = some (.ok bs h1) → bs.length = n
theorem len_nil : LenM mNil 0 := fun ρ h bs ρ1 e => by cases e; rfl
theorem len_cons {m : M D} {ms : M (List D)} {n : Nat} (q : LenM ms n) : LenM (mCons m ms) (n + 1) := fun ρ h bs h1 e => by
  unfold mCons mBind at e
  split at e
  · cases e
  · rename_i x h2 _
    dsimp only at e
    split at e
    · cases e
    · rename_i xs h3 e2
      cases e
      rw [List.length_cons, q _ _ _ _ e2]
    · cases e
  · cases e
/-- what the callee asks -/
theorem sp_of {f : FM} {np : Nat} {as : List D} {vs : List V} {L : List Nat} {μ : Mu} {h : Hs} (hl : as.length = np) (hr : HR (ctX X) L μ H h) (rl : RepL (ctX X) μ H as vs)
    (q : Sat X W L σ μ H (match f as h with | none => none | some (.rt d h') => some (R.ok d h') | some (.ex c fs h') => some (.ex c fs h')) fun d h' μ' H' => ∀ x, RepV (ctX X) μ' H' d x → Q x H') :
    spF (ctX X) np f vs H Q (fun cls d H' => W cls d σ H') := by
  refine ⟨L, μ, h, as, rl.length.trans hl, rl, hr, ?_⟩
  cases e : f as h with
  | none => rw [e] at q; exact q.none
  | some o =>
    rw [e] at q
    cases o with
    | rt d h' => exact fun x μ' H' g r rv => q μ' H' g r x rv
    | ex c fs h' => exact fun cls dd μ' H' g r rx => q cls dd μ' H' g r rx
theorem rd_call {f : FM} {np : Nat} {ms : M (List D)} (hlen : LenM ms np) (q : rd X W (mCall f ms) σ H Q) :
    tCallSD (spF (ctX X) np f) [] (fun σ cls d H' => W cls d σ H') (rdA X W ms) σ H Q := by
  obtain ⟨ρ, L, μ, h, rel, q⟩ := q
  refine ⟨ρ, L, μ, h, rel, ?_⟩
  have q2 := q.bind rel
  cases em : ms ρ h with
  | none => rw [em] at q2; exact q2.none
  | some o =>
    rw [em] at q2
    cases o with
    | ex c fs h1 => exact q2
    | ok as h1 =>
      intro μ1 H1 g1 r1 vs rs
      obtain ⟨_, rel1, q3⟩ := q2 μ1 H1 g1 r1
      rw [List.append_nil]
      exact sp_of (hlen ρ h as h1 em) rel1.hr rs q3
variable {k : Nat} {f : Addr} {fd : FuncData} {ps N : List Str} {np : Nat} {fm : FM} {x : Str} {p pos : Pos} {e : Expr} {es : List Expr} {ms : M (List D)}
theorem e_call (F : FnOk X.prog X.w X.K X.mg X.base (L2.CX X.prog X.w) k f fd ps (spF (ctX X) np fm)) (hr : Room k X.A) (hm : X.mg x = some (.ref f)) (hk : PySem.W.keepIn X.K (.ref f) = true) (hb : Binds X.K fd ps []) (tk : Takes X W) (hlen : LenM ms np) (hg : Gl X x)
    (ha : PA X (e :: es) (rdA X W ms)) (hdb : (x == ("__debug__" : Str)) = false := by decide) (he : starEach (e :: es) X.env = (false, eval e X.env) :: starEach es X.env := by rfl) (hpl : (backTo pos (starEach es X.env)).any (·.1) = false := by rfl) :
    PE X (.Call (.Name x p) (e :: es) [] pos) (rd X W (mCall fm ms)) :=
  pe_imp (pe_callSD F hr hg hm hk hb .nil (passes_at tk) ha hdb he hpl) fun _ _ _ h => rd_call hlen h
theorem e_call0 (F : FnOk X.prog X.w X.K X.mg X.base (L2.CX X.prog X.w) k f fd ps (spF (ctX X) 0 fm)) (hr : Room k X.A) (hm : X.mg x = some (.ref f)) (hk : PySem.W.keepIn X.K (.ref f) = true) (hb : Binds X.K fd ps []) (tk : Takes X W) (hg : Gl X x)
    (hdb : (x == ("__debug__" : Str)) = false := by decide) : PE X (.Call (.Name x p) [] [] pos) (rd X W (mCall fm mNil)) := by
  refine ⟨fun pins s σ H Q I q => ?_⟩
  refine wpAny_Call_Name_kw (ld_glob I hg hm ?_ hdb)
  obtain ⟨ρ, L, μ, h, rel, q⟩ := q
  exact PySem.W.callWith_K0 I.kIn hk (run_fnSD (us := []) (E := fun σ cls d H' => W cls d σ H') F hr hb .nil (passes_at tk σ) I .nil (sp_of (as := []) rfl rel.hr rfl q))
end
/-! ### a def -/
/-- the context of a def's body -/
abbrev cxD (P : Program) (w : World) (K : PySem.W.Frag) (mg : Str → Option Value) (base : Heap) (N : List Str) (qual : Str) (st : Stmt) (f : Addr) (cdv : Value) (A : Around) (outer : List PySem.Env) (s : Shared) (H : Hp) (E : XK) : Cx :=
  cxOf (L2.CX P w) P w K mg base N qual (defScope st) f cdv A outer s H E
abbrev wD (E : XK) : WX := fun cls d _ H => E cls d H
theorem tkD {P : Program} {w : World} {K : PySem.W.Frag} {mg : Str → Option Value} {base : Heap} {N : List Str} {qual : Str} {st : Stmt} {f : Addr} {cdv : Value} {A : Around} {outer : List PySem.Env} {s : Shared} {H : Hp} {E : XK} : Takes (cxD P w K mg base N qual st f cdv A outer s H E) (wD E) := takes_of rfl rfl rfl rfl
theorem poD {P : Program} {w : World} {K : PySem.W.Frag} {mg : Str → Option Value} {base : Heap} {N : List Str} {qual : Str} {st : Stmt} {f : Addr} {cdv : Value} {A : Around} {outer : List PySem.Env} {s : Shared} {H : Hp} {E : XK} :
    PassesOwn (model (cxD P w K mg base N qual st f cdv A outer s H E).prog (cxD P w K mg base N qual st f cdv A outer s H E).w) (cxD P w K mg base N qual st f cdv A outer s H E).A (cxD P w K mg base N qual st f cdv A outer s H E).env (cxD P w K mg base N qual st f cdv A outer s H E).xe := passes_of rfl
theorem env_rel {C : Ct} {L : List Nat} {μ : Mu} {H : Hp} {h : Hs} {N : List Str} {as : List D} {vs : List V} (rl : RepL C μ H as vs) (hr : HR C L μ H h) (hN : vs.length ≤ N.length) : Rel C L (envOf N.length as) (start N vs) μ H h := by
  have hl := rl.length
  refine ⟨?_, fun i d e => ?_, hr⟩
  · unfold envOf L2.start
    rw [List.length_append, List.length_append, List.length_map, List.length_map, List.length_replicate, List.length_replicate]
    omega
  · unfold envOf at e
    by_cases hi : i < as.length
    · rw [List.getElem?_append_left (by simpa using hi), List.getElem?_map] at e
      obtain ⟨d', e1, e2⟩ := Option.map_eq_some_iff.mp e
      cases e2
      obtain ⟨v, e3, rv⟩ := rl.get e1
      refine ⟨v, ?_, rv.s⟩
      unfold L2.start
      rw [List.getElem?_append_left (by rw [List.length_map]; omega), List.getElem?_map, e3]
      rfl
    · rw [List.getElem?_append_right (by simpa using Nat.le_of_not_lt hi), List.getElem?_replicate] at e
      split at e <;> cases e
theorem fn_ok {P : Program} {w : World} {K : PySem.W.Frag} {mg : Str → Option Value} {base : Heap} {x qual : Str} {st : Stmt} {f : Addr} {fd : FuncData} {N ps : List Str} {k np : Nat} {mb : MS} (F : Fun K x qual st f fd) (S : FnScope N ps (defScope st)) (hp : ps.length = np) (hN : np ≤ N.length)
    (hbody : ∀ (cdv : Value) (A : Around) (outer : List PySem.Env) (s : Shared) (H : Hp) (E : XK), Room k (A.deeper (envOfC qual (defScope st) s.heap.objs.size f cdv)) →
      PSs (cxD P w K mg base N qual st f cdv A outer s H E) (defBody st) (rdS (cxD P w K mg base N qual st f cdv A outer s H E) (wD E) mb)) :
    FnOk P w K mg base (L2.CX P w) (k + 1) f fd ps (spF ⟨w, K, mg⟩ np (runDef N.length mb)) := by
  refine F.okX S (fun vs H Q E ⟨L, μ, h, as, hv, _⟩ => hv.trans hp.symm) fun cdv A outer s H vs Q E hr ⟨L, μ, h, as, hv, rl, r, q⟩ => ⟨_, hbody cdv A outer s H E hr, _, L, μ, h, env_rel rl r (by omega), ?_⟩
  unfold runDef at q
  cases e : mb (envOf N.length as) h with
  | none => simp only [e] at q
  | some o =>
    cases o with
    | nx ρ h' => simp only [e] at q; exact fun σ' μ' H' g r => q .non μ' H' g r.hr rfl
    | rt n ρ => simp only [e] at q; exact fun μ' H' x g r rr => q x μ' H' g r rr
    | ex c fs ρ h' => simp only [e] at q; exact fun cls d σ' μ' H' g r rx => q cls d μ' H' g r.hr rx
    | bk ρ => simp only [e] at q
    | ct ρ => simp only [e] at q
end Rh

set_option Elab.async false
set_option linter.all false
set_option maxRecDepth 100000
set_option maxHeartbeats 2000000
set_option autoImplicit false
namespace Rh
open PySem PySem.Spec PyProof.Rows L2
variable [Tbs]
/-! ### dicts, at the heap -/
abbrev Ent := NestedKey × Value × Value
def idxK (ks : List NestedKey) (k : NestedKey) : Option Nat := ks.findIdx? fun x => decide (x = k)
structure RawD (w : World) (h : Heap) (a : Addr) (ep : Nat) (rs : List Ent) : Prop where
  sys : (a == sysModules) = false
  sz : rs.length ≤ sizeLine
  at_ : ∃ o, h.get? a = some o ∧ o.ExactDict ∧ o.data = .dict (rs.map fun e => (⟨e.1.hash w, e.2.1, e.2.2⟩ : DictEntry)).toArray ep
  nd : (rs.map (·.1)).Nodup
  hom : homK (rs.map (·.1)) = true
def KL (rs : List Ent) : Prop := ∀ r ∈ rs, ∃ l : Leaf, l.key = r.1 ∧ Leaf.isOf l r.2.1 = true
def KT (h : Heap) (rs : List Ent) : Prop := ∀ r ∈ rs, ∃ b, r.2.1 = .ref b ∧ NestedIs h r.1 (.ref b) ∧ r.1.depth ≤ 8
def putR (rs : List Ent) (k : NestedKey) (ku vu : Value) : List Ent := match idxK (rs.map (·.1)) k with
  | some i => rs.modify i fun r => (r.1, r.2.1, vu)
  | none => rs ++ [(k, ku, vu)]
def getR (rs : List Ent) (k : NestedKey) : Option Value := (idxK (rs.map (·.1)) k).bind fun i => (rs[i]?).map (·.2.2)
def toLeaf : NestedKey → Leaf
  | .none => .none
  | .num i => .num i
  | .text x => .text x
  | .tup _ => .none
theorem toLeaf_key : ∀ l : Leaf, toLeaf l.key = l
  | .none => rfl
  | .num _ => rfl
  | .text _ => rfl
theorem key_toLeaf {rs : List Ent} (hk : KL rs) {r : Ent} (h : r ∈ rs) : (toLeaf r.1).key = r.1 ∧ Leaf.isOf (toLeaf r.1) r.2.1 = true := by
  obtain ⟨l, e, i⟩ := hk r h
  rw [← e, toLeaf_key]
  exact ⟨rfl, i⟩
def adr : Value → Addr
  | .ref a => a
  | _ => default
def lv (r : Ent) : Leaf × Value := (toLeaf r.1, r.2.2)
def tv (r : Ent) : NestedKey × Addr × Value := (r.1, adr r.2.1, r.2.2)
theorem idx_lv {rs : List Ent} (hk : KL rs) (l : Leaf) : (rs.map lv).findIdx? (fun kv => decide (kv.1 = l)) = idxK (rs.map (·.1)) l.key := by
  unfold idxK
  rw [List.findIdx?_map, List.findIdx?_map]
  induction rs with
  | nil => rfl
  | cons r rs ih =>
    have h1 := key_toLeaf hk (List.mem_cons_self ..)
    have e : decide ((lv r).1 = l) = decide (r.1 = l.key) := by
      by_cases q : (lv r).1 = l
      · rw [decide_eq_true q]
        have q2 : r.1 = l.key := by rw [← q]; exact h1.1.symm
        rw [decide_eq_true q2]
      · rw [decide_eq_false q]
        have q2 : ¬ r.1 = l.key := fun z => q (by show toLeaf r.1 = l; rw [z, toLeaf_key])
        rw [decide_eq_false q2]
    rw [List.findIdx?_cons, List.findIdx?_cons, ih fun r h => hk r (List.mem_cons_of_mem _ h)]
    show (if decide ((lv r).1 = l) = true then _ else _) = (if decide (r.1 = l.key) = true then _ else _)
    rw [e]
theorem find_idx {α : Type} (p : α → Bool) : ∀ xs : List α, xs.find? p = (xs.findIdx? p).bind fun i => xs[i]?
  | [] => rfl
  | x :: xs => by
    rw [List.find?_cons, List.findIdx?_cons]
    cases h : p x with
    | true => rfl
    | false =>
      simp only [Bool.false_eq_true, if_false]
      rw [find_idx p xs]
      cases xs.findIdx? p <;> rfl
theorem at_lv {rs : List Ent} (hk : KL rs) (l : Leaf) : valueAt (rs.map lv) l = getR rs l.key := by
  unfold valueAt getR
  rw [find_idx, idx_lv hk]
  cases idxK (rs.map (·.1)) l.key with
  | none => rfl
  | some i =>
    show ((rs.map lv)[i]?).map _ = (rs[i]?).map _
    rw [List.getElem?_map]
    cases rs[i]? <;> rfl
theorem at_tv {rs : List Ent} (k : NestedKey) : (atKey (rs.map tv) k).map (·.2) = getR rs k := by
  have e : (rs.map tv).findIdx? (fun x => decide (x.1 = k)) = idxK (rs.map (·.1)) k := by
    unfold idxK
    rw [List.findIdx?_map, List.findIdx?_map]
    rfl
  unfold atKey getR
  rw [find_idx, e]
  cases idxK (rs.map (·.1)) k with
  | none => rfl
  | some i =>
    show (((rs.map tv)[i]?).map _).map _ = (rs[i]?).map _
    rw [List.getElem?_map]
    cases rs[i]? <;> rfl
section
variable {P : Program} {w : World} {h : Heap} {a : Addr} {ep : Nat} {rs : List Ent}
theorem RawD.leaf (x : RawD w h a ep rs) (hk : KL rs) : h.DictOf (leafKind P w) a (rs.map lv) := by
  obtain ⟨o, ho, hc, hd⟩ := x.at_
  refine ⟨o, _, ep, ho, hc, hd, fun e he => ?_, ?_, ?_⟩
  · obtain ⟨r, hr, rfl⟩ := List.mem_map.mp (List.mem_toArray.mp he)
    obtain ⟨h1, h2⟩ := key_toLeaf hk hr
    exact ⟨toLeaf r.1, h2, by show NestedKey.hash w r.1 = NestedKey.hash w (toLeaf r.1).key; rw [h1]⟩
  · have : ∀ l : List Ent, KL l → Pairs (leafKind P w) (l.map fun e => (⟨e.1.hash w, e.2.1, e.2.2⟩ : DictEntry)) (l.map lv) := fun l => by
      induction l with
      | nil => exact fun _ => .nil
      | cons r l ih => exact fun q => .cons (key_toLeaf q (List.mem_cons_self ..)).2 rfl (ih fun r h => q r (List.mem_cons_of_mem _ h))
    exact this rs hk
  · have nd := x.nd
    have : ∀ l : List Ent, KL l → (l.map (·.1)).Nodup → ((l.map lv).map (·.1)).Nodup := fun l => by
      induction l with
      | nil => exact fun _ _ => .nil
      | cons r l ih =>
        intro q n
        rw [List.map_cons, List.nodup_cons] at n
        rw [List.map_cons, List.map_cons, List.nodup_cons]
        refine ⟨fun hm => n.1 ?_, ih (fun r h => q r (List.mem_cons_of_mem _ h)) n.2⟩
        obtain ⟨p, hp, e⟩ := List.mem_map.mp hm
        obtain ⟨r2, hr2, rfl⟩ := List.mem_map.mp hp
        refine List.mem_map.mpr ⟨r2, hr2, ?_⟩
        have e : toLeaf r2.1 = toLeaf r.1 := e
        rw [← (key_toLeaf q (List.mem_cons_of_mem _ hr2)).1, ← (key_toLeaf q (List.mem_cons_self ..)).1, e]
    exact this rs hk nd
theorem RawD.heap (x : RawD w h a ep rs) (hk : KT h rs) : h.DictOfH (nestedKind P w) a (rs.map tv) := by
  obtain ⟨o, ho, hc, hd⟩ := x.at_
  refine ⟨o, _, ep, ho, hc, hd, ?_, fun y hy => ?_, ?_⟩
  · show rs.map _ = (rs.map tv).map _
    rw [List.map_map]
    refine List.map_congr_left fun r hr => ?_
    obtain ⟨b, e, _⟩ := hk r hr
    show (⟨r.1.hash w, r.2.1, r.2.2⟩ : DictEntry) = ⟨r.1.hash w, .ref (adr r.2.1), r.2.2⟩
    rw [e]
    rfl
  · obtain ⟨r, hr, rfl⟩ := List.mem_map.mp hy
    obtain ⟨b, e, n, dp⟩ := hk r hr
    show NestedIs h r.1 (.ref (adr r.2.1)) ∧ r.1.depth ≤ 8
    rw [e]
    exact ⟨n, dp⟩
  · rw [List.map_map]
    exact x.nd
end
section
variable {P : Program} {w : World} {A : Around} {E : Value → Shared → Prop} {s : Shared} {a : Addr} {ep : Nat} {rs : List Ent} {k : NestedKey} {ku : Value}
/-- a key to look up: simple, or a tuple -/
def KeyFor (h : Heap) (rs : List Ent) (k : NestedKey) (ku : Value) : Prop := (KL rs ∧ ∃ l : Leaf, l.key = k ∧ Leaf.isOf l ku = true) ∨ (KT h rs ∧ ∃ b, ku = .ref b ∧ NestedIs h k (.ref b) ∧ k.depth ≤ 8)
theorem raw_get {v : Value} {Q : Value → Shared → Prop} (hu : A.in1.units + 8 < cLine) (x : RawD w s.heap a ep rs) (hk : KeyFor s.heap rs k ku) (hv : getR rs k = some v) (hq : ∀ tk, Q v { s with toks := tk }) :
    wpAny (model P w) A (getItem (.ref a) ku) Q E s := by
  rcases hk with ⟨kl, l, rfl, hl⟩ | ⟨kt, b, rfl, hb, dp⟩
  · exact wpAny_getItem_of (knd := leafKind P w) hl (x.leaf kl).mapOf (by rw [at_lv kl]; exact hv) (hq _)
  · rw [← at_tv] at hv
    obtain ⟨p, hp, rfl⟩ := Option.map_eq_some_iff.mp hv
    exact wpAny_getItem_heap (knd := nestedKind P w) hu ⟨hb, dp⟩ (x.heap kt) hp (hq _)
theorem raw_in {Q : Value → Shared → Prop} (hu : A.in1.units + 8 < cLine) (x : RawD w s.heap a ep rs) (hk : KeyFor s.heap rs k ku) (hq : ∀ tk, Q (.bool (getR rs k).isSome) { s with toks := tk }) :
    wpAny (model P w) A (compareOp .In ku (.ref a)) Q E s := by
  rcases hk with ⟨kl, l, rfl, hl⟩ | ⟨kt, b, rfl, hb, dp⟩
  · refine wpAny_in_of (knd := leafKind P w) hl x.sys (x.leaf kl).mapOf ?_
    rw [at_lv kl]
    exact hq _
  · refine wpAny_in_heap (knd := nestedKind P w) hu ⟨hb, dp⟩ x.sys (x.heap kt) ?_
    rw [← Option.isSome_map (f := (·.2)), at_tv]
    exact hq _
end
theorem put_some {rs : List Ent} {k : NestedKey} {ku vu : Value} {i : Nat} (h : idxK (rs.map (·.1)) k = some i) : putR rs k ku vu = rs.modify i fun r => (r.1, r.2.1, vu) := by
  unfold putR
  rw [h]
theorem put_none {rs : List Ent} {k : NestedKey} {ku vu : Value} (h : idxK (rs.map (·.1)) k = none) : putR rs k ku vu = rs ++ [(k, ku, vu)] := by
  unfold putR
  rw [h]
theorem modify_map {α β : Type} (f : α → β) (g : α → α) (g' : β → β) (h : ∀ a, f (g a) = g' (f a)) : ∀ (xs : List α) (i : Nat), (xs.modify i g).map f = (xs.map f).modify i g'
  | [], i => by simp
  | x :: xs, 0 => by simp [h]
  | x :: xs, i + 1 => by simp [modify_map f g g' h xs i]
theorem put_keys {rs : List Ent} {k : NestedKey} {ku vu : Value} : (putR rs k ku vu).map (·.1) = match idxK (rs.map (·.1)) k with
  | some _ => rs.map (·.1)
  | none => rs.map (·.1) ++ [k] := by
  cases e : idxK (rs.map (·.1)) k with
  | some i =>
    rw [put_some e, modify_map (fun r : Ent => r.1) (fun r => (r.1, r.2.1, vu)) id fun a => rfl]
    simp
  | none => rw [put_none e, List.map_append]; rfl
theorem put_nodup {rs : List Ent} {k : NestedKey} {ku vu : Value} (nd : (rs.map (·.1)).Nodup) : ((putR rs k ku vu).map (·.1)).Nodup := by
  rw [put_keys]
  cases e : idxK (rs.map (·.1)) k with
  | some i => exact nd
  | none =>
    show (rs.map (·.1) ++ [k]).Nodup
    rw [List.nodup_append]
    refine ⟨nd, by simp, fun x hx y hy => ?_⟩
    have ey : y = k := by simpa using hy
    subst ey
    intro exy
    subst exy
    have := List.findIdx?_eq_none_iff.mp e x hx
    simp at this
theorem put_len {rs : List Ent} {k : NestedKey} {ku vu : Value} : (putR rs k ku vu).length ≤ rs.length + 1 := by
  cases e : idxK (rs.map (·.1)) k with
  | some i => rw [put_some e, List.length_modify]; omega
  | none => rw [put_none e, List.length_append]; simp
/-! keys of one kind, and one more -/
theorem leaf_leafK : ∀ l : Leaf, leafK l.key = true
  | .none => rfl
  | .num _ => rfl
  | .text _ => rfl
theorem homL_put {rs : List Ent} {l : Leaf} {ku vu : Value} (kl : KL rs) : homK ((putR rs l.key ku vu).map (·.1)) = true := by
  unfold homK
  rw [Bool.or_eq_true]
  refine .inl (List.all_eq_true.mpr fun k hk => ?_)
  have all : ∀ k ∈ rs.map (·.1), leafK k = true := fun k hk => by
    obtain ⟨r, hr, rfl⟩ := List.mem_map.mp hk
    obtain ⟨l', e, _⟩ := kl r hr
    rw [← e]; exact leaf_leafK l'
  rw [put_keys] at hk
  split at hk
  · exact all k hk
  · rcases List.mem_append.mp hk with hk | hk
    · exact all k hk
    · rw [List.mem_singleton.mp hk]; exact leaf_leafK l
theorem nested_tup {h : Heap} {k : NestedKey} {b : Addr} (n : NestedIs h k (.ref b)) : leafK k = false := by
  cases n with
  | tup _ _ _ _ => rfl
theorem homT_put {h : Heap} {rs : List Ent} {k : NestedKey} {b : Addr} {vu : Value} (kt : KT h rs) (hb : NestedIs h k (.ref b)) (dp : k.depth ≤ 8) : homK ((putR rs k (.ref b) vu).map (·.1)) = true := by
  unfold homK
  rw [Bool.or_eq_true]
  have one : (!leafK k && decide (k.depth ≤ 8)) = true := by rw [nested_tup hb, decide_eq_true dp]; rfl
  refine .inr (List.all_eq_true.mpr fun x hx => ?_)
  have all : ∀ k ∈ rs.map (·.1), (!leafK k && decide (k.depth ≤ 8)) = true := fun k hk => by
    obtain ⟨r, hr, rfl⟩ := List.mem_map.mp hk
    obtain ⟨c, e, n, d⟩ := kt r hr
    rw [nested_tup n, decide_eq_true d]; rfl
  rw [put_keys] at hx
  split at hx
  · exact all x hx
  · rcases List.mem_append.mp hx with hx | hx
    · exact all x hx
    · rw [List.mem_singleton.mp hx]; exact one
/-! keys sought in less steps -/
def iEq : Int → Int → Bool
  | .ofNat a, .ofNat b => Nat.beq a b
  | .negSucc a, .negSucc b => Nat.beq a b
  | _, _ => false
theorem iEq_eq (a b : Int) : iEq a b = decide (a = b) := by
  cases a with
  | ofNat a => cases b with
    | ofNat b => show Nat.beq a b = _; rw [beq_dec]; exact decide_eq_decide.mpr ⟨fun h => by rw [h], fun h => by injection h⟩
    | negSucc b => simp [iEq]
  | negSucc a => cases b with
    | ofNat b => simp [iEq]
    | negSucc b => show Nat.beq a b = _; rw [beq_dec]; simp
def kqA : NestedKey → NestedKey → Bool
  | .num a, .num b => iEq a b
  | .num _, _ => false
  | .none, .none => true
  | .none, _ => false
  | x, y => NestedKey.beq x y
def kqL (f : NestedKey → NestedKey → Bool) : List NestedKey → List NestedKey → Bool
  | [], [] => true
  | a :: r, b :: t => match f a b with
    | true => kqL f r t
    | false => false
  | _, _ => false
def kqB (x y : NestedKey) : Bool := match x with
  | .tup a => (match y with
    | .tup b => kqL kqA a b
    | _ => false)
  | _ => kqA x y
def kqC (x y : NestedKey) : Bool := match x with
  | .tup a => (match y with
    | .tup b => kqL kqB a b
    | _ => false)
  | _ => kqA x y
theorem kqA_eq (x y : NestedKey) : kqA x y = decide (x = y) := by
  rw [NestedKey.decide_eq]
  cases x with
  | num i => cases y with
    | num j => show iEq i j = decide (i = j); exact iEq_eq i j
    | _ => rfl
  | none => cases y <;> rfl
  | text t => cases y <;> rfl
  | tup ks => cases y <;> rfl
theorem kqL_eq {f : NestedKey → NestedKey → Bool} (hf : ∀ x y, f x y = decide (x = y)) : ∀ a b : List NestedKey, kqL f a b = decide (a = b)
  | [], [] => by simp [kqL]
  | [], b :: t => by simp [kqL]
  | a :: r, [] => by simp [kqL]
  | a :: r, b :: t => by
    unfold kqL
    rw [hf, kqL_eq hf r t]
    by_cases h : a = b
    · subst h; simp
    · simp [h]
theorem kqB_eq (x y : NestedKey) : kqB x y = decide (x = y) := by
  cases x with
  | tup a => cases y with
    | tup b => show kqL kqA a b = _; rw [kqL_eq kqA_eq]; simp
    | _ => exact (decide_eq_false fun h => nomatch h).symm
  | num i => exact kqA_eq (.num i) y
  | none => exact kqA_eq .none y
  | text t => exact kqA_eq (.text t) y
theorem kqC_eq (x y : NestedKey) : kqC x y = decide (x = y) := by
  cases x with
  | tup a => cases y with
    | tup b => show kqL kqB a b = _; rw [kqL_eq kqB_eq]; simp
    | _ => exact (decide_eq_false fun h => nomatch h).symm
  | num i => exact kqA_eq (.num i) y
  | none => exact kqA_eq .none y
  | text t => exact kqA_eq (.text t) y
def fIdx (k : NestedKey) : List NestedKey → Nat → Option Nat
  | [], _ => none
  | x :: r, i => match kqC x k with
    | true => some i
    | false => fIdx k r (i + 1)
theorem fIdx_eq (k : NestedKey) : ∀ (ks : List NestedKey) (i : Nat), fIdx k ks i = (idxK ks k).map (· + i)
  | [], i => rfl
  | x :: r, i => by
    unfold fIdx idxK
    rw [List.findIdx?_cons, kqC_eq]
    by_cases h : x = k
    · simp [h]
    · rw [decide_eq_false h]
      simp only [Bool.false_eq_true, if_false]
      rw [fIdx_eq k r (i + 1)]
      unfold idxK
      cases List.findIdx? (fun x => decide (x = k)) r with
      | none => rfl
      | some j => simp; omega
theorem fIdx_zero (ks : List NestedKey) (k : NestedKey) : fIdx k ks 0 = idxK ks k := by
  rw [fIdx_eq]
  cases idxK ks k <;> rfl
end Rh

set_option Elab.async false
set_option linter.all false
set_option maxRecDepth 100000
set_option maxHeartbeats 2000000
set_option autoImplicit false
namespace Rh
open PySem PySem.Spec PyProof.Rows L2
variable [Tbs]
section
variable {P : Program} {w : World} {A : Around} {E : Value → Shared → Prop} {s : Shared} {a : Addr} {ep : Nat} {rs : List Ent} {k : NestedKey} {ku : Value}
theorem modify_toArray {α : Type} (l : List α) (i : Nat) (f : α → α) : l.toArray.modify i f = (l.modify i f).toArray := by simp
def ent (w : World) (e : Ent) : DictEntry := ⟨e.1.hash w, e.2.1, e.2.2⟩
theorem idx_arr {rs : List Ent} (hk : KL rs) (l : Leaf) : ((rs.map (ent w)).toArray.findIdx? fun e => (leafKind P w).is l e.key) = idxK (rs.map (·.1)) l.key := by
  rw [List.findIdx?_toArray, List.findIdx?_map]
  unfold idxK
  rw [List.findIdx?_map]
  induction rs with
  | nil => rfl
  | cons r rs ih =>
    obtain ⟨h1, h2⟩ := key_toLeaf hk (List.mem_cons_self ..)
    have e : (leafKind P w).is l r.2.1 = decide (r.1 = l.key) := by
      rw [KeyKind.is_eq_decide (knd := leafKind P w) h2 l]
      by_cases q : l = toLeaf r.1
      · rw [decide_eq_true q, decide_eq_true (show r.1 = l.key by rw [q]; exact h1.symm)]
      · rw [decide_eq_false q, decide_eq_false (fun z => q (by rw [z, toLeaf_key]))]
    rw [List.findIdx?_cons, List.findIdx?_cons, ih fun r h => hk r (List.mem_cons_of_mem _ h)]
    show (if (leafKind P w).is l r.2.1 = true then _ else _) = (if decide (r.1 = l.key) = true then _ else _)
    rw [e]
theorem raw_set_leaf {l : Leaf} {vu : Value} {Q : Unit → Shared → Prop} (x : RawD w s.heap a ep rs) (kl : KL rs) (hl : Leaf.isOf l ku = true) (hz : rs.length < sizeLine)
    (hQ : ∀ h' ep' tk, RawD w h' a ep' (putR rs l.key ku vu) → Heap.SameBut a s.heap h' → Q () { s with heap := h', toks := tk }) : wpAny (model P w) A (setItem (.ref a) ku vu) Q E s := by
  have D := x.leaf (P := P) kl
  have hT := D.typeIs
  obtain ⟨_, _, _, _, _, _, hko, _, _⟩ := id D
  obtain ⟨o, ho, hc, hd⟩ := x.at_
  have hko : KeysOf (leafKind P w) (rs.map (ent w)).toArray := fun e he => by
    obtain ⟨r, hr, rfl⟩ := List.mem_map.mp (List.mem_toArray.mp he)
    obtain ⟨h1, h2⟩ := key_toLeaf kl hr
    exact ⟨toLeaf r.1, h2, by show NestedKey.hash w r.1 = NestedKey.hash w (toLeaf r.1).key; rw [h1]⟩
  have hkey : (leafKind P w).is l ku = true := hl
  have nd2 := put_nodup (k := l.key) (ku := ku) (vu := vu) x.nd
  have sz2 : (putR rs l.key ku vu).length ≤ sizeLine := Nat.le_trans put_len hz
  unfold setItem
  try with_reducible refine wpAny_holding ?_
  refine wpAny_bind (wpAny_sequenceKey hT (by decide) ?_)
  refine wpAny_bind (wpAny_callSpecial?_slot (name := Str.ofString "__setitem__") hT slot_dict_setitem
    (wpAny_call_entry slot_dict_setitem hT entry_dict_setitem ?_ (args_dict_setitem _ _ _)))
  show wpAny _ _ (Builtin.Dict.notOrdered "__setitem__" ⟨[.ref a, ku, vu], []⟩ >>= _) _ _ s
  refine wpAny_bind (wpAny_notOrdered_dict hT ?_)
  show wpAny _ _ (dictSet a ku vu >>= _) _ _ s
  refine wpAny_bind ?_
  unfold dictSet
  try with_reducible refine wpAny_holding ?_
  refine wpAny_bind ((leafKind P w).pyHash hkey ?_)
  unfold dictSetHashed
  try with_reducible refine wpAny_holding ?_
  refine wpAny_bind (wpAny_dictFind_of (s := { s with toks := s.toks + 1 }) hkey ho hd hko ?_)
  have hidx := idx_arr (P := P) (w := w) kl l
  cases hi : idxK (rs.map (·.1)) l.key with
  | some i =>
    have hi2 : ((rs.map fun e => (⟨e.1.hash w, e.2.1, e.2.2⟩ : DictEntry)).toArray.findIdx? fun e => (leafKind P w).is l e.key) = some i := hidx.trans hi
    rw [hi2]
    refine wpAny_bind (wpAny_rule (wpAny_bind (wpAny_updateDict (s := { s with toks := s.toks + 1 }) ho hd (wpAny_point (wpAny_pure ⟨.none, rfl, wpAny_pure (hQ _ ep _ ⟨x.sys, sz2, ⟨_, Heap.get?_update_self _ ho (Obj.isFreed_of_dict (Obj.data_mapDict hd _)),
      hc.mapDict _, ?_⟩, nd2, homL_put kl⟩ (Heap.SameBut.update ..))⟩)))))
    rw [Obj.data_mapDict hd _, put_some hi, modify_map (fun e : Ent => (⟨e.1.hash w, e.2.1, e.2.2⟩ : DictEntry)) (fun r => (r.1, r.2.1, vu)) (fun e => { e with val := vu }) fun _ => rfl]
    simp
  | none =>
    have hi2 : ((rs.map fun e => (⟨e.1.hash w, e.2.1, e.2.2⟩ : DictEntry)).toArray.findIdx? fun e => (leafKind P w).is l e.key) = none := hidx.trans hi
    rw [hi2]
    refine wpAny_bind (wpAny_rule (wpAny_updateDictKeys (hz := by simp; exact Nat.le_of_lt hz) (s := { s with toks := s.toks + 1 }) ho hd (wpAny_pure ⟨.none, rfl, wpAny_pure (hQ _ (ep + 1) _ ⟨x.sys, sz2, ⟨_, Heap.get?_update_self _ ho (Obj.isFreed_of_dict (Obj.data_mapDictKeys hd _)),
      hc.mapDictKeys _, ?_⟩, nd2, homL_put kl⟩ (Heap.SameBut.update ..))⟩)))
    rw [Obj.data_mapDictKeys hd _, put_none hi, List.map_append]
    simp
    rfl
theorem put_tv (rs : List Ent) (nd : (rs.map (·.1)).Nodup) {k : NestedKey} {b : Addr} {vu : Value} : storedH (rs.map tv) k b vu = (putR rs k (.ref b) vu).map tv := by
  have e : (rs.map tv).findIdx? (fun x => decide (x.1 = k)) = idxK (rs.map (·.1)) k := by
    unfold idxK
    rw [List.findIdx?_map, List.findIdx?_map]
    rfl
  cases hi : idxK (rs.map (·.1)) k with
  | none =>
    have h0 : atKey (rs.map tv) k = none := by
      unfold atKey
      rw [find_idx, e, hi]
      rfl
    rw [storedH_new h0, put_none hi, List.map_append]
    rfl
  | some i =>
    obtain ⟨hlt, hp, _⟩ := List.findIdx?_eq_some_iff_getElem.mp (e.trans hi)
    have h0 : ∃ p, atKey (rs.map tv) k = some p := by
      unfold atKey
      rw [find_idx, e, hi]
      show ∃ p, ((rs.map tv)[i]?).map _ = some p
      rw [List.getElem?_eq_getElem hlt]
      exact ⟨_, rfl⟩
    obtain ⟨p, h0⟩ := h0
    rw [storedH_old h0, put_some hi, modify_map tv (fun r => (r.1, r.2.1, vu)) (fun y => (y.1, y.2.1, vu)) fun _ => rfl]
    have nd2 : ((rs.map tv).map (·.1)).Nodup := by rw [List.map_map]; exact nd
    have hj : (rs.map tv)[i]? = some (k, ((rs.map tv)[i]).2) := by
      rw [List.getElem?_eq_getElem hlt]
      have hk : (rs.map tv)[i].1 = k := of_decide_eq_true hp
      rw [← hk]
    have := modify_map_putAt (id : NestedKey × Addr × Value → NestedKey × Addr × Value) (fun y => (y.1, y.2.1, vu)) k vu (fun _ _ => rfl) nd2 hj
    rw [List.map_id, List.map_id] at this
    exact this.symm
theorem put_mem {rs : List Ent} {k : NestedKey} {ku vu : Value} {r : Ent} (h : r ∈ putR rs k ku vu) : (∃ r0 ∈ rs, r.1 = r0.1 ∧ r.2.1 = r0.2.1) ∨ (r.1 = k ∧ r.2.1 = ku) := by
  cases hi : idxK (rs.map (·.1)) k with
  | none =>
    rw [put_none hi] at h
    rcases List.mem_append.mp h with h | h
    · exact .inl ⟨r, h, rfl, rfl⟩
    · have e : r = (k, ku, vu) := by simpa using h
      subst e
      exact .inr ⟨rfl, rfl⟩
  | some i =>
    rw [put_some hi] at h
    obtain ⟨j, hj, rfl⟩ := List.mem_iff_getElem.mp h
    rw [List.length_modify] at hj
    refine .inl ⟨rs[j], List.getElem_mem hj, ?_⟩
    rw [List.getElem_modify]
    split <;> exact ⟨rfl, rfl⟩
theorem raw_set_heap {b : Addr} {vu : Value} {Q : Unit → Shared → Prop} (hu : A.in1.units + 8 < cLine) (x : RawD w s.heap a ep rs) (kt : KT s.heap rs) (hb : NestedIs s.heap k (.ref b)) (dp : k.depth ≤ 8) (hz : rs.length < sizeLine)
    (hQ : ∀ h' ep' tk, RawD w h' a ep' (putR rs k (.ref b) vu) → Heap.SameBut a s.heap h' → Q () { s with heap := h', toks := tk }) : wpAny (model P w) A (setItem (.ref a) (.ref b) vu) Q E s := by
  have H := x.heap (P := P) kt
  refine wpAny_setItem_heap (knd := nestedKind P w) (hsz := by rw [List.length_map]; exact Nat.le_of_lt hz) hu ⟨hb, dp⟩ H fun h' hm hs => ?_
  rw [put_tv rs x.nd] at hm
  obtain ⟨o, es, ep', ho, hc, hd, he, hi, hn⟩ := hm
  refine hQ h' ep' _ ⟨x.sys, Nat.le_trans put_len hz, ⟨o, ho, hc, ?_⟩, put_nodup x.nd, homT_put kt hb dp⟩ hs
  rw [hd]
  have e2 : es = ((putR rs k (.ref b) vu).map fun e => (⟨e.1.hash w, e.2.1, e.2.2⟩ : DictEntry)).toArray := by
    rw [← Array.toList_inj, he, List.map_map]
    show _ = List.map _ _
    refine List.map_congr_left fun r hr => ?_
    show (⟨r.1.hash w, .ref (adr r.2.1), r.2.2⟩ : DictEntry) = ⟨r.1.hash w, r.2.1, r.2.2⟩
    have e3 : ∃ c, r.2.1 = .ref c := by
      rcases put_mem hr with ⟨r0, h0, e1, e2⟩ | ⟨e1, e2⟩
      · obtain ⟨c, ec, _⟩ := kt r0 h0
        exact ⟨c, e2.trans ec⟩
      · exact ⟨b, e2⟩
    obtain ⟨c, ec⟩ := e3
    rw [ec]
    rfl
  rw [e2]
theorem raw_set {vu : Value} {Q : Unit → Shared → Prop} (hu : A.in1.units + 8 < cLine) (x : RawD w s.heap a ep rs) (hk : KeyFor s.heap rs k ku) (hz : rs.length < sizeLine)
    (hQ : ∀ h' ep' tk, RawD w h' a ep' (putR rs k ku vu) → Heap.SameBut a s.heap h' → Q () { s with heap := h', toks := tk }) : wpAny (model P w) A (setItem (.ref a) ku vu) Q E s := by
  rcases hk with ⟨kl, l, rfl, hl⟩ | ⟨kt, b, rfl, hb, dp⟩
  · exact raw_set_leaf x kl hl hz hQ
  · exact raw_set_heap hu x kt hb dp hz hQ
end
end Rh

set_option Elab.async false
set_option linter.all false
set_option maxRecDepth 100000
set_option maxHeartbeats 2000000
set_option autoImplicit false
namespace Rh
open PySem PySem.Spec PyProof.Rows L2
variable [Tbs]
/-! ### dicts, in the hand layer -/
def okK (ks : List NestedKey) (k : NestedKey) : Bool := match ks with
  | [] => leafK k || decide (k.depth ≤ 8)
  | x :: _ => (leafK k && leafK x) || (!leafK k && !leafK x && decide (k.depth ≤ 8))
theorem okK_hom {ks : List NestedKey} {k : NestedKey} (h : homK ks = true) (ok : okK ks k = true) : (leafK k = true ∧ ks.all leafK = true) ∨ (leafK k = false ∧ k.depth ≤ 8 ∧ (ks.all fun x => !leafK x && decide (x.depth ≤ 8)) = true) := by
  cases ks with
  | nil =>
    unfold okK at ok
    cases hk : leafK k with
    | true => exact .inl ⟨rfl, rfl⟩
    | false => rw [hk] at ok; simp at ok; exact .inr ⟨rfl, ok, rfl⟩
  | cons x r =>
    have ok : (leafK k && leafK x || !leafK k && !leafK x && decide (k.depth ≤ 8)) = true := ok
    unfold homK at h
    rw [Bool.or_eq_true] at h
    cases hx : leafK x with
    | true =>
      rw [hx] at ok
      simp at ok
      rcases h with h | h
      · exact .inl ⟨ok, h⟩
      · rw [List.all_cons, hx] at h; simp at h
    | false =>
      rw [hx] at ok
      simp at ok
      rcases h with h | h
      · rw [List.all_cons, hx] at h; simp at h
      · exact .inr ⟨ok.1, ok.2, h⟩
def idxD (nks : List NestedKey) (kd : D) : Option (Option Nat) := match keyD kd with
  | some nk => if okK nks nk = true then some (fIdx nk nks 0) else none
  | none => none
theorem idxD_some {nks : List NestedKey} {kd : D} {o : Option Nat} (h : idxD nks kd = some o) : ∃ nk, keyD kd = some nk := by
  unfold idxD at h
  cases e : keyD kd with
  | none => rw [e] at h; cases h
  | some nk => exact ⟨nk, rfl⟩
section
variable {X : Cx} {pins : List (Addr × Obj)} {σ : L2.St} {H : Hp} {μ : Mu} {s : Shared}
mutual
theorem nested_of (I : L2.Inv X pins σ H s) : ∀ (d : D) (x : V) (k : NestedKey) (u : Value), RepV (ctX X) μ H d x → keyD d = some k → RelV x u → NestedIs s.heap k u
  | .non, x, k, u, r, e, ru => by cases e; cases (show x = .non from r); cases ru; exact .none
  | .bl b, x, k, u, r, e, ru => by cases e; cases (show x = .bl b from r); cases ru; exact .bool rfl
  | .int i, x, k, u, r, e, ru => by cases e; cases (show x = .int i from r); obtain ⟨t, rfl⟩ := ru; exact .int _ _
  | .str i, x, k, u, r, e, ru => by cases e; cases (show x = .str i from r); obtain ⟨t, rfl⟩ := ru; exact .text _ _
  | .tup ds, x, k, u, ⟨a, vs, ex, t, q⟩, e, ru => by
    subst ex
    cases ru
    obtain ⟨ks, e1, rfl⟩ := Option.map_eq_some_iff.mp (show (keysD ds).map NestedKey.tup = some k from e)
    obtain ⟨its, rv, ⟨o, ho, hc, n, hd⟩, hz⟩ := I.tuple t.sq
    exact .tup ho hc hd (by simpa using nesteds_of I ds vs ks its q e1 rv)
  | .box _, _, _, _, _, e, _ => nomatch e
  | .gl _, _, _, _, _, e, _ => nomatch e
  | .ty _, _, _, _, _, e, _ => nomatch e
  | .scr _, _, _, _, _, e, _ => nomatch e
theorem nesteds_of (I : L2.Inv X pins σ H s) : ∀ (ds : List D) (xs : List V) (ks : List NestedKey) (us : List Value), RepL (ctX X) μ H ds xs → keysD ds = some ks → Vals xs us → NestedAll s.heap ks us
  | [], xs, ks, us, r, e, ru => by cases e; rw [show xs = [] from r] at ru; cases ru; exact .nil
  | d :: ds, xs, ks, us, ⟨v, rr, ex, h1, h2⟩, e, ru => by
    subst ex
    have e : (match keyD d, keysD ds with
      | some k, some ks => some (k :: ks)
      | _, _ => none) = some ks := e
    cases e1 : keyD d with
    | none => rw [e1] at e; cases e
    | some k0 =>
      cases e2 : keysD ds with
      | none => rw [e1, e2] at e; cases e
      | some ks0 =>
        rw [e1, e2] at e; cases e
        cases ru with
        | cons ra rb => exact .cons (nested_of I d v k0 _ h1 e1 ra) (nesteds_of I ds rr ks0 _ h2 e2 rb)
end
theorem leaf_of {h : Heap} {k : NestedKey} {u : Value} (n : NestedIs h k u) (l : leafK k = true) : ∃ lf : Leaf, lf.key = k ∧ Leaf.isOf lf u = true := by
  cases n with
  | none => exact ⟨.none, rfl, rfl⟩
  | bool e => exact ⟨.num _, rfl, decide_eq_true e.symm⟩
  | int i t => exact ⟨.num i, rfl, decide_eq_true rfl⟩
  | text x t => exact ⟨.text x, rfl, by show Value.isStrOf x (.str x t) = true; simp [Value.isStrOf]⟩
  | tup _ _ _ _ => cases l
theorem tup_of {h : Heap} {k : NestedKey} {u : Value} (n : NestedIs h k u) (l : leafK k = false) : ∃ b, u = .ref b := by
  cases n with
  | tup _ _ _ _ => exact ⟨_, rfl⟩
  | _ => cases l
/-- the entries as they stand -/
def EntR (e : NestedKey × V × V) (r : Ent) : Prop := r.1 = e.1 ∧ RelV e.2.1 r.2.1 ∧ RelV e.2.2 r.2.2
theorem paired_keys {es : List (NestedKey × V × V)} {rs : List Ent} (p : Paired EntR es rs) : rs.map (·.1) = es.map (·.1) := by
  induction p with
  | nil => rfl
  | cons h _ ih => rw [List.map_cons, List.map_cons, ih, h.1]
theorem raw_of {w : World} {h : Heap} {a : Addr} {es : List (NestedKey × V × V)} : ∀ {ents : List DictEntry}, Paired (fun (e : NestedKey × V × V) (d : DictEntry) => d.hash = e.1.hash w ∧ RelV e.2.1 d.key ∧ RelV e.2.2 d.val) es ents →
    ∃ rs : List Ent, ents = rs.map (fun e => (⟨e.1.hash w, e.2.1, e.2.2⟩ : DictEntry)) ∧ Paired EntR es rs := fun {ents} p => by
  induction p with
  | nil => exact ⟨[], rfl, .nil⟩
  | @cons e d es ds h _ ih =>
    obtain ⟨rs, e1, p1⟩ := ih
    refine ⟨(e.1, d.key, d.val) :: rs, ?_, .cons ⟨rfl, h.2.1, h.2.2⟩ p1⟩
    rw [List.map_cons, ← e1]
    obtain ⟨h1, h2, h3⟩ := d
    have q := h.1
    dsimp only at q
    rw [q]
theorem dict_raw (I : L2.Inv X pins σ H s) {a : Addr} {es : Nat × List (NestedKey × V × V)} (e : H a = some (DicO X.w a es)) : ∃ rs, RawD X.w s.heap a es.1 rs ∧ Paired EntR es.2 rs := by
  have x : ObjOk X.prog X.w H s.heap a (.ext fun h => (a == sysModules) = false ∧ es.2.length ≤ sizeLine ∧ ∃ (o : Obj) (ents : Array DictEntry), h.get? a = some o ∧ o.ExactDict ∧ o.data = .dict ents es.1 ∧
    Paired (fun (e : NestedKey × V × V) (d : DictEntry) => d.hash = e.1.hash X.w ∧ RelV e.2.1 d.key ∧ RelV e.2.2 d.val) es.2 ents.toList ∧ (es.2.map (·.1)).Nodup ∧ homK (es.2.map (·.1)) = true) := I.hok a _ e
  obtain ⟨⟨h1, h2, o, ents, ho, hc, hd, hp, nd, hom⟩, _⟩ := x
  obtain ⟨rs, e1, p⟩ := raw_of (h := s.heap) (a := a) hp
  refine ⟨rs, ⟨h1, by rw [← Paired.length p]; exact h2, ⟨o, ho, hc, by rw [hd, ← e1]⟩, by rw [paired_keys p]; exact nd, by rw [paired_keys p]; exact hom⟩, p⟩
theorem dict_ok {P : Program} {w : World} {h : Heap} {a : Addr} {ep : Nat} {rs : List Ent} {es : List (NestedKey × V × V)} (x : RawD w h a ep rs) (p : Paired EntR es rs) : ObjOk P w H h a (DicO w a (ep, es)) := by
  obtain ⟨o, ho, hc, hd⟩ := x.at_
  refine ⟨⟨x.sys, by rw [Paired.length p]; exact x.sz, o, _, ho, hc, hd, ?_, by rw [← paired_keys p]; exact x.nd, by rw [← paired_keys p]; exact x.hom⟩, ⟨o, ho⟩, fun h1 h2 ⟨q1, q2, o, ents, ho, r⟩ k => ⟨q1, q2, o, ents, k o ho, r⟩⟩
  clear ho hd x
  induction p with
  | nil => exact .nil
  | cons h _ ih => exact .cons ⟨congrArg (NestedKey.hash w) h.1, h.2.1, h.2.2⟩ ih
theorem key_for (I : L2.Inv X pins σ H s) {rs : List Ent} (hom : homK (rs.map (·.1)) = true) {nks : List NestedKey} {ks : List D} {kd : D} {es : List (NestedKey × V × V)} {kx : V} {ku : Value} {o : Option Nat} (hn : es.map (·.1) = nks) (hk : keysD ks = some nks) (rk : RepL (ctX X) μ H ks (es.map (·.2.1))) (p : Paired EntR es rs)
    (rx : RepV (ctX X) μ H kd kx) (ru : RelV kx ku) (e : idxD nks kd = some o) : ∃ nk, keyD kd = some nk ∧ KeyFor s.heap rs nk ku ∧ idxK (rs.map (·.1)) nk = o := by
  subst hn
  unfold idxD at e
  cases ek : keyD kd with
  | none => rw [ek] at e; cases e
  | some nk =>
    rw [ek] at e
    dsimp only at e
    split at e
    · rename_i ok
      cases e
      have n1 := nested_of I kd kx nk ku rx ek ru
      have vs : Vals (es.map (·.2.1)) (rs.map (·.2.1)) := by
        clear hk rk ok hom
        induction p with
        | nil => exact .nil
        | cons h _ ih => exact .cons h.2.1 ih
      have n2 := nesteds_of I ks _ _ _ rk hk vs
      have each : ∀ r ∈ rs, NestedIs s.heap r.1 r.2.1 := by
        rw [← paired_keys p] at n2
        clear vs rk hk ok hom p
        induction rs with
        | nil => exact fun _ h => nomatch h
        | cons r rs ih =>
          cases n2 with
          | cons q1 q2 =>
            intro r' hr
            rcases List.mem_cons.mp hr with rfl | hr
            · exact q1
            · exact ih q2 r' hr
      refine ⟨nk, rfl, ?_, by rw [paired_keys p, fIdx_zero]⟩
      rw [← paired_keys p] at ok
      rcases okK_hom hom ok with ⟨l1, l2⟩ | ⟨l1, dp, l3⟩
      · exact .inl ⟨fun r hr => leaf_of (each r hr) (List.all_eq_true.mp l2 r.1 (List.mem_map.mpr ⟨r, hr, rfl⟩)), leaf_of n1 l1⟩
      · refine .inr ⟨fun r hr => ?_, ?_⟩
        · have q := List.all_eq_true.mp l3 r.1 (List.mem_map.mpr ⟨r, hr, rfl⟩)
          obtain ⟨q1, q2⟩ := Bool.and_eq_true _ _ |>.mp q
          have n := each r hr
          obtain ⟨b, eb⟩ := tup_of n (by simpa using q1)
          rw [eb] at n
          exact ⟨b, eb, n, of_decide_eq_true q2⟩
        · obtain ⟨b, eb⟩ := tup_of n1 l1
          rw [eb] at n1
          exact ⟨b, eb, n1, dp⟩
    · cases e
end
end Rh

set_option Elab.async false
set_option linter.all false
set_option maxRecDepth 100000
set_option maxHeartbeats 2000000
set_option autoImplicit false
namespace Rh
open PySem PySem.Spec PyProof.Rows L2
variable [Tbs]
def rIxD (C : Ct) : R2 := fun x y H Q => ∃ (μ : Mu) (a : Addr) (nks : List NestedKey) (ks vs : List D) (kd : D) (i : Nat) (dv : D), x = .ref a ∧ ObR C μ H a (.dct nks ks vs) ∧ RepV C μ H kd y ∧ idxD nks kd = some (some i) ∧ vs[i]? = some dv ∧ ∀ v, RepV C μ H dv v → Q v H
def rInD' (C : Ct) (neg : Bool) : R2 := fun x y H Q => ∃ (μ : Mu) (a : Addr) (nks : List NestedKey) (ks vs : List D) (kd : D) (o : Option Nat), y = .ref a ∧ ObR C μ H a (.dct nks ks vs) ∧ RepV C μ H kd x ∧ idxD nks kd = some o ∧ Q (.bl (if neg = true then !o.isSome else o.isSome)) H
/-- len(d) -/
def rLenD (C : Ct) : List V → Hp → VK → Prop := fun xs H Q => ∃ (μ : Mu) (a : Addr) (nks : List NestedKey) (ks vs : List D), xs = [.ref a] ∧ ObR C μ H a (.dct nks ks vs) ∧ Q (.int ks.length) H
theorem getR_at {rs : List Ent} {es : List (NestedKey × V × V)} {k : NestedKey} {i : Nat} {e : NestedKey × V × V} (p : Paired EntR es rs) (h : idxK (rs.map (·.1)) k = some i) (he : es[i]? = some e) : ∃ u, getR rs k = some u ∧ RelV e.2.2 u := by
  unfold getR
  rw [h]
  show ∃ u, (rs[i]?).map (·.2.2) = some u ∧ _
  clear h
  induction p generalizing i with
  | nil => cases he
  | @cons e0 r es rs h0 _ ih =>
    cases i with
    | zero => cases he; exact ⟨_, rfl, h0.2.2⟩
    | succ i => exact ih he
section
variable {X : Cx}
theorem ix_dct (hu : X.A.units + 65 < cLine) : IxR X (rIxD (ctX X)) := by
  intro value slice pins s σ H x y v u Q I rx ry h hs
  obtain ⟨μ, a, nks, ks, vs, kd, i, dv, rfl, ⟨es, ea, en, ek, rk, rv⟩, ry', ei, ev, q⟩ := h
  cases rx
  obtain ⟨rs, x, p⟩ := dict_raw I ea
  obtain ⟨nk, e1, kf, hi⟩ := key_for I x.hom en ek rk p ry' ry ei
  obtain ⟨vv, e2, rvv⟩ := rv.get ev
  rw [List.getElem?_map] at e2
  obtain ⟨ent, e3, rfl⟩ := Option.map_eq_some_iff.mp e2
  obtain ⟨u2, hg, ru2⟩ := getR_at p hi e3
  have hT : s.TypeIs (.ref a) "dict" := by
    obtain ⟨o, ho, hc, _⟩ := x.at_
    exact ⟨o, ho, hc.1⟩
  refine subscriptTail_builtinR (x := u2) hT slot_dict_getitem.lookup ?_ hs
  exact raw_get (by show X.A.units + 1 + 8 < cLine; omega) x kf hg fun tk => ⟨rfl, ⟨_, H, I.tok _, ru2, q _ rvv⟩⟩
theorem op_inDct (hu : X.A.units + 65 < cLine) : OpR X (compareOp .In) (rInD' (ctX X) false) := by
  intro pins s σ H x y v u Q I rx ry h
  obtain ⟨μ, a, nks, ks, vs, kd, o, rfl, ⟨es, ea, en, ek, rk, rv⟩, rx', ei, q⟩ := h
  cases ry
  obtain ⟨rs, x, p⟩ := dict_raw I ea
  obtain ⟨nk, e1, kf, hi⟩ := key_for I x.hom en ek rk p rx' rx ei
  refine raw_in (by show X.A.units + 1 + 8 < cLine; omega) x kf fun tk => ⟨.bl _, H, I.tok _, ?_, q⟩
  show Value.bool (getR rs nk).isSome = Value.bool o.isSome
  congr 1
  unfold getR
  rw [hi]
  cases o with
  | none => rfl
  | some i =>
    have hlt : i < rs.length := by
      obtain ⟨h1, _⟩ := List.findIdx?_eq_some_iff_getElem.mp hi
      simpa using h1
    show ((rs[i]?).map _).isSome = true
    rw [List.getElem?_eq_getElem hlt]
    rfl
theorem getR_some {rs : List Ent} {nk : NestedKey} {o : Option Nat} (hi : idxK (rs.map (·.1)) nk = o) : (getR rs nk).isSome = o.isSome := by
  unfold getR
  rw [hi]
  cases o with
  | none => rfl
  | some i =>
    have hlt : i < rs.length := by
      obtain ⟨h1, _⟩ := List.findIdx?_eq_some_iff_getElem.mp hi
      simpa using h1
    show ((rs[i]?).map _).isSome = true
    rw [List.getElem?_eq_getElem hlt]
    rfl
theorem raw_notIn {P : Program} {w : World} {A : Around} {E : Value → Shared → Prop} {s : Shared} {a : Addr} {ep : Nat} {rs : List Ent} {k : NestedKey} {ku : Value} {Q : Value → Shared → Prop} (hu : A.in1.units + 8 < cLine) (x : RawD w s.heap a ep rs) (hk : KeyFor s.heap rs k ku) (hq : ∀ tk, Q (.bool (!(getR rs k).isSome)) { s with toks := tk }) :
    wpAny (model P w) A (compareOp .NotIn ku (.ref a)) Q E s := by
  rcases hk with ⟨kl, l, rfl, hl⟩ | ⟨kt, b, rfl, hb, dp⟩
  · refine wpAny_notIn_of (knd := leafKind P w) hl x.sys (x.leaf kl).mapOf ?_
    rw [at_lv kl]
    exact hq _
  · refine wpAny_notIn_heap (knd := nestedKind P w) hu ⟨hb, dp⟩ x.sys (x.heap kt) ?_
    rw [← Option.isSome_map (f := (·.2)), at_tv]
    exact hq _
theorem op_notInDct (hu : X.A.units + 65 < cLine) : OpR X (compareOp .NotIn) (rInD' (ctX X) true) := by
  intro pins s σ H x y v u Q I rx ry h
  obtain ⟨μ, a, nks, ks, vs, kd, o, rfl, ⟨es, ea, en, ek, rk, rv⟩, rx', ei, q⟩ := h
  cases ry
  obtain ⟨rs, x, p⟩ := dict_raw I ea
  obtain ⟨nk, e1, kf, hi⟩ := key_for I x.hom en ek rk p rx' rx ei
  refine raw_notIn (by show X.A.units + 1 + 8 < cLine; omega) x kf fun tk => ⟨.bl _, H, I.tok _, ?_, q⟩
  show Value.bool (!(getR rs nk).isSome) = Value.bool (!o.isSome)
  rw [getR_some hi]
theorem call_lenD : CallR X (.builtin "len") (rLenD (ctX X)) := by
  intro pins s σ H xs us Q I r h
  obtain ⟨μ, a, nks, ks, vs, rfl, ⟨es, ea, en, ek, rk, rv⟩, q⟩ := h
  obtain ⟨u, rfl, rx⟩ := vals1 r
  cases rx
  obtain ⟨rs, x, p⟩ := dict_raw I ea
  obtain ⟨o, ho, hc, hd⟩ := x.at_
  have hl : rs.length = ks.length := by
    rw [← Paired.length p, ← rk.length, List.length_map]
  have hn := line63
  have hz := x.sz
  refine call_len_slot (n := (ks.length : Int)) (show s.TypeIs (.ref a) "dict" from ⟨o, ho, hc.1⟩) F.slot_dict_len (fun Q' hq => call_len_raw x.sys ⟨o, ho, hc, hd⟩ ?_) (by omega) (by omega) ⟨.int ks.length, H, I.tok _, ⟨_, rfl⟩, q⟩
  rw [List.size_toArray, List.length_map, hl]
  exact hq
theorem CallR.or {f : Value} {r1 r2 : List V → Hp → VK → Prop} (h1 : CallR X f r1) (h2 : CallR X f r2) : CallR X f (fun xs H Q => r1 xs H Q ∨ r2 xs H Q) := fun pins s σ H xs us Q I r h => by
  rcases h with h | h
  · exact h1 pins s σ H xs us Q I r h
  · exact h2 pins s σ H xs us Q I r h
theorem OpR.or' {f : Value → Value → Sem Value} {r1 r2 : R2} (h1 : OpR X f r1) (h2 : OpR X f r2) : OpR X f (fun x y H Q => r1 x y H Q ∨ r2 x y H Q) := fun pins s σ H x y v u Q I rx ry h => by
  rcases h with h | h
  · exact h1 pins s σ H x y v u Q I rx ry h
  · exact h2 pins s σ H x y v u Q I rx ry h
theorem IxR.or' {r1 r2 : R2} (h1 : IxR X r1) (h2 : IxR X r2) : IxR X (fun x y H Q => r1 x y H Q ∨ r2 x y H Q) := fun va sl pins s σ H x y v u Q I rx ry h hs => by
  rcases h with h | h
  · exact h1 va sl pins s σ H x y v u Q I rx ry h hs
  · exact h2 va sl pins s σ H x y v u Q I rx ry h hs
end
/-! covers -/
section
variable {C : Ct} {L : List Nat}
theorem HR.dctO {μ : Mu} {H : Hp} {h : Hs} (r : HR C L μ H h) {n : Nat} {x : V} {nks : List NestedKey} {ks vs : List D} (q : RepV C μ H (.box n) x) (e : h.get n = some (.dct nks ks vs)) : ∃ a, x = .ref a ∧ μ[n]? = some a ∧ ObR C μ H a (.dct nks ks vs) := by
  obtain ⟨a, o, e1, m, e2, ob⟩ := r.box q
  rw [e] at e2; cases e2
  exact ⟨a, e1, m, ob⟩
def dIxD (h : Hs) (d e : D) : Option Nv := match d with
  | .box n => (match h.get n with
    | some (.dct nks _ vs) => (match idxD nks e with
      | some (some i) => (vs[i]?).map .v
      | _ => none)
    | _ => none)
  | _ => none
theorem cov_ixD : Cov2 C (rIxD C) dIxD := by
  intro H L μ h x y d e n Q hr r1 r2 hf want
  unfold dIxD at hf
  split at hf
  · split at hf
    · rename_i e0
      split at hf
      · rename_i i ei
        obtain ⟨dv, ev, rfl⟩ := Option.map_eq_some_iff.mp hf
        obtain ⟨a, rfl, _, ob⟩ := hr.dctO r1 e0
        exact ⟨μ, a, _, _, _, e, i, dv, rfl, ob, r2, ei, ev, fun v rv => want.old rv⟩
      · cases hf
    · cases hf
  · cases hf
def dInD (neg : Bool) (h : Hs) (d e : D) : Option Nv := match e with
  | .box n => (match h.get n with
    | some (.dct nks _ _) => (match idxD nks d with
      | some o => some (.v (.bl (if neg = true then !o.isSome else o.isSome)))
      | none => none)
    | _ => none)
  | _ => none
theorem cov_inD {neg : Bool} : Cov2 C (rInD' C neg) (dInD neg) := by
  intro H L μ h x y d e n Q hr r1 r2 hf want
  unfold dInD at hf
  split at hf
  · split at hf
    · rename_i e0
      split at hf
      · rename_i o ei
        cases hf
        obtain ⟨a, rfl, _, ob⟩ := hr.dctO r2 e0
        exact ⟨μ, a, _, _, _, d, o, rfl, ob, r1, ei, want.old rfl⟩
      · cases hf
    · cases hf
  · cases hf
def dLenD (h : Hs) (ds : List D) : Option Nv := match ds with
  | [.box n] => (match h.get n with
    | some (.dct _ ks _) => some (.v (.int ks.length))
    | _ => none)
  | _ => none
theorem cov_lenD : CovA C (rLenD C) dLenD := by
  intro H L μ h xs ds n Q hr r hf want
  unfold dLenD at hf
  split at hf
  · split at hf
    · rename_i e0
      cases hf
      obtain ⟨x, rfl, h1⟩ := r.one
      obtain ⟨a, rfl, _, ob⟩ := hr.dctO h1 e0
      exact ⟨μ, a, _, _, _, rfl, ob, want.old rfl⟩
    · cases hf
  · cases hf
end
/-! ### {} , d[k] = v -/
abbrev EV := NestedKey × V × V
def putV (es : List EV) (o : Option Nat) (nk : NestedKey) (kx v : V) : List EV := match o with
  | some j => es.modify j fun e => (e.1, e.2.1, v)
  | none => es ++ [(nk, kx, v)]
theorem paired_modify {α β : Type} {R : α → β → Prop} {f : α → α} {g : β → β} (h : ∀ a b, R a b → R (f a) (g b)) : ∀ {xs : List α} {ys : List β} (i : Nat), Paired R xs ys → Paired R (xs.modify i f) (ys.modify i g)
  | _, _, i, .nil => by simpa using Paired.nil
  | _, _, 0, .cons a t => by simpa using Paired.cons (h _ _ a) t
  | _, _, i + 1, .cons a t => by simpa using Paired.cons a (paired_modify h i t)
theorem paired_snoc {α β : Type} {R : α → β → Prop} {a : α} {b : β} (h : R a b) : ∀ {xs : List α} {ys : List β}, Paired R xs ys → Paired R (xs ++ [a]) (ys ++ [b])
  | _, _, .nil => .cons h .nil
  | _, _, .cons q t => .cons q (paired_snoc h t)
theorem put_paired {es : List EV} {rs : List Ent} {nk : NestedKey} {o : Option Nat} {kx v : V} {ku vu : Value} (p : Paired EntR es rs) (hi : idxK (rs.map (·.1)) nk = o) (rk : RelV kx ku) (rv : RelV v vu) : Paired EntR (putV es o nk kx v) (putR rs nk ku vu) := by
  cases o with
  | none => rw [put_none hi]; exact paired_snoc ⟨rfl, rk, rv⟩ p
  | some i => rw [put_some hi]; exact paired_modify (fun a b q => ⟨q.1, q.2.1, rv⟩) i p
theorem modify_const {α : Type} (v : α) : ∀ (xs : List α) (i : Nat), xs.modify i (fun _ => v) = xs.set i v
  | [], i => by simp
  | x :: xs, 0 => by simp
  | x :: xs, i + 1 => by simp [modify_const v xs i]
/-- d[k] = v, at the heap: the entries behind it -/
def tSetD (C : Ct) : V → V → V → Hp → (Hp → Prop) → Prop := fun o i v H Q => ∃ (μ : Mu) (a : Addr) (es : Nat × List EV) (nks : List NestedKey) (ks : List D) (kd : D) (nk : NestedKey) (op : Option Nat), o = .ref a ∧ H a = some (DicO C.w a es) ∧ es.2.map (·.1) = nks ∧ keysD ks = some nks ∧ RepL C μ H ks (es.2.map (·.2.1)) ∧
  RepV C μ H kd i ∧ keyD kd = some nk ∧ idxD nks kd = some op ∧ ks.length < 1000000 ∧ ∀ ep', Q (upd H a (DicO C.w a (ep', putV es.2 op nk i v)))
section
variable {X : Cx}
theorem set_dct (hu : X.A.units + 65 < cLine) : PSet X (tSetD (ctX X)) := by
  intro pins s σ H o i v ov iv u Q I ro ri rv h
  obtain ⟨μ, a, es, nks, ks, kd, nk, op, rfl, ea, en, ek, rk, rx, ekd, ei, hl, q⟩ := h
  cases ro
  obtain ⟨rs, x, p⟩ := dict_raw I ea
  obtain ⟨nk', e1, kf, hi⟩ := key_for I x.hom en ek rk p rx ri ei
  rw [ekd] at e1; cases e1
  have hlen : rs.length = ks.length := by
    rw [← Paired.length p, ← rk.length, List.length_map]
  refine raw_set (by show X.A.units + 1 + 8 < cLine; omega) x kf (by rw [hlen, sizeLine_eq]; omega) fun h' ep' tk x' sb => ?_
  obtain ⟨o', ho', _⟩ := x'.at_
  exact ⟨_, I.write (t' := tk) (x := a) (e := a) (by rw [ea]; exact True.intro) (.inl rfl) (fun b ob hb e => (sb.2 b hb).trans e) ⟨o', ho'⟩ (dict_ok x' (put_paired p hi ri rv)), q ep'⟩
theorem PSet.or' {t1 t2 : TSet} (h1 : PSet X t1) (h2 : PSet X t2) : PSet X (fun o i v H Q => t1 o i v H Q ∨ t2 o i v H Q) := fun pins s σ H o i v ov iv u Q I ro ri rv h => by
  rcases h with h | h
  · exact h1 pins s σ H o i v ov iv u Q I ro ri rv h
  · exact h2 pins s σ H o i v ov iv u Q I ro ri rv h
theorem dict0_ok {P : Program} {w : World} {H : Hp} (h : Heap) (hb : sysModules < h.objs.size) : ObjOk P w H (h.push { cls := .type "dict", data := .dict #[] }) h.objs.size (DicO w h.objs.size (0, [])) :=
  dict_ok (rs := []) ⟨beq_eq_false_iff_ne.mpr (Ne.symm (Nat.ne_of_lt hb)), Nat.zero_le _, ⟨_, Heap.get?_push_size _ rfl, ⟨rfl, rfl, rfl⟩, rfl⟩, .nil, rfl⟩ .nil
theorem pe_dict0 {pos : Pos} : PE X (.Dict [] [] pos) (fun _ H Q => ∀ p, H p = none → Q (.ref p) (upd H p (DicO X.w p (0, [])))) := ⟨fun pins s σ H Q I h =>
  wpAny_Dict_empty ⟨.ref s.heap.objs.size, _, I.laid (a := s.heap.objs.size) (o := DicO X.w s.heap.objs.size (0, [])) (t' := s.toks) (fun _ _ q => Heap.get?_push_of_some _ q) (Nat.le_refl _) (dict0_ok s.heap I.big), rfl, h _ (I.hok.fresh (Nat.le_refl _))⟩⟩
end
end Rh

set_option Elab.async false
set_option linter.all false
set_option maxRecDepth 100000
set_option maxHeartbeats 2000000
set_option autoImplicit false
namespace Rh
open PySem PySem.Spec PyProof.Rows L2
variable [Tbs]
/-! ### a dict walked -/
def Itq (w : World) (a : Addr) (es : Nat × List EV) : It := ⟨fun i H => H a = some (DicO w a es) ∧ i < es.2.length, fun i H x H' => H' = H ∧ ∃ e, es.2[i]? = some e ∧ x = e.2.1, fun i H => H a = some (DicO w a es) ∧ es.2.length ≤ i⟩
theorem paired_get {es : List EV} {rs : List Ent} {i : Nat} {r : Ent} (p : Paired EntR es rs) (e : rs[i]? = some r) : ∃ x, es[i]? = some x ∧ EntR x r := by
  induction p generalizing i with
  | nil => simp at e
  | cons h _ ih =>
    cases i with
    | zero => simp at e; subst e; exact ⟨_, rfl, h⟩
    | succ i => exact ih (by simpa using e)
theorem turn_dct {P : Program} {w : World} {K : PySem.W.Frag} {tg : Expr} (it a : Addr) (es : Nat × List EV) : Turn P w K tg (Itq w a es) [it] it (fun i h => h.IsKeyIter it a i es.2.length es.1) where
  mem := by simp
  obj := fun i h st b hb => by
    have e : b = it := by simpa using hb
    subst e
    obtain ⟨oi, e, c, dd⟩ := st
    exact ⟨oi, e, fun v z => by rw [dd] at z; cases z⟩
  keep := fun i h h' st k => st.at fun oi e => k it (by simp) oi e
  item := by
    intro X hP hw hK hc i pins s σ H E I hf st hg
    subst hP hw hK
    obtain ⟨hd, hi⟩ := hg
    obtain ⟨f0, f1, f2, f3, f4, f5⟩ := hf it (by simp)
    obtain ⟨rs, x, p⟩ := dict_raw I hd
    obtain ⟨o, ho, hx, hdt⟩ := x.at_
    have hl := Paired.length p
    have hr : i < rs.length := by omega
    obtain ⟨e, he, q1, q2, q3⟩ := paired_get p (List.getElem?_eq_getElem hr)
    have hsz : (rs.map fun e => (⟨e.1.hash X.w, e.2.1, e.2.2⟩ : DictEntry)).toArray.size = es.2.length := by simp [hl]
    refine next_key_item (en := ⟨rs[i].1.hash X.w, rs[i].2.1, rs[i].2.2⟩) st ho hdt hsz (by simp [List.getElem?_eq_getElem hr]) fun h' st' sb => ?_
    have I1 : L2.Inv X pins σ H { s with heap := h' } := I.turned (t' := s.toks) (fun b ob hb e => (sb.2 b hb).trans e) f0 f1 f3 f4 f5
    obtain ⟨oi, e1, c, dd⟩ := id st'
    exact ⟨rs[i].2.1, rfl, go_of (s := { s with heap := h' }) e1 c dd (by decide) ⟨e.2.1, H, I1, q2, ⟨rfl, e, he, rfl⟩, st', fun b hb => (hf b hb).1⟩⟩
  done := by
    intro X hP hw hK hc i pins s σ H E I hf st hg
    subst hP hw hK
    obtain ⟨hd, hi⟩ := hg
    obtain ⟨f0, f1, f2, f3, f4, f5⟩ := hf it (by simp)
    obtain ⟨rs, x, p⟩ := dict_raw I hd
    obtain ⟨o, ho, hx, hdt⟩ := x.at_
    have hl := Paired.length p
    have hsz : (rs.map fun e => (⟨e.1.hash X.w, e.2.1, e.2.2⟩ : DictEntry)).toArray.size = es.2.length := by simp [hl]
    exact next_key_end (I.ok.hd hc) st ho hdt hsz hi fun h' eb => ⟨rfl, I.turned (t' := s.toks) (fun b ob hb e => eb b ob hb e) f0 f1 f3 f4 f5⟩
  self := fun A i s Q E st h => wpAny_pyIter_keyiter st h
def iSeqD (w : World) (K : PySem.W.Frag) (tl : TE) : TI := fun σ H R => tl σ H fun x H1 => ∃ a, x = .ref a ∧ (((∃ xs, SqL K H1 a xs) ∧ R (Itl K a) H1) ∨ ((∃ xs, SqT K H1 a xs) ∧ R (Itt K a) H1) ∨ ∃ es, H1 a = some (DicO w a es) ∧ R (Itq w a es) H1)
section
variable {X : Cx} {W : WX} {tg : Expr}
theorem pi_seqD {l : Expr} {tl : TE} (hl : PE X l tl) : PI X tg l (iSeqD X.w X.K tl) := by
  refine ⟨fun pins s σ H R I h => ?_⟩
  refine thn (hl.run pins s σ H _ I h) fun v s1 ⟨x, H1, I1, r1, q1⟩ => ?_
  obtain ⟨a, e, q⟩ := q1
  subst e
  cases r1
  rcases q with ⟨⟨xs, hq⟩, q⟩ | ⟨⟨xs, hq⟩, q⟩ | ⟨es, hd, q⟩
  · obtain ⟨its, rv, p, hz⟩ := I1.list hq
    exact wpAny_pyIter_list p.isList (pi_one (tk := s1.toks) I1 _ (turn_list a _) ⟨_, Heap.get?_push_size _ rfl, rfl, rfl⟩ q)
  · obtain ⟨its, rv, p, hz⟩ := I1.tuple hq
    exact wpAny_pyIter_tuple (show s1.heap.IsTuple a its.toArray from p) (pi_one (tk := s1.toks) I1 _ (turn_tuple a _) ⟨_, Heap.get?_push_size _ rfl, rfl, rfl⟩ q)
  · obtain ⟨rs, x, p⟩ := dict_raw I1 hd
    obtain ⟨o, ho, hx, hdt⟩ := x.at_
    have hl := Paired.length p
    refine iter_keys x.sys ho hx hdt (pi_one (tk := s1.toks) I1 _ (turn_dct _ a es) ⟨_, Heap.get?_push_size _ rfl, rfl, ?_⟩ q)
    rw [hl]
    simp
end
section
variable {X : Cx}
/-! list(d) -/
def rListD (w : World) (K : PySem.W.Frag) : List V → Hp → VK → Prop := fun xs H Q => ∃ (a : Addr) (es : Nat × List EV), xs = [.ref a] ∧ H a = some (DicO w a es) ∧ ∀ p, H p = none → Q (.ref p) (upd H p (.lst (es.2.map (·.2.1))))
theorem call_listD (hc : X.calm = true) : CallR X (.type "list") (rListD X.w X.K) := by
  intro pins s σ H xs us Q I r h
  obtain ⟨a, es, rfl, ea, q⟩ := h
  obtain ⟨u, rfl, rx⟩ := vals1 r
  cases rx
  obtain ⟨rs, x, p⟩ := dict_raw I ea
  obtain ⟨o, ho, hx, hdt⟩ := x.at_
  have hl := Paired.length p
  have hz := x.sz
  refine PySem.W.kdl_call (PySem.KdlSrc.rawDict (es := (rs.map fun e => (⟨e.1.hash X.w, e.2.1, e.2.2⟩ : DictEntry)).toArray) (ep := es.1) x.sys) (I.ok.hd hc) ⟨o, ho, hx, hdt⟩ (by simpa using hz) fun h' tk acc' c' hkeep hS hacc => ?_
  refine ⟨.ref s.heap.objs.size, upd H s.heap.objs.size (.lst (es.2.map (·.2.1))), I.laid hkeep (Nat.le_refl _) (show ObjOk X.prog X.w _ _ _ (.lst (es.2.map (·.2.1))) from ⟨?_, acc'.toList, c', ?_, ?_⟩), rfl, q _ (I.hok.fresh (Nat.le_refl _))⟩
  · rw [List.length_map, hl]; exact hz
  · have el : acc'.toList.length = acc'.size := by simp
    refine vals_of_at (by rw [List.length_map, el, hacc.1, hl]; simp) fun j y w h1 h2 => ?_
    obtain ⟨hj, ew⟩ := hacc.2 j w (by rw [← Array.getElem?_toList]; exact h2)
    subst ew
    rw [List.getElem?_map] at h1
    obtain ⟨e, he, rfl⟩ := Option.map_eq_some_iff.mp h1
    have hj2 : j < rs.length := by simpa using hj
    obtain ⟨e', he', q1, q2, q3⟩ := paired_get p (List.getElem?_eq_getElem hj2)
    rw [he] at he'; cases he'
    simpa using q2
  · rw [Array.toArray_toList]; exact hS
end

/-! ### stores -/
def putD (h : Hs) (c k d : D) : Option Hs := match c with
  | .box n => match h.get n with
    | some (.lst ds) => (match k with
      | .int j => (match ixN ds.length j with
        | some i => h.set n (.lst (ds.set i d))
        | none => none)
      | _ => none)
    | some (.dct nks ks vs) => (match idxD nks k with
      | some (some j) => if ks.length < 1000000 then h.set n (.dct nks ks (vs.set j d)) else none
      | some none => (match keyD k with
        | some nk => if ks.length < 1000000 then h.set n (.dct (nks ++ [nk]) (ks ++ [k]) (vs ++ [d])) else none
        | none => none)
      | none => none)
    | _ => none
  | _ => none
theorem keysD_snoc : ∀ {ks : List D} {kd : D} {nks : List NestedKey} {nk : NestedKey}, keysD ks = some nks → keyD kd = some nk → keysD (ks ++ [kd]) = some (nks ++ [nk])
  | [], kd, nks, nk, h1, h2 => by
    cases h1
    show (match keyD kd, keysD [] with
      | some k, some ks => some (k :: ks)
      | _, _ => none) = _
    rw [h2]
    rfl
  | d :: ks, kd, nks, nk, h1, h2 => by
    have h1 : (match keyD d, keysD ks with
      | some k, some ks => some (k :: ks)
      | _, _ => none) = some nks := h1
    show (match keyD d, keysD (ks ++ [kd]) with
      | some k, some ks => some (k :: ks)
      | _, _ => none) = _
    cases e1 : keyD d with
    | none => rw [e1] at h1; cases h1
    | some k0 =>
      cases e2 : keysD ks with
      | none => rw [e1, e2] at h1; cases h1
      | some ks0 =>
        rw [e1, e2] at h1; cases h1
        rw [keysD_snoc e2 h2]
        rfl
theorem stay_upd {C : Ct} {L : List Nat} {μ : Mu} {H : Hp} {h : Hs} (r : HR C L μ H h) {a : Addr} {n : Nat} (m : μ[n]? = some a) (o : HO) : Stay μ H μ (upd H a o) := by
  have ma : a ∈ μ := List.mem_of_getElem? m
  exact ⟨fun _ _ e => e, fun b xs e => by rw [upd_ne (fun z => by subst z; exact r.not_mem e (fun q => q) ma)]; exact e, fun b u v e => by rw [upd_ne (fun z => by subst z; exact r.not_mem e (fun q => q) ma)]; exact e⟩
/-- a box changed, at the heap -/
theorem HR.upd {C : Ct} {L : List Nat} {μ : Mu} {H : Hp} {h h' : Hs} {n : Nat} {a : Addr} {o : O} {ho : HO} (r : HR C L μ H h) (m : μ[n]? = some a) (q : ObR C μ (upd H a ho) a o) (e : h.set n o = some h') : HR C L μ (upd H a ho) h' ∧ Go L μ H μ (upd H a ho) :=
  r.set m (fun b hb => upd_ne hb) ⟨_, upd_same⟩ q e
theorem put_ok {C : Ct} {L : List Nat} {μ : Mu} {H : Hp} {h h' : Hs} {c k d : D} {x i v : V} {Q : Hp → Prop} (r : HR C L μ H h) (rc : RepV C μ H c x) (rk : RepV C μ H k i) (rd : RepV C μ H d v) (e : putD h c k d = some h')
    (q : ∀ μ' H', Go L μ H μ' H' → HR C L μ' H' h' → Q H') : rSetL x i v H Q ∨ tSetD C x i v H Q := by
  unfold putD at e
  split at e
  · rename_i n
    split at e
    · rename_i ds e0
      split at e
      · rename_i j
        split at e
        · rename_i ix ei
          obtain ⟨a, vs, rfl, m, t, rl⟩ := r.lst rc e0
          cases (show i = V.int j from rk)
          refine .inl ⟨a, vs, j, ix, rfl, rfl, t, by rw [rl.length]; exact ei, ?_⟩
          have st := stay_upd r m (.lst (vs.set ix v))
          obtain ⟨r', g⟩ := r.upd (ho := .lst (vs.set ix v)) (o := .lst (ds.set ix d)) m ⟨_, upd_same, (rl.stay st).set ix (rd.stay st)⟩ e
          exact q _ _ g r'
        · cases e
      · cases e
    · rename_i nks ks vs e0
      obtain ⟨a, es, rfl, m, t, en, ek, r1, r2⟩ := r.dct rc e0
      split at e
      · rename_i j ej
        split at e
        · rename_i hl
          obtain ⟨nk, enk⟩ := idxD_some ej
          refine .inr ⟨μ, a, es, nks, ks, k, nk, some j, rfl, t, en, ek, r1, rk, enk, ej, hl, fun ep' => ?_⟩
          have st := stay_upd r m (DicO C.w a (ep', putV es.2 (some j) nk i v))
          have ob : ObR C μ (L2.upd H a (DicO C.w a (ep', putV es.2 (some j) nk i v))) a (.dct nks ks (vs.set j d)) := by
            refine ⟨(ep', putV es.2 (some j) nk i v), upd_same, ?_, ek, ?_, ?_⟩
            · show (es.2.modify j _).map (·.1) = nks
              rw [modify_map (fun r : EV => r.1) (fun e => (e.1, e.2.1, v)) id (fun _ => rfl), en]
              simp
            · show RepL C μ _ ks ((es.2.modify j _).map (·.2.1))
              rw [modify_map (fun r : EV => r.2.1) (fun e => (e.1, e.2.1, v)) id (fun _ => rfl)]
              simpa using r1.stay st
            · show RepL C μ _ (vs.set j d) ((es.2.modify j _).map (·.2.2))
              rw [modify_map (fun r : EV => r.2.2) (fun e => (e.1, e.2.1, v)) (fun _ => v) (fun _ => rfl), modify_const]
              exact (r2.stay st).set j (rd.stay st)
          obtain ⟨r', g⟩ := r.upd m ob e
          exact q _ _ g r'
        · cases e
      · rename_i ej
        split at e
        · rename_i nk enk
          split at e
          · rename_i hl
            refine .inr ⟨μ, a, es, nks, ks, k, nk, none, rfl, t, en, ek, r1, rk, enk, ej, hl, fun ep' => ?_⟩
            have st := stay_upd r m (DicO C.w a (ep', putV es.2 none nk i v))
            have ob : ObR C μ (L2.upd H a (DicO C.w a (ep', putV es.2 none nk i v))) a (.dct (nks ++ [nk]) (ks ++ [k]) (vs ++ [d])) := by
              refine ⟨(ep', putV es.2 none nk i v), upd_same, ?_, keysD_snoc ek enk, ?_, ?_⟩
              · show (es.2 ++ [(nk, i, v)]).map (·.1) = nks ++ [nk]
                rw [List.map_append, en]
                rfl
              · show RepL C μ _ (ks ++ [k]) ((es.2 ++ [(nk, i, v)]).map (·.2.1))
                rw [List.map_append]
                exact (r1.stay st).append ⟨i, [], rfl, rk.stay st, rfl⟩
              · show RepL C μ _ (vs ++ [d]) ((es.2 ++ [(nk, i, v)]).map (·.2.2))
                rw [List.map_append]
                exact (r2.stay st).append ⟨v, [], rfl, rd.stay st, rfl⟩
            obtain ⟨r', g⟩ := r.upd m ob e
            exact q _ _ g r'
          · cases e
        · cases e
      · cases e
    · cases e
  · cases e
section
variable {X : Cx}
def mDict0 : M D := fun _ h => (Nv.n (.dct [] [] [])).lift h
theorem e_dict0 {W : WX} {pos : Pos} : PE X (.Dict [] [] pos) (rd X W mDict0) := pe_imp pe_dict0 fun σ H Q ⟨ρ, L, μ, h, rel, q⟩ p hp => by
  obtain ⟨m, em, want⟩ := Sat.lift (n := some (.n (.dct [] [] []))) rel.hr q
  cases em
  obtain ⟨s1, s2⟩ := same_new (o := DicO X.w p (0, [])) hp
  exact want _ _ s1 s2 ⟨p, rfl, hp, fun m => ⟨(0, []), upd_same, rfl, rfl, rfl, rfl⟩⟩
end
section
variable {C : Ct}
def dListD (h : Hs) : List D → Option Nv
  | [.box n] => match h.get n with
    | some (.dct _ ks _) => some (.n (.lst ks))
    | _ => none
  | _ => none
theorem cov_listD : CovA C (rListD C.w C.K) dListD := by
  intro H L μ h xs ds n Q hr r1 hf want
  unfold dListD at hf
  split at hf
  · split at hf
    · rename_i e0
      cases hf
      obtain ⟨x, rfl, h1⟩ := r1.one
      obtain ⟨a, es, rfl, m, e, en, ek, rk, rv⟩ := hr.dct h1 e0
      exact ⟨a, es, rfl, e, fun p hp => want.lst rk hp⟩
    · cases hf
  · cases hf
end
end Rh

set_option Elab.async false
set_option linter.all false
set_option maxRecDepth 100000
set_option maxHeartbeats 2000000
set_option autoImplicit false
namespace Rh
open PySem PySem.Spec PyProof.Rows L2
variable [Tbs]
/-! ### zip and enumerate over lists and tuples -/
def ItAt (t : Bool) (h : Heap) (it l : Addr) (i : Nat) : Prop := match t with
  | true => h.IsTupleIter it l i
  | false => h.IsListIter it l i
def HpB (t : Bool) (h : Heap) (l : Addr) (xs : Array Value) : Prop := match t with
  | true => h.IsTuple l xs
  | false => h.IsList l xs
def SqB (K : PySem.W.Frag) (t : Bool) (H : Hp) (l : Addr) (xs : List V) : Prop := match t with
  | true => SqT K H l xs
  | false => SqL K H l xs
def obB (t : Bool) (l : Addr) : Obj := match t with
  | true => { cls := .type "tuple_iterator", data := .fields #[.ref l, .int 0 0] }
  | false => { cls := .type "list_iterator", data := .fields #[.ref l, .int 0 0] }
theorem drawsB {prog : Program} {w : World} {A : Around} (hh : A.handled = none) (t : Bool) (it l : Addr) (hne : l ≠ it) (items : Array Value) :
    Draws prog w A it [it, l] items.size (fun i v => items[i]? = some v) (fun i h => ItAt t h it l i ∧ HpB t h l items) := by
  cases t
  · exact Draws.list hh it l hne items
  · exact Draws.tuple hh it l hne items
theorem beginsB (t : Bool) (l : Addr) (items : Array Value) : Begins (.ref l) (obB t l) fun h => HpB t h l items := by
  cases t
  · exact begins_list l items
  · exact begins_tuple l items
theorem itAt_new {t : Bool} {h : Heap} {it l : Addr} (e : h.get? it = some (obB t l)) : ItAt t h it l 0 := by
  cases t
  · exact ⟨_, e, rfl, rfl⟩
  · exact ⟨_, e, rfl, rfl⟩
theorem itAt_keep {t : Bool} {h h' : Heap} {it l : Addr} {i : Nat} (x : ItAt t h it l i) (k : ∀ o, h.get? it = some o → h'.get? it = some o) : ItAt t h' it l i := by
  cases t
  · exact Heap.IsListIter.at x k
  · exact Heap.IsTupleIter.at x k
theorem itAt_obj {t : Bool} {h : Heap} {it l : Addr} {i : Nat} (x : ItAt t h it l i) : ∃ o, h.get? it = some o ∧ ∀ v, o.data ≠ .cell v := by
  cases t
  · obtain ⟨o, e, _, d⟩ := x; exact ⟨o, e, fun v q => by rw [d] at q; cases q⟩
  · obtain ⟨o, e, _, d⟩ := x; exact ⟨o, e, fun v q => by rw [d] at q; cases q⟩
section
variable {X : Cx} {pins : List (Addr × Obj)} {σ : L2.St} {H : Hp} {s : Shared} {t : Bool} {a : Addr} {xs ys : List V}
theorem sqB_ok (I : L2.Inv X pins σ H s) (h : SqB X.K t H a xs) : ∃ its : List Value, Vals xs its ∧ HpB t s.heap a its.toArray ∧ xs.length ≤ sizeLine := by
  cases t
  · obtain ⟨its, r, p, z⟩ := I.list h
    exact ⟨its, r, p.isList, z⟩
  · obtain ⟨its, r, p, z⟩ := I.tuple h
    exact ⟨its, r, p, z⟩
theorem sqB_inj (I : L2.Inv X pins σ H s) (h : SqB X.K t H a xs) (h' : SqB X.K t H a ys) : xs = ys := by
  cases t
  · exact I.list_inj h h'
  · exact I.tuple_inj h h'
theorem hpB_lt {h : Heap} {items : Array Value} (x : HpB t h a items) : a < h.objs.size := by
  cases t
  · obtain ⟨o, e, _⟩ := x; exact Heap.lt_size e
  · obtain ⟨o, e, _⟩ := x; exact Heap.lt_size e
end
/-- what stands at a and at b at each turn, the items in new pairs -/
def ItzB (K : PySem.W.Frag) (t1 : Bool) (a : Addr) (t2 : Bool) (b : Addr) : It :=
  ⟨fun i H => ∃ (xs ys : List V) (x y : V), SqB K t1 H a xs ∧ SqB K t2 H b ys ∧ xs[i]? = some x ∧ ys[i]? = some y,
    fun i H v H' => ∃ T x y, v = .ref T ∧ H T = none ∧ H' = upd H T (.tup [x, y]) ∧ (∀ xs, SqB K t1 H a xs → xs[i]? = some x) ∧ ∀ ys, SqB K t2 H b ys → ys[i]? = some y,
    fun i H => ∃ xs ys : List V, SqB K t1 H a xs ∧ SqB K t2 H b ys ∧ i ≤ xs.length ∧ i ≤ ys.length ∧ (i = xs.length ∨ i = ys.length)⟩
theorem turn_zipB {P : Program} {w : World} {K : PySem.W.Frag} {elts : List Expr} {kk : Nat} {tpos : Pos} {t1 t2 : Bool} {a b z TI TO i1 i2 : Addr} (D : ZipSep2 z TI TO i1 i2 [i1, a] [i2, b]) (ai1 : a ≠ i1) (bi2 : b ≠ i2) :
    Turn P w K (.Tuple elts kk tpos) (ItzB K t1 a t2 b) [z, TI, TO, i1, i2] z (fun i h => IsZip h z TI TO .none ∧ IsTupOf2 h TI (.ref i1) (.ref i2) ∧ (∃ x y, IsTupOf2 h TO x y) ∧ ItAt t1 h i1 a i ∧ ItAt t2 h i2 b i) where
  mem := by simp
  obj := fun i h st c hc => by
    obtain ⟨hz, hTI, ⟨x, y, hTO⟩, h1, h2⟩ := st
    have e' : c = z ∨ c = TI ∨ c = TO ∨ c = i1 ∨ c = i2 := by simpa using hc
    rcases e' with q | q | q | q | q
    · rw [q]; exact ⟨_, hz, fun v q => nomatch q⟩
    · rw [q]; exact ⟨_, hTI, fun v q => nomatch q⟩
    · rw [q]; exact ⟨_, hTO, fun v q => nomatch q⟩
    · rw [q]; exact itAt_obj h1
    · rw [q]; exact itAt_obj h2
  keep := fun i h h' st k => by
    obtain ⟨hz, hTI, ⟨x, y, hTO⟩, h1, h2⟩ := st
    exact ⟨k z (by simp) _ hz, k TI (by simp) _ hTI, ⟨x, y, k TO (by simp) _ hTO⟩, itAt_keep h1 fun o q => k i1 (by simp) o q, itAt_keep h2 fun o q => k i2 (by simp) o q⟩
  item := by
    intro X hP hw hK hc i pins s σ H E I hf st hg
    subst hP hw hK
    obtain ⟨hz, hTI, ⟨x0, y0, hTO⟩, h1, h2⟩ := st
    obtain ⟨xs, ys, x, y, hqx, hqy, hx, hy⟩ := hg
    obtain ⟨its, rv, p, _⟩ := sqB_ok I hqx
    obtain ⟨its2, rv2, p2, _⟩ := sqB_ok I hqy
    obtain ⟨u, hu, ru⟩ := rv.get hx
    obtain ⟨u2, hu2, ru2⟩ := rv2.get hy
    have hzl : z < s.heap.objs.size := Heap.lt_size hz
    have hh : X.A.in1.handled = none := I.ok.hd hc
    have lt1 : i < its.toArray.size := by
      have := (List.getElem?_eq_some_iff.mp hu).1
      simpa using this
    have lt2 : i < its2.toArray.size := by
      have := (List.getElem?_eq_some_iff.mp hu2).1
      simpa using this
    refine wpAny_pyNext_zipD2_item D (drawsB (prog := X.prog) (w := X.w) (A := X.A.in1) hh t1 i1 a ai1 its.toArray) (drawsB (prog := X.prog) (w := X.w) (A := X.A.in1) hh t2 i2 b bi2 its2.toArray) hz hTI hTO ⟨h1, p⟩ ⟨h2, p2⟩ lt1 lt2 fun v1 v2 h' tk e1 e2 z' TO' st1 st2 hT hsz hk => ?_
    have e1 : v1 = u := by simpa [hu] using e1.symm
    have e2 : v2 = u2 := by simpa [hu2] using e2.symm
    subst e1 e2
    refine ⟨_, rfl, wpAny_letOwnedTupleGo_zip (s := { s with heap := h', toks := tk }) z' fun h'' z'' sb => ?_⟩
    have hT2 : h''.get? s.heap.objs.size = some { cls := .type "tuple", data := .seq #[v1, v2] } := (sb.2 _ (Nat.ne_of_gt hzl)).trans hT
    have new : ObjOk X.prog X.w (upd H s.heap.objs.size (.tup [x, y])) h'' s.heap.objs.size (.tup [x, y]) :=
      ⟨by show 2 ≤ sizeLine; decide, [v1, v2], .cons ru (.cons ru2 .nil), ⟨_, hT2, rfl, _, rfl⟩⟩
    have I1 : L2.Inv X pins σ (upd H s.heap.objs.size (.tup [x, y])) { s with heap := h'', toks := tk } :=
      I.turnedNew (t' := tk) (ch := [z, TI, TO, i1, i2]) (fun c o hb q => (sb.2 c (fun q' => hb (by simp [q']))).trans (hk c o (fun q' => hb (by simp [q'])) (fun q' => hb (by simp [q'])) (fun q' => hb (by simp [q'])) (fun q' => hb (by simp [q'])) q)) hf (Nat.le_refl _) new
    refine ⟨.ref s.heap.objs.size, _, I1, rfl, ⟨_, x, y, rfl, I.hok.fresh (Nat.le_refl _), rfl, fun l hl => by rw [sqB_inj I hl hqx]; exact hx, fun l hl => by rw [sqB_inj I hl hqy]; exact hy⟩, ⟨z'', ?_, ⟨v1, v2, ?_⟩, ?_, ?_⟩, fun c hcm => ?_⟩
    · exact (sb.2 _ D.TIz).trans (hk _ _ D.TIz D.TITO D.TIi1 D.TIi2 hTI)
    · exact (sb.2 _ D.TOz).trans TO'
    · exact itAt_keep st1.1 fun o q => (sb.2 _ (Ne.symm D.zi1)).trans q
    · exact itAt_keep st2.1 fun o q => (sb.2 _ (Ne.symm D.zi2)).trans q
    · have hlt : c < s.heap.objs.size := by
        have e' : c = z ∨ c = TI ∨ c = TO ∨ c = i1 ∨ c = i2 := by simpa using hcm
        rcases e' with q | q | q | q | q
        · rw [q]; exact hzl
        · rw [q]; exact Heap.lt_size hTI
        · rw [q]; exact Heap.lt_size hTO
        · rw [q]; obtain ⟨_, e1, _⟩ := itAt_obj h1; exact Heap.lt_size e1
        · rw [q]; obtain ⟨_, e2, _⟩ := itAt_obj h2; exact Heap.lt_size e2
      rw [upd_ne (Nat.ne_of_lt hlt)]
      exact (hf c hcm).1
  done := by
    intro X hP hw hK hc i pins s σ H E I hf st hg
    subst hP hw hK
    obtain ⟨hz, hTI, ⟨x0, y0, hTO⟩, h1, h2⟩ := st
    obtain ⟨xs, ys, hqx, hqy, le1, le2, hend⟩ := hg
    obtain ⟨its, rv, p, _⟩ := sqB_ok I hqx
    obtain ⟨its2, rv2, p2, _⟩ := sqB_ok I hqy
    have hh : X.A.in1.handled = none := I.ok.hd hc
    have l1 : its.toArray.size = xs.length := by rw [List.size_toArray]; exact rv.length.symm
    have l2 : its2.toArray.size = ys.length := by rw [List.size_toArray]; exact rv2.length.symm
    refine wpAny_pyNext_zipD2_end D (drawsB (prog := X.prog) (w := X.w) (A := X.A.in1) hh t1 i1 a ai1 its.toArray) (drawsB (prog := X.prog) (w := X.w) (A := X.A.in1) hh t2 i2 b bi2 its2.toArray) hz hTI hTO ⟨h1, p⟩ ⟨h2, p2⟩ (by omega) (by omega) (by omega) fun h' tk hk => ⟨rfl, I.turnedL (t' := tk) (ch := [z, TI, TO, i1, i2]) (fun c o hb q =>
      hk c o (fun q' => hb (by simp [q'])) (fun q' => hb (by simp [q'])) (fun q' => hb (by simp [q'])) (fun q' => hb (by simp [q'])) q) hf⟩
  self := fun A i s Q E st h => wpAny_pyIter_zip st.1 h
def iZipB (K : PySem.W.Frag) (ta : TA) : TI := fun σ H R => ta σ H fun vs H1 => ∃ t1 a t2 b xs ys, vs = [.ref a, .ref b] ∧ SqB K t1 H1 a xs ∧ SqB K t2 H1 b ys ∧ R (ItzB K t1 a t2 b) H1
theorem pi_zipB {X : Cx} {e e2 : Expr} {ta : TA} {p pos tpos : Pos} {elts : List Expr} {kk : Nat} (hg : Gl X "zip") (hm : X.mg "zip" = none) (ha : PA X [e, e2] ta)
    (hs : starEach [e, e2] X.env = (false, eval e X.env) :: starEach [e2] X.env := by rfl) (hpl : (backTo pos (starEach [e2] X.env)).any (·.1) = false := by rfl) :
    PI X (.Tuple elts kk tpos) (.Call (.Name "zip" p) [e, e2] [] pos) (iZipB X.K ta) := by
  refine ⟨fun pins s σ H R I h => ?_⟩
  refine Call_ (ld_blt I hg hm PyProof.Rows.boot_zip (PyProof.Rows.callWith_type1 (thn (ha.run pos pins s σ H _ I h) fun us s1 ⟨vs, H1, I1, r1, q1⟩ => ?_) hs hpl))
  obtain ⟨t1, a, t2, b, xs, ys, ex, hqx, hqy, q⟩ := q1
  subst ex
  cases r1 with
  | cons r rr =>
    cases rr with
    | cons r' rr =>
      cases rr
      cases r
      cases r'
      have fresh5 : ∀ c, c ∈ [s1.heap.objs.size + 4, s1.heap.objs.size + 2, s1.heap.objs.size + 3, s1.heap.objs.size, s1.heap.objs.size + 1] → FpOk X pins H1 c := fun c hcm => by
        have e' : c = s1.heap.objs.size + 4 ∨ c = s1.heap.objs.size + 2 ∨ c = s1.heap.objs.size + 3 ∨ c = s1.heap.objs.size ∨ c = s1.heap.objs.size + 1 := by simpa using hcm
        have hle : s1.heap.objs.size ≤ c := by
          rcases e' with z | z | z | z | z
          · rw [z]; exact Nat.le_add_right _ _
          · rw [z]; exact Nat.le_add_right _ _
          · rw [z]; exact Nat.le_add_right _ _
          · rw [z]; exact Nat.le_refl _
          · rw [z]; exact Nat.le_add_right _ _
        exact I1.fpOk hle (I1.hok.fresh hle)
      obtain ⟨its, rv, p1, _⟩ := sqB_ok I1 hqx
      obtain ⟨its2, rv2, p2, _⟩ := sqB_ok I1 hqy
      have la := hpB_lt p1
      have lb := hpB_lt p2
      refine zip_begins2 (beginsB t1 a its.toArray) (beginsB t2 b its2.toArray) p1 p2 fun h' hz hTI hTO h1 h2 hsz hk => wpAny_pyIter_zip hz ?_
      have I2 : L2.Inv X pins σ H1 { s1 with heap := h' } := I1.kept (t' := s1.toks) hk
      have D : ZipSep2 (s1.heap.objs.size + 4) (s1.heap.objs.size + 2) (s1.heap.objs.size + 3) s1.heap.objs.size (s1.heap.objs.size + 1) (s1.heap.objs.size :: [a]) ((s1.heap.objs.size + 1) :: [b]) :=
        zip_sep2 (fun c hc => by rw [List.mem_singleton.mp hc]; exact la) (fun c hc => by rw [List.mem_singleton.mp hc]; exact lb)
      exact ⟨s1.heap.objs.size + 4, [s1.heap.objs.size + 4, s1.heap.objs.size + 2, s1.heap.objs.size + 3, s1.heap.objs.size, s1.heap.objs.size + 1], _, _, H1, rfl, I2, turn_zipB D (Nat.ne_of_lt la) (Nat.ne_of_lt (Nat.lt_succ_of_lt lb)), ⟨hz, hTI, ⟨_, _, hTO⟩, itAt_new h1, itAt_new h2⟩, fresh5, q⟩
end Rh

set_option Elab.async false
set_option linter.all false
set_option maxRecDepth 100000
set_option maxHeartbeats 2000000
set_option autoImplicit false
namespace Rh
open PySem PySem.Spec PyProof.Rows L2
variable [Tbs]
/-! ### enumerate -/
def ItnB (K : PySem.W.Frag) (t : Bool) (a : Addr) (c : Int) : It :=
  ⟨fun i H => ∃ (xs : List V) (x : V), SqB K t H a xs ∧ xs[i]? = some x,
    fun i H v H' => ∃ T x, v = .ref T ∧ H T = none ∧ H' = upd H T (.tup [.int (c + (i : Nat)), x]) ∧ ∀ xs, SqB K t H a xs → xs[i]? = some x,
    fun i H => ∃ xs : List V, SqB K t H a xs ∧ i = xs.length⟩
theorem turn_enumB {P : Program} {w : World} {K : PySem.W.Frag} {elts : List Expr} {kk : Nat} {tpos : Pos} {t : Bool} {a e it : Addr} {c : Int} (hne : e ≠ it) (ea : e ≠ a) (ai : a ≠ it) :
    Turn P w K (.Tuple elts kk tpos) (ItnB K t a c) [e, it] e (fun i h => (∃ old, IsEnum h e it (c + (i : Nat)) old) ∧ ItAt t h it a i) where
  mem := by simp
  obj := fun i h st b hb => by
    obtain ⟨⟨old, he⟩, hi⟩ := st
    have e' : b = e ∨ b = it := by simpa using hb
    rcases e' with z | z
    · rw [z]; exact ⟨_, he, fun v q => nomatch q⟩
    · rw [z]; exact itAt_obj hi
  keep := fun i h h' st k => let ⟨⟨old, he⟩, hi⟩ := st; ⟨⟨old, k e (by simp) _ he⟩, itAt_keep hi fun o q => k it (by simp) o q⟩
  item := by
    intro X hP hw hK hc i pins s σ H E I hf st hg
    subst hP hw hK
    obtain ⟨⟨old, he⟩, hit⟩ := st
    obtain ⟨xs, x, hq, hx⟩ := hg
    obtain ⟨its, rv, p, hz⟩ := sqB_ok I hq
    obtain ⟨u, hu, ru⟩ := rv.get hx
    have hel : e < s.heap.objs.size := Heap.lt_size he
    have hil : it < s.heap.objs.size := by obtain ⟨_, q, _⟩ := itAt_obj hit; exact Heap.lt_size q
    have hh : X.A.in1.handled = none := I.ok.hd hc
    have lt1 : i < its.toArray.size := by
      have := (List.getElem?_eq_some_iff.mp hu).1
      simpa using this
    refine wpAny_pyNext_enum_itemC (drawsB (prog := X.prog) (w := X.w) (A := X.A.in1) hh t it a ai its.toArray) he ⟨hit, p⟩ lt1 hne (by simp [hne, ea]) fun v h' tk ev ho st' hT hsz hk => ?_
    have ev : v = u := by simpa [hu] using ev.symm
    subst ev
    refine ⟨_, rfl, wpAny_letOwnedTupleGo_enum (s := { s with heap := h', toks := tk + 1 }) ho fun h'' he' sb => ?_⟩
    have hT2 : h''.get? s.heap.objs.size = some { cls := .type "tuple", data := .seq #[.int (c + (i : Nat)) tk, v] } := (sb.2 _ (Nat.ne_of_gt hel)).trans hT
    have new : ObjOk X.prog X.w (upd H s.heap.objs.size (.tup [.int (c + (i : Nat)), x])) h'' s.heap.objs.size (.tup [.int (c + (i : Nat)), x]) :=
      ⟨by show 2 ≤ sizeLine; decide, [.int (c + (i : Nat)) tk, v], .cons ⟨_, rfl⟩ (.cons ru .nil), ⟨_, hT2, rfl, _, rfl⟩⟩
    have I1 : L2.Inv X pins σ (upd H s.heap.objs.size (.tup [.int (c + (i : Nat)), x])) { s with heap := h'', toks := tk + 1 } :=
      I.turnedNew (ch := [e, it]) (fun b ob hb q => (sb.2 b (fun z => hb (by simp [z]))).trans (hk b ob (fun z => hb (by simp [z])) (fun z => hb (by simp [z])) q)) hf (Nat.le_refl _) new
    refine ⟨.ref s.heap.objs.size, _, I1, rfl, ⟨_, x, rfl, I.hok.fresh (Nat.le_refl _), rfl, fun ys hy => by rw [sqB_inj I hy hq]; exact hx⟩, ⟨⟨v, ?_⟩, itAt_keep st'.1 fun o q => (sb.2 it (Ne.symm hne)).trans q⟩, fun b hb => ?_⟩
    · have e1 : c + ((i + 1 : Nat) : Int) = c + (i : Int) + 1 := by omega
      rw [e1]; exact he'
    · have hb' : b < s.heap.objs.size := by
        have e' : b = e ∨ b = it := by simpa using hb
        rcases e' with z | z
        · rw [z]; exact hel
        · rw [z]; exact hil
      rw [upd_ne (Nat.ne_of_lt hb')]
      exact (hf b hb).1
  done := by
    intro X hP hw hK hc i pins s σ H E I hf st hg
    subst hP hw hK
    obtain ⟨⟨old, he⟩, hit⟩ := st
    obtain ⟨xs, hq, hx⟩ := hg
    obtain ⟨its, rv, p, hz⟩ := sqB_ok I hq
    obtain ⟨f0, f1, f2, f3, f4, f5⟩ := hf it (by simp)
    have hh : X.A.in1.handled = none := I.ok.hd hc
    have hl : i = its.toArray.size := by rw [List.size_toArray, hx]; exact rv.length
    refine wpAny_pyNext_enum_endD (drawsB (prog := X.prog) (w := X.w) (A := X.A.in1) hh t it a ai its.toArray) he (by rw [← hl]; exact ⟨hit, p⟩) fun h' eb => ⟨rfl, I.turned (t' := s.toks) (fun b o hb q => eb b o hb q) f0 f1 f3 f4 f5⟩
  self := fun A i s Q E st h => let ⟨⟨_, he⟩, _⟩ := st; wpAny_pyIter_enum he h
def iEnumB (K : PySem.W.Frag) (te : TE) (c : Int) : TI := fun σ H R => te σ H fun v H1 => ∃ t a xs, v = .ref a ∧ SqB K t H1 a xs ∧ R (ItnB K t a c) H1
theorem callWith_tyK {M : Model} {A : Around} {E : Value → Shared → Prop} {s : Shared} {pos : Pos} {T : String} {first : List Value} {args : List (Bool × Sem Value)} {keywords : List (Option Str × Sem Value)} {Q : Value → Shared → Prop} (hplain : (args.any (·.1) || keywords.any (·.1.isNone)) = false)
    (h : wpAny M A (evalArgs (.type T) true args keywords) (fun a s₁ => wpAny M A (call (.type T) (first ++ a.pos) a.kw) Q E s₁) E s) :
    wpAny M A (callWith pos (.type T) first args keywords) Q E s := by
  unfold callWith
  refine wpAny_bind (wpAny_holding (wpAny_mono h (fun a s₁ h₁ => wpAny_bind (wpAny_standAt ?_)) fun _ _ x => x))
  simp only [hplain]
  refine wpAny_bind (wpAny_pure ?_)
  exact wpAny_bind (wpAny_mono h₁ (fun r s₂ hr => wpAny_bind (wpAny_holding (wpAny_point (wpAny_pure hr)))) fun _ _ x => x)
/-- enumerate(e, start = k), k written -/
theorem pi_enumK {X : Cx} {e : Expr} {te : TE} {k : Int} {j : Nat} {p kp kp2 pos tpos : Pos} {elts : List Expr} {kk : Nat} (hk : -1000000 ≤ k ∧ k ≤ 1000000) (hg : Gl X "enumerate") (hm : X.mg "enumerate" = none) (he : PE X e te)
    (hs : starEach [e] X.env = (false, eval e X.env) :: starEach [] X.env := by rfl) (hall : (backToKw pos (keywordEach [⟨some "start", .Constant (.int k) j kp, kp2⟩] X.env)).all (·.1.isSome) = true := by rfl)
    (hpl : ((backTo pos (starEach [e] X.env)).any (·.1) || (backToKw pos (keywordEach [⟨some "start", .Constant (.int k) j kp, kp2⟩] X.env)).any (·.1.isNone)) = false := by rfl)
    (hks : (backToKw pos (keywordEach [⟨some "start", .Constant (.int k) j kp, kp2⟩] X.env)).filterMap (·.1) = [("start" : Str)] := by rfl) :
    PI X (.Tuple elts kk tpos) (.Call (.Name "enumerate" p) [e] [⟨some "start", .Constant (.int k) j kp, kp2⟩] pos) (iEnumB X.K te k) := by
  refine ⟨fun pins s σ H R I h => ?_⟩
  refine wpAny_Call_Name_kw (ld_blt I hg hm boot_enumerate ?_)
  refine callWith_tyK hpl (PyProof.Rows.evalArgs_kw2 hall (thn ((pa_cons he pa_nil hs).run pos pins s σ H (fun vs H1 => match vs with | [v] => ∃ t a xs, v = .ref a ∧ SqB X.K t H1 a xs ∧ R (ItnB X.K t a k) H1 | _ => False) I h) fun us s1 ⟨vs, H1, I1, r1, q1⟩ => ?_) hs)
  dsimp only at q1
  split at q1
  case h_2 => exact q1.elim
  rename_i v
  obtain ⟨t, a, xs, ea, hq, q1⟩ := q1
  subst ea
  cases r1 with
  | cons r rr =>
    cases rr
    cases r
    refine thn ((pk_cons (X := X) (nm := some "start") (kpos := kp2) (pe_int (i := k) (j := j) (pos := kp)) pk_nil).run pos pins s1 σ H1 (fun vs H2 => vs = [.int k] ∧ H2 = H1) I1 ⟨rfl, rfl⟩) fun ws s2 ⟨zs, H2, I2, r2, ez, eH⟩ => ?_
    subst ez eH
    cases r2 with
    | cons r rr =>
      cases rr
      obtain ⟨tk, rfl⟩ := r
      rw [hks]
      obtain ⟨its, rv, p', hz⟩ := sqB_ok I2 hq
      have la := hpB_lt p'
      show wpAny _ _ (call (.type "enumerate") [.ref a] [(Str.ofString "start", .int k tk)]) _ _ s2
      refine enum_begins_start (beginsB t a its.toArray) p' (by omega) (by omega) fun h' hen hit hsz hk => wpAny_pyIter_enum hen ?_
      have I3 : L2.Inv X pins σ H2 { s2 with heap := h' } := I2.kept (t' := s2.toks) hk
      refine ⟨s2.heap.objs.size + 1, [s2.heap.objs.size + 1, s2.heap.objs.size], _, _, H2, rfl, I3, turn_enumB (t := t) (a := a) (c := k) (e := s2.heap.objs.size + 1) (it := s2.heap.objs.size) (Nat.succ_ne_self _) (Nat.ne_of_gt (Nat.lt_succ_of_lt la)) (Nat.ne_of_lt la), ⟨⟨.none, by simpa using hen⟩, itAt_new hit⟩, fun b hb => ?_, q1⟩
      have e' : b = s2.heap.objs.size + 1 ∨ b = s2.heap.objs.size := by simpa using hb
      have hle : s2.heap.objs.size ≤ b := by
        rcases e' with z | z
        · rw [z]; exact Nat.le_add_right _ _
        · rw [z]; exact Nat.le_refl _
      exact I2.fpOk hle (I2.hok.fresh hle)
/-- enumerate(e, 0) as enumerate(e) has it -/
theorem meets_enum0 {v : Value} {o : Obj} {H : Heap → Prop} (B : Begins v o H) :
    Meets (Builtin.«enumerate.__new__» ⟨[.type "enumerate", v], []⟩) (fun _ R s => H s.heap ∧
      R (.ok (.ret (.ref (s.heap.push o).objs.size))) { s with heap := (s.heap.push o).push { cls := .type "enumerate", data := .fields #[.none, .bool false, .ref s.heap.objs.size, rawInt 0, .none, .none] } }) :=
  .of_wp fun prog w A R s h => by
    obtain ⟨hp, g, d, tk, os⟩ := s; obtain ⟨h1, h⟩ := h
    have hsub := sub_enumerate
    have q1 : ∀ {A' : Around} {E : Value → Shared → Prop} {Q : Value → Shared → Prop}, Q (.ref hp.objs.size) ⟨hp.push o, g, d, tk, os⟩ → wpAny (model prog w) A' (pyIter v) Q E ⟨hp, g, d, tk, os⟩ :=
      fun q => B.iter prog w _ _ ⟨hp, g, d, tk, os⟩ _ h1 q
    wp_walk using q1
    refine wpAny_stack_any fun st => wpAny_pure ?_
    split
    · rename_i c _ _ _ _ _
      cases (c == Value.type "enumerate")
      · wp_walk using q1
        exact ⟨_, rfl, h⟩
      · wp_walk using q1
        exact ⟨_, rfl, h⟩
    · wp_walk using q1
      exact ⟨_, rfl, h⟩
section
variable {prog : Program} {w : World} {A : Around} {E : Value → Shared → Prop} {s : Shared}
theorem enum_begins0 {v : Value} {o : Obj} {H : Heap → Prop} {Q : Value → Shared → Prop} (B : Begins v o H) (h1 : H s.heap)
    (h : ∀ h', IsEnum h' (s.heap.objs.size + 1) s.heap.objs.size 0 .none → h'.get? s.heap.objs.size = some o → h'.objs.size = s.heap.objs.size + 2 →
      (∀ b o, s.heap.get? b = some o → h'.get? b = some o) → Q (.ref (s.heap.objs.size + 1)) { s with heap := h' }) :
    wpAny (model prog w) A (call (.type "enumerate") [v]) Q E s := by
  refine callType_new F.called_enumerate (by decide) (F.typeCall_enumerate_1 _) (F.newCall_enumerate_1 _) (fun obj => F.args_object_init_2 obj _) F.entry_enumerate_new
    (meets_enum0 B) ⟨h1, ?_⟩
  have hz : (s.heap.push o).objs.size = s.heap.objs.size + 1 := Heap.size_push ..
  show _ ∧ _
  rw [hz]
  have he : IsEnum ((s.heap.push o).push { cls := .type "enumerate", data := .fields #[.none, .bool false, .ref s.heap.objs.size, rawInt 0, .none, .none] }) (s.heap.objs.size + 1) s.heap.objs.size 0 .none := by
    have := Heap.get?_push_size (s.heap.push o) (o := { cls := .type "enumerate", data := .fields #[.none, .bool false, .ref s.heap.objs.size, rawInt 0, .none, .none] }) rfl
    rw [hz] at this; exact this
  refine ⟨⟨_, he, rfl⟩, h _ he (Heap.get?_push_of_some _ (Heap.get?_push_size _ B.free)) (by rw [Heap.size_push, hz]) fun b o x => Heap.get?_push_of_some _ (Heap.get?_push_of_some _ x)⟩
end
/-- enumerate(e) -/
theorem pi_enum0 {X : Cx} {e : Expr} {te : TE} {p pos tpos : Pos} {elts : List Expr} {kk : Nat} (hg : Gl X "enumerate") (hm : X.mg "enumerate" = none) (he : PE X e te)
    (hs : starEach [e] X.env = (false, eval e X.env) :: starEach [] X.env := by rfl) (hs2 : starEach [e] X.env = [(false, eval e X.env)] := by rfl) :
    PI X (.Tuple elts kk tpos) (.Call (.Name "enumerate" p) [e] [] pos) (iEnumB X.K te 0) := by
  refine ⟨fun pins s σ H R I h => ?_⟩
  refine Call_ (ld_blt I hg hm boot_enumerate (PyProof.Rows.callWith_type1 (thn ((pa_cons he pa_nil hs).run pos pins s σ H (fun vs H1 => match vs with | [v] => ∃ t a xs, v = .ref a ∧ SqB X.K t H1 a xs ∧ R (ItnB X.K t a 0) H1 | _ => False) I h) fun us s1 ⟨vs, H1, I1, r1, q1⟩ => ?_) hs2 rfl))
  dsimp only at q1
  split at q1
  case h_2 => exact q1.elim
  rename_i v
  obtain ⟨t, a, xs, ea, hq, q1⟩ := q1
  subst ea
  cases r1 with
  | cons r rr =>
    cases rr
    cases r
    obtain ⟨its, rv, p', hz⟩ := sqB_ok I1 hq
    have la := hpB_lt p'
    refine enum_begins0 (beginsB t a its.toArray) p' fun h' hen hit hsz hk => wpAny_pyIter_enum hen ?_
    have I3 : L2.Inv X pins σ H1 { s1 with heap := h' } := I1.kept (t' := s1.toks) hk
    refine ⟨s1.heap.objs.size + 1, [s1.heap.objs.size + 1, s1.heap.objs.size], _, _, H1, rfl, I3, turn_enumB (t := t) (a := a) (c := 0) (e := s1.heap.objs.size + 1) (it := s1.heap.objs.size) (Nat.succ_ne_self _) (Nat.ne_of_gt (Nat.lt_succ_of_lt la)) (Nat.ne_of_lt la), ⟨⟨.none, by simpa using hen⟩, itAt_new hit⟩, fun b hb => ?_, q1⟩
    have e' : b = s1.heap.objs.size + 1 ∨ b = s1.heap.objs.size := by simpa using hb
    have hle : s1.heap.objs.size ≤ b := by
      rcases e' with z | z
      · rw [z]; exact Nat.le_add_right _ _
      · rw [z]; exact Nat.le_refl _
    exact I1.fpOk hle (I1.hok.fresh hle)
end Rh

set_option Elab.async false
set_option linter.all false
set_option maxRecDepth 100000
set_option maxHeartbeats 2000000
set_option autoImplicit false
namespace Rh
open PySem PySem.Spec PyProof.Rows L2
variable [Tbs]

/-! ### what is walked -/
/-- what is immutable stays, and so do the walked boxes -/
structure Still (lks : List Nat) (μ1 : Mu) (H1 : Hp) (μ : Mu) (H : Hp) : Prop where
  st : Stay μ1 H1 μ H
  lk : ∀ n ∈ lks, ∀ a, μ1[n]? = some a → H a = H1 a
/-- the walk J yields the data ds, wherever the walked boxes stand still -/
structure Cover (C : Ct) (J : It) (ds : List D) (lks : List Nat) (μ1 : Mu) (H1 : Hp) : Prop where
  go : ∀ i μ H, Still lks μ1 H1 μ H → i < ds.length → J.go i H
  stop : ∀ i μ H, Still lks μ1 H1 μ H → i = ds.length → J.stop i H
  yld : ∀ i μ H x H' d, Still lks μ1 H1 μ H → J.yld i H x H' → ds[i]? = some d → Same H H' ∧ (∀ a, H' a = none → H a = none) ∧ RepV C μ H' d x
def rdI (X : Cx) (W : WX) (m : M (List D × List Nat)) : TI := fun σ H R => rdG X W m σ H fun _ _ p _ μ' H' => ∀ J, Cover (ctX X) J p.1 p.2 μ' H' → R J H'
section
variable {C : Ct} {L : List Nat} {μ μ1 : Mu} {H H1 : Hp} {h : Hs}
/-- a sequence as it stands -/
def SqF (K : PySem.W.Frag) (lks : List Nat) (t : Bool) (μ : Mu) (H : Hp) (a : Addr) (vs : List V) : Prop := match t with
  | true => TupAt K H a vs
  | false => (∃ n ∈ lks, μ[n]? = some a ∧ H a = some (.lst vs)) ∨ ScrAt K H a vs
theorem SqF.sq {K : PySem.W.Frag} {lks : List Nat} {t : Bool} {a : Addr} {vs : List V} (q : SqF K lks t μ H a vs) : SqB K t H a vs := by
  cases t
  · rcases q with ⟨n, _, _, e⟩ | q
    · exact .inl (.inl e)
    · exact q.sqL
  · exact TupAt.sq q
theorem SqF.still {K : PySem.W.Frag} {lks : List Nat} {t : Bool} {a : Addr} {vs : List V} (st : Still lks μ1 H1 μ H) (q : SqF K lks t μ1 H1 a vs) : SqB K t H a vs := by
  cases t
  · rcases q with ⟨n, m, e1, e⟩ | q
    · exact .inl (.inl ((st.lk n m a e1).trans e))
    · exact (st.st.scr q).sqL
  · exact TupAt.sq (st.st.tupAt q)
theorem SqF.more {K : PySem.W.Frag} {lks lks' : List Nat} {t : Bool} {a : Addr} {vs : List V} (hl : ∀ n ∈ lks, n ∈ lks') (q : SqF K lks t μ H a vs) : SqF K lks' t μ H a vs := by
  cases t
  · rcases q with ⟨n, m, q⟩ | q
    · exact .inl ⟨n, hl n m, q⟩
    · exact .inr q
  · exact q
/-- items, and the box that holds them -/
def itD (h : Hs) : D → Option (List D × List Nat)
  | .tup ds => some (ds, [])
  | .scr ds => some (ds, [])
  | .box n => match h.get n with
    | some (.lst ds) => some (ds, [n])
    | _ => none
  | _ => none
theorem itD_ok (r : HR C L μ H h) {d : D} {ds : List D} {lks : List Nat} {x : V} (q : RepV C μ H d x) (e : itD h d = some (ds, lks)) : ∃ t a vs, x = .ref a ∧ SqF C.K lks t μ H a vs ∧ RepL C μ H ds vs := by
  cases d with
  | tup es => cases e; obtain ⟨a, vs, rfl, t, q⟩ := q; exact ⟨true, a, vs, rfl, t, q⟩
  | scr es => cases e; obtain ⟨a, vs, rfl, t, q⟩ := q; exact ⟨false, a, vs, rfl, .inr t, q⟩
  | box n =>
    unfold itD at e
    dsimp only at e
    split at e
    · rename_i e0
      cases e
      obtain ⟨a, vs, rfl, m, t, q⟩ := r.lst q e0
      exact ⟨false, a, vs, rfl, .inl ⟨n, List.mem_singleton_self _, m, t⟩, q⟩
    · cases e
  | _ => cases e
theorem cover_seq {lks : List Nat} {t : Bool} {a : Addr} {vs : List V} {ds : List D} (q : SqF C.K lks t μ1 H1 a vs) (r : RepL C μ1 H1 ds vs) : Cover C (match t with | true => Itt C.K a | false => Itl C.K a) ds lks μ1 H1 := by
  cases t
  · refine ⟨fun i μ H st hi => ?_, fun i μ H st hi => ⟨vs, q.still st, by rw [r.length]; exact Nat.le_of_eq hi.symm⟩, fun i μ H x H' d st y hd => ?_⟩
    · obtain ⟨v, hv, _⟩ := r.get (List.getElem?_eq_getElem hi)
      exact ⟨vs, v, q.still st, hv⟩
    · obtain ⟨e, y⟩ := y
      subst e
      obtain ⟨v, hv, rv⟩ := r.get hd
      have := y vs (q.still st)
      rw [hv] at this; cases this
      exact ⟨fun _ _ e => e, fun _ e => e, rv.stay st.st⟩
  · refine ⟨fun i μ H st hi => ?_, fun i μ H st hi => ⟨vs, q.still st, by rw [r.length]; exact Nat.le_of_eq hi.symm⟩, fun i μ H x H' d st y hd => ?_⟩
    · obtain ⟨v, hv, _⟩ := r.get (List.getElem?_eq_getElem hi)
      exact ⟨vs, v, q.still st, hv⟩
    · obtain ⟨e, y⟩ := y
      subst e
      obtain ⟨v, hv, rv⟩ := r.get hd
      have := y vs (q.still st)
      rw [hv] at this; cases this
      exact ⟨fun _ _ e => e, fun _ e => e, rv.stay st.st⟩
theorem cover_dct {n : Nat} {a : Addr} {es : Nat × List EV} {ds : List D} (m : μ1[n]? = some a) (e : H1 a = some (DicO C.w a es)) (r : RepL C μ1 H1 ds (es.2.map (·.2.1))) : Cover C (Itq C.w a es) ds [n] μ1 H1 := by
  have hl : es.2.length = ds.length := by rw [← r.length, List.length_map]
  have at_ : ∀ {μ : Mu} {H : Hp}, Still [n] μ1 H1 μ H → H a = some (DicO C.w a es) := fun st => (st.lk n (List.mem_singleton_self _) a m).trans e
  refine ⟨fun i μ H st hi => ⟨at_ st, by omega⟩, fun i μ H st hi => ⟨at_ st, by omega⟩, fun i μ H x H' d st y hd => ?_⟩
  obtain ⟨e, en, he, rfl⟩ := y
  subst e
  obtain ⟨v, hv, rv⟩ := r.get hd
  rw [List.getElem?_map, he] at hv
  cases hv
  exact ⟨fun _ _ e => e, fun _ e => e, rv.stay st.st⟩
end
section
variable {X : Cx} {W : WX} {tg : Expr}
/-- what is walked: a sequence, or a dict's keys -/
def iterD (h : Hs) (d : D) : Option (List D × List Nat) := match itD h d with
  | some p => some p
  | none => match d with
    | .box n => (match h.get n with
      | some (.dct _ ks _) => some (ks, [n])
      | _ => none)
    | _ => none
def mIter (m : M D) : M (List D × List Nat) := mBind m fun d => fun _ h => match iterD h d with
  | some p => some (.ok p h)
  | none => none
theorem i_any {l : Expr} {m : M D} (hl : PE X l (rd X W m)) : PI X tg l (rdI X W (mIter m)) := by
  refine pi_imp (pi_seqD hl) fun σ H R q => rdG_imp (rdG_bind q) fun ρ L d h1 μ1 H1 ⟨rel1, q1⟩ x rx => ?_
  unfold iterD at q1
  cases e1 : itD h1 d with
  | some p =>
    obtain ⟨ds, lks⟩ := p
    simp only [e1] at q1
    obtain ⟨t, a, vs, rfl, sq, rl⟩ := itD_ok rel1.hr rx e1
    have k := q1 μ1 H1 .refl rel1.hr _ (cover_seq sq rl)
    refine ⟨a, rfl, ?_⟩
    cases t
    · exact .inl ⟨⟨vs, sq.sq⟩, k⟩
    · exact .inr (.inl ⟨⟨vs, sq.sq⟩, k⟩)
  | none =>
    simp only [e1] at q1
    cases d with
    | box n =>
      dsimp only at q1
      cases e0 : h1.get n with
      | none => simp only [e0] at q1; exact q1.none
      | some o =>
        cases o with
        | dct nks ks vs =>
          simp only [e0] at q1
          obtain ⟨a, es, rfl, m, t, en, ek, r1, r2⟩ := rel1.hr.dct rx e0
          exact ⟨a, rfl, .inr (.inr ⟨es, t, q1 μ1 H1 .refl rel1.hr _ (cover_dct m t r1)⟩)⟩
        | _ => simp only [e0] at q1; exact q1.none
    | _ => exact q1.none
/-! ranges -/
def rangeD (lo hi : Int) : List D := (List.range (hi - lo).toNat).map fun k => .int (lo + (k : Nat))
theorem cover_range {C : Ct} {lo : Int} {n : Nat} {H1 : Hp} {μ1 : Mu} : Cover C (Itr lo n) ((List.range n).map fun (k : Nat) => D.int (lo + (k : Nat))) [] μ1 H1 := by
  refine ⟨fun i μ H st hi => ?_, fun i μ H st hi => ?_, fun i μ H x H' d st y hd => ?_⟩
  · show i < n; simpa using hi
  · show n ≤ i; have q := hi; simp at q; omega
  · obtain ⟨e, rfl⟩ := y
    subst e
    rw [List.getElem?_map] at hd
    obtain ⟨k, hk, rfl⟩ := Option.map_eq_some_iff.mp hd
    obtain ⟨h1, h2⟩ := List.getElem?_eq_some_iff.mp hk
    rw [List.getElem_range] at h2
    subst h2
    exact ⟨fun _ _ e => e, fun _ e => e, rfl⟩
def mRange1 (ms : M (List D)) : M (List D × List Nat) := mBind ms fun ds => fun _ h => match ds with
  | [.int j] => if -1000000 ≤ j ∧ j ≤ 1000000 then some (.ok (rangeD 0 j, []) h) else none
  | _ => none
def mRange2 (ms : M (List D)) : M (List D × List Nat) := mBind ms fun ds => fun _ h => match ds with
  | [.int i, .int j] => if (-1000000 ≤ i ∧ i ≤ 1000000) ∧ -1000000 ≤ j ∧ j ≤ 1000000 then some (.ok (rangeD i j, []) h) else none
  | _ => none
theorem i_range1 {a : Expr} {ms : M (List D)} {p pos : Pos} (hg : Gl X "range") (hm : X.mg "range" = none) (ha : PA X [a] (rdA X W ms)) (hs : starEach [a] X.env = [(false, eval a X.env)] := by rfl) : PI X tg (.Call (.Name "range" p) [a] [] pos) (rdI X W (mRange1 ms)) := by
  refine pi_imp (pi_range1 hg hm ha hs) fun σ H R q => rdG_imp (rdG_bind q) fun ρ L ds h1 μ1 H1 ⟨rel1, q1⟩ xs rx => ?_
  split at q1
  · rename_i j _
    split at q1
    · rename_i hj
      obtain ⟨x, rfl, hx⟩ := rx.one
      cases (show x = V.int j from hx)
      refine ⟨j, rfl, by omega, by omega, q1 μ1 H1 .refl rel1.hr _ ?_⟩
      have c := cover_range (C := ctX X) (lo := 0) (n := j.toNat) (H1 := H1) (μ1 := μ1)
      unfold rangeD
      rw [Int.sub_zero]
      exact c
    · exact q1.none
  · exact q1.none
theorem i_range2 {a b : Expr} {ms : M (List D)} {p pos : Pos} (hg : Gl X "range") (hm : X.mg "range" = none) (ha : PA X [a, b] (rdA X W ms)) (hs : starEach [a, b] X.env = [(false, eval a X.env), (false, eval b X.env)] := by rfl) (hs2 : starEach [b] X.env = [(false, eval b X.env)] := by rfl) :
    PI X tg (.Call (.Name "range" p) [a, b] [] pos) (rdI X W (mRange2 ms)) := by
  refine pi_imp (pi_range2 hg hm ha hs hs2) fun σ H R q => rdG_imp (rdG_bind q) fun ρ L ds h1 μ1 H1 ⟨rel1, q1⟩ xs rx => ?_
  split at q1
  · rename_i i j _
    split at q1
    · rename_i hj
      obtain ⟨x, y, rfl, hx, hy⟩ := rx.two
      cases (show x = V.int i from hx)
      cases (show y = V.int j from hy)
      exact ⟨i, j, rfl, ⟨by omega, by omega, by omega, by omega⟩, q1 μ1 H1 .refl rel1.hr _ cover_range⟩
    · exact q1.none
  · exact q1.none
/-! zip, enumerate -/
def zipD (ds es : List D) : List D := List.zipWith (fun d e => .tup [d, e]) ds es
theorem cover_zip {C : Ct} {H1 : Hp} {μ1 : Mu} {lks : List Nat} {t1 t2 : Bool} {a b : Addr} {vs us : List V} {ds es : List D} (h1 : SqF C.K lks t1 μ1 H1 a vs) (h2 : SqF C.K lks t2 μ1 H1 b us) (r1 : RepL C μ1 H1 ds vs) (r2 : RepL C μ1 H1 es us) : Cover C (ItzB C.K t1 a t2 b) (zipD ds es) lks μ1 H1 := by
  have hl : (zipD ds es).length = min ds.length es.length := List.length_zipWith
  refine ⟨fun i μ H st hi => ?_, fun i μ H st hi => ?_, fun i μ H x H' d st y hd => ?_⟩
  · have i1 : i < ds.length := by omega
    have i2 : i < es.length := by omega
    obtain ⟨v, hv, _⟩ := r1.get (List.getElem?_eq_getElem i1)
    obtain ⟨u, hu, _⟩ := r2.get (List.getElem?_eq_getElem i2)
    exact ⟨vs, us, v, u, h1.still st, h2.still st, hv, hu⟩
  · have q1 := r1.length
    have q2 := r2.length
    exact ⟨vs, us, h1.still st, h2.still st, by omega, by omega, by omega⟩
  · obtain ⟨T, v, u, rfl, hT, rfl, f1, f2⟩ := y
    have hi : i < (zipD ds es).length := (List.getElem?_eq_some_iff.mp hd).1
    have i1 : i < ds.length := by omega
    have i2 : i < es.length := by omega
    have e1 := f1 _ (h1.still st)
    have e2 := f2 _ (h2.still st)
    obtain ⟨v', hv, rv⟩ := r1.get (List.getElem?_eq_getElem i1)
    obtain ⟨u', hu, ru⟩ := r2.get (List.getElem?_eq_getElem i2)
    rw [e1] at hv; cases hv
    rw [e2] at hu; cases hu
    have ed : d = .tup [ds[i], es[i]] := by
      have q : (zipD ds es)[i]? = some (.tup [ds[i], es[i]]) := by
        unfold zipD
        rw [List.getElem?_zipWith, List.getElem?_eq_getElem i1, List.getElem?_eq_getElem i2]
      rw [q] at hd
      exact (Option.some.inj hd).symm
    subst ed
    obtain ⟨s1, s2⟩ := same_new (o := HO.tup [v, u]) hT
    have st2 := Same.stay (μ := μ) s1
    exact ⟨s1, s2, T, [v, u], rfl, .inl upd_same, v, [u], rfl, (rv.stay st.st).stay st2, u, [], rfl, (ru.stay st.st).stay st2, rfl⟩
def mZip (ms : M (List D)) : M (List D × List Nat) := mBind ms fun ds => fun _ h => match ds with
  | [d1, d2] => (match itD h d1, itD h d2 with
    | some (ds, l1), some (es, l2) => some (.ok (zipD ds es, l1 ++ l2) h)
    | _, _ => none)
  | _ => none
theorem i_zip {e e2 : Expr} {ms : M (List D)} {p pos tpos : Pos} {elts : List Expr} {kk : Nat} (hg : Gl X "zip") (hm : X.mg "zip" = none) (ha : PA X [e, e2] (rdA X W ms))
    (hs : starEach [e, e2] X.env = (false, eval e X.env) :: starEach [e2] X.env := by rfl) (hpl : (backTo pos (starEach [e2] X.env)).any (·.1) = false := by rfl) :
    PI X (.Tuple elts kk tpos) (.Call (.Name "zip" p) [e, e2] [] pos) (rdI X W (mZip ms)) := by
  refine pi_imp (pi_zipB hg hm ha hs hpl) fun σ H R q => rdG_imp (rdG_bind q) fun ρ L ds h1 μ1 H1 ⟨rel1, q1⟩ xs rx => ?_
  split at q1
  · rename_i d1 d2
    split at q1
    · rename_i ds l1 es l2 e1 e2
      obtain ⟨x, y, rfl, hx, hy⟩ := rx.two
      obtain ⟨t1, a, vs, rfl, s1, r1⟩ := itD_ok rel1.hr hx e1
      obtain ⟨t2, b, us, rfl, s2, r2⟩ := itD_ok rel1.hr hy e2
      exact ⟨t1, a, t2, b, vs, us, rfl, s1.sq, s2.sq, q1 μ1 H1 .refl rel1.hr _ (cover_zip (s1.more fun n m => List.mem_append_left _ m) (s2.more fun n m => List.mem_append_right _ m) r1 r2)⟩
    · exact q1.none
  · exact q1.none
def enumD (c : Int) : List D → List D
  | [] => []
  | d :: ds => .tup [.int c, d] :: enumD (c + 1) ds
theorem enumD_len : ∀ (c : Int) (ds : List D), (enumD c ds).length = ds.length
  | _, [] => rfl
  | c, d :: ds => by show (enumD (c + 1) ds).length + 1 = ds.length + 1; rw [enumD_len]
theorem enumD_get : ∀ (c : Int) (ds : List D) (i : Nat), (enumD c ds)[i]? = (ds[i]?).map fun d => .tup [.int (c + (i : Nat)), d]
  | _, [], i => by simp [enumD]
  | c, d :: ds, 0 => by simp [enumD]
  | c, d :: ds, i + 1 => by
    show (enumD (c + 1) ds)[i]? = (ds[i]?).map _
    rw [enumD_get]
    have e : c + 1 + (i : Int) = c + ((i + 1 : Nat) : Int) := by omega
    rw [e]
theorem cover_enum {C : Ct} {H1 : Hp} {μ1 : Mu} {lks : List Nat} {t : Bool} {a : Addr} {c : Int} {vs : List V} {ds : List D} (h1 : SqF C.K lks t μ1 H1 a vs) (r1 : RepL C μ1 H1 ds vs) : Cover C (ItnB C.K t a c) (enumD c ds) lks μ1 H1 := by
  have hl := enumD_len c ds
  refine ⟨fun i μ H st hi => ?_, fun i μ H st hi => ?_, fun i μ H x H' d st y hd => ?_⟩
  · have i1 : i < ds.length := by omega
    obtain ⟨v, hv, _⟩ := r1.get (List.getElem?_eq_getElem i1)
    exact ⟨vs, v, h1.still st, hv⟩
  · have q1 := r1.length
    exact ⟨vs, h1.still st, by omega⟩
  · obtain ⟨T, v, rfl, hT, rfl, f1⟩ := y
    have e1 := f1 _ (h1.still st)
    rw [enumD_get] at hd
    obtain ⟨d0, hd0, rfl⟩ := Option.map_eq_some_iff.mp hd
    obtain ⟨v', hv, rv⟩ := r1.get hd0
    rw [e1] at hv; cases hv
    obtain ⟨s1, s2⟩ := same_new (o := HO.tup [.int (c + (i : Nat)), v]) hT
    have st2 := Same.stay (μ := μ) s1
    exact ⟨s1, s2, T, [.int (c + (i : Nat)), v], rfl, .inl upd_same, _, [v], rfl, rfl, v, [], rfl, (rv.stay st.st).stay st2, rfl⟩
def mEnum (c : Int) (m : M D) : M (List D × List Nat) := mBind m fun d => fun _ h => match itD h d with
  | some (ds, l) => some (.ok (enumD c ds, l) h)
  | none => none
theorem rd_enum {c : Int} {m : M D} {σ : L2.St} {H : Hp} {R : It → Hp → Prop} (q : rdI X W (mEnum c m) σ H R) : iEnumB X.K (rd X W m) c σ H R := by
  refine rdG_imp (rdG_bind q) fun ρ L d h1 μ1 H1 ⟨rel1, q1⟩ x rx => ?_
  split at q1
  · rename_i ds l e1
    obtain ⟨t, a, vs, rfl, s1, r1⟩ := itD_ok rel1.hr rx e1
    exact ⟨t, a, vs, rfl, s1.sq, q1 μ1 H1 .refl rel1.hr _ (cover_enum s1 r1)⟩
  · exact q1.none
theorem i_enumK {e : Expr} {m : M D} {k : Int} {j : Nat} {p kp kp2 pos tpos : Pos} {elts : List Expr} {kk : Nat} (hk : -1000000 ≤ k ∧ k ≤ 1000000) (hg : Gl X "enumerate") (hm : X.mg "enumerate" = none) (he : PE X e (rd X W m))
    (hs : starEach [e] X.env = (false, eval e X.env) :: starEach [] X.env := by rfl) (hall : (backToKw pos (keywordEach [⟨some "start", .Constant (.int k) j kp, kp2⟩] X.env)).all (·.1.isSome) = true := by rfl)
    (hpl : ((backTo pos (starEach [e] X.env)).any (·.1) || (backToKw pos (keywordEach [⟨some "start", .Constant (.int k) j kp, kp2⟩] X.env)).any (·.1.isNone)) = false := by rfl)
    (hks : (backToKw pos (keywordEach [⟨some "start", .Constant (.int k) j kp, kp2⟩] X.env)).filterMap (·.1) = [("start" : Str)] := by rfl) :
    PI X (.Tuple elts kk tpos) (.Call (.Name "enumerate" p) [e] [⟨some "start", .Constant (.int k) j kp, kp2⟩] pos) (rdI X W (mEnum k m)) :=
  pi_imp (pi_enumK hk hg hm he hs hall hpl hks) fun σ H R h => rd_enum h
theorem i_enum0 {e : Expr} {m : M D} {p pos tpos : Pos} {elts : List Expr} {kk : Nat} (hg : Gl X "enumerate") (hm : X.mg "enumerate" = none) (he : PE X e (rd X W m))
    (hs : starEach [e] X.env = (false, eval e X.env) :: starEach [] X.env := by rfl) (hs2 : starEach [e] X.env = [(false, eval e X.env)] := by rfl) :
    PI X (.Tuple elts kk tpos) (.Call (.Name "enumerate" p) [e] [] pos) (rdI X W (mEnum 0 m)) :=
  pi_imp (pi_enum0 hg hm he hs hs2) fun σ H R h => rd_enum h
end

/-! ### targets -/
/-- but for the slots tv all stands -/
def Bt (tv : List Nat) (σ σ' : L2.St) : Prop := σ'.length = σ.length ∧ ∀ (i : Nat), i ∉ tv → σ'[i]? = σ[i]?
abbrev TM := D → En → Hs → Option (En × Hs)
def rdTg (X : Cx) (t : TM) (tv : List Nat) : TG := fun x σ H Q => ∃ d ρ L μ h ρ' h', Rel (ctX X) L ρ σ μ H h ∧ RepV (ctX X) μ H d x ∧ t d ρ h = some (ρ', h') ∧ ∀ σ' μ' H', Go L μ H μ' H' → Rel (ctX X) L ρ' σ' μ' H' h' → Bt tv σ σ' → Q σ' H'
def tName (i : Nat) : TM := fun d ρ h => some (ρ.set i (some d), h)
abbrev TMs := List D → En → Hs → Option (En × Hs)
def rdTgs (X : Cx) (t : TMs) (tv : List Nat) : TGs := fun xs σ H Q => ∃ ds ρ L μ h ρ' h', Rel (ctX X) L ρ σ μ H h ∧ RepL (ctX X) μ H ds xs ∧ t ds ρ h = some (ρ', h') ∧ ∀ σ' μ' H', Go L μ H μ' H' → Rel (ctX X) L ρ' σ' μ' H' h' → Bt tv σ σ' → Q σ' H'
def tsNil : TMs := fun ds ρ h => match ds with | [] => some (ρ, h) | _ => none
def tsCons (t : TM) (ts : TMs) : TMs := fun ds ρ h => match ds with
  | [] => none
  | d :: r => match t d ρ h with
    | none => none
    | some (ρ1, h1) => ts r ρ1 h1
def tTup (n : Nat) (ts : TMs) : TM := fun d ρ h => match d with
  | .tup ds => if ds.length = n then ts ds ρ h else none
  | d => match lstD h d with
    | some ds => if ds.length = n then ts ds ρ h else none
    | none => none
section
variable {X : Cx} {W : WX}
theorem g_name {i : Nat} {x : Str} {pos : Pos} (hN : X.N.Nodup) (hi : X.N[i]? = some x) (hx : Loc X.env.scope x) (hf : X.fn x = true ∨ X.env.scope.names.lookup x = some .local := by first | exact .inl rfl | exact .inr rfl | assumption) : PG X (.Name x pos) (rdTg X (tName i) [i]) :=
  pg_imp (pg_name hN hi hx hf) fun v σ H Q ⟨d, ρ, L, μ, h, ρ', h', rel, rv, e, k⟩ => by
    cases e
    exact k _ μ H .refl (rel.set rv) ⟨by rw [List.length_set], fun j hj => List.getElem?_set_ne fun q => hj (by rw [q]; exact List.mem_singleton_self _)⟩
theorem gs_nil : PGs X [] (rdTgs X tsNil []) := pgs_imp pgs_nil fun v σ H Q ⟨ds, ρ, L, μ, h, ρ', h', rel, rv, e, k⟩ => by
  unfold tsNil at e
  split at e
  · cases e
    exact ⟨rv, k σ μ H .refl rel ⟨rfl, fun _ _ => rfl⟩⟩
  · cases e
theorem gs_cons {e : Expr} {es : List Expr} {t : TM} {ts : TMs} {v1 v2 : List Nat} (h1 : PG X e (rdTg X t v1)) (h2 : PGs X es (rdTgs X ts v2))
    (hs : (assignEach (e :: es) X.env).map (·.2) = assign e X.env :: (assignEach es X.env).map (·.2) := by rfl) : PGs X (e :: es) (rdTgs X (tsCons t ts) (v1 ++ v2)) := by
  refine pgs_imp (pgs_cons h1 h2 hs) fun v σ H Q ⟨ds, ρ, L, μ, h, ρ', h', rel, rv, e, k⟩ => ?_
  unfold tsCons at e
  split at e
  · cases e
  · rename_i d r
    obtain ⟨x, xs, rfl, q1, q2⟩ := rv
    split at e
    · cases e
    · rename_i ρ1 h1 e1
      exact ⟨x, xs, rfl, d, ρ, L, μ, h, ρ1, h1, rel, q1, e1, fun σ1 μ1 H1 g1 rel1 b1 => ⟨r, ρ1, L, μ1, h1, ρ', h', rel1, q2.go rel.hr g1, e, fun σ2 μ2 H2 g2 rel2 b2 => k σ2 μ2 H2 (g1.trans g2) rel2 ⟨b2.1.trans b1.1, fun i hi => (b2.2 i fun q => hi (List.mem_append_right _ q)).trans (b1.2 i fun q => hi (List.mem_append_left _ q))⟩⟩⟩
theorem g_tup {es : List Expr} {k : Nat} {pos : Pos} {n : Nat} {ts : TMs} {tv : List Nat} (hc : X.calm = true) (h : PGs X es (rdTgs X ts tv))
    (hn : (assignEach es X.env).length = n := by rfl) (hst : (assignEach es X.env).findIdx? (·.1) = none := by rfl) : PG X (.Tuple es k pos) (rdTg X (tTup n ts) tv) := by
  have both : PG X (.Tuple es k pos) (fun v σ H Q => gTup X.K n (rdTgs X ts tv) v σ H Q ∨ gUnl X.K n (rdTgs X ts tv) v σ H Q) :=
    ⟨fun pins s σ H v u Q I r hw => hw.elim (fun q => (pg_tup hc h hn hst).run pins s σ H v u Q I r q) fun q => (pg_unl hc h hn hst).run pins s σ H v u Q I r q⟩
  refine pg_imp both fun v σ H Q ⟨d, ρ, L, μ, h, ρ', h', rel, rv, e, kk⟩ => ?_
  unfold tTup at e
  split at e
  · rename_i ds
    split at e
    · rename_i hl
      obtain ⟨a, vs, rfl, t, q⟩ := rv
      exact .inl ⟨a, vs, rfl, t.sq, by rw [q.length]; exact hl, ds, ρ, L, μ, h, ρ', h', rel, q, e, kk⟩
    · cases e
  · split at e
    · rename_i ds ed
      split at e
      · rename_i hl
        obtain ⟨a, vs, rfl, t, q⟩ := lstD_ok rel.hr rv ed
        exact .inr ⟨a, vs, rfl, t, by rw [q.length]; exact hl, ds, ρ, L, μ, h, ρ', h', rel, q, e, kk⟩
      · cases e
    · cases e
/-- o[i] as a target -/
def tSub (mo mi : M D) : TM := fun d ρ h => match mo ρ h with
  | some (.ok c h1) => (match mi ρ h1 with
    | some (.ok k h2) => (match putD h2 c k d with
      | some h3 => some (ρ, h3)
      | none => none)
    | _ => none)
  | _ => none
theorem g_sub {o i : Expr} {mo mi : M D} {pos : Pos} (hu : X.A.units + 65 < cLine) (ho : PE X o (rd X W mo)) (hi : PE X i (rd X W mi))
    (ha : ∀ v, assign (.Subscript o i pos) X.env v = (do
      let ov ← holding [v] (eval o X.env)
      let iv ← holding [v, ov] (eval i X.env)
      standAt pos
      holding [v, ov, iv] (setItem ov iv v)
      release [v, ov, iv] []) := by intro _; rfl) : PG X (.Subscript o i pos) (rdTg X (tSub mo mi) []) := by
  refine pg_imp (pg_sub ho hi (PSet.or' set_list (set_dct hu)) ha) fun v σ H Q ⟨d, ρ, L, μ, h, ρ', h', rel, rv, e, kk⟩ => ?_
  unfold tSub at e
  split at e
  · rename_i c h1 e1
    refine ⟨ρ, L, μ, h, rel, ?_⟩
    rw [e1]
    intro μ1 H1 g1 r1 x rx
    have rel1 := rel.go g1 r1
    split at e
    · rename_i k h2 e2
      refine ⟨ρ, L, μ1, h1, rel1, ?_⟩
      rw [e2]
      intro μ2 H2 g2 r2 y ry
      split at e
      · rename_i h3 e3
        cases e
        exact put_ok r2 (rx.go r1 g2) ry ((rv.go rel.hr g1).go r1 g2) e3 fun μ3 H3 g3 r3 => kk σ μ3 H3 (g1.trans (g2.trans g3)) ((rel1.go g2 r2).go g3 r3) ⟨rfl, fun _ _ => rfl⟩
      · cases e
    · cases e
  · cases e
def mAsg (t : TM) (m : M D) : MS := mDo m fun d => fun ρ h => match t d ρ h with
  | some (ρ', h') => some (.nx ρ' h')
  | none => none
theorem s_asg {tg e : Expr} {t : TM} {tv : List Nat} {m : M D} {pos : Pos} (he : PE X e (rd X W m)) (hg : PG X tg (rdTg X t tv)) (hs : swapsWithSole [tg] e pos.line X.env = pure false := by rfl) (hw : swappedStores [tg] e X.env = pure none := by rfl)
    (h1 : (assignEach [tg] X.env).map (·.2) = [assign tg X.env] := by rfl) : PS X (.Assign [tg] e pos) (rdS X W (mAsg t m)) := by
  refine ps_imp (ps_asg he hg hs hw h1) fun D σ H q => rdG_imp (rdS_bind q) fun ρ L d h1 μ1 H1 ⟨rel1, q1⟩ x rx => ?_
  split at q1
  · rename_i ρ' h' e1
    exact ⟨d, ρ, L, μ1, h1, ρ', h', rel1, rx, e1, fun σ' μ' H' g r _ => q1 σ' μ' H' g r⟩
  · exact q1.none
end

/-! ### loops -/
def relk (L : List Nat) (h : Hs) : Hs := ⟨h.n, h.t, L⟩
def unlk (L : List Nat) : Option RS → Option RS
  | some (.nx ρ h) => some (.nx ρ (relk L h))
  | some (.bk ρ h) => some (.bk ρ (relk L h))
  | some (.ct ρ h) => some (.ct ρ (relk L h))
  | some (.rt d h) => some (.rt d (relk L h))
  | some (.ex c fs ρ h) => some (.ex c fs ρ (relk L h))
  | none => none
theorem HR.relk {C : Ct} {L L' : List Nat} {μ : Mu} {H : Hp} {h : Hs} (r : HR C L μ H h) : HR C L' μ H (Rh.relk L' h) := ⟨rfl, r.len, r.nd, r.tb, r.ob⟩
theorem Rel.relk {C : Ct} {L L' : List Nat} {ρ : En} {σ : L2.St} {μ : Mu} {H : Hp} {h : Hs} (r : Rel C L ρ σ μ H h) : Rel C L' ρ σ μ H (Rh.relk L' h) := ⟨r.len, r.val, r.hr.relk⟩
theorem Go.less {l L : List Nat} {μ μ' : Mu} {H H' : Hp} (g : Go (l ++ L) μ H μ' H') : Go L μ H μ' H' := ⟨fun i m => g.lk i (List.mem_append_right _ m), g.keep, g.dom, g.ext, g.new⟩
theorem SatS.unlk {X : Cx} {W : WX} {D0 : Ends} {l L : List Nat} {μ : Mu} {H : Hp} {o : Option RS} (q : SatS X W D0 L μ H (unlk L o)) : SatS X W D0 (l ++ L) μ H o := by
  cases o with
  | none => exact q.none
  | some o =>
    cases o with
    | nx ρ h => exact fun σ' μ' H' g r => q σ' μ' H' g.less r.relk
    | bk ρ h => exact fun σ' μ' H' g r => q σ' μ' H' g.less r.relk
    | ct ρ h => exact fun σ' μ' H' g r => q σ' μ' H' g.less r.relk
    | rt d h => exact fun μ' H' x g r rv => q μ' H' x g.less r.relk rv
    | ex c fs ρ h => exact fun cls d σ' μ' H' g r rx => q cls d σ' μ' H' g.less r.relk rx
def loopF (t : TM) (body : MS) : List D → MS
  | [], ρ, h => some (.nx ρ h)
  | d :: ds, ρ, h => match t d ρ h with
    | none => none
    | some (ρ1, h1) => match body ρ1 h1 with
      | some (.nx ρ2 h2) => loopF t body ds ρ2 h2
      | some (.ct ρ2 h2) => loopF t body ds ρ2 h2
      | some (.bk ρ2 h2) => some (.nx ρ2 h2)
      | o => o
def mFor (mi : M (List D × List Nat)) (t : TM) (body : MS) : MS := mDo mi fun p => fun ρ h => unlk h.lk (loopF t body p.1 ρ (relk (p.2 ++ h.lk) h))
section
variable {X : Cx} {W : WX}
theorem s_for {tg iter : Expr} {body : List Stmt} {mi : M (List D × List Nat)} {t : TM} {mb : MS} {tv : List Nat} {pos : Pos} (hp : PassesOwn (model X.prog X.w) X.A X.env X.xe) (hc : X.calm = true) (hi : PI X tg iter (rdI X W mi)) (hg : PG X tg (rdTg X t tv)) (hb : PSs X body (rdS X W mb))
    (hs : ∀ x, foldedSetIterable iter X.env x = pure x := by intro _; rfl) : PS X (.For tg iter body [] pos) (rdS X W (mFor mi t mb)) := by
  refine ps_imp (ps_for hp hc hi hg hb hs) fun D σ H q => rdG_imp (rdS_bind q) fun ρ L p h1 μ1 H1 ⟨rel1, q1⟩ J cov => ?_
  obtain ⟨ds, lks⟩ := p
  dsimp only at q1 cov
  rw [rel1.hr.lk] at q1
  have q2 := SatS.unlk (l := lks) q1
  have rel2 := rel1.relk (L' := lks ++ L)
  refine ⟨fun i m σ2 H2 => m = ds.length - i ∧ i ≤ ds.length ∧ ∃ μ2 ρ2 h2, Go (lks ++ L) μ1 H1 μ2 H2 ∧ Rel (ctX X) (lks ++ L) ρ2 σ2 μ2 H2 h2 ∧ SatS X W D (lks ++ L) μ2 H2 (loopF t mb (ds.drop i) ρ2 h2), ⟨ds.length, by simp, Nat.zero_le _, μ1, ρ, _, .refl, rel2, q2⟩, ?_⟩
  rintro i m σ2 H2 ⟨rfl, hi, μ2, ρ2, h2, g2, r2, k2⟩
  have st : Still lks μ1 H1 μ2 H2 := ⟨g2.stay rel2.hr, fun n m => g2.lk n (List.mem_append_left _ m)⟩
  by_cases hlt : i < ds.length
  · refine .inr ⟨cov.go i μ2 H2 st hlt, fun σ3 H3 => i + 1 ≤ ds.length ∧ ∃ μ3 ρ3 h3, Go (lks ++ L) μ1 H1 μ3 H3 ∧ Rel (ctX X) (lks ++ L) ρ3 σ3 μ3 H3 h3 ∧ SatS X W D (lks ++ L) μ3 H3 (loopF t mb (ds.drop (i + 1)) ρ3 h3), fun σ3 H3 ⟨q1, q2⟩ => ⟨ds.length - (i + 1), by omega, rfl, q1, q2⟩, fun x H' y => ?_⟩
    have hd : ds[i]? = some ds[i] := List.getElem?_eq_getElem hlt
    obtain ⟨sm, dm, rv⟩ := cov.yld i μ2 H2 x H' _ st y hd
    have g3 : Go (lks ++ L) μ2 H2 μ2 H' := .same r2.hr sm dm
    have r3 := r2.go g3 (r2.hr.same sm)
    rw [List.drop_eq_getElem_cons hlt] at k2
    unfold loopF at k2
    cases e1 : t ds[i] ρ2 h2 with
    | none => rw [e1] at k2; exact k2.none
    | some pp =>
      obtain ⟨ρ3, h3⟩ := pp
      simp only [e1] at k2
      refine ⟨ds[i], ρ2, lks ++ L, μ2, h2, ρ3, h3, r3, rv, e1, fun σ4 μ4 H4 g4 r4 _ => ⟨ρ3, lks ++ L, μ4, h3, r4, ?_⟩⟩
      have g5 := g2.trans (g3.trans g4)
      have k3 := k2.start (g3.trans g4)
      cases e2 : mb ρ3 h3 with
      | none => simp only [e2] at k3; exact k3.none
      | some o =>
        cases o with
        | nx ρ4 h4 =>
          simp only [e2] at k3
          exact fun σ5 μ5 H5 g6 r6 => ⟨hlt, μ5, ρ4, h4, g5.trans g6, r6, k3.start g6⟩
        | ct ρ4 h4 =>
          simp only [e2] at k3
          exact fun σ5 μ5 H5 g6 r6 => ⟨hlt, μ5, ρ4, h4, g5.trans g6, r6, k3.start g6⟩
        | bk ρ4 h4 => simp only [e2] at k3; exact k3
        | rt n h4 => simp only [e2] at k3; exact k3
        | ex c fs ρ4 h4 => simp only [e2] at k3; exact k3
  · have e : i = ds.length := by omega
    subst e
    rw [List.drop_length] at k2
    exact .inl ⟨cov.stop _ μ2 H2 st rfl, k2 σ2 μ2 H2 .refl r2⟩
def loopW (c : M Bool) (body : MS) : Nat → MS
  | 0, _, _ => none
  | n + 1, ρ, h => mDo c (fun k => if k = true then fun ρ1 h1 => (match body ρ1 h1 with
      | some (.nx ρ2 h2) => loopW c body n ρ2 h2
      | some (.ct ρ2 h2) => loopW c body n ρ2 h2
      | some (.bk ρ2 h2) => some (.nx ρ2 h2)
      | o => o) else mNx) ρ h
theorem s_while {c : Expr} {body : List Stmt} {mc : M Bool} {mb : MS} {pos : Pos} (n : Nat) (hp : PassesOwn (model X.prog X.w) X.A X.env X.xe) (hc : PT X c (rdT X W mc)) (hb : PSs X body (rdS X W mb)) : PS X (.While c body [] pos) (rdS X W (loopW mc mb n)) := by
  refine ps_imp (ps_while hp hc hb) fun D σ H ⟨ρ, L, μ, h, rel, q⟩ => ?_
  refine ⟨fun m σ2 H2 => ∃ L2 μ2 ρ2 h2, Rel (ctX X) L2 ρ2 σ2 μ2 H2 h2 ∧ SatS X W D L2 μ2 H2 (loopW mc mb m ρ2 h2), ⟨n, L, μ, ρ, h, rel, q⟩, ?_⟩
  rintro m σ2 H2 ⟨L, μ2, ρ2, h2, rel2, k2⟩
  cases m with
  | zero => exact k2.none
  | succ m =>
    have k2 : rdS X W (mDo mc (fun k => if k = true then fun ρ1 h1 => (match mb ρ1 h1 with
      | some (.nx ρ2 h2) => loopW mc mb m ρ2 h2
      | some (.ct ρ2 h2) => loopW mc mb m ρ2 h2
      | some (.bk ρ2 h2) => some (.nx ρ2 h2)
      | o => o) else mNx)) D σ2 H2 := ⟨ρ2, L, μ2, h2, rel2, k2⟩
    refine rdG_imp (rdS_bind k2) fun ρ3 L3 k h3 μ3 H3 ⟨rel3, k3⟩ => ?_
    cases k with
    | false =>
      rw [if_neg Bool.false_ne_true] at k3 ⊢
      exact k3 σ2 μ3 H3 .refl rel3
    | true =>
      rw [if_pos rfl] at k3 ⊢
      refine ⟨fun σ4 H4 => ∃ L4 μ4 ρ4 h4, Rel (ctX X) L4 ρ4 σ4 μ4 H4 h4 ∧ SatS X W D L4 μ4 H4 (loopW mc mb m ρ4 h4), fun σ4 H4 q => ⟨m, Nat.lt_succ_self _, q⟩, ρ3, L3, μ3, h3, rel3, ?_⟩
      cases e2 : mb ρ3 h3 with
      | none => simp only [e2] at k3; exact k3.none
      | some o =>
        cases o with
        | nx ρ4 h4 => simp only [e2] at k3; exact fun σ5 μ5 H5 g6 r6 => ⟨L3, μ5, ρ4, h4, r6, k3.start g6⟩
        | ct ρ4 h4 => simp only [e2] at k3; exact fun σ5 μ5 H5 g6 r6 => ⟨L3, μ5, ρ4, h4, r6, k3.start g6⟩
        | bk ρ4 h4 => simp only [e2] at k3; exact k3
        | rt n h4 => simp only [e2] at k3; exact k3
        | ex c fs ρ4 h4 => simp only [e2] at k3; exact k3
end
end Rh

set_option Elab.async false
set_option linter.all false
set_option maxRecDepth 100000
set_option maxHeartbeats 2000000
set_option autoImplicit false
namespace Rh
open PySem PySem.Spec PyProof.Rows L2
variable [Tbs]

/-! ### blocks with names of their own -/
def wipeE (ρ : En) : List Nat → En
  | [] => ρ
  | v :: vs => (wipeE ρ vs).set v none
abbrev WF : WX := fun _ _ _ _ => False
section
variable {C : Ct} {L : List Nat} {ρ : En} {σ σ' : L2.St} {μ μ1 μ2 : Mu} {H H1 H2 : Hp} {h h1 h' : Hs}
theorem wipe_get : ∀ {vs : List Nat} {i : Nat}, (wipe σ vs)[i]? = if i ∈ vs then σ[i]?.map (fun _ => none) else σ[i]?
  | [], i => by simp [wipe]
  | v :: vs, i => by
    show ((wipe σ vs).set v none)[i]? = _
    by_cases h : v = i
    · subst h
      rw [if_pos List.mem_cons_self]
      by_cases hl : v < σ.length
      · rw [List.getElem?_set_self (by rw [wipe_length]; exact hl), List.getElem?_eq_getElem hl]
        rfl
      · rw [List.getElem?_eq_none (by rw [List.length_set, wipe_length]; exact Nat.le_of_not_lt hl), List.getElem?_eq_none (Nat.le_of_not_lt hl)]
        rfl
    · rw [List.getElem?_set_ne h, wipe_get]
      by_cases hm : i ∈ vs
      · rw [if_pos hm, if_pos (List.mem_cons_of_mem _ hm)]
      · rw [if_neg hm, if_neg fun q => (List.mem_cons.mp q).elim (fun e => h e.symm) hm]
theorem wipeE_len : ∀ vs : List Nat, (wipeE ρ vs).length = ρ.length
  | [] => rfl
  | v :: vs => by show ((wipeE ρ vs).set v none).length = _; rw [List.length_set, wipeE_len]
theorem wipeE_get : ∀ {vs : List Nat} {i : Nat} {d : D}, (wipeE ρ vs)[i]? = some (some d) → i ∉ vs ∧ ρ[i]? = some (some d)
  | [], i, d, e => ⟨by simp, e⟩
  | v :: vs, i, d, e => by
    have e : ((wipeE ρ vs).set v none)[i]? = some (some d) := e
    by_cases h : v = i
    · subst h
      by_cases hl : v < (wipeE ρ vs).length
      · rw [List.getElem?_set_self hl] at e; cases e
      · rw [List.getElem?_eq_none (by rw [List.length_set]; exact Nat.le_of_not_lt hl)] at e; cases e
    · rw [List.getElem?_set_ne h] at e
      obtain ⟨a, b⟩ := wipeE_get e
      exact ⟨fun q => (List.mem_cons.mp q).elim (fun e => h e.symm) a, b⟩
theorem wipe_eq {vs : List Nat} (q : Bt vs σ σ') : wipe σ' vs = wipe σ vs := by
  apply List.ext_getElem?
  intro i
  rw [wipe_get, wipe_get]
  by_cases hm : i ∈ vs
  · rw [if_pos hm, if_pos hm]
    by_cases hl : i < σ.length
    · rw [List.getElem?_eq_getElem hl, List.getElem?_eq_getElem (by rw [q.1]; exact hl)]; rfl
    · rw [List.getElem?_eq_none (Nat.le_of_not_lt hl), List.getElem?_eq_none (by rw [q.1]; exact Nat.le_of_not_lt hl)]
  · rw [if_neg hm, if_neg hm, q.2 i hm]
theorem wipe_wipe {vs : List Nat} : wipe (wipe σ vs) vs = wipe σ vs := wipe_eq ⟨wipe_length _ _, fun i hi => by rw [wipe_get, if_neg hi]⟩
theorem Rel.wipe {vs : List Nat} (r : Rel C L ρ σ μ H h) : Rel C L (wipeE ρ vs) (wipe σ vs) μ H h := by
  refine ⟨by rw [wipeE_len, wipe_length]; exact r.len, fun i d e => ?_, r.hr⟩
  obtain ⟨hm, e⟩ := wipeE_get e
  obtain ⟨v, e1, rv⟩ := r.val i d e
  exact ⟨v, by rw [wipe_get, if_neg hm]; exact e1, rv⟩
/-- an object that is no box is changed -/
theorem HR.side (r : HR C L μ H h) {a : Addr} {u o : HO} (ha : H a = some u) (na : a ∉ μ) (nt : ∀ xs, u ≠ .tup xs) (nf : ∀ ob v, u ≠ .frz ob v) (nb : ∀ ps, u ≠ .tbl ps := by exact fun _ z => nomatch z) (nc : ∀ q, u ≠ LamX.CodeO a q := by exact fun _ z => nomatch z) : HR C L μ (L2.upd H a o) h ∧ Stay μ H μ (L2.upd H a o) := by
  have st : Stay μ H μ (L2.upd H a o) := ⟨fun _ _ e => e, fun b xs e => by rw [upd_ne (fun z => by subst z; rw [ha] at e; cases e; exact nt _ rfl)]; exact e, fun b ob v e => by rw [upd_ne (fun z => by subst z; rw [ha] at e; cases e; exact nf _ _ rfl)]; exact e⟩
  refine ⟨⟨r.lk, r.len, r.nd, ⟨fun p hp => ?_, fun p hp => ?_⟩, fun i b e => ?_⟩, st⟩
  · obtain ⟨ps, h1, h2, h3⟩ := r.tb.1 p hp
    refine ⟨ps, (upd_ne fun z => by rw [← z, h1] at ha; cases ha; exact nb _ rfl).trans h1, h2, fun pos cv hc => ?_⟩
    obtain ⟨c, e1, e2⟩ := h3 pos cv hc
    exact ⟨c, e1, (upd_ne fun z => by rw [← z, e2] at ha; cases ha; exact nc p.2 (by rw [z])).trans e2⟩
  · have e2 := r.tb.2 p hp
    exact (upd_ne fun z => by rw [← z, e2] at ha; cases ha; exact nc p.2 (by rw [z])).trans e2
  obtain ⟨o', e1, q⟩ := r.ob i b e
  exact ⟨o', e1, q.stay st (upd_ne (fun z => by subst z; exact na (List.mem_of_getElem? e)))⟩
theorem Go.side (g : Go L μ1 H1 μ H) (r : HR C L μ1 H1 h1) {a : Addr} {o : HO} (ha : H1 a = none) : Go L μ1 H1 μ (L2.upd H a o) := by
  refine ⟨fun i m b e => ?_, fun b u e nt n => ?_, fun b e => ?_, g.ext, g.new⟩
  · obtain ⟨u, q⟩ := r.some_at e
    rw [upd_ne fun z => by subst z; rw [ha] at q; cases q]
    exact g.lk i m b e
  · rw [upd_ne fun z => by subst z; rw [ha] at e; cases e]
    exact g.keep b u e nt n
  · by_cases z : b = a
    · subst z; exact NoT.none ha
    · rw [upd_ne z] at e; exact g.dom b e
/-- an object becomes a box -/
theorem HR.adopt (r : HR C L μ H h) {a : Addr} {o : O} (na : a ∉ μ) (q : ObR C (μ ++ [a]) H a o) (e : h.new o = some h') : HR C L (μ ++ [a]) H h' := by
  have st : Stay μ H (μ ++ [a]) H := ⟨fun i b e => by rw [List.getElem?_append_left (List.getElem?_eq_some_iff.mp e).1]; exact e, fun _ _ e => e, fun _ _ _ e => e⟩
  refine ⟨(Hs.new_lk e).trans r.lk, by rw [List.length_append, r.len, Hs.new_n e]; rfl, ⟨?_, r.nd.2.trans ⟨[a], rfl⟩⟩, r.tb, fun i b eb => ?_⟩
  · rw [List.nodup_append]
    exact ⟨r.nd.1, by simp, fun x hx y hy => by rw [List.mem_singleton] at hy; subst hy; exact fun z => na (z ▸ hx)⟩
  · rw [Hs.new_get e]
    by_cases hi : i = h.n
    · subst hi
      rw [if_pos rfl]
      rw [← r.len, List.getElem?_append_right (Nat.le_refl _)] at eb
      simp at eb; subst eb
      exact ⟨o, rfl, q⟩
    · rw [if_neg hi]
      have hl := (List.getElem?_eq_some_iff.mp eb).1
      rw [List.length_append, List.length_singleton, r.len] at hl
      rw [List.getElem?_append_left (by rw [r.len]; omega)] at eb
      obtain ⟨u, e1, q1⟩ := r.ob i b eb
      exact ⟨u, e1, q1.stay st rfl⟩
theorem Go.adopt (g : Go L μ1 H1 μ H) {a : Addr} (ha : H1 a = none) : Go L μ1 H1 (μ ++ [a]) H := by
  refine ⟨g.lk, g.keep, g.dom, ?_, fun b m => ?_⟩
  · obtain ⟨r, e⟩ := g.ext
    exact ⟨r ++ [a], by rw [e, List.append_assoc]⟩
  · rcases List.mem_append.mp m with m | m
    · exact g.new b m
    · rw [List.mem_singleton] at m; subst m; exact .inr (NoT.none ha)
theorem Go.not_mem (g : Go L μ1 H1 μ H) (r : HR C L μ1 H1 h1) {a : Addr} (ha : H1 a = none) (nm : a ∉ μ) (g2 : Go L μ H μ2 H2) {u : HO} (hu : H a = some u) (nu : ∀ ps, u ≠ .tbl ps := by exact fun _ z => nomatch z) : a ∉ μ2 := fun m => by
  rcases g2.new a m with q | q
  · exact nm q
  · exact q.not hu nu
end
/-! ### list comprehensions -/
def turnC (t : TM) (conds : M Bool) (elt : M D) (ρ : En) (d : D) (h : Hs) : Option (Option D × Hs) := match t d ρ h with
  | none => none
  | some (ρ1, h1) => match conds ρ1 h1 with
    | some (.ok false h2) => some (none, h2)
    | some (.ok true h2) => (match elt ρ1 h2 with
      | some (.ok x h3) => some (some x, h3)
      | _ => none)
    | _ => none
def consO {α : Type} (o : Option α) (es : List α) : List α := match o with
  | some x => x :: es
  | none => es
def loopC (t : TM) (conds : M Bool) (elt : M D) (ρ : En) : List D → Hs → Option (List D × Hs)
  | [], h => some ([], h)
  | d :: ds, h => match turnC t conds elt ρ d h with
    | none => none
    | some (o, h1) => match loopC t conds elt ρ ds h1 with
      | none => none
      | some (es, h2) => some (consO o es, h2)
def mLc (mi : M (List D × List Nat)) (t : TM) (conds : M Bool) (elt : M D) (vs : List Nat) : M D := mBind mi fun p => fun ρ h => if p.1.length ≤ 1000000 then (match loopC t conds elt (wipeE ρ vs) p.1 (relk (p.2 ++ h.lk) h) with
  | some (es, h') => (Nv.n (.lst es)).lift (relk h.lk h')
  | none => none) else none
section
variable {X : Cx} {W : WX} {σ : L2.St} {H : Hp} {Q : VK}
theorem Bt.wipe {vs : List Nat} {σ2 : L2.St} (b : Bt vs (L2.wipe σ vs) σ2) : L2.wipe σ2 vs = L2.wipe σ vs := by rw [wipe_eq b, wipe_wipe]
/-- the reading of a list comprehension -/
theorem rd_lc {mi : M (List D × List Nat)} {t : TM} {conds : M Bool} {elt : M D} {vs : List Nat} (q : rd X W (mLc mi t conds elt vs) σ H Q) :
    tLc (rdI X W mi) (rdTg X t vs) (rdT X WF conds) (rd X WF elt) vs σ H Q := by
  refine rdG_imp (rdG_bind q) fun ρ L p h1 μ1 H1 ⟨rel1, q1⟩ J cov l hl => ?_
  obtain ⟨ds, lks⟩ := p
  dsimp only at q1 cov
  split at q1
  rotate_left
  · exact q1.none
  rename_i hlen
  rw [rel1.hr.lk] at q1
  cases eL : loopC t conds elt (wipeE ρ vs) ds (relk (lks ++ L) h1) with
  | none => simp only [eL] at q1; exact q1.none
  | some p =>
    obtain ⟨es, hf⟩ := p
    simp only [eL] at q1
    have rel2 := rel1.relk (L' := lks ++ L)
    refine ⟨fun i m Hc => m = ds.length - i ∧ i ≤ ds.length ∧ ∃ μi hi acc vacc rest, Go (lks ++ L) μ1 H1 μi Hc ∧ HR (ctX X) (lks ++ L) μi Hc hi ∧ Hc l = some (.lst vacc) ∧ l ∉ μi ∧ RepL (ctX X) μi Hc acc vacc ∧ vacc.length ≤ i ∧ loopC t conds elt (wipeE ρ vs) (ds.drop i) hi = some (rest, hf) ∧ acc ++ rest = es,
      ⟨ds.length, by simp, Nat.zero_le _, μ1, relk (lks ++ L) h1, [], [], es, ?_, ?_, upd_same, ?_, rfl, Nat.le_refl _, eL, rfl⟩, ?_⟩
    · obtain ⟨s1, d1⟩ := same_new (o := .lst []) hl
      exact .same rel2.hr s1 d1
    · exact rel2.hr.same (same_new (o := .lst []) hl).1
    · intro m; obtain ⟨u, e, _⟩ := rel2.hr.mut m; rw [hl] at e; cases e
    rintro i m Hc ⟨rfl, hi, μi, hh, acc, vacc, rest, gi, ri, hLc, nl, racc, hva, el, ea⟩
    have st : Still lks μ1 H1 μi Hc := ⟨gi.stay rel2.hr, fun n m => gi.lk n (List.mem_append_left _ m)⟩
    by_cases hlt : i < ds.length
    · refine .inr ⟨cov.go i μi Hc st hlt, fun H' => i + 1 ≤ ds.length ∧ ∃ μi hi acc vacc rest, Go (lks ++ L) μ1 H1 μi H' ∧ HR (ctX X) (lks ++ L) μi H' hi ∧ H' l = some (.lst vacc) ∧ l ∉ μi ∧ RepL (ctX X) μi H' acc vacc ∧ vacc.length ≤ i + 1 ∧ loopC t conds elt (wipeE ρ vs) (ds.drop (i + 1)) hi = some (rest, hf) ∧ acc ++ rest = es,
        fun H' ⟨q1, q2⟩ => ⟨ds.length - (i + 1), by omega, rfl, q1, q2⟩, fun x H' y => ?_⟩
      have hd : ds[i]? = some ds[i] := List.getElem?_eq_getElem hlt
      obtain ⟨sm, dm, rv⟩ := cov.yld i μi Hc x H' _ st y hd
      have g2 : Go (lks ++ L) μi Hc μi H' := .same ri sm dm
      have r2 := ri.same sm
      rw [List.drop_eq_getElem_cons hlt] at el
      unfold loopC at el
      cases et : turnC t conds elt (wipeE ρ vs) ds[i] hh with
      | none => rw [et] at el; cases el
      | some p =>
        obtain ⟨o, hn⟩ := p
        simp only [et] at el
        cases el2 : loopC t conds elt (wipeE ρ vs) (ds.drop (i + 1)) hn with
        | none => simp only [el2] at el; cases el
        | some p =>
          obtain ⟨rest2, hf2⟩ := p
          simp only [el2] at el
          cases el
          unfold turnC at et
          cases e1 : t ds[i] (wipeE ρ vs) hh with
          | none => rw [e1] at et; cases et
          | some p =>
            obtain ⟨ρ2, h2⟩ := p
            simp only [e1] at et
            have relw : Rel (ctX X) (lks ++ L) (wipeE ρ vs) (wipe σ vs) μi H' hh := (rel2.wipe (vs := vs)).go (gi.trans g2) r2
            refine ⟨ds[i], wipeE ρ vs, lks ++ L, μi, hh, ρ2, h2, relw, rv, e1, fun σ2 μ3 H3 g3 rel3 b3 => ⟨b3.wipe, ρ2, lks ++ L, μ3, h2, rel3, ?_⟩⟩
            have g13 := gi.trans (g2.trans g3)
            have hl' : H' l = some (.lst vacc) := sm _ _ hLc
            have hl3 : H3 l = some (.lst vacc) := g3.keep l _ hl' (fun _ z => nomatch z) nl
            have nl3 : l ∉ μ3 := (gi.trans g2).not_mem rel2.hr hl nl g3 hl'
            have ra3 : RepL (ctX X) μ3 H3 acc vacc := (racc.go ri g2).go r2 g3
            cases e2 : conds ρ2 h2 with
            | none => simp only [e2] at et; cases et
            | some p =>
              cases p with
              | ex c fs ρ3 => simp only [e2] at et; cases et
              | ok c h3 =>
                intro μ4 H4 g4 r4
                have hl4 : H4 l = some (.lst vacc) := g4.keep l _ hl3 (fun _ z => nomatch z) nl3
                have nl4 : l ∉ μ4 := g13.not_mem rel2.hr hl nl3 g4 hl3
                have ra4 := ra3.go rel3.hr g4
                cases c with
                | false =>
                  simp only [e2] at et
                  cases et
                  refine iteF ?_
                  exact ⟨hlt, μ4, _, acc, vacc, rest2, g13.trans g4, r4, hl4, nl4, ra4, by omega, el2, ea⟩
                | true =>
                  refine iteT ?_
                  simp only [e2] at et
                  refine ⟨ρ2, lks ++ L, μ4, h3, rel3.go g4 r4, ?_⟩
                  cases e3 : elt ρ2 h3 with
                  | none => simp only [e3] at et; cases et
                  | some p =>
                    cases p with
                    | ex c fs ρ4 => simp only [e3] at et; cases et
                    | ok xd h4 =>
                      simp only [e3] at et
                      cases et
                      intro μ5 H5 g5 r5 v rv
                      have hl5 : H5 l = some (.lst vacc) := g5.keep l _ hl4 (fun _ z => nomatch z) nl4
                      have nl5 : l ∉ μ5 := (g13.trans g4).not_mem rel2.hr hl nl4 g5 hl4
                      have ra5 := ra4.go r4 g5
                      obtain ⟨r6, st6⟩ := r5.side (o := .lst (vacc ++ [v])) hl5 nl5 (fun xs e => nomatch e) (fun ob u e => nomatch e)
                      refine ⟨vacc, hl5, small6' (by omega), hlt, μ5, _, acc ++ [xd], vacc ++ [v], rest2, ((g13.trans g4).trans g5).side rel2.hr hl, r6, upd_same, nl5, (ra5.stay st6).append ⟨v, [], rfl, rv.stay st6, rfl⟩, by rw [List.length_append, List.length_singleton]; omega, el2, ?_⟩
                      rw [List.append_assoc]
                      exact ea
    · have e : i = ds.length := by omega
      subst e
      rw [List.drop_length] at el
      unfold loopC at el
      cases el
      rw [List.append_nil] at ea
      subst ea
      refine .inl ⟨cov.stop _ μi Hc st rfl, ?_⟩
      have ri' := ri.relk (L' := L)
      unfold Nv.lift at q1
      dsimp only at q1
      cases en : (relk L hf).new (.lst acc) with
      | none => simp only [en] at q1; exact q1.none
      | some hz =>
        simp only [en] at q1
        have ra := ri'.adopt nl (o := .lst acc) ⟨vacc, hLc, racc.stay (stay_more fun _ _ e => e)⟩ en
        refine q1 (μi ++ [l]) Hc (gi.less.adopt hl) ra (.ref l) ⟨l, rfl, ?_⟩
        rw [← ri'.len, List.getElem?_append_right (Nat.le_refl _)]
        simp
theorem ts_nil : PTs X [] (rdT X W (mPure true)) := ⟨fun pins s σ H Q I q => by
  obtain ⟨_, _, _, _, _, k⟩ := rdG_pure q
  exact pts_nil.run pins s σ H Q I k⟩
theorem ts_one {c : Expr} {m : M Bool} (h : PT X c (rdT X W m)) : PTs X [c] (rdT X W m) := pts_one h
theorem e_lc {elt tg iter : Expr} {ifs : List Expr} {scope : Scope} {own : List (Str × Nat)} {pos : Pos} {mi : M (List D × List Nat)} {t : TM} {mc : M Bool} {me : M D} {vs : List Nat} (hc : X.calm = true) (hN : X.N.Nodup) (ok : BlkOk X.N X.env.scope scope own) (hvs : own.map (fun x : Str × Nat => x.2) = vs)
    (hi : PI X tg iter (rdI X W mi))
    (hg : ∀ (s : Shared) (H : Hp) (C : Addr) (cl : List (Str × Addr)) (fp : List Addr), PG (X.blk s H scope (compEnvC scope cl C X.env) fp) tg (rdTg (X.blk s H scope (compEnvC scope cl C X.env) fp) t vs))
    (ht : ∀ (s : Shared) (H : Hp) (C : Addr) (cl : List (Str × Addr)) (fp : List Addr), PTs (X.blk s H scope (compEnvC scope cl C X.env) fp) ifs (rdT (X.blk s H scope (compEnvC scope cl C X.env) fp) WF mc))
    (he : ∀ (s : Shared) (H : Hp) (C : Addr) (cl : List (Str × Addr)) (fp : List Addr), PE (X.blk s H scope (compEnvC scope cl C X.env) fp) elt (rd (X.blk s H scope (compEnvC scope cl C X.env) fp) WF me))
    (hs : ∀ x, foldedSetIterable iter X.env x = pure x := by intro _; rfl) :
    PE X (.ListComp elt [⟨tg, iter, ifs, 0⟩] scope pos) (rd X W (mLc mi t mc me vs)) := by
  subst hvs
  exact pe_imp (pe_lc (g := rdTg X t (own.map (fun x : Str × Nat => x.2))) (tt := rdT X WF mc) (te := rd X WF me) hc hN hi ok hg ht he hs) fun σ H Q h => rd_lc h
/-- name = [..] on one line -/
theorem s_setLc {i : Nat} {y : Str} {py : Pos} {elt tg iter : Expr} {ifs : List Expr} {scope : Scope} {own : List (Str × Nat)} {pos spos : Pos} {mi : M (List D × List Nat)} {t : TM} {mc : M Bool} {me : M D} {vs : List Nat} (hc : X.calm = true) (hN : X.N.Nodup) (hy : X.N[i]? = some y) (hyl : X.env.scope.names.lookup y = some .local)
    (hsw : swapsWith (.ListComp elt [⟨tg, iter, ifs, 0⟩] scope pos) (some (.Name y py)) spos.line X.env = pure true) (ok : BlkOk X.N X.env.scope scope own) (hvs : own.map (fun x : Str × Nat => x.2) = vs)
    (hi : PI X tg iter (rdI X W mi))
    (hg : ∀ (s : Shared) (H : Hp) (C : Addr) (cl : List (Str × Addr)) (fp : List Addr), PG (X.blk s H scope (compEnvC scope cl C X.env) fp) tg (rdTg (X.blk s H scope (compEnvC scope cl C X.env) fp) t vs))
    (ht : ∀ (s : Shared) (H : Hp) (C : Addr) (cl : List (Str × Addr)) (fp : List Addr), PTs (X.blk s H scope (compEnvC scope cl C X.env) fp) ifs (rdT (X.blk s H scope (compEnvC scope cl C X.env) fp) WF mc))
    (he : ∀ (s : Shared) (H : Hp) (C : Addr) (cl : List (Str × Addr)) (fp : List Addr), PE (X.blk s H scope (compEnvC scope cl C X.env) fp) elt (rd (X.blk s H scope (compEnvC scope cl C X.env) fp) WF me))
    (hs : ∀ x, foldedSetIterable iter X.env x = pure x := by intro _; rfl) :
    PS X (.Assign [.Name y py] (.ListComp elt [⟨tg, iter, ifs, 0⟩] scope pos) spos) (rdS X W (mSet i (mLc mi t mc me vs))) := by
  subst hvs
  refine ps_imp (ps_setLc (i := i) (g := rdTg X t (own.map (fun x : Str × Nat => x.2))) (tt := rdT X WF mc) (te := rd X WF me) hc hN hy hyl hsw hi ok hg ht he hs) fun D σ H q => ?_
  refine rd_lc ?_
  exact rdG_imp (rdS_bind q) fun ρ L d h1 μ1 H1 ⟨rel1, q1⟩ v rv => q1 _ μ1 H1 .refl (rel1.set rv)
end
end Rh

set_option Elab.async false
set_option linter.all false
set_option maxRecDepth 100000
set_option maxHeartbeats 2000000
set_option autoImplicit false
namespace Rh
open PySem PySem.Spec PyProof.Rows L2
variable [Tbs]
/-! ### dict comprehensions, keys ints or texts that do not come twice -/
def nkOf : Key → NestedKey
  | .inl i => .num i
  | .inr x => .text x
def evOf (kvs : List (Key × V)) : List EV := kvs.map fun p => (nkOf p.1, kV p.1, p.2)
theorem nkOf_inj : ∀ {a b : Key}, nkOf a = nkOf b → a = b
  | .inl i, .inl j, h => by cases h; rfl
  | .inr i, .inr j, h => by cases h; rfl
  | .inl i, .inr j, h => nomatch h
  | .inr i, .inl j, h => nomatch h
theorem nkOf_hash (w : World) : ∀ k : Key, (nkOf k).hash w = keyH w k
  | .inl i => rfl
  | .inr x => rfl
theorem dicO_of {P : Program} {w : World} {H : Hp} {h : Heap} {D : Addr} {kvs : List (Key × V)} (x : ObjOk P w H h D (.dK kvs)) : ∃ ep, ∀ H', ObjOk P w H' h D (DicO w D (ep, evOf kvs)) := by
  obtain ⟨z, hd, vs, rel, o, es, ep, ho, hc, hdt, hk, hp, hn⟩ := x
  have hl : kvs.length = vs.length := Paired.length rel
  refine ⟨ep, fun H' => ⟨⟨hd, by show (evOf kvs).length ≤ sizeLine; unfold evOf; rw [List.length_map]; exact z, o, es, ho, hc, hdt, ?_, ?_, ?_⟩, ⟨o, ho⟩, fun h1 h2 ⟨q1, q2, o, ents, ho, r⟩ k => ⟨q1, q2, o, ents, k o ho, r⟩⟩⟩
  · have key : ∀ {kvs : List (Key × V)} {vs : List (Key × Value)} {l : List DictEntry}, KV kvs vs → Pairs (mixKind P w) l vs → (∀ e ∈ l, ∃ k, (mixKind P w).is k e.key = true ∧ e.hash = (mixKind P w).hash k) →
        Paired (fun (e : NestedKey × V × V) (d : DictEntry) => d.hash = e.1.hash w ∧ RelV e.2.1 d.key ∧ RelV e.2.2 d.val) (evOf kvs) l := by
      intro kvs vs l r p hk
      induction p generalizing kvs with
      | nil => cases r; exact .nil
      | @cons e kv es kvs' h1 h2 h3 ih =>
        cases r with
        | @cons a _ as _ ra rr =>
          obtain ⟨k', i1, i2⟩ := hk e (List.mem_cons_self ..)
          have ek : k' = kv.1 := (mixKind P w).inj _ _ _ i1 h1
          subst ek
          refine .cons ⟨?_, ?_, ?_⟩ (ih rr fun e he => hk e (List.mem_cons_of_mem _ he))
          · show e.hash = (nkOf a.1).hash w
            rw [nkOf_hash, ra.1, i2]
            rfl
          · show RelV (kV a.1) e.key
            rw [ra.1]
            exact keyIs_rel h1
          · show RelV a.2 e.val
            rw [h2]
            exact ra.2
    exact key rel hp (fun e he => hk e (by simpa using he))
  · have e1 : (evOf kvs).map (·.1) = (vs.map (·.1)).map nkOf := by
      unfold evOf
      rw [List.map_map, ← KV.keys rel, List.map_map]
      rfl
    show ((evOf kvs).map (·.1)).Nodup
    rw [e1]
    have inj : ∀ l : List Key, l.Nodup → (l.map nkOf).Nodup := fun l => by
      induction l with
      | nil => exact fun _ => .nil
      | cons a l ih =>
        intro n
        rw [List.nodup_cons] at n
        rw [List.map_cons, List.nodup_cons]
        refine ⟨fun hm => n.1 ?_, ih n.2⟩
        obtain ⟨b, hb, e⟩ := List.mem_map.mp hm
        rw [← nkOf_inj e]
        exact hb
    exact inj _ hn
  · show homK ((evOf kvs).map (·.1)) = true
    unfold homK
    rw [Bool.or_eq_true]
    refine .inl (List.all_eq_true.mpr fun k hk => ?_)
    unfold evOf at hk
    rw [List.map_map] at hk
    obtain ⟨q, _, rfl⟩ := List.mem_map.mp hk
    show leafK (nkOf q.1) = true
    cases q.1 <;> rfl
section
variable {X : Cx}
def tDcO (w : World) (wi : TI) (g : TG) (tt : TT) (tk tv : TE) (vs : List Nat) : TE := fun σ H Q => tDc wi g tt tk tv vs σ H fun v H' => ∃ D kvs, v = .ref D ∧ H' D = some (.dK kvs) ∧ ∀ ep, Q (.ref D) (upd H' D (DicO w D (ep, evOf kvs)))
theorem pe_dcO {kx vx tg iter : Expr} {ifs : List Expr} {scope : Scope} {own : List (Str × Nat)} {pos : Pos} {wi : TI} {g : TG} {tt : TT} {tk tv : TE} (hc : X.calm = true) (hN : X.N.Nodup) (hi : PI X tg iter wi) (ok : BlkOk X.N X.env.scope scope own)
    (hg : ∀ (s : Shared) (H : Hp) (C : Addr) (cl : List (Str × Addr)) (fp : List Addr), PG (X.blk s H scope (compEnvC scope cl C X.env) fp) tg g) (ht : ∀ (s : Shared) (H : Hp) (C : Addr) (cl : List (Str × Addr)) (fp : List Addr), PTs (X.blk s H scope (compEnvC scope cl C X.env) fp) ifs tt)
    (hk : ∀ (s : Shared) (H : Hp) (C : Addr) (cl : List (Str × Addr)) (fp : List Addr), PE (X.blk s H scope (compEnvC scope cl C X.env) fp) kx tk)
    (he : ∀ (s : Shared) (H : Hp) (C : Addr) (cl : List (Str × Addr)) (fp : List Addr), PE (X.blk s H scope (compEnvC scope cl C X.env) fp) vx tv) (hs : ∀ x, foldedSetIterable iter X.env x = pure x := by intro _; rfl) :
    PE X (.DictComp kx vx [⟨tg, iter, ifs, 0⟩] scope pos) (tDcO X.w wi g tt tk tv (own.map (fun x : Str × Nat => x.2))) := by
  refine ⟨fun pins s σ H Q I h => ?_⟩
  refine thn ((pe_dc hc hN hi ok hg ht hk he hs).run pins s σ H _ I h) fun u s1 ⟨v, H1, I1, r1, D, kvs, ev, eD, q⟩ => ?_
  subst ev
  obtain ⟨ep, ok⟩ := dicO_of (I1.hok D _ eD)
  obtain ⟨o, ho⟩ := objOk_get (I1.hok D _ eD)
  have I2 := I1.write (t' := s1.toks) (x := D) (e := D) (o := DicO X.w D (ep, evOf kvs)) (by rw [eD]; exact True.intro) (.inl rfl) (fun _ _ _ q => q) ⟨o, ho⟩ (ok _)
  exact ⟨.ref D, _, I2, r1, q ep⟩
end
end Rh

set_option Elab.async false
set_option linter.all false
set_option maxRecDepth 100000
set_option maxHeartbeats 2000000
set_option autoImplicit false
namespace Rh
open PySem PySem.Spec PyProof.Rows L2
variable [Tbs]

/-! ### dict comprehensions, keys ints or texts that come once -/
def kD : Key → D
  | .inl i => .int i
  | .inr x => .str x
def keyOfD : D → Option Key
  | .int i => some (.inl i)
  | .str x => some (.inr x)
  | _ => none
def turnK (t : TM) (conds : M Bool) (mk mv : M D) (ρ : En) (d : D) (h : Hs) : Option (Option (Key × D) × Hs) := match t d ρ h with
  | none => none
  | some (ρ1, h1) => match conds ρ1 h1 with
    | some (.ok false h2) => some (none, h2)
    | some (.ok true h2) => (match mk ρ1 h2 with
      | some (.ok kd h3) => (match keyOfD kd with
        | none => none
        | some k => match mv ρ1 h3 with
          | some (.ok x h4) => some (some (k, x), h4)
          | _ => none)
      | _ => none)
    | _ => none
def loopK (t : TM) (conds : M Bool) (mk mv : M D) (ρ : En) : List D → Hs → Option (List (Key × D) × Hs)
  | [], h => some ([], h)
  | d :: ds, h => match turnK t conds mk mv ρ d h with
    | none => none
    | some (o, h1) => match loopK t conds mk mv ρ ds h1 with
      | none => none
      | some (es, h2) => some (consO o es, h2)
def dctOf (es : List (Key × D)) : O := .dct (es.map fun p => nkOf p.1) (es.map fun p => kD p.1) (es.map fun p => p.2)
def mDc (mi : M (List D × List Nat)) (t : TM) (conds : M Bool) (mk mv : M D) (vs : List Nat) : M D := mBind mi fun p => fun ρ h => if p.1.length ≤ 1000000 then (match loopK t conds mk mv (wipeE ρ vs) p.1 (relk (p.2 ++ h.lk) h) with
  | some (es, h') => if (es.map fun p => p.1).Nodup then (Nv.n (dctOf es)).lift (relk h.lk h') else none
  | none => none) else none
section
variable (C : Ct) (μ : Mu) (H : Hp)
def RepKV : List (Key × D) → List (Key × V) → Prop
  | [], vs => vs = []
  | p :: r, vs => ∃ v t, vs = (p.1, v) :: t ∧ RepV C μ H p.2 v ∧ RepKV r t
end
section
variable {C : Ct} {μ μ' : Mu} {H H' : Hp}
theorem RepKV.stay (s : Stay μ H μ' H') : ∀ {ps : List (Key × D)} {vs : List (Key × V)}, RepKV C μ H ps vs → RepKV C μ' H' ps vs
  | [], _, h => h
  | p :: r, _, ⟨v, t, e, h1, h2⟩ => ⟨v, t, e, h1.stay s, RepKV.stay s h2⟩
theorem RepKV.snoc {k : Key} {d : D} {v : V} (hv : RepV C μ H d v) : ∀ {ps : List (Key × D)} {vs : List (Key × V)}, RepKV C μ H ps vs → RepKV C μ H (ps ++ [(k, d)]) (vs ++ [(k, v)])
  | [], _, h => by rw [show _ = [] from h]; exact ⟨v, [], rfl, hv, rfl⟩
  | p :: r, _, ⟨v', t, e, h1, h2⟩ => ⟨v', t ++ [(k, v)], by rw [e]; rfl, h1, RepKV.snoc hv h2⟩
theorem RepKV.keys : ∀ {ps : List (Key × D)} {vs : List (Key × V)}, RepKV C μ H ps vs → vs.map (·.1) = ps.map (·.1)
  | [], _, h => by rw [show _ = [] from h]; rfl
  | p :: r, _, ⟨v, t, e, h1, h2⟩ => by rw [e, List.map_cons, List.map_cons, RepKV.keys h2]
theorem RepKV.vals : ∀ {ps : List (Key × D)} {vs : List (Key × V)}, RepKV C μ H ps vs → RepL C μ H (ps.map (·.2)) (vs.map (·.2))
  | [], _, h => by rw [show _ = [] from h]; exact rfl
  | p :: r, _, ⟨v, t, e, h1, h2⟩ => by rw [e]; exact ⟨v, _, rfl, h1, RepKV.vals h2⟩
theorem keys_rep : ∀ ks : List Key, RepL C μ H (ks.map kD) (ks.map kV)
  | [] => rfl
  | .inl i :: ks => ⟨.int i, _, rfl, rfl, keys_rep ks⟩
  | .inr x :: ks => ⟨.str x, _, rfl, rfl, keys_rep ks⟩
theorem keysD_kD : ∀ ks : List Key, keysD (ks.map kD) = some (ks.map nkOf)
  | [] => rfl
  | k :: ks => by
    show (match keyD (kD k), keysD (ks.map kD) with
      | some k, some ks => some (k :: ks)
      | _, _ => none) = _
    rw [keysD_kD ks]
    cases k <;> rfl
theorem putK_new {kvs : List (Key × V)} {k : Key} {v : V} (h : k ∉ kvs.map (·.1)) : putK kvs k v = kvs ++ [(k, v)] := by
  unfold putK
  rw [if_neg]
  intro q
  obtain ⟨p, hp, e⟩ := List.any_eq_true.mp q
  exact h (List.mem_map.mpr ⟨p, hp, of_decide_eq_true e⟩)
theorem dctOf_rep {a : Addr} {ep : Nat} {es : List (Key × D)} {vs : List (Key × V)} (r : RepKV C μ H es vs) (e : H a = some (DicO C.w a (ep, evOf vs))) : ObR C μ H a (dctOf es) := by
  have e1 : (es.map fun p => kD p.1) = (es.map (·.1)).map kD := by rw [List.map_map]; rfl
  have e0 : (es.map fun p => nkOf p.1) = (es.map (·.1)).map nkOf := by rw [List.map_map]; rfl
  refine ⟨(ep, evOf vs), e, ?_, ?_, ?_, ?_⟩
  · show (evOf vs).map (·.1) = _
    unfold evOf
    rw [e0, List.map_map, ← r.keys, List.map_map]
    rfl
  · rw [e1, e0]; exact keysD_kD _
  · have e2 : (evOf vs).map (·.2.1) = (vs.map (·.1)).map kV := by unfold evOf; rw [List.map_map, List.map_map]; rfl
    show RepL C μ H (es.map fun p => kD p.1) ((evOf vs).map (·.2.1))
    rw [e1, e2, r.keys]
    exact keys_rep _
  · have e2 : (evOf vs).map (·.2.2) = vs.map (·.2) := by unfold evOf; rw [List.map_map]; rfl
    show RepL C μ H (es.map (·.2)) ((evOf vs).map (·.2.2))
    rw [e2]
    exact r.vals
end
section
variable {X : Cx} {W : WX} {σ : L2.St} {H : Hp} {Q : VK}
/-- the reading of a dict comprehension -/
theorem rd_dc {mi : M (List D × List Nat)} {t : TM} {conds : M Bool} {mk mv : M D} {vs : List Nat} (q : rd X W (mDc mi t conds mk mv vs) σ H Q) :
    tDcO X.w (rdI X W mi) (rdTg X t vs) (rdT X WF conds) (rd X WF mk) (rd X WF mv) vs σ H Q := by
  refine rdG_imp (rdG_bind q) fun ρ L p h1 μ1 H1 ⟨rel1, q1⟩ J cov l hl => ?_
  obtain ⟨ds, lks⟩ := p
  dsimp only at q1 cov
  split at q1
  rotate_left
  · exact q1.none
  rename_i hlen
  rw [rel1.hr.lk] at q1
  cases eL : loopK t conds mk mv (wipeE ρ vs) ds (relk (lks ++ L) h1) with
  | none => simp only [eL] at q1; exact q1.none
  | some p =>
    obtain ⟨es, hf⟩ := p
    simp only [eL] at q1
    split at q1
    rotate_left
    · exact q1.none
    rename_i hnd
    have rel2 := rel1.relk (L' := lks ++ L)
    refine ⟨fun i m Hc => m = ds.length - i ∧ i ≤ ds.length ∧ ∃ μi hi acc vacc rest, Go (lks ++ L) μ1 H1 μi Hc ∧ HR (ctX X) (lks ++ L) μi Hc hi ∧ Hc l = some (.dK vacc) ∧ l ∉ μi ∧ RepKV (ctX X) μi Hc acc vacc ∧ vacc.length ≤ i ∧ loopK t conds mk mv (wipeE ρ vs) (ds.drop i) hi = some (rest, hf) ∧ acc ++ rest = es,
      ⟨ds.length, by simp, Nat.zero_le _, μ1, relk (lks ++ L) h1, [], [], es, ?_, ?_, upd_same, ?_, rfl, Nat.le_refl _, eL, rfl⟩, ?_⟩
    · obtain ⟨s1, d1⟩ := same_new (o := .dK []) hl
      exact .same rel2.hr s1 d1
    · exact rel2.hr.same (same_new (o := .dK []) hl).1
    · intro m; obtain ⟨u, e, _⟩ := rel2.hr.mut m; rw [hl] at e; cases e
    rintro i m Hc ⟨rfl, hi, μi, hh, acc, vacc, rest, gi, ri, hLc, nl, racc, hva, el, ea⟩
    have st : Still lks μ1 H1 μi Hc := ⟨gi.stay rel2.hr, fun n m => gi.lk n (List.mem_append_left _ m)⟩
    by_cases hlt : i < ds.length
    · refine .inr ⟨cov.go i μi Hc st hlt, fun H' => i + 1 ≤ ds.length ∧ ∃ μi hi acc vacc rest, Go (lks ++ L) μ1 H1 μi H' ∧ HR (ctX X) (lks ++ L) μi H' hi ∧ H' l = some (.dK vacc) ∧ l ∉ μi ∧ RepKV (ctX X) μi H' acc vacc ∧ vacc.length ≤ i + 1 ∧ loopK t conds mk mv (wipeE ρ vs) (ds.drop (i + 1)) hi = some (rest, hf) ∧ acc ++ rest = es,
        fun H' ⟨q1, q2⟩ => ⟨ds.length - (i + 1), by omega, rfl, q1, q2⟩, fun x H' y => ?_⟩
      have hd : ds[i]? = some ds[i] := List.getElem?_eq_getElem hlt
      obtain ⟨sm, dm, rv⟩ := cov.yld i μi Hc x H' _ st y hd
      have g2 : Go (lks ++ L) μi Hc μi H' := .same ri sm dm
      have r2 := ri.same sm
      rw [List.drop_eq_getElem_cons hlt] at el
      unfold loopK at el
      cases et : turnK t conds mk mv (wipeE ρ vs) ds[i] hh with
      | none => rw [et] at el; cases el
      | some p =>
        obtain ⟨o, hn⟩ := p
        simp only [et] at el
        cases el2 : loopK t conds mk mv (wipeE ρ vs) (ds.drop (i + 1)) hn with
        | none => simp only [el2] at el; cases el
        | some p =>
          obtain ⟨rest2, hf2⟩ := p
          simp only [el2] at el
          cases el
          unfold turnK at et
          cases e1 : t ds[i] (wipeE ρ vs) hh with
          | none => rw [e1] at et; cases et
          | some p =>
            obtain ⟨ρ2, h2⟩ := p
            simp only [e1] at et
            have relw : Rel (ctX X) (lks ++ L) (wipeE ρ vs) (wipe σ vs) μi H' hh := (rel2.wipe (vs := vs)).go (gi.trans g2) r2
            refine ⟨ds[i], wipeE ρ vs, lks ++ L, μi, hh, ρ2, h2, relw, rv, e1, fun σ2 μ3 H3 g3 rel3 b3 => ⟨b3.wipe, ρ2, lks ++ L, μ3, h2, rel3, ?_⟩⟩
            have g13 := gi.trans (g2.trans g3)
            have hl' : H' l = some (.dK vacc) := sm _ _ hLc
            have hl3 : H3 l = some (.dK vacc) := g3.keep l _ hl' (fun _ z => nomatch z) nl
            have nl3 : l ∉ μ3 := (gi.trans g2).not_mem rel2.hr hl nl g3 hl'
            have ra3 : RepKV (ctX X) μ3 H3 acc vacc := racc.stay ((g2.stay ri).trans (g3.stay r2))
            cases e2 : conds ρ2 h2 with
            | none => simp only [e2] at et; cases et
            | some p =>
              cases p with
              | ex c fs ρ3 => simp only [e2] at et; cases et
              | ok c h3 =>
                intro μ4 H4 g4 r4
                have hl4 : H4 l = some (.dK vacc) := g4.keep l _ hl3 (fun _ z => nomatch z) nl3
                have nl4 : l ∉ μ4 := g13.not_mem rel2.hr hl nl3 g4 hl3
                have ra4 := ra3.stay (g4.stay rel3.hr)
                cases c with
                | false =>
                  simp only [e2] at et
                  cases et
                  refine iteF ?_
                  exact ⟨hlt, μ4, _, acc, vacc, rest2, g13.trans g4, r4, hl4, nl4, ra4, by omega, el2, ea⟩
                | true =>
                  refine iteT ?_
                  simp only [e2] at et
                  refine ⟨ρ2, lks ++ L, μ4, h3, rel3.go g4 r4, ?_⟩
                  cases e3 : mk ρ2 h3 with
                  | none => simp only [e3] at et; cases et
                  | some p =>
                    cases p with
                    | ex c fs ρ4 => simp only [e3] at et; cases et
                    | ok kd h4 =>
                      simp only [e3] at et
                      intro μ5 H5 g5 r5 yk ryk
                      have hl5 : H5 l = some (.dK vacc) := g5.keep l _ hl4 (fun _ z => nomatch z) nl4
                      have nl5 : l ∉ μ5 := (g13.trans g4).not_mem rel2.hr hl nl4 g5 hl4
                      have ra5 := ra4.stay (g5.stay r4)
                      cases e5 : keyOfD kd with
                      | none => simp only [e5] at et; cases et
                      | some k =>
                        simp only [e5] at et
                        have eyk : yk = kV k := by
                          unfold keyOfD at e5
                          split at e5
                          · cases e5; exact ryk
                          · cases e5; exact ryk
                          · cases e5
                        refine ⟨ρ2, lks ++ L, μ5, h4, (rel3.go g4 r4).go g5 r5, ?_⟩
                        cases e6 : mv ρ2 h4 with
                        | none => simp only [e6] at et; cases et
                        | some p =>
                          cases p with
                          | ex c fs ρ5 => simp only [e6] at et; cases et
                          | ok xd h5 =>
                            simp only [e6] at et
                            cases et
                            intro μ6 H6 g6 r6 v rv
                            have hl6 : H6 l = some (.dK vacc) := g6.keep l _ hl5 (fun _ z => nomatch z) nl5
                            have nl6 : l ∉ μ6 := ((g13.trans g4).trans g5).not_mem rel2.hr hl nl5 g6 hl5
                            have ra6 := ra5.stay (g6.stay r5)
                            have ekeys : k ∉ vacc.map (·.1) := by
                              rw [racc.keys]
                              have n2 := hnd
                              rw [← ea, List.map_append, List.nodup_append] at n2
                              exact fun hm => n2.2.2 k hm k (by simp [consO]) rfl
                            have ep : putK vacc k v = vacc ++ [(k, v)] := putK_new ekeys
                            obtain ⟨r7, st7⟩ := r6.side (o := .dK (vacc ++ [(k, v)])) hl6 nl6 (fun xs e => nomatch e) (fun ob u e => nomatch e)
                            refine ⟨vacc, k, eyk, hl6, by rw [sizeLine_eq]; omega, hlt, μ6, _, acc ++ [(k, xd)], vacc ++ [(k, v)], rest2, ?_, ?_, ?_, nl6, ?_, by rw [List.length_append, List.length_singleton]; omega, el2, ?_⟩
                            · rw [ep]; exact (((g13.trans g4).trans g5).trans g6).side rel2.hr hl
                            · rw [ep]; exact r7
                            · rw [ep]; exact upd_same
                            · rw [ep]; exact (ra6.stay st7).snoc (rv.stay st7)
                            · rw [List.append_assoc]
                              exact ea
    · have e : i = ds.length := by omega
      subst e
      rw [List.drop_length] at el
      unfold loopK at el
      cases el
      rw [List.append_nil] at ea
      subst ea
      refine .inl ⟨cov.stop _ μi Hc st rfl, l, vacc, rfl, hLc, fun ep => ?_⟩
      have ri' := ri.relk (L' := L)
      unfold Nv.lift at q1
      dsimp only at q1
      cases en : (relk L hf).new (dctOf acc) with
      | none => simp only [en] at q1; exact q1.none
      | some hz =>
        simp only [en] at q1
        obtain ⟨r8, st8⟩ := ri'.side (o := DicO X.w l (ep, evOf vacc)) hLc nl (fun xs e => nomatch e) (fun ob u e => nomatch e)
        have ra := r8.adopt nl (o := dctOf acc) (dctOf_rep ((racc.stay st8).stay (stay_more fun _ _ e => e)) upd_same) en
        refine q1 (μi ++ [l]) _ ((gi.less.side rel1.hr hl).adopt hl) ra (.ref l) ⟨l, rfl, ?_⟩
        rw [← ri'.len, List.getElem?_append_right (Nat.le_refl _)]
        simp
theorem e_dc {kx vx tg iter : Expr} {ifs : List Expr} {scope : Scope} {own : List (Str × Nat)} {pos : Pos} {mi : M (List D × List Nat)} {t : TM} {mc : M Bool} {mk mv : M D} {vs : List Nat} (hc : X.calm = true) (hN : X.N.Nodup) (ok : BlkOk X.N X.env.scope scope own) (hvs : own.map (fun x : Str × Nat => x.2) = vs)
    (hi : PI X tg iter (rdI X W mi))
    (hg : ∀ (s : Shared) (H : Hp) (C : Addr) (cl : List (Str × Addr)) (fp : List Addr), PG (X.blk s H scope (compEnvC scope cl C X.env) fp) tg (rdTg (X.blk s H scope (compEnvC scope cl C X.env) fp) t vs))
    (ht : ∀ (s : Shared) (H : Hp) (C : Addr) (cl : List (Str × Addr)) (fp : List Addr), PTs (X.blk s H scope (compEnvC scope cl C X.env) fp) ifs (rdT (X.blk s H scope (compEnvC scope cl C X.env) fp) WF mc))
    (hk : ∀ (s : Shared) (H : Hp) (C : Addr) (cl : List (Str × Addr)) (fp : List Addr), PE (X.blk s H scope (compEnvC scope cl C X.env) fp) kx (rd (X.blk s H scope (compEnvC scope cl C X.env) fp) WF mk))
    (he : ∀ (s : Shared) (H : Hp) (C : Addr) (cl : List (Str × Addr)) (fp : List Addr), PE (X.blk s H scope (compEnvC scope cl C X.env) fp) vx (rd (X.blk s H scope (compEnvC scope cl C X.env) fp) WF mv))
    (hs : ∀ x, foldedSetIterable iter X.env x = pure x := by intro _; rfl) :
    PE X (.DictComp kx vx [⟨tg, iter, ifs, 0⟩] scope pos) (rd X W (mDc mi t mc mk mv vs)) := by
  subst hvs
  exact pe_imp (pe_dcO (g := rdTg X t (own.map (fun x : Str × Nat => x.2))) (tt := rdT X WF mc) (tk := rd X WF mk) (tv := rd X WF mv) hc hN hi ok hg ht hk he hs) fun σ H Q h => rd_dc h
end
end Rh

set_option Elab.async false
set_option linter.all false
set_option maxRecDepth 100000
set_option maxHeartbeats 2000000
set_option autoImplicit false
namespace Rh
open PySem PySem.Spec PyProof.Rows L2
variable [Tbs]
open PySem.W PySem.Calls PySem.HandSPX
section
open Builtin Builtin.ObjectAttr
variable {prog : Program} {w : World} {A : Around} {R : Result → Shared → Prop} {hp : Heap} {g : Array GenState} {d : Drawn} {t : Nat} {os : OsState}
/-- a new exception's first field -/
theorem first_field {K : Frag} {B : String} {bmB : List Value} {name : Str} {tk : Tok} {v : Value} {x C : Addr} {fv : Array Value} {cd : ClassData}
    (SF : StoreFacts B bmB "object.__setattr__" "object") (X : K.In hp) (hx : hp.get? x = some { cls := .ref C, data := .fields fv }) (hcd : clsIn K C = some cd) (hp' : excOver K C bmB = true) (hh : cd.hasDict = true) (ha : findIn K (.ref C) name = some none)
    (hq : ∀ h' tk' dx, (∀ b o, b ≠ x → hp.get? b = some o → h'.get? b = some o) → hp.objs.size ≤ dx → dx ≠ x → h'.get? x = some { cls := .ref C, dict := some dx, data := .fields fv } →
      h'.Ns1 dx (fun y => if y = name then some v else none) → R (.ok (.ret .none)) ⟨h', g, d, tk', os⟩) :
    codeAny (model prog w) A (.call (.builtin "object.__setattr__") ⟨[.ref x, .str name tk, v], []⟩) R ⟨hp, g, d, t, os⟩ := by
  have I : InstAt hp x { cls := .ref C, data := .fields fv } C none := ⟨hx, rfl, rfl, trivial⟩
  have hxs : x ≠ hp.objs.size := Nat.ne_of_lt (Heap.lt_size hx)
  have hcls : Looks (model prog w) hp (classData C) cd := looks_clsIn X hcd
  have htk : takerIn K C name = some none := by
    unfold takerIn
    rw [ha]
    rfl
  refine osa_openX (r := none) SF X I hp' htk fun b => ?_
  dsimp only
  obtain ⟨nm, bs, mro, ns, qn, hd, sn, sb, ab, col, del⟩ := cd
  dsimp only at hh
  subst hh
  unfold storeInOwnDict ownDictForStores
  repeat (first | with_reducible refine store_in_new ?_ ?_ | with_reducible refine wpAny_loadPart_at hx ?_ | with_reducible refine hcls.at ?_ | wp_step)
  · exact ⟨_, #[], _, (Heap.get?_update_ne _ _ _ _ hxs.symm).trans (Heap.get?_push_at rfl rfl), rfl, fun e he => absurd he (by simp), fun _ => rfl⟩
  · intro h' tk' hn' hs
    have hx₁ : (hp.push { cls := .type "dict", data := .dict #[] }).get? x = some { cls := .ref C, data := .fields fv } := Heap.get?_push_of_some _ hx
    refine hq h' tk' hp.objs.size (fun b o hb ho => ?_) (Nat.le_refl _) hxs.symm ?_ hn'
    · exact (hs.2 b (Nat.ne_of_lt (Heap.lt_size ho))).trans ((Heap.get?_update_ne _ _ _ _ hb).trans (Heap.get?_push_of_some _ ho))
    · exact (hs.2 x hxs).trans (Heap.get?_update_self _ hx₁ rfl)
end
theorem size_one (v : Value) : [v].length ≤ sizeLine := by
  rw [sizeLine_eq]
  exact (by decide : 1 ≤ 16777216)
theorem ld_loc {M : Model} {s : Shared} {name : Str} {scope : Scope} {L a : Addr} {cd : Value} {m : Str → Option Value} {x : Str} {pos : Pos} {v : Value} {Q : Value → Shared → Prop} {A : Around} {E : Value → Shared → Prop} (hn : s.heap.Ns L m) (hv : m x = some v) (h : Q v s)
    (hk : scope.kind = .function := by rfl) (hl : (envOfC name scope L a cd).kindOf x = some .local := by rfl) (hd : (x == ("__debug__" : Str)) = false := by decide) :
    wpAny M A (eval (.Name x pos) (envOfC name scope L a cd)) Q E s := wpAny_Name (wpAny_loadName_local hk hl hn hv h) hd
/-- what stands behind the making of one, its field told -/
structure MadeX (fld : Str) (h h' : Heap) (e C dx : Addr) (v : Value) : Prop where
  keep : ∀ b o, h.get? b = some o → h'.get? b = some o
  new : h.objs.size ≤ e
  obj : ∃ oe vs, h'.get? e = some oe ∧ oe.cls = .ref C ∧ oe.dict = some dx ∧ oe.data = .fields vs ∧ vs[1]? = some .none
  big : h.objs.size ≤ dx
  ne : dx ≠ e
  ns : h'.Ns1 dx (fun y => if y = fld then some v else none)
/-- a class that can be made so: what the call of it gives -/
structure Mkr (P : Program) (w : World) (K : Frag) (C : Addr) (fld : Str) : Prop where
  made : ∀ (A : Around) (R : Result → Shared → Prop) (s : Shared) (v : Value), K.In s.heap → s.heap.NoLimit → A.depth + 1 < recursionLimit →
    (∀ h' tk e d, MadeX fld s.heap h' e C d v → R (.ok (.ret (.ref e))) { s with heap := h', toks := tk }) → codeAny (model P w) A (.call (.ref C) ⟨[v], []⟩) R s

namespace ExPlace
/-! class X(LookupError): def __init__(self, place): self.place = place -/
def iA (p1 p2 : Pos) : Arguments := { posonlyargs := [], args := [{ arg := "self", annotation := none, pos := p1 }, { arg := "place", annotation := none, pos := p2 }], vararg := none, kwonlyargs := [], kw_defaults := [], kwarg := none, defaults := [] }
def iB (q1 q2 q3 q4 : Pos) : List Stmt := [.Assign [.Attribute (.Name "self" q1) "place" q2] (.Name "place" q3) q4]
def iS : Scope := { kind := .function, names := [(PySem.Str.ofString "self", .local), (PySem.Str.ofString "place", .local)], isGenerator := false, isCoroutine := false, more := [] }
abbrev bmB : List Value := [.type "LookupError", .type "Exception", .type "BaseException", .type "object"]
/-- what the written part says of the class at C and of its __init__ at fI -/
structure Txt (K : Frag) (C fI : Addr) (qn : Str) : Prop where
  cls : ∃ nm q N bs sn sub ab col dd k0 k1 k2 k3 k5, K.lookup C = some (excClassObj nm q C N bs bmB true sn sub ab col dd k0 k1 k2 k3 k5 "LookupError.__new__")
  over : excOver K C bmB = true
  sa : findIn K (.ref C) "__setattr__" = some (some (.builtin "object.__setattr__"))
  no : findIn K (.ref C) "place" = some none
  ini : findIn K (.ref C) "__init__" = some (some (.ref fI))
  tI : typeIn K (.ref fI) = some (.type "function")
  fn : ∃ (oc : Value) (od : Option Addr) (doc pm : Value) (an : Option Addr) (cdv ct : Value) (osl : Array (Option Value)) (p1 p2 q1 q2 q3 q4 : Pos),
    K.lookup fI = some ⟨oc, od, .func (fnOf "__init__" qn (iA p1 p2) (iB q1 q2 q3 q4) iS .none .none doc pm an cdv ct), osl⟩ ∧ codeIn K cdv qn = true
structure Behind (h h' : Heap) (x C dx t1 : Addr) (v : Value) : Prop where
  keep : ∀ b o, b ≠ x → h.get? b = some o → h'.get? b = some o
  obj : h'.get? x = some { cls := .ref C, dict := some dx, data := .fields #[.ref t1, .none, .none, .none, .bool false, .none] }
  big : h.objs.size ≤ dx
  ne : dx ≠ x
  ns : h'.Ns1 dx (fun y => if y = "place" then some v else none)
section
variable {prog : Program} {w : World} {A : Around} {R : Result → Shared → Prop} {s : Shared} {K : Frag} {C fI : Addr} {qn : Str}
theorem init_runs (T : Txt K C fI qn) {x t0 : Addr} {v : Value} (X : K.In s.heap) (hlim : s.heap.NoLimit) (hx : s.heap.get? x = some (excO C t0)) (hroom : A.depth < recursionLimit)
    (hq : ∀ h' tk dx, Behind s.heap h' x C dx t0 v → R (.ok (.ret .none)) { s with heap := h', toks := tk }) :
    codeAny (model prog w) A (.call (.ref fI) ⟨[.ref x, v], []⟩) R s := by
  obtain ⟨oc, od, doc, pm, an, cdv, ct, osl, p1, p2, q1, q2, q3, q4, ho, hcd⟩ := T.fn
  obtain ⟨nm, q, N, bs, sn, sub, ab, col, dd, k0, k1, k2, k3, k5, hC⟩ := T.cls
  have hcl : clsIn K C = some { name := nm, bases := bs, mro := .ref C :: bmB, ns := N, qualname := q, hasDict := true, slotNames := sn, subclasses := sub, abstract := ab, collection := col, hasDel := false } := by unfold clsIn; rw [hC] <;> rfl
  refine Att.call_fn (binds := [("self", .ref x), ("place", v)]) X hlim ho hcd hroom (BindsTo.of_eq (by first | rfl | with_unfolding_all rfl)) (by first | rfl | decide | with_unfolding_all rfl) (fun s₁ IC => ?_) rfl rfl rfl
  obtain ⟨h₁, tk₁, rfl⟩ := IC.toInCall.same
  have k : ∀ b o, s.heap.get? b = some o → h₁.get? b = some o := IC.toInCall.keep
  have hn := IC.toInCall.ns
  have X₁ : K.In h₁ := X.keeps k
  have hx₁ := k _ _ hx
  show wpAny _ _ (execs _ _) _ _ _
  refine wpAny_execs_cons (plainObj_wpAny_Assign_Attribute ?_)
  refine ld_loc (v := v) hn (by first | rfl | with_unfolding_all rfl | kernel_rfl) (ld_loc (v := .ref x) hn (by first | rfl | with_unfolding_all rfl | kernel_rfl) ?_)
  refine set_plain X₁ (ox := excO C t0) (od := none) ⟨hx₁, rfl, rfl, trivial⟩ T.sa ?_
  refine first_field F.store_LookupError X₁ hx₁ hcl T.over rfl T.no (fun h₃ tk₃ dx k₃ dn dne hx₃ hn₃ => ?_)
  show wpAny _ _ (execs _ _) _ _ _
  have z : s.heap.objs.size < h₁.objs.size := hn.lt
  exact wpAny_execs_nil (hq h₃ tk₃ dx ⟨fun b o hb e => k₃ b o hb (k b o e), hx₃, Nat.le_of_lt (Nat.lt_of_lt_of_le z dn), dne, hn₃⟩)
theorem mkr (T : Txt K C fI qn) : Mkr prog w K C "place" := by
  refine ⟨fun A R s v X hlim hroom hq => ?_⟩
  obtain ⟨nm, q, N, bs, sn, sub, ab, col, dd, k0, k1, k2, k3, k5, hC⟩ := T.cls
  obtain ⟨hp, g, dr, tk, os⟩ := s
  have k : ∀ b o, hp.get? b = some o → ((hp.push (kdv_tup [v])).push (excO C hp.objs.size)).get? b = some o := fun b o e => Heap.get?_push_of_some _ (Heap.get?_push_of_some _ e)
  have hget : ((hp.push (kdv_tup [v])).push (excO C hp.objs.size)).get? (hp.objs.size + 1) = some (excO C hp.objs.size) := by heap_get
  refine call_own F.excBase_LookupError (fun _ => rfl) (X _ _ hC) (looks_findIn X T.ini) (fun self => bind_fn X self T.tI) (size_one v) ?_
  refine init_runs (s := ⟨(hp.push (kdv_tup [v])).push (excO C hp.objs.size), g, dr, tk, os⟩) T (X.keeps k) (hlim.keeps k) hget ?_ fun h' tk' dx ⟨k', hx, dn, dne, hns⟩ => ?_
  · show A.depth + 1 < recursionLimit
    exact hroom
  · have old : ∀ b o, hp.get? b = some o → h'.get? b = some o := fun b o e => k' b o (Nat.ne_of_lt (Nat.lt_succ_of_lt (Heap.lt_size e))) (k b o e)
    have z : hp.objs.size + 1 + 1 ≤ dx := by
      first
        | (simpa only [Heap.size_push] using dn)
        | exact dn
        | (have q := dn; rw [Heap.size_push, Heap.size_push] at q; exact q)
    exact ⟨rfl, hq h' tk' (hp.objs.size + 1) dx ⟨old, Nat.le_succ _, ⟨_, _, hx, rfl, rfl, rfl, rfl⟩, Nat.le_trans (Nat.le_trans (Nat.le_succ _) (Nat.le_succ _)) z, dne, hns⟩⟩
end
end ExPlace

namespace ExLine
/-! class X(ValueError): def __init__(self, line): self.line = line -/
def iA (p1 p2 : Pos) : Arguments := { posonlyargs := [], args := [{ arg := "self", annotation := none, pos := p1 }, { arg := "line", annotation := none, pos := p2 }], vararg := none, kwonlyargs := [], kw_defaults := [], kwarg := none, defaults := [] }
def iB (q1 q2 q3 q4 : Pos) : List Stmt := [.Assign [.Attribute (.Name "self" q1) "line" q2] (.Name "line" q3) q4]
def iS : Scope := { kind := .function, names := [(PySem.Str.ofString "self", .local), (PySem.Str.ofString "line", .local)], isGenerator := false, isCoroutine := false, more := [] }
abbrev bmB : List Value := [.type "ValueError", .type "Exception", .type "BaseException", .type "object"]
/-- what the written part says of the class at C and of its __init__ at fI -/
structure Txt (K : Frag) (C fI : Addr) (qn : Str) : Prop where
  cls : ∃ nm q N bs sn sub ab col dd k0 k1 k2 k3 k5, K.lookup C = some (excClassObj nm q C N bs bmB true sn sub ab col dd k0 k1 k2 k3 k5 "ValueError.__new__")
  over : excOver K C bmB = true
  sa : findIn K (.ref C) "__setattr__" = some (some (.builtin "object.__setattr__"))
  no : findIn K (.ref C) "line" = some none
  ini : findIn K (.ref C) "__init__" = some (some (.ref fI))
  tI : typeIn K (.ref fI) = some (.type "function")
  fn : ∃ (oc : Value) (od : Option Addr) (doc pm : Value) (an : Option Addr) (cdv ct : Value) (osl : Array (Option Value)) (p1 p2 q1 q2 q3 q4 : Pos),
    K.lookup fI = some ⟨oc, od, .func (fnOf "__init__" qn (iA p1 p2) (iB q1 q2 q3 q4) iS .none .none doc pm an cdv ct), osl⟩ ∧ codeIn K cdv qn = true
structure Behind (h h' : Heap) (x C dx t1 : Addr) (v : Value) : Prop where
  keep : ∀ b o, b ≠ x → h.get? b = some o → h'.get? b = some o
  obj : h'.get? x = some { cls := .ref C, dict := some dx, data := .fields #[.ref t1, .none, .none, .none, .bool false, .none] }
  big : h.objs.size ≤ dx
  ne : dx ≠ x
  ns : h'.Ns1 dx (fun y => if y = "line" then some v else none)
section
variable {prog : Program} {w : World} {A : Around} {R : Result → Shared → Prop} {s : Shared} {K : Frag} {C fI : Addr} {qn : Str}
theorem init_runs (T : Txt K C fI qn) {x t0 : Addr} {v : Value} (X : K.In s.heap) (hlim : s.heap.NoLimit) (hx : s.heap.get? x = some (excO C t0)) (hroom : A.depth < recursionLimit)
    (hq : ∀ h' tk dx, Behind s.heap h' x C dx t0 v → R (.ok (.ret .none)) { s with heap := h', toks := tk }) :
    codeAny (model prog w) A (.call (.ref fI) ⟨[.ref x, v], []⟩) R s := by
  obtain ⟨oc, od, doc, pm, an, cdv, ct, osl, p1, p2, q1, q2, q3, q4, ho, hcd⟩ := T.fn
  obtain ⟨nm, q, N, bs, sn, sub, ab, col, dd, k0, k1, k2, k3, k5, hC⟩ := T.cls
  have hcl : clsIn K C = some { name := nm, bases := bs, mro := .ref C :: bmB, ns := N, qualname := q, hasDict := true, slotNames := sn, subclasses := sub, abstract := ab, collection := col, hasDel := false } := by unfold clsIn; rw [hC] <;> rfl
  refine Att.call_fn (binds := [("self", .ref x), ("line", v)]) X hlim ho hcd hroom (BindsTo.of_eq (by first | rfl | with_unfolding_all rfl)) (by first | rfl | decide | with_unfolding_all rfl) (fun s₁ IC => ?_) rfl rfl rfl
  obtain ⟨h₁, tk₁, rfl⟩ := IC.toInCall.same
  have k : ∀ b o, s.heap.get? b = some o → h₁.get? b = some o := IC.toInCall.keep
  have hn := IC.toInCall.ns
  have X₁ : K.In h₁ := X.keeps k
  have hx₁ := k _ _ hx
  show wpAny _ _ (execs _ _) _ _ _
  refine wpAny_execs_cons (plainObj_wpAny_Assign_Attribute ?_)
  refine ld_loc (v := v) hn (by first | rfl | with_unfolding_all rfl | kernel_rfl) (ld_loc (v := .ref x) hn (by first | rfl | with_unfolding_all rfl | kernel_rfl) ?_)
  refine set_plain X₁ (ox := excO C t0) (od := none) ⟨hx₁, rfl, rfl, trivial⟩ T.sa ?_
  refine first_field F.store_ValueError X₁ hx₁ hcl T.over rfl T.no (fun h₃ tk₃ dx k₃ dn dne hx₃ hn₃ => ?_)
  show wpAny _ _ (execs _ _) _ _ _
  have z : s.heap.objs.size < h₁.objs.size := hn.lt
  exact wpAny_execs_nil (hq h₃ tk₃ dx ⟨fun b o hb e => k₃ b o hb (k b o e), hx₃, Nat.le_of_lt (Nat.lt_of_lt_of_le z dn), dne, hn₃⟩)
theorem mkr (T : Txt K C fI qn) : Mkr prog w K C "line" := by
  refine ⟨fun A R s v X hlim hroom hq => ?_⟩
  obtain ⟨nm, q, N, bs, sn, sub, ab, col, dd, k0, k1, k2, k3, k5, hC⟩ := T.cls
  obtain ⟨hp, g, dr, tk, os⟩ := s
  have k : ∀ b o, hp.get? b = some o → ((hp.push (kdv_tup [v])).push (excO C hp.objs.size)).get? b = some o := fun b o e => Heap.get?_push_of_some _ (Heap.get?_push_of_some _ e)
  have hget : ((hp.push (kdv_tup [v])).push (excO C hp.objs.size)).get? (hp.objs.size + 1) = some (excO C hp.objs.size) := by heap_get
  refine call_own F.excBase_ValueError (fun _ => rfl) (X _ _ hC) (looks_findIn X T.ini) (fun self => bind_fn X self T.tI) (size_one v) ?_
  refine init_runs (s := ⟨(hp.push (kdv_tup [v])).push (excO C hp.objs.size), g, dr, tk, os⟩) T (X.keeps k) (hlim.keeps k) hget ?_ fun h' tk' dx ⟨k', hx, dn, dne, hns⟩ => ?_
  · show A.depth + 1 < recursionLimit
    exact hroom
  · have old : ∀ b o, hp.get? b = some o → h'.get? b = some o := fun b o e => k' b o (Nat.ne_of_lt (Nat.lt_succ_of_lt (Heap.lt_size e))) (k b o e)
    have z : hp.objs.size + 1 + 1 ≤ dx := by
      first
        | (simpa only [Heap.size_push] using dn)
        | exact dn
        | (have q := dn; rw [Heap.size_push, Heap.size_push] at q; exact q)
    exact ⟨rfl, hq h' tk' (hp.objs.size + 1) dx ⟨old, Nat.le_succ _, ⟨_, _, hx, rfl, rfl, rfl, rfl⟩, Nat.le_trans (Nat.le_trans (Nat.le_succ _) (Nat.le_succ _)) z, dne, hns⟩⟩
end
end ExLine
/-! ### made in the hand layer -/
theorem relO_one {fld : Str} {v : V} {v' : Value} (r : RelV v v') (f : Str) : RelO (List.lookup f [(fld, v)]) (if f = fld then some v' else none) := by
  by_cases hw : f = fld
  · subst hw
    rw [if_pos rfl]
    have q : List.lookup f [(f, v)] = some v := by simp [List.lookup]
    rw [q]
    exact r
  · rw [if_neg hw]
    have qw : (f == fld) = false := by simpa using hw
    have q2 : List.lookup f [(fld, v)] = none := by simp [List.lookup, qw]
    rw [q2]
    trivial
section
variable {X : Cx} {C : Addr} {fld : Str}
/-- X(e) -/
def tMk1 (C : Addr) (fld : Str) (ta : TA) : L2.St → Hp → XK → Prop := fun σ H Q => ta σ H fun vs H1 => ∃ v, vs = [v] ∧ ∀ d, H1 d = none → Q (.ref C) (some d) (upd H1 d (.xd [(fld, v)]))
theorem pmk_one {cn : Str} {a : Expr} {ta : TA} {p pos : Pos} {k : Nat} (T : Mkr X.prog X.w X.K C fld) (gC : X.mg cn = some (.ref C)) (kC : keepIn X.K (.ref C) = true) (r : Raises X (.ref C)) (hr : Room k X.A) (ha : PA X [a] ta) (hg : Gl X cn)
    (hdb : (cn == ("__debug__" : Str)) = false := by decide) (he : starEach (a :: []) X.env = (false, eval a X.env) :: starEach [] X.env := by rfl) (hpl : (backTo pos (starEach [] X.env)).any (·.1) = false := by rfl) :
    PMk X (.Call (.Name cn p) [a] [] pos) (tMk1 C fld ta) := by
  intro pins s σ H Q I h
  refine wpAny_Call_Name_kw (ld_glob I hg gC ?_ hdb)
  refine PySem.W.callWith_K (h₀ := X.base) I.ok.mod.kin kC (thn (ha.run pos pins s σ H _ I h) fun us s1 hh => ?_) he hpl
  obtain ⟨vs, H1, I1, r1, v, ev, q1⟩ := hh
  subst ev
  refine ⟨I1.kIn, ?_⟩
  cases r1 with
  | cons rv rn =>
    rename_i v' us'
    cases rn
    show wpAny _ _ (call (.ref C) [v']) _ _ _
    have hlim := I1.nolimit
    obtain ⟨hp, g, dr, tk, os⟩ := s1
    refine wpAny_call (T.made _ _ _ v' I1.kIn hlim (by have := hr.dp; omega) fun h' tk' e d M => ?_)
    show MkP X pins σ Q (.ref e) ⟨h', g, dr, tk', os⟩
    obtain ⟨oe, fv, hoe, hc, hd, hdat, h1⟩ := M.obj
    have hns := M.ns
    obtain ⟨G', g1, g2⟩ := restrict h' fun b => decide (b ≠ e)
    have gk : ∀ b, b ≠ e → G'.get? b = h'.get? b := fun b hb => g1 b (decide_eq_true hb)
    have ge : G'.get? e = none := g2 e (by simp)
    have old : ∀ b o, hp.get? b = some o → G'.get? b = some o := fun b o q => (gk b (Nat.ne_of_lt (Nat.lt_of_lt_of_le (Heap.lt_size q) M.new))).trans (M.keep b o q)
    have ob : ObjOk X.prog X.w (upd H1 d (.xd [(fld, v)])) G' d (.xd [(fld, v)]) :=
      ⟨_, hns.at (fun o q => (gk d M.ne).trans q), fun f => relO_one rv f⟩
    have J : Inv X pins σ (upd H1 d (.xd [(fld, v)])) ⟨G', g, dr, tk', os⟩ := I1.laid (t' := tk') old M.big ob
    refine ⟨e, oe, fv, ⟨G', g, dr, tk', os⟩, _, .ref C, some d, rfl, J, fun b o q => ?_, ge, hoe, ⟨hc, hd⟩, hdat, h1, ?_, rfl, I1.bare, r, q1 d (I1.hok.fresh M.big)⟩
    · by_cases hb : b = e
      · have q' : G'.get? b = some o := q
        rw [hb, ge] at q'; cases q'
      · exact (gk b hb).symm.trans q
    · rw [upd_ne (Ne.symm M.ne)]
      exact I1.hok.fresh M.new
/-- X(), a class without its own __init__ -/
theorem pmk_bare {x : Str} {bmB : List Value} {B newId initId : String} {p pos : Pos} (F : ExcBaseFacts B newId initId bmB) (q : excIn X.K C bmB newId = true) (gC : X.mg x = some (.ref C)) (kC : keepIn X.K (.ref C) = true) (r : Raises X (.ref C)) (hg : Gl X x)
    (hdb : (x == ("__debug__" : Str)) = false := by decide) : PMk X (.Call (.Name x p) [] [] pos) (fun _ H Q => Q (.ref C) none H) := by
  intro pins s σ H Q I h
  refine wpAny_Call_Name_kw (ld_glob I hg gC ?_ hdb)
  refine PySem.W.callWith_K0 I.kIn kC ?_
  show wpAny _ _ (call (.ref C) []) _ _ _
  obtain ⟨bm, N, nm, qn, bs, hdct, sn, sub, ab, col, dd, k0, k1, k2, k3, k5, mN, hC, hN, hni, T⟩ := exc_obj I.kIn q
  refine wpAny_call_exc_subT F T hC hN hni (fun h' e hm => ?_) (by show 0 ≤ sizeLine; exact Nat.zero_le _)
  exact mk_of I hm r h (I.hok.gone hm.new)
end
end Rh

set_option Elab.async false
set_option linter.all false
set_option maxRecDepth 100000
set_option maxHeartbeats 2000000
set_option autoImplicit false
namespace Rh
open PySem PySem.Spec PyProof.Rows L2
variable [Tbs]
/-! ### try: except clauses, with or without a name -/
/-- a clause: the class's value, the name's slot, the suite's reading -/
abbrev Cl := Value × Option Nat × (Addr → Value → Option Addr → TS)
def wOne (K : PySem.W.Frag) (D : Ends) (c : Cl) (rest : WX) : WX := fun cls d σ H => ∃ b, PySem.W.exmOne K cls c.1 = some b ∧
  (b = true → ∀ a, H a = none → match c.2.1 with
    | none => c.2.2 a cls d D σ H
    | some i => c.2.2 a cls d { nx := fun σ' H' => D.nx (σ'.set i none) H', rt := D.rt, bk := fun σ' H' => D.bk (σ'.set i none) H', ct := fun σ' H' => D.ct (σ'.set i none) H' } (σ.set i (some (.ref a))) H) ∧
  (b = false → rest cls d σ H)
def wCl (K : PySem.W.Frag) (Wout : WX) (D : Ends) : List Cl → WX
  | [] => Wout
  | c :: r => wOne K D c (wCl K Wout D r)
inductive ClsOk (X : Cx) : List ExceptHandler → List Cl → Prop
  | nil : ClsOk X [] []
  | bare {x : Str} {c : Value} {ts : Addr → Value → Option Addr → TS} {b₀ : Stmt} {suite : List Stmt} {np pos' : Pos} {hds : List ExceptHandler} {l : List Cl} (hc : Names X x c)
      (hsu : ∀ (a : Addr) (oe : Obj) (cls : Value) (d : Option Addr) (pn : List (Addr × Obj)), Zc cls d oe → (∃ vs, oe.data = .fields vs) → PSs (X.suite a ((a, oe) :: pn)) (b₀ :: suite) (ts a cls d)) (r : ClsOk X hds l) :
      ClsOk X (.ExceptHandler (some (.Name x np)) none (b₀ :: suite) pos' :: hds) ((c, none, ts) :: l)
  | named {x n : Str} {i : Nat} {c : Value} {ts : Addr → Value → Option Addr → TS} {b₀ : Stmt} {suite : List Stmt} {np pos' : Pos} {hds : List ExceptHandler} {l : List Cl} (hc : Names X x c) (hi : X.N[i]? = some n) (hln : X.env.kindOf n = some .local)
      (hsu : ∀ (a : Addr) (oe : Obj) (cls : Value) (d : Option Addr) (pn : List (Addr × Obj)), Zc cls d oe → (∃ vs, oe.data = .fields vs) → PSs (X.suite a ((a, oe) :: pn)) (b₀ :: suite) (ts a cls d)) (r : ClsOk X hds l) :
      ClsOk X (.ExceptHandler (some (.Name x np)) (some n) (b₀ :: suite) pos' :: hds) ((c, some i, ts) :: l)
section
variable {X : Cx} {body : List Stmt} {h₀ : ExceptHandler} {hds : List ExceptHandler} {l : List Cl} {pos : Pos} {tb : WX → TS} {Wout : WX}
theorem ps_tries (hs : X.stack = X.env :: X.outer) (hf : X.env.frame = some X.env.locals) (hN : X.N.Nodup) (tk : Takes X Wout)
    (hb : ∀ (W : WX) (pn : List (Addr × Obj)) (xe : Value → Shared → Prop), Takes (X.tr pn xe) W → PassesOwn (model X.prog X.w) X.A X.env xe → PSs (X.tr pn xe) body (tb W))
    (hh : ClsOk X (h₀ :: hds) l) : PS X (.Try body (h₀ :: hds) [] [] pos) (fun D σ H => tb (wCl X.K Wout D l) D σ H) := by
  refine ⟨fun pins s σ H D I h => ?_⟩
  have ok := I.ok
  have hfr : X.A.frames = some (X.env :: X.outer) := by rw [ok.frames, hs]
  refine wpAny_Try_except ?_
  refine wpAny_mono ((hb (wCl X.K Wout D l) (X.pn ++ pins) (fun e s₁ => wpAny (model X.prog X.w) X.A (noteFrame e X.env) (fun _ s₂ => wpAny (model X.prog X.w) X.A (setFlight e none) (fun _ s₃ =>
    wpAny (model X.prog X.w) X.A (handleBy e X.env (h₀ :: hds)) (SP X pins D) X.xe s₃) X.xe s₂) X.xe s₁) (fun u s' xx => ?_) PassesOwn.looking).run [] s σ H D (I.toTry _) h) (fun f s1 hsp => ?_) (fun e s1 he => he)
  · obtain ⟨a, B, sI, pins', σ', H', cls, d, rfl, J', nb, up, sky, na, os, ag, w⟩ := xx
    have J : Inv X pins σ' H' sI := J'.ofTry ok
    have sky' : Sky B (X.env :: X.outer) a (Zc cls d) X.env.locals s'.heap := by rw [← hs]; exact sky
    show wpAny (model X.prog X.w) X.A (noteFrame (.ref a) X.env) _ _ _
    refine Sky.land Zc.steady hfr hf sky' fun h3 fl3 up3 => ?_
    have J3 : Inv X pins σ' H' { s' with heap := h3 } := J.landed nb fl3.1 (up.trans up3) os ag
    obtain ⟨oe3, vs3, he3, hz3, hd3⟩ := fl3.there
    have notFr : ∀ {h : Heap} {o : Obj} {vs : Array Value}, h.FunFrames B (X.env :: X.outer) → h.get? a = some o → o.data = .fields vs → a ∉ frs (X.env :: X.outer) := fun {h o vs} ff e dd hm => by
      obtain ⟨_, o', e', hnf⟩ := ff.mem hm
      rw [e] at e'; cases e'
      exact hnf _ dd
    have nfr := notFr fl3.2.2.1 he3 hd3
    have nL : a ≠ X.env.locals := fun z => nfr (List.mem_filterMap.mpr ⟨X.env, List.mem_cons_self, by rw [hf, z]⟩)
    have nF : a ∉ X.fs := fun hm => by
      obtain ⟨e, he, q⟩ := List.mem_filterMap.mp hm
      exact nfr (List.mem_filterMap.mpr ⟨e, List.mem_cons_of_mem _ he, q⟩)
    have S3 := J3.suite he3 hd3 na nL nF
    have LT : PySem.W.Looks (model X.prog X.w) h3 (typeOf (.ref a)) cls := fun A Q E s k q => wpAny_typeOf_ref (k _ _ he3) (by rw [hz3.1]; exact q)
    have test : ∀ {x : Str} {np : Pos} {c : Value} {Q : Value → Shared → Prop} {E : Value → Shared → Prop}, Names X x c → Q c { s' with heap := h3 } → wpAny (model X.prog X.w) (X.A.mark (some (.ref a))) (eval (.Name x np) X.env) Q E { s' with heap := h3 } := fun {x np c Q E} hc q => by
      obtain ⟨hg, hdbg, hm | ⟨hm, hv, hnn⟩⟩ := hc
      · exact ld_glob (X := X.suite a ((a, oe3) :: (X.pn ++ pins))) S3 hg hm q hdbg
      · exact ld_blt (X := X.suite a ((a, oe3) :: (X.pn ++ pins))) S3 hg hm hv q hnn hdbg
    have go : ∀ {hds' : List ExceptHandler} {l' : List Cl}, ClsOk X hds' l' → wCl X.K Wout D l' cls d σ' H' →
        wpAny (model X.prog X.w) X.A (handleBy (.ref a) X.env hds') (SP X pins D) X.xe { s' with heap := h3 } := by
      intro hds' l' hk
      induction hk with
      | nil =>
        intro w
        refine wpAny_handleBy_nil ?_
        obtain ⟨k1, k2, k3, oe, vs, T, oT, ts', he, hz, hd, h1, hr⟩ := id fl3
        unfold PySem.passOn
        refine wpAny_bind (wpAny_field he hd h1 ?_)
        rw [if_neg (show ¬ ((Value.ref T == Value.none) = true) from by simp)]
        have fin : wpAny (model X.prog X.w) X.A (setFlight (.ref a) X.env.frame) (fun _ s4 => wpAny (model X.prog X.w) X.A (throw (.ref a) : Sem Flow) (SP X pins D) X.xe s4) X.xe { s' with heap := h3 } := by
          rw [hf]
          refine HandSPX.setFlight_upZ fl3 fun h4 hh4 up4 => wpAny_throw (tk _ _ ?_)
          exact ⟨a, B, sI, pins, σ', H', cls, d, rfl, J, nb, (up.trans up3).trans up4, .inr (.inr (by rw [hs]; exact hh4)), na, os, ag, w⟩
        first
          | exact wpAny_bind (wpAny_pure (wpAny_bind fin))
          | exact wpAny_bind fin
      | @bare x c ts b₀ suite np pos' hds2 l2 hc hsu r ih =>
        intro w
        obtain ⟨b, hb1, hyes, hno⟩ := w
        refine wpAny_handleBy_cons (codeAny_handlers_test ?_) (by intro q; cases q)
        have LM := PySem.W.exm_one (M := model X.prog X.w) (J3.kIn) LT hb1
        refine test hc (LM.here ?_)
        cases b with
        | true =>
          refine codeAny_handlers_suite ?_
          refine HandSPX.lands_againZ fl3 fun h4 fl4 up4 => ?_
          have J4 : Inv X pins σ' H' { s' with heap := h4 } := J.landed nb fl4.1 ((up.trans up3).trans up4) os ag
          obtain ⟨oe4, vs4, he4, hz4, hd4⟩ := fl4.there
          have S4 := J4.suite he4 hd4 na nL nF
          refine wpAny_mono ((hsu a oe4 cls d (X.pn ++ pins) hz4 ⟨_, hd4⟩).run [] _ _ H' _ S4 (hyes rfl a na)) (fun f s6 hsp => ?_) (fun _ _ z => False.elim z)
          cases f with
          | next =>
            obtain ⟨σ6, H6, S6, q6⟩ := hsp
            exact ⟨_, _, S6.unsuite ok, q6⟩
          | brk =>
            obtain ⟨σ6, H6, S6, q6⟩ := hsp
            exact ⟨_, _, S6.unsuite ok, q6⟩
          | cont =>
            obtain ⟨σ6, H6, S6, q6⟩ := hsp
            exact ⟨_, _, S6.unsuite ok, q6⟩
          | ret u =>
            obtain ⟨v6, σ6, H6, S6, r6, q6⟩ := hsp
            exact ⟨_, _, _, S6.unsuite ok, r6, q6⟩
        | false =>
          show wpAny _ X.A (handleBy (.ref a) X.env hds2) _ _ _
          exact ih (hno rfl)
      | @named x n i c ts b₀ suite np pos' hds2 l2 hc hi hln hsu r ih =>
        intro w
        obtain ⟨b, hb1, hyes, hno⟩ := w
        refine wpAny_handleBy_cons (codeAny_handlers_test ?_) (by intro q; cases q)
        have LM := PySem.W.exm_one (M := model X.prog X.w) (J3.kIn) LT hb1
        refine test hc (LM.here ?_)
        cases b with
        | true =>
          have hloc : Loc X.env.scope n := .inl hln
          refine codeAny_handlers_suite_as ?_
          refine HandSPX.lands_againZ fl3 fun h4 fl4 up4 => ?_
          have J4 : Inv X pins σ' H' { s' with heap := h4 } := J.landed nb fl4.1 ((up.trans up3).trans up4) os ag
          obtain ⟨oe4, vs4, he4, hz4, hd4⟩ := fl4.there
          have S4 := J4.suite he4 hd4 na nL nF
          refine store_ok (X := X.suite a ((a, oe4) :: (X.pn ++ pins))) (v := .ref a) S4 hN hi hloc rfl (fun s5 S5 => ?_) (.inr hln)
          refine wpAny_mono ((hsu a oe4 cls d (X.pn ++ pins) hz4 ⟨_, hd4⟩).run [] s5 _ H' _ S5 (hyes rfl a na)) (fun f s6 hsp => ?_) (fun _ _ z => False.elim z)
          have end_ : ∀ {σ6 : L2.St} {H6 : Hp} {Q : Shared → Prop}, Inv (X.suite a ((a, oe4) :: (X.pn ++ pins))) [] σ6 H6 s6 → (∀ s7, Inv X pins (σ6.set i none) H6 s7 → Q s7) →
              wpAny (model X.prog X.w) X.A (do bindName X.env n .none; unbindBehindTheSuite X.env n pos') (fun _ s7 => Q s7) X.xe s6 := fun {σ6 H6 Q} S6 hq => gone_ok (S6.unsuite ok) hN hi hln hq
          cases f with
          | next =>
            obtain ⟨σ6, H6, S6, q6⟩ := hsp
            exact end_ S6 fun s7 J7 => ⟨_, _, J7, q6⟩
          | brk =>
            obtain ⟨σ6, H6, S6, q6⟩ := hsp
            exact end_ S6 fun s7 J7 => ⟨_, _, J7, q6⟩
          | cont =>
            obtain ⟨σ6, H6, S6, q6⟩ := hsp
            exact end_ S6 fun s7 J7 => ⟨_, _, J7, q6⟩
          | ret u =>
            obtain ⟨v6, σ6, H6, S6, r6, q6⟩ := hsp
            exact end_ S6 fun s7 J7 => ⟨_, _, _, J7, r6, q6⟩
        | false =>
          show wpAny _ X.A (handleBy (.ref a) X.env hds2) _ _ _
          exact ih (hno rfl)
    exact go hh w
  · cases f with
    | next =>
      obtain ⟨σ', H', J', q⟩ := hsp
      exact wpAny_execs_nil ⟨σ', H', J'.ofTry ok, q⟩
    | brk =>
      obtain ⟨σ', H', J', q⟩ := hsp
      exact ⟨σ', H', J'.ofTry ok, q⟩
    | cont =>
      obtain ⟨σ', H', J', q⟩ := hsp
      exact ⟨σ', H', J'.ofTry ok, q⟩
    | ret u =>
      obtain ⟨v, σ', H', J', r, q⟩ := hsp
      exact ⟨v, σ', H', J'.ofTry ok, r, q⟩
end
end Rh

set_option Elab.async false
set_option linter.all false
set_option maxRecDepth 100000
set_option maxHeartbeats 2000000
set_option autoImplicit false
namespace Rh
open PySem PySem.Spec PyProof.Rows L2
variable [Tbs]
open PySem.W PySem.Calls PySem.HandSPX
section
variable {X : Cx} {W : WX} {C : Addr} {fld : Str}
def mRaise0 (c : Str) : MS := fun ρ h => some (.ex c [] ρ h)
theorem s_raise0 {x : Str} {bmB : List Value} {B newId initId : String} {p pos pos2 : Pos} (hc : X.calm = true) (tk : Takes X W) (F : ExcBaseFacts B newId initId bmB) (q : excIn X.K C bmB newId = true) (gC : X.mg x = some (.ref C)) (kC : keepIn X.K (.ref C) = true) (r : Raises X (.ref C)) (hg : Gl X x)
    (hdb : (x == ("__debug__" : Str)) = false := by decide) : PS X (.Raise (some (.Call (.Name x p) [] [] pos)) none pos2) (rdS X W (mRaise0 x)) :=
  ps_imp (ps_raise hc tk (pmk_bare F q gC kC r hg hdb)) fun D σ H ⟨ρ, L, μ, h, rel, k⟩ => k (.ref C) none σ μ H .refl rel ⟨⟨C, gC, rfl⟩, rfl⟩
def mRaise1 (c fld : Str) (m : M D) : MS := mDo m fun d => fun ρ h => some (.ex c [(fld, d)] ρ h)
theorem s_raise1 {cn : Str} {a : Expr} {m : M D} {p pos pos2 : Pos} {k : Nat} (hc : X.calm = true) (tk : Takes X W) (T : Mkr X.prog X.w X.K C fld) (gC : X.mg cn = some (.ref C)) (kC : keepIn X.K (.ref C) = true) (r : Raises X (.ref C)) (hr : Room k X.A) (ha : PE X a (rd X W m)) (hg : Gl X cn)
    (hdb : (cn == ("__debug__" : Str)) = false := by decide) (he : starEach (a :: []) X.env = (false, eval a X.env) :: starEach [] X.env := by rfl) (hpl : (backTo pos (starEach [] X.env)).any (·.1) = false := by rfl) :
    PS X (.Raise (some (.Call (.Name cn p) [a] [] pos)) none pos2) (rdS X W (mRaise1 cn fld m)) := by
  refine ps_imp (ps_raise hc tk (pmk_one T gC kC r hr (pa_cons ha pa_nil he) hg hdb he hpl)) fun D σ H q => rdG_imp (rdS_bind q) fun ρ L d h1 μ1 H1 ⟨rel1, q1⟩ x rx => ?_
  show ∃ v, [x] = [v] ∧ ∀ d, H1 d = none → W (.ref C) (some d) σ (upd H1 d (.xd [(fld, v)]))
  refine ⟨x, rfl, fun dx hdx => ?_⟩
  obtain ⟨s1, s2⟩ := same_new (o := HO.xd [(fld, x)]) hdx
  exact q1 (.ref C) (some dx) σ μ1 _ (.same rel1.hr s1 s2) (rel1.go (.same rel1.hr s1 s2) (rel1.hr.same s1)) ⟨⟨C, gC, rfl⟩, dx, [(fld, x)], rfl, upd_same, rfl, x, [], rfl, rx.stay (Same.stay s1), rfl⟩
end
/-- a clause by mirror: the class's name, the slot of the error's name, the suite by what the error holds -/
structure MC where
  c : Str
  i : Option Nat
  su : Str → List (Str × D) → MS
def noEx : Option RS → Option RS
  | some (.ex _ _ _ _) => none
  | o => o
def clrS (i : Nat) : Option RS → Option RS
  | some (.nx ρ h) => some (.nx (ρ.set i none) h)
  | some (.bk ρ h) => some (.bk (ρ.set i none) h)
  | some (.ct ρ h) => some (.ct (ρ.set i none) h)
  | some (.rt d h) => some (.rt d h)
  | _ => none
def runCl (k : MC) (c : Str) (fs : List (Str × D)) (ρ : En) (h : Hs) : Option RS := match k.i with
  | none => noEx (k.su c fs ρ h)
  | some i => if i < ρ.length then clrS i (k.su c fs (ρ.set i none) h) else none
def pick (cs : List Str) : List MC → Str → List (Str × D) → En → Hs → Option RS
  | [], c, fs, ρ, h => some (.ex c fs ρ h)
  | k :: r, c, fs, ρ, h => if cs.contains c = true ∧ cs.contains k.c = true then (if (c == k.c) = true then runCl k c fs ρ h else pick cs r c fs ρ h) else none
def mTry (cs : List Str) (body : MS) (l : List MC) : MS := fun ρ h => match body ρ h with
  | some (.ex c fs ρ1 h1) => pick cs l c fs ρ1 h1
  | o => o
/-- the classes of the text: which is caught by which -/
def ExK (K : PySem.W.Frag) (mg : Str → Option Value) (cs : List Str) : Prop := ∀ c ∈ cs, ∀ k ∈ cs, ∀ C, mg c = some (.ref C) → PySem.W.exmOne K (.ref C) ((mg k).getD .none) = some (c == k)
abbrev WN : WX := fun _ _ _ _ => False
def tsX (X : Cx) (i : Option Nat) (su : Str → List (Str × D) → MS) : Addr → Value → Option Addr → TS := fun a cls d D σ H =>
  (∀ j, i = some j → σ[j]? = some (some (.ref a))) ∧ ∃ ρ L μ h c fs, Rel (ctX X) L ρ σ μ H h ∧ RepX (ctX X) μ H c fs cls d ∧ SatS X WN D L μ H (su c fs ρ h)
def clOf (X : Cx) (k : MC) : Cl := ((X.mg k.c).getD .none, k.i, tsX X k.i k.su)
section
variable {X : Cx} {W : WX} {L : List Nat} {ρ ρ' : En} {σ σ' σ1 : L2.St} {H H' H1 : Hp} {μ μ1 : Mu} {h h1 : Hs} {D0 : Ends}
theorem SatS.noEx {o : Option RS} {W' : WX} (q : SatS X W D0 L μ H (noEx o)) : SatS X W' D0 L μ H o := by
  cases o with
  | none => exact q.none
  | some o =>
    cases o with
    | ex c fs ρ1 => exact q.none
    | _ => exact q
/-- a slot is no longer looked at -/
theorem Rel.clear {C : Ct} (r : Rel C L ρ σ μ H h) (i : Nat) (x : Option V) : Rel C L (ρ.set i none) (σ.set i x) μ H h := by
  refine ⟨by rw [List.length_set, List.length_set]; exact r.len, fun j d e => ?_, r.hr⟩
  by_cases hj : i = j
  · subst hj
    by_cases hl : i < ρ.length
    · rw [List.getElem?_set_self hl] at e; cases e
    · rw [List.getElem?_eq_none (by rw [List.length_set]; exact Nat.le_of_not_lt hl)] at e; cases e
  · rw [List.getElem?_set_ne hj] at e ⊢
    exact r.val j d e
theorem pick_ok {cs : List Str} (hk : ExK X.K X.mg cs) : ∀ (l : List MC) {c : Str} {fs : List (Str × D)} {ρ1 : En} {h1 : Hs}, SatS X W D0 L μ H (pick cs l c fs ρ1 h1) →
    ∀ cls d σ1 μ1 H1, Go L μ H μ1 H1 → Rel (ctX X) L ρ1 σ1 μ1 H1 h1 → RepX (ctX X) μ1 H1 c fs cls d → wCl X.K W D0 (l.map (clOf X)) cls d σ1 H1
  | [], c, fs, ρ1, h1, q => fun cls d σ1 μ1 H1 g r rx => q cls d σ1 μ1 H1 g r rx
  | k :: ks, c, fs, ρ1, h1, q => fun cls d σ1 μ1 H1 g r rx => by
    unfold pick at q
    split at q
    · rename_i hcs
      obtain ⟨⟨C, gC, rfl⟩, rx2⟩ := id rx
      have hb := hk c (List.elem_iff.mp hcs.1) k.c (List.elem_iff.mp hcs.2) C gC
      refine ⟨(c == k.c), hb, fun e a na => ?_, fun e => ?_⟩
      · rw [e] at q
        rw [if_pos rfl] at q
        show (match k.i with
          | none => tsX X k.i k.su a (.ref C) d D0 σ1 H1
          | some i => tsX X k.i k.su a (.ref C) d { nx := fun σ' H' => D0.nx (σ'.set i none) H', rt := D0.rt, bk := fun σ' H' => D0.bk (σ'.set i none) H', ct := fun σ' H' => D0.ct (σ'.set i none) H' } (σ1.set i (some (.ref a))) H1)
        unfold runCl at q
        cases hi : k.i with
        | none =>
          rw [hi] at q
          dsimp only at q ⊢
          exact ⟨(fun j e => nomatch e), ρ1, L, μ1, h1, c, fs, r, rx, (q.start g).noEx⟩
        | some i =>
          rw [hi] at q
          dsimp only at q ⊢
          split at q
          · rename_i hl
            have hlen : i < σ1.length := by rw [← r.len]; exact hl
            refine ⟨fun j e => by cases e; exact List.getElem?_set_self hlen, ρ1.set i none, L, μ1, h1, c, fs, r.clear i _, rx, ?_⟩
            cases eo : k.su c fs (ρ1.set i none) h1 with
            | none => rw [eo] at q; exact q.none
            | some o =>
              rw [eo] at q
              cases o with
              | nx ρ2 h2 => exact fun σ2 μ2 H2 g2 r2 => q _ μ2 H2 (g.trans g2) (r2.clear i none)
              | bk ρ2 h2 => exact fun σ2 μ2 H2 g2 r2 => q _ μ2 H2 (g.trans g2) (r2.clear i none)
              | ct ρ2 h2 => exact fun σ2 μ2 H2 g2 r2 => q _ μ2 H2 (g.trans g2) (r2.clear i none)
              | rt n h2 => exact fun μ2 H2 x g2 r2 rr => q μ2 H2 x (g.trans g2) r2 rr
              | ex c' fs' ρ2 h2 => exact q.none
          · exact q.none
      · rw [e, if_neg Bool.false_ne_true] at q
        exact pick_ok hk ks q _ _ _ _ _ g r rx
    · exact q.none
/-- try .. except .. by mirror -/
theorem s_try {cs : List Str} {body : List Stmt} {h₀ : ExceptHandler} {hds : List ExceptHandler} {l : List MC} {mb : MS} {pos : Pos} (hk : ExK X.K X.mg cs) (hs : X.stack = X.env :: X.outer) (hf : X.env.frame = some X.env.locals) (hN : X.N.Nodup) (tk : Takes X W)
    (hb : ∀ (W : WX) (pn : List (Addr × Obj)) (xe : Value → Shared → Prop), Takes (X.tr pn xe) W → PassesOwn (model X.prog X.w) X.A X.env xe → PSs (X.tr pn xe) body (rdS (X.tr pn xe) W mb))
    (hh : ClsOk X (h₀ :: hds) (l.map (clOf X))) : PS X (.Try body (h₀ :: hds) [] [] pos) (rdS X W (mTry cs mb l)) := by
  refine ps_imp (ps_tries (tb := fun W => rdS X W mb) hs hf hN tk hb hh) fun D σ H ⟨ρ, L, μ, h, rel, q⟩ => ⟨ρ, L, μ, h, rel, ?_⟩
  unfold mTry at q
  cases eo : mb ρ h with
  | none => rw [eo] at q; exact q.none
  | some o =>
    rw [eo] at q
    cases o with
    | ex c fs ρ1 h1 => exact fun cls d σ1 μ1 H1 g r rx => pick_ok hk l q cls d σ1 μ1 H1 g r rx
    | _ => exact q
end
end Rh

set_option Elab.async false
set_option linter.all false
set_option maxRecDepth 100000
set_option maxHeartbeats 2000000
set_option autoImplicit false
namespace Rh
open PySem PySem.Spec PyProof.Rows L2
variable [Tbs]

/-! ### the suite's words: by what the error holds -/
abbrev XF (α : Type) := Str → List (Str × D) → Option α
def rdX (X : Cx) (i : Option Nat) (a : Addr) (cls : Value) (d : Option Addr) (f : XF D) : TE := fun σ H Q =>
  (∀ j, i = some j → σ[j]? = some (some (.ref a))) ∧ ∃ μ c fs dv, RepX (ctX X) μ H c fs cls d ∧ f c fs = some dv ∧ ∀ v, RepV (ctX X) μ H dv v → Q v H
def rdXA (X : Cx) (i : Option Nat) (a : Addr) (cls : Value) (d : Option Addr) (f : XF (List D)) : TA := fun σ H Q =>
  (∀ j, i = some j → σ[j]? = some (some (.ref a))) ∧ ∃ μ c fs dv, RepX (ctX X) μ H c fs cls d ∧ f c fs = some dv ∧ ∀ v, RepL (ctX X) μ H dv v → Q v H
def xC (d : D) : XF D := fun _ _ => some d
def xNil : XF (List D) := fun _ _ => some []
def xCons (f : XF D) (g : XF (List D)) : XF (List D) := fun c fs => match f c fs, g c fs with
  | some d, some ds => some (d :: ds)
  | _, _ => none
/-- error.fld, of the class cn -/
def xAt (cn fld : Str) : XF D := fun c fs => match fs with
  | [(g, d)] => if c = cn ∧ g = fld then some d else none
  | _ => none
structure AttrX (K : PySem.W.Frag) (C : Addr) (fld : Str) : Prop where
  ga : PySem.W.findIn K (.ref C) "__getattribute__" = some (some (.builtin "BaseException.__getattribute__"))
  gg : PySem.W.findIn K (.ref C) "__getattr__" = some none
  ex : PySem.W.subIn K (.ref C) (.type "BaseException") = some true
  hd : PySem.W.hasDictIn K C = true
  no : PySem.W.findIn K (.ref C) fld = some none
/-- isinstance(error, T), of the class cn -/
def xIsi (cn : Str) (b : Bool) : XF D := fun c _ => if c = cn then some (.bl b) else none
section
variable {X : Cx} {Y : Cx} {a : Addr} {cls : Value} {d : Option Addr} {i : Option Nat}
theorem x_str {x : Str} {j : Nat} {pos : Pos} : PE Y (.Constant (.str x) j pos) (rdX X i a cls d (xC (.str x))) := pe_imp pe_str fun σ H Q ⟨_, μ, c, fs, dv, _, e, k⟩ => k (.str x) (by cases e; rfl)
theorem x_int {x : Int} {j : Nat} {pos : Pos} : PE Y (.Constant (.int x) j pos) (rdX X i a cls d (xC (.int x))) := pe_imp pe_int fun σ H Q ⟨_, μ, c, fs, dv, _, e, k⟩ => k (.int x) (by cases e; rfl)
theorem x_bl {x : Bool} {j : Nat} {pos : Pos} : PE Y (.Constant (.bool x) j pos) (rdX X i a cls d (xC (.bl x))) := pe_imp pe_bl fun σ H Q ⟨_, μ, c, fs, dv, _, e, k⟩ => k (.bl x) (by cases e; rfl)
theorem x_non {j : Nat} {pos : Pos} : PE Y (.Constant .none j pos) (rdX X i a cls d (xC .non)) := pe_imp pe_non fun σ H Q ⟨_, μ, c, fs, dv, _, e, k⟩ => k .non (by cases e; rfl)
theorem xa_nil : PA Y [] (rdXA X i a cls d xNil) := pa_imp pa_nil fun σ H Q ⟨_, μ, c, fs, dv, _, e, k⟩ => k [] (by cases e; rfl)
theorem xa_cons {e : Expr} {es : List Expr} {f : XF D} {g : XF (List D)} (he : PE Y e (rdX X i a cls d f)) (hr : PA Y es (rdXA X i a cls d g)) (hs : starEach (e :: es) Y.env = (false, eval e Y.env) :: starEach es Y.env := by rfl) :
    PA Y (e :: es) (rdXA X i a cls d (xCons f g)) := pa_imp (pa_cons he hr hs) fun σ H Q ⟨hj, μ, c, fs, dv, rx, e, k⟩ => by
  unfold xCons at e
  cases e1 : f c fs with
  | none => simp only [e1] at e; cases e
  | some d1 =>
    cases e2 : g c fs with
    | none => simp only [e1, e2] at e; cases e
    | some ds =>
      simp only [e1, e2] at e
      cases e
      exact ⟨hj, μ, c, fs, d1, rx, e1, fun v rv => ⟨hj, μ, c, fs, ds, rx, e2, fun vs rvs => k (v :: vs) ⟨v, vs, rfl, rv, rvs⟩⟩⟩
/-- the raised object, as the suite has it -/
theorem inst_at {C : Addr} {fs : List (Str × D)} {c cn : Str} {μ : Mu} {H : Hp} {σ : L2.St} {s : Shared} {oe : Obj} {pn pins : List (Addr × Obj)} (gC : X.mg cn = some (.ref C)) (I : L2.Inv (X.suite a ((a, oe) :: pn)) pins σ H s) (rx : RepX (ctX X) μ H c fs cls d) (hc : c = cn) (hz : Zc cls d oe) (hf : ∃ vs, oe.data = .fields vs) :
    cls = .ref C ∧ ∃ od, PySem.W.InstAt s.heap a oe C od := by
  subst hc
  obtain ⟨⟨C', gC', rfl⟩, rx⟩ := rx
  have gC' : X.mg c = some (.ref C') := gC'
  rw [gC] at gC'
  cases gC'
  refine ⟨rfl, ?_⟩
  obtain ⟨ha, _⟩ := I.pin (a, oe) (List.mem_append_left _ List.mem_cons_self)
  obtain ⟨fv, hd⟩ := hf
  cases fs with
  | nil =>
    have rx : d = none := rx
    subst rx
    exact ⟨none, ha, hz.1, by unfold PySem.W.notCls; rw [hd] <;> rfl, by rw [hz.2] <;> trivial⟩
  | cons f fs =>
    obtain ⟨dx, vs, rfl, hdx, _⟩ := rx
    have hx : ObjOk X.prog X.w H s.heap dx (.xd vs) := I.hok dx _ hdx
    obtain ⟨mA, hns, hr⟩ := hx
    obtain ⟨od, ho, hl⟩ := lookIn_ns hns
    exact ⟨some od, ha, hz.1, by unfold PySem.W.notCls; rw [hd] <;> rfl, by rw [hz.2]; exact ho⟩
theorem x_attr {C : Addr} {n fld cn : Str} {j : Nat} {oe : Obj} {pn : List (Addr × Obj)} {p pos : Pos} (gC : X.mg cn = some (.ref C)) (T : AttrX X.K C fld) (hN : X.N[j]? = some n) (hv : Vis X.env.scope n) (hz : Zc cls d oe) (hf : ∃ vs, oe.data = .fields vs)
    (hd : (n == ("__debug__" : Str)) = false := by decide) (hcd : (n == ("__classdict__" : Str)) = false := by decide) (hb : attributeBase (.Name n p) fld X.env (eval (.Name n p) X.env) = eval (.Name n p) X.env := by rfl) :
    PE (X.suite a ((a, oe) :: pn)) (.Attribute (.Name n p) fld pos) (rdX X (some j) a cls d (xAt cn fld)) := by
  refine ⟨fun pins s σ H Q I ⟨hj, μ, c, fs, dv, rx, e, k⟩ => ?_⟩
  refine attr_of hb (thn ((pe_var (X := X.suite a ((a, oe) :: pn)) hN hv hd hcd).run pins s σ H (fun v H1 => v = .ref a ∧ H1 = H) I ⟨_, hj j rfl, rfl, rfl⟩) fun u s1 hh => ?_)
  obtain ⟨x, H1, I1, r1, ex, eH⟩ := hh
  subst ex
  subst eH
  obtain rfl : u = Value.ref a := r1
  unfold xAt at e
  split at e
  · rename_i g d0 
    split at e
    · rename_i hc
      obtain ⟨rfl, rfl⟩ := hc
      cases e
      obtain ⟨⟨C', gC', rfl⟩, dx, vs, rfl, hdx, hn, rl⟩ := rx
      have gC' : X.mg c = some (.ref C') := gC'
      rw [gC] at gC'
      cases gC'
      obtain ⟨v, rest, ev, rv, er⟩ := rl
      cases vs with
      | nil => cases ev
      | cons p0 vs =>
        cases er
        obtain ⟨g0, v0⟩ := p0
        have e1 := List.cons.inj ev
        obtain ⟨e1, e2⟩ := e1
        dsimp only at e1
        subst e1
        cases vs with
        | cons _ _ => cases e2
        | nil =>
          have e3 : g0 = g := (List.cons.inj hn).1
          subst e3
          obtain ⟨ha, _⟩ := I1.pin (a, oe) (List.mem_append_left _ List.mem_cons_self)
          obtain ⟨fv, hd⟩ := hf
          have hx : ObjOk X.prog X.w H1 s1.heap dx (.xd [(g0, v0)]) := I1.hok dx _ hdx
          obtain ⟨mA, hns, hr⟩ := hx
          obtain ⟨od, ho, hl⟩ := lookIn_ns hns
          have l : List.lookup g0 [(g0, v0)] = some v0 := by simp [List.lookup]
          obtain ⟨u, hu, ru⟩ := RelO.some_of (v := v0) (o := mA g0) (by rw [← l]; exact hr g0)
          have J : PySem.W.InstAt s1.heap a oe C (some od) := ⟨ha, hz.1, by unfold PySem.W.notCls; rw [hd] <;> rfl, by rw [hz.2]; exact ho⟩
          exact HandSPX.exc_get I1.kIn J T.ga T.gg T.ex (PySem.W.findObj_own T.hd T.no rfl (by rw [hl, hu])) (handed_of ru) ⟨v0, H1, I1.tok _, ru, k v0 rv⟩
    · cases e
  · cases e
/-- isinstance(error, T) with the value of T -/
theorem call_isX {C : Addr} {oe : Obj} {pn : List (Addr × Obj)} {cv : Value} {b : Bool} (E : L2.ExcC X.K C) (kt : PySem.W.kitOne X.K (.ref C) cv = some b) (hJ : ∀ (pins : List (Addr × Obj)) (s : Shared) (σ : L2.St) (H : Hp), L2.Inv (X.suite a ((a, oe) :: pn)) pins σ H s → (∃ μ c fs, RepX (ctX X) μ H c fs cls d ∧ X.mg c = some (.ref C)) → ∃ od, PySem.W.InstAt s.heap a oe C od) :
    CallR (X.suite a ((a, oe) :: pn)) (.builtin "isinstance") (fun xs H Q => ∃ (c : V), xs = [.ref a, c] ∧ (∀ u, RelV c u → u = cv) ∧ (∃ μ c fs, RepX (ctX X) μ H c fs cls d ∧ X.mg c = some (.ref C)) ∧ Q (.bl b) H) := by
  intro pins s σ H xs us Q I r h
  obtain ⟨c, rfl, hcv, hx, q⟩ := h
  cases r with
  | cons rx rr =>
    cases rr with
    | cons rt rr =>
      cases rr
      cases rx
      have ec := hcv _ rt
      subst ec
      obtain ⟨od, J⟩ := hJ pins s σ H I hx
      have hcl : (PySem.W.clsIn X.K C).isSome = true := by
        obtain ⟨cd, hc, _⟩ := PySem.W.any_some E.hd
        rw [hc]; rfl
      exact PySem.W.kia_one (PySem.W.kitx_exc hcl E.hg E.hk E.hs E.ha E.hn E.ht E.hm) I.kIn J kt (fun z => nomatch z) fun tk => ⟨.bl b, H, I.kept (t' := tk) fun _ _ z => z, rfl, q⟩
theorem x_isi {C : Addr} {n cn tn : Str} {T : String} {j : Nat} {oe : Obj} {pn : List (Addr × Obj)} {p p1 p2 pos : Pos} {b : Bool} (gC : X.mg cn = some (.ref C)) (E : L2.ExcC X.K C) (kt : PySem.W.kitOne X.K (.ref C) (.type T) = some b)
    (hg : Gl X "isinstance") (hm : X.mg "isinstance" = none) (hgT : Gl X tn) (hmT : X.mg tn = none) (hvT : bootBuiltins tn = some (.type T)) (hvI : bootBuiltins "isinstance" = some (.builtin "isinstance"))
    (hN : X.N[j]? = some n) (hv : Vis X.env.scope n) (hz : Zc cls d oe) (hf : ∃ vs, oe.data = .fields vs)
    (hd : (n == ("__debug__" : Str)) = false := by decide) (hcd : (n == ("__classdict__" : Str)) = false := by decide) (hnT : tn ≠ "__name__" := by decide) (hdT : (tn == ("__debug__" : Str)) = false := by decide)
    (he : starEach [.Name n p1, .Name tn p2] X.env = (false, eval (.Name n p1) X.env) :: starEach [.Name tn p2] X.env := by rfl) (he2 : starEach [.Name tn p2] X.env = (false, eval (.Name tn p2) X.env) :: starEach [] X.env := by rfl) (hpl : (backTo pos (starEach [.Name tn p2] X.env)).any (·.1) = false := by rfl) :
    PE (X.suite a ((a, oe) :: pn)) (.Call (.Name "isinstance" p) [.Name n p1, .Name tn p2] [] pos) (rdX X (some j) a cls d (xIsi cn b)) := by
  refine ⟨fun pins s σ H Q I ⟨hj, μ, c, fs, dv, rx, e, k⟩ => ?_⟩
  unfold xIsi at e
  split at e
  · rename_i hc
    subst hc
    cases e
    have v1 : PE (X.suite a ((a, oe) :: pn)) (.Name n p1) _ := pe_var (X := X.suite a ((a, oe) :: pn)) hN hv hd hcd
    have v2 : PE (X.suite a ((a, oe) :: pn)) (.Name tn p2) _ := pe_bltn (X := X.suite a ((a, oe) :: pn)) (v := .ty T) hgT hmT hvT rfl hnT hdT
    refine (pe_callB (X := X.suite a ((a, oe) :: pn)) (call_isX (cls := cls) (d := d) (C := C) (cv := .type T) E kt fun pins s σ H I ⟨μ, c', fs', rx', gc'⟩ => (inst_at gc' I rx' rfl hz hf).2) hg hm hvI (pa_cons v1 (pa_cons v2 pa_nil he2) he) (by decide) (by decide) he hpl).run pins s σ H Q I ?_
    exact ⟨_, hj j rfl, .ty T, rfl, fun u r => r, ⟨μ, c, fs, rx, gC⟩, k _ rfl⟩
  · cases e
/-! what a suite does with them -/
def mXE (f : XF D) (c : Str) (fs : List (Str × D)) : M D := fun _ h => match f c fs with
  | some d => some (.ok d h)
  | none => none
def mXL (f : XF (List D)) (c : Str) (fs : List (Str × D)) : M D := fun _ h => match f c fs with
  | some ds => if ds.length ≤ 1000000 then (Nv.n (.lst ds)).lift h else none
  | none => none
def mXT (f : XF (List D)) (c : Str) (fs : List (Str × D)) : M D := fun _ h => match f c fs with
  | some ds => if ds.length ≤ 1000000 then (Nv.v (.tup ds)).lift h else none
  | none => none
/-- an expression of a suite -/
def rdXE (X : Cx) (i : Option Nat) (a : Addr) (cls : Value) (d : Option Addr) (m : Str → List (Str × D) → M D) : TE := fun σ H Q =>
  (∀ j, i = some j → σ[j]? = some (some (.ref a))) ∧ ∃ ρ L μ h c fs, Rel (ctX X) L ρ σ μ H h ∧ RepX (ctX X) μ H c fs cls d ∧ Sat X WN L σ μ H (m c fs ρ h) fun d _ μ' H' => ∀ x, RepV (ctX X) μ' H' d x → Q x H'
theorem xe_one {e : Expr} {f : XF D} (he : PE Y e (rdX X i a cls d f)) : PE Y e (rdXE X i a cls d (mXE f)) := pe_imp he fun σ H Q ⟨hj, ρ, L, μ, h, c, fs, rel, rx, q⟩ => by
  unfold mXE at q
  cases e1 : f c fs with
  | none => rw [e1] at q; exact q.none
  | some dv => rw [e1] at q; exact ⟨hj, μ, c, fs, dv, rx, e1, fun v rv => q μ H .refl rel.hr v rv⟩
theorem xe_lst {es : List Expr} {f : XF (List D)} {pos : Pos} (ha : PA Y es (rdXA X i a cls d f)) : PE Y (.List es pos) (rdXE X i a cls d (mXL f)) := pe_imp (pe_lst ha) fun σ H Q ⟨hj, ρ, L, μ, h, c, fs, rel, rx, q⟩ => by
  unfold mXL at q
  cases e : f c fs with
  | none => simp only [e] at q; exact q.none
  | some ds =>
    simp only [e] at q
    split at q
    · rename_i hl
      obtain ⟨m, em, want⟩ := Sat.lift (n := some (.n (.lst ds))) rel.hr q
      cases em
      exact ⟨hj, μ, c, fs, ds, rx, e, fun vs rl => ⟨by rw [rl.length]; exact small6 hl, fun p hp => want.lst rl hp⟩⟩
    · exact q.none
theorem xe_tup {es : List Expr} {f : XF (List D)} {x1} {pos : Pos} (ha : PA Y es (rdXA X i a cls d f)) : PE Y (.Tuple es x1 pos) (rdXE X i a cls d (mXT f)) := pe_imp (pe_tup ha) fun σ H Q ⟨hj, ρ, L, μ, h, c, fs, rel, rx, q⟩ => by
  unfold mXT at q
  cases e : f c fs with
  | none => simp only [e] at q; exact q.none
  | some ds =>
    simp only [e] at q
    split at q
    · rename_i hl
      obtain ⟨m, em, want⟩ := Sat.lift (n := some (.v (.tup ds))) rel.hr q
      cases em
      exact ⟨hj, μ, c, fs, ds, rx, e, fun vs rl => ⟨by rw [rl.length]; exact small6 hl, fun p hp => want.tup rl hp⟩⟩
    · exact q.none
theorem xs_ret {e : Expr} {m : Str → List (Str × D) → M D} {pos2 : Pos} (he : PE Y e (rdXE X i a cls d m)) : PSs Y [.Return (some e) pos2] (tsX X i (fun c fs => mRet (m c fs)) a cls d) :=
  pss_one (ps_imp (ps_ret he) fun D σ H ⟨hj, ρ, L, μ, h, c, fs, rel, rx, q⟩ => ⟨hj, ρ, L, μ, h, c, fs, rel, rx, (q.bind rel).imp fun b h1 μ1 H1 g1 _ ⟨rel1, q1⟩ x rb => q1 μ1 H1 x .refl rel1.hr rb⟩)
theorem xs_set {e : Expr} {m : Str → List (Str × D) → M D} {q : Nat} {x : Str} {pos' pos2 : Pos} (hN : Y.N.Nodup) (hi : Y.N[q]? = some x) (hx : Loc Y.env.scope x) (he : PE Y e (rdXE X i a cls d m)) (hs : swapsWith e (some (.Name x pos')) pos2.line Y.env = pure false := by rfl)
    (hf : Y.fn x = true ∨ Y.env.scope.names.lookup x = some .local := by first | exact .inl rfl | exact .inr rfl | assumption) : PSs Y [.Assign [.Name x pos'] e pos2] (tsX X i (fun c fs => mSet q (m c fs)) a cls d) :=
  pss_one (ps_imp (ps_set hN hi hx he hs hf) fun D σ H ⟨hj, ρ, L, μ, h, c, fs, rel, rx, q⟩ => ⟨hj, ρ, L, μ, h, c, fs, rel, rx, (q.bind rel).imp fun b h1 μ1 H1 g1 _ ⟨rel1, q1⟩ y rb => q1 _ μ1 H1 .refl (rel1.set rb)⟩)
theorem xs_pass {pos : Pos} : PSs Y [.Pass pos] (tsX X i (fun _ _ => mNx) a cls d) :=
  pss_one (ps_imp ps_pass fun D σ H ⟨hj, ρ, L, μ, h, c, fs, rel, rx, q⟩ => q σ μ H .refl rel)
end
end Rh

set_option Elab.async false
set_option linter.all false
set_option maxRecDepth 100000
set_option maxHeartbeats 2000000
set_option autoImplicit false
namespace Rh
open PySem PySem.Spec PyProof.Rows L2
variable [Tbs]
section
variable {X : Cx}
theorem op_inQ (hu : X.A.units + 65 < cLine) : OpR X (compareOp .In) (rInQ X.K false) := by
  intro pins s σ H x y v u Q I rx ry h
  obtain ⟨d, ds, hd, he, sd, q⟩ := h
  obtain ⟨as, r1⟩ := Dp.reads I d x v hd rx
  rcases he with ⟨he, se⟩ | ⟨he, se⟩
  · obtain ⟨bs, r2⟩ := Dp.reads I (.list ds) y u he ry
    exact SeqAt.in_list_reads r2 r1 (SeqAt.canLay_of_shaped se) (SeqAt.canLay_of_shaped sd) (room_in_shaped sd hu) ⟨.bl _, H, I, rfl, q⟩
  · obtain ⟨bs, r2⟩ := Dp.reads I (.tuple ds) y u he ry
    exact SeqAt.in_tuple_reads r2 r1 (SeqAt.canLay_of_shaped (d := .list ds) se) (SeqAt.canLay_of_shaped sd) (room_in_shaped sd hu) ⟨.bl _, H, I, rfl, q⟩
theorem op_notInQ (hu : X.A.units + 65 < cLine) : OpR X (compareOp .NotIn) (rInQ X.K true) := by
  intro pins s σ H x y v u Q I rx ry h
  obtain ⟨d, ds, hd, he, sd, q⟩ := h
  obtain ⟨as, r1⟩ := Dp.reads I d x v hd rx
  rcases he with ⟨he, se⟩ | ⟨he, se⟩
  · obtain ⟨bs, r2⟩ := Dp.reads I (.list ds) y u he ry
    exact SeqAt.notIn_list_reads r2 r1 (SeqAt.canLay_of_shaped se) (SeqAt.canLay_of_shaped sd) (room_in_shaped sd hu) ⟨.bl _, H, I, rfl, q⟩
  · obtain ⟨bs, r2⟩ := Dp.reads I (.tuple ds) y u he ry
    exact SeqAt.notIn_tuple_reads r2 r1 (SeqAt.canLay_of_shaped (d := .list ds) se) (SeqAt.canLay_of_shaped sd) (room_in_shaped sd hu) ⟨.bl _, H, I, rfl, q⟩
end
/-! ### words for a text's operators and built-in functions -/
def dAdd : Hs → D → D → Option Nv := fun h d e => match dInt (fun i j => .int (i + j)) h d e with | some n => some n | none => (fun h d e => match dCatT h d e with | some n => some n | none => dCatL h d e) h d e
def dSub : Hs → D → D → Option Nv := dInt fun i j => .int (i - j)
def dMod : Hs → D → D → Option Nv := dIntC (fun _ j => decide (0 < j)) fun i j => .int (i % j)
def dLt : Hs → D → D → Option Nv := dInt fun i j => .bl (decide (i < j))
def dLe : Hs → D → D → Option Nv := dInt fun i j => .bl (decide (i ≤ j))
def dGt : Hs → D → D → Option Nv := dInt fun i j => .bl (decide (j < i))
def dGe : Hs → D → D → Option Nv := dInt fun i j => .bl (decide (j ≤ i))
def dIn (neg : Bool) : Hs → D → D → Option Nv := fun h d e => match dInQ neg h d e with | some n => some n | none => dInD neg h d e
def dIx : Hs → D → D → Option Nv := fun h d e => match dIxT h d e with | some n => some n | none => (fun h d e => match dIxL h d e with | some n => some n | none => dIxD h d e) h d e
def dLenA : Hs → List D → Option Nv := fun h d => match dLen h d with | some n => some n | none => dLenD h d
def dListA : Hs → List D → Option Nv := fun h d => match dList h d with | some n => some n | none => dListD h d
section
variable {X : Cx} {W : WX} {a b : Expr} {ma mb : M D} {pos : Pos} {k : Nat}
theorem hu_of (hr : Room k X.A) : X.A.units + 65 < cLine := by have := hr.un; omega
theorem hu_of4 (hr : Room k X.A) : X.A.units + 64 < cLine := by have := hr.un; omega
/-- a comparison by its operator -/
structure CmpW (X : Cx) (op : CmpOp) (f : Hs → D → D → Option Nv) : Prop where
  ex : ∃ r : R2, OpR X (compareOp op) r ∧ Cov2 (ctX X) r f
theorem w_lt : CmpW X .Lt dLt := ⟨_, op_lt, cov_rI0 fun _ _ => rfl⟩
theorem w_le : CmpW X .LtE dLe := ⟨_, op_le, cov_rI0 fun _ _ => rfl⟩
theorem w_gt : CmpW X .Gt dGt := ⟨_, op_gt, cov_rI0 fun _ _ => rfl⟩
theorem w_ge : CmpW X .GtE dGe := ⟨_, op_ge, cov_rI0 fun _ _ => rfl⟩
theorem w_eq (hr : Room k X.A) : CmpW X .Eq (dEq false) := ⟨_, op_eqD (hu_of4 hr), cov_eq⟩
theorem w_ne (hr : Room k X.A) : CmpW X .NotEq (dEq true) := ⟨_, op_neD (hu_of4 hr), cov_ne⟩
theorem w_in (hr : Room k X.A) : CmpW X .In (dIn false) := ⟨_, OpR.or' (op_inQ (hu_of hr)) (op_inDct (hu_of hr)), cov_inQ.or cov_inD⟩
theorem w_nin (hr : Room k X.A) : CmpW X .NotIn (dIn true) := ⟨_, OpR.or' (op_notInQ (hu_of hr)) (op_notInDct (hu_of hr)), cov_inQ.or cov_inD⟩
theorem w_is : CmpW X .Is (dIs false) := ⟨_, op_isN, cov_is⟩
theorem w_isn : CmpW X .IsNot (dIs true) := ⟨_, op_notN, cov_isnot⟩
theorem e_cmpW {op : CmpOp} {f : Hs → D → D → Option Nv} (c : CmpW X op f) (hm : behindInMarks op b = false) (ha : PE X a (rd X W ma)) (hb : PE X b (rd X W mb)) : PE X (.Compare a [op] [b] pos) (rd X W (mOp2 f ma mb)) := by
  obtain ⟨r, h1, h2⟩ := c.ex
  exact e_cmp h1 h2 hm ha hb
theorem t_cmpW {op : CmpOp} {f : Hs → D → D → Option Nv} (c : CmpW X op f) (hm : behindInMarks op b = false) (ha : PE X a (rd X W ma)) (hb : PE X b (rd X W mb)) : PT X (.Compare a [op] [b] pos) (rdT X W (mB (mOp2 f ma mb))) := by
  obtain ⟨r, h1, h2⟩ := c.ex
  exact t_cmp h1 h2 hm ha hb
theorem b_add (ha : PE X a (rd X W ma)) (hb : PE X b (rd X W mb)) : PE X (.BinOp a .Add b pos) (rd X W (mOp2 dAdd ma mb)) :=
  e_bin (OpR.or' op_add (OpR.or' op_catA op_cat)) ((cov_rI0 fun _ _ => rfl).or (cov_catT.or cov_catL)) ha hb
theorem b_sub (ha : PE X a (rd X W ma)) (hb : PE X b (rd X W mb)) : PE X (.BinOp a .Sub b pos) (rd X W (mOp2 dSub ma mb)) := e_bin op_sub (cov_rI0 fun _ _ => rfl) ha hb
theorem b_mod (ha : PE X a (rd X W ma)) (hb : PE X b (rd X W mb)) : PE X (.BinOp a .Mod b pos) (rd X W (mOp2 dMod ma mb)) := e_bin op_mod (cov_rI (fun _ _ h => of_decide_eq_true h) fun _ _ => rfl) ha hb
theorem x_ix (hr : Room k X.A) (ha : PE X a (rd X W ma)) (hb : PE X b (rd X W mb)) (hs : PlainIx b := by exact fun _ _ => rfl) : PE X (.Subscript a b pos) (rd X W (mOp2 dIx ma mb)) :=
  e_ix (IxR.or' ix_tup (IxR.or' ix_list (ix_dct (hu_of hr)))) (cov_ixT.or (cov_ixL.or cov_ixD)) ha hb hs
section
variable {p : Pos} {e : Expr} {es : List Expr} {ms : M (List D)}
theorem f_len (hg : Gl X "len") (hm : X.mg "len" = none) (ha : PA X (e :: es) (rdA X W ms)) (he : starEach (e :: es) X.env = (false, eval e X.env) :: starEach es X.env := by rfl) (hpl : (backTo pos (starEach es X.env)).any (·.1) = false := by rfl) :
    PE X (.Call (.Name "len" p) (e :: es) [] pos) (rd X W (mOpA dLenA ms)) := e_callB (CallR.or call_len_seq call_lenD) (cov_len.or cov_lenD) boot_len hg hm ha (by decide) (by decide) he hpl
theorem f_list (hc : X.calm = true) (hv : bootBuiltins "list" = some (.type "list")) (hg : Gl X "list") (hm : X.mg "list" = none) (ha : PA X (e :: es) (rdA X W ms)) (he : starEach (e :: es) X.env = (false, eval e X.env) :: starEach es X.env := by rfl) (hpl : (backTo pos (starEach es X.env)).any (·.1) = false := by rfl) :
    PE X (.Call (.Name "list" p) (e :: es) [] pos) (rd X W (mOpA dListA ms)) := e_callTy (CallR.or call_list_of (call_listD hc)) (cov_list.or cov_listD) hv hg hm ha (by decide) (by decide) he hpl
theorem f_tuple (hv : bootBuiltins "tuple" = some (.type "tuple")) (hg : Gl X "tuple") (hm : X.mg "tuple" = none) (ha : PA X (e :: es) (rdA X W ms)) (he : starEach (e :: es) X.env = (false, eval e X.env) :: starEach es X.env := by rfl) (hpl : (backTo pos (starEach es X.env)).any (·.1) = false := by rfl) :
    PE X (.Call (.Name "tuple" p) (e :: es) [] pos) (rd X W (mOpA dTuple ms)) := e_callTy call_tuple_of cov_tuple hv hg hm ha (by decide) (by decide) he hpl
theorem f_int (hv : bootBuiltins "int" = some (.type "int")) (hg : Gl X "int") (hm : X.mg "int" = none) (ha : PA X (e :: es) (rdA X W ms)) (he : starEach (e :: es) X.env = (false, eval e X.env) :: starEach es X.env := by rfl) (hpl : (backTo pos (starEach es X.env)).any (·.1) = false := by rfl) :
    PE X (.Call (.Name "int" p) (e :: es) [] pos) (rd X W (mOpA dInt1 ms)) := e_callTy call_int1 cov_int hv hg hm ha (by decide) (by decide) he hpl
theorem f_abs (hv : bootBuiltins "abs" = some (.builtin "abs")) (hg : Gl X "abs") (hm : X.mg "abs" = none) (ha : PA X (e :: es) (rdA X W ms)) (he : starEach (e :: es) X.env = (false, eval e X.env) :: starEach es X.env := by rfl) (hpl : (backTo pos (starEach es X.env)).any (·.1) = false := by rfl) :
    PE X (.Call (.Name "abs" p) (e :: es) [] pos) (rd X W (mOpA dAbs ms)) := e_callB call_abs cov_abs hv hg hm ha (by decide) (by decide) he hpl
theorem f_all (hc : X.calm = true) (hv : bootBuiltins "all" = some (.builtin "all")) (hg : Gl X "all") (hm : X.mg "all" = none) (ha : PA X (e :: es) (rdA X W ms)) (he : starEach (e :: es) X.env = (false, eval e X.env) :: starEach es X.env := by rfl) (hpl : (backTo pos (starEach es X.env)).any (·.1) = false := by rfl) :
    PE X (.Call (.Name "all" p) (e :: es) [] pos) (rd X W (mOpA dAll ms)) := e_callB (cr_all hc) cov_all hv hg hm ha (by decide) (by decide) he hpl
theorem f_any (hc : X.calm = true) (hv : bootBuiltins "any" = some (.builtin "any")) (hg : Gl X "any") (hm : X.mg "any" = none) (ha : PA X (e :: es) (rdA X W ms)) (he : starEach (e :: es) X.env = (false, eval e X.env) :: starEach es X.env := by rfl) (hpl : (backTo pos (starEach es X.env)).any (·.1) = false := by rfl) :
    PE X (.Call (.Name "any" p) (e :: es) [] pos) (rd X W (mOpA dAny ms)) := e_callB (cr_any hc) cov_any hv hg hm ha (by decide) (by decide) he hpl
theorem f_isi (hv : bootBuiltins "isinstance" = some (.builtin "isinstance")) (hg : Gl X "isinstance") (hm : X.mg "isinstance" = none) (ha : PA X (e :: es) (rdA X W ms)) (he : starEach (e :: es) X.env = (false, eval e X.env) :: starEach es X.env := by rfl) (hpl : (backTo pos (starEach es X.env)).any (·.1) = false := by rfl) :
    PE X (.Call (.Name "isinstance" p) (e :: es) [] pos) (rd X W (mOpA dIsi ms)) := e_callB (CallR.or call_isi (CallR.or call_isiT call_isiK)) cov_isi hv hg hm ha (by decide) (by decide) he hpl
end
end
section
variable {X : Cx} {W : WX} {e a b c : Expr} {ma mb mc : M D} {pos : Pos}
theorem e_chainW {op op' : CmpOp} {f g : Hs → D → D → Option Nv} (c1 : CmpW X op f) (c2 : CmpW X op' g) (ha : PE X a (rd X W ma)) (hb : PE X b (rd X W mb)) (hc : PE X c (rd X W mc)) (hm : lastMarks [op, op'] [b, c] = false := by with_unfolding_all rfl) :
    PE X (.Compare a [op, op'] [b, c] pos) (rd X W (mChain f g ma mb mc)) := by
  obtain ⟨r, h1, h2⟩ := c1.ex
  obtain ⟨r', h3, h4⟩ := c2.ex
  exact e_chain h1 h3 h2 h4 ha hb hc hm
theorem t_chainW {op op' : CmpOp} {f g : Hs → D → D → Option Nv} (c1 : CmpW X op f) (c2 : CmpW X op' g) (ha : PE X a (rd X W ma)) (hb : PE X b (rd X W mb)) (hc : PE X c (rd X W mc)) (hm : lastMarks [op, op'] [b, c] = false := by with_unfolding_all rfl) :
    PT X (.Compare a [op, op'] [b, c] pos) (rdT X W (mB (mChain f g ma mb mc))) := by
  obtain ⟨r, h1, h2⟩ := c1.ex
  obtain ⟨r', h3, h4⟩ := c2.ex
  exact t_chain h1 h3 h2 h4 ha hb hc hm
def dNeg : Hs → D → Option Nv := fun _ d => match d with
  | .int i => some (.v (.int (-i)))
  | _ => none
theorem cov_neg {C : Ct} : Cov1 C (rU fun i => .int (-i)) dNeg := by
  intro H L μ h x d n Q hr r hf want
  unfold dNeg at hf
  split at hf
  · cases hf
    rename_i i
    cases (show x = V.int i from r)
    exact ⟨i, rfl, want.old rfl⟩
  · cases hf
theorem u_neg (ha : PE X a (rd X W ma)) : PE X (.UnaryOp .USub a pos) (rd X W (mOp1 dNeg ma)) := e_un un_neg cov_neg ha
theorem tkF {X : Cx} : Takes X WF := fun _ _ x => by
  obtain ⟨_, _, _, _, _, _, _, _, _, _, _, _, _, _, _, _, z⟩ := x
  exact z.elim
end
/-! ### a def that calls itself: by how deep it may -/
def fuelF (N : List Str) (m : FM → MS) : Nat → FM
  | 0 => fun _ _ => none
  | n + 1 => runDef N.length (m (fuelF N m n))
theorem fn_none {P : Program} {C : Ct} {base : Heap} {ps : List Str} {k np : Nat} {f : Addr} {fd : FuncData} (hp : ps.length = np) : FnOk P C.w C.K C.mg base (L2.CX P C.w) k f fd ps (spF C np fun _ _ => none) :=
  ⟨fun vs H Q E ⟨L, μ, h, as, q, _⟩ => q.trans hp.symm, fun A outer s H args us vs Q E hr e0 hb r ⟨L, μ, h, as, h1, h2, h3, h4⟩ => False.elim h4⟩
theorem fn_recK {P : Program} {w : World} {K : PySem.W.Frag} {mg : Str → Option Value} {base : Heap} {N ps : List Str} {np : Nat} {f : Addr} {fd : FuncData} {m : FM → MS} (hp : ps.length = np) (k0 : Nat)
    (step : ∀ (j : Nat) (g : FM), FnOk P w K mg base (L2.CX P w) (k0 + j) f fd ps (spF ⟨w, K, mg⟩ np g) → FnOk P w K mg base (L2.CX P w) (k0 + j + 1) f fd ps (spF ⟨w, K, mg⟩ np (runDef N.length (m g)))) :
    ∀ n : Nat, FnOk P w K mg base (L2.CX P w) (k0 + n) f fd ps (spF ⟨w, K, mg⟩ np (fuelF N m n))
  | 0 => fn_none (C := ⟨w, K, mg⟩) hp
  | n + 1 => step n (fuelF N m n) (fn_recK hp k0 step n)
theorem names_of {X : Cx} {x : Str} {v : Value} (hg : Gl X x) (g : X.mg x = some v) (hd : (x == ("__debug__" : Str)) = false := by decide) : Names X x ((X.mg x).getD .none) := ⟨hg, hd, .inl (by rw [g]; rfl)⟩
end Rh

set_option Elab.async false
set_option linter.all false
set_option maxRecDepth 100000
set_option maxHeartbeats 2000000
set_option autoImplicit false
namespace Rh
open PySem PySem.Spec PyProof.Rows L2
variable [Tbs]

/-! ### slices -/
def rdO (X : Cx) (W : WX) (m : M (Option Int)) : TO := fun σ H Q => rdG X W m σ H fun _ _ o _ _ H' => Q o H'
def mPart (m : M D) : M (Option Int) := mBind m fun d => fun _ h => match d with
  | .int i => some (.ok (some i) h)
  | _ => none
def cutD (xs : List D) (lo hi : Option Int) : List D := (xs.drop (HT.sIx xs.length 0 lo)).take (HT.sIx xs.length xs.length hi - HT.sIx xs.length 0 lo)
def dSl (h : Hs) (d : D) (lo hi : Option Int) : Option Nv := match d with
  | .tup ds => some (.v (.tup (cutD ds lo hi)))
  | d => (lstD h d).map fun ds => .n (.lst (cutD ds lo hi))
def mSl (m : M D) (lo hi : M (Option Int)) : M D := mBind m fun d => mBind lo fun l => mBind hi fun u => fun _ h => lift h (dSl h d l u)
theorem cut_all {α : Type} (xs : List α) {lo hi : Option Int} (h : HT.sIx xs.length 0 lo = 0 ∧ HT.sIx xs.length xs.length hi = xs.length) : (xs.drop (HT.sIx xs.length 0 lo)).take (HT.sIx xs.length xs.length hi - HT.sIx xs.length 0 lo) = xs := by
  rw [h.1, h.2, List.drop_zero, Nat.sub_zero, List.take_length]
section
variable {X : Cx} {W : WX} {C : Ct} {L : List Nat} {μ : Mu} {H : Hp} {h : Hs} {Q : VK}
theorem po_imp {e : Option Expr} {t t' : TO} (p : PO X e t) (h : ∀ σ H Q, t' σ H Q → t σ H Q) : PO X e t' := ⟨fun pins s σ H Q I q => p.run pins s σ H Q I (h _ _ _ q)⟩
theorem o_none : PO X none (rdO X W (mPure none)) := po_imp po_none fun σ H Q q => let ⟨_, _, _, _, _, k⟩ := rdG_pure q; k
theorem o_some {e : Expr} {m : M D} (h : PE X e (rd X W m)) : PO X (some e) (rdO X W (mPart m)) := po_imp (po_some h) fun σ H Q q => rdG_imp (rdG_bind q) fun ρ L d h1 μ1 H1 ⟨rel1, q1⟩ x rx => by
  split at q1
  · exact ⟨_, rx, q1 μ1 H1 .refl rel1.hr⟩
  · exact q1.none
theorem RepL.cut {ds : List D} {vs : List V} {lo hi : Option Int} (q : RepL C μ H ds vs) : RepL C μ H (cutD ds lo hi) (cutV vs lo hi) := by
  unfold cutD cutV
  rw [q.length]
  exact (q.drop _).take _
theorem sl_cov {d : D} {x : V} {lo hi : Option Int} {n : Nv} (hr : HR C L μ H h) (r : RepV C μ H d x) (e : dSl h d lo hi = some n) (want : Want C μ H n Q) : rSlL C.K x lo hi H Q ∨ rSlA C.K x lo hi H Q := by
  unfold dSl at e
  split at e
  · rename_i ds
    obtain ⟨a, vs, rfl, t, q⟩ := (show RepV C μ H (.tup ds) x from r)
    cases e
    refine .inr ⟨a, vs, rfl, t.sq, fun h => ?_, fun h p hp => want.tup q.cut hp⟩
    rw [q.length] at h
    rw [show cutD ds lo hi = ds from cut_all ds h] at want
    exact want.old ⟨a, vs, rfl, t, q⟩
  · obtain ⟨ds, e1, rfl⟩ := Option.map_eq_some_iff.mp e
    obtain ⟨a, vs, rfl, t, q⟩ := lstD_ok hr r e1
    exact .inl ⟨a, vs, rfl, t, fun p hp => want.lst q.cut hp⟩
theorem e_slice {e : Expr} {lo hi : Option Expr} {m : M D} {ml mh : M (Option Int)} {p2 pos : Pos} (he : PE X e (rd X W m)) (hl : PO X lo (rdO X W ml)) (hu : PO X hi (rdO X W mh)) : PE X (.Subscript e (.Slice lo hi none p2) pos) (rd X W (mSl m ml mh)) := by
  refine pe_imp (pe_slice (sl_list.or sl_tupA) he hl hu) fun σ H Q ⟨ρ, L, μ, h, rel, q⟩ => ⟨ρ, L, μ, h, rel, (q.bind rel).imp fun d h1 μ1 H1 g1 _ ⟨_, rel1, q1⟩ x rx => ⟨ρ, L, μ1, h1, rel1, (q1.bind rel1).imp fun l h2 μ2 H2 g2 _ ⟨_, rel2, q2⟩ => ⟨ρ, L, μ2, h2, rel2, (q2.bind rel2).imp fun u h3 μ3 H3 g3 _ ⟨_, rel3, q3⟩ => ?_⟩⟩⟩
  obtain ⟨n, en, want⟩ := Sat.lift rel3.hr q3
  exact sl_cov rel3.hr ((rx.go rel1.hr g2).go rel2.hr g3) en want
/-! ### keywords -/
theorem kk_nil : PK X [] (rdA X W mNil) := ⟨fun pos pins s σ H Q I q => by
  obtain ⟨_, _, _, _, _, k⟩ := rdG_pure q
  exact pk_nil.run pos pins s σ H Q I (k [] rfl)⟩
theorem kk_cons {nm : Option Str} {e : Expr} {kpos : Pos} {kws : List Keyword} {m : M D} {ms : M (List D)} (ha : PE X e (rd X W m)) (hr : PK X kws (rdA X W ms)) : PK X (⟨nm, e, kpos⟩ :: kws) (rdA X W (mCons m ms)) :=
  ⟨fun pos pins s σ H Q I q => (pk_cons ha hr).run pos pins s σ H Q I (rd_cons q)⟩
end
def permL {α : Type} (pm : List Nat) (xs : List α) : List α := pm.filterMap fun i => xs[i]?
theorem vals_perm {vs : List V} {us : List Value} (r : Vals vs us) : ∀ pm : List Nat, Vals (permL pm vs) (permL pm us)
  | [] => .nil
  | i :: pm => by
    have ih := vals_perm r pm
    have hl := r.length
    show Vals ((i :: pm).filterMap _) ((i :: pm).filterMap _)
    rw [List.filterMap_cons, List.filterMap_cons]
    by_cases h : i < vs.length
    · obtain ⟨u, e, ru⟩ := r.get (List.getElem?_eq_getElem h)
      rw [List.getElem?_eq_getElem h, e]
      exact .cons ru ih
    · rw [List.getElem?_eq_none (Nat.le_of_not_lt h), List.getElem?_eq_none (by omega)]
      exact ih
theorem RepL.perm {C : Ct} {μ : Mu} {H : Hp} {ds : List D} {vs : List V} (r : RepL C μ H ds vs) : ∀ pm : List Nat, RepL C μ H (permL pm ds) (permL pm vs)
  | [] => rfl
  | i :: pm => by
    have ih := RepL.perm r pm
    have hl := r.length
    show RepL C μ H ((i :: pm).filterMap _) ((i :: pm).filterMap _)
    rw [List.filterMap_cons, List.filterMap_cons]
    by_cases h : i < ds.length
    · obtain ⟨u, e, ru⟩ := r.get (List.getElem?_eq_getElem h)
      rw [List.getElem?_eq_getElem h, e]
      exact ⟨u, _, rfl, ru, ih⟩
    · rw [List.getElem?_eq_none (Nat.le_of_not_lt h), List.getElem?_eq_none (by omega)]
      exact ih
def pmF {α : Type} (nu nw : Nat) (pm : List Nat) (us ws : List α) : List α := if us.length = nu ∧ ws.length = nw then permL pm (us ++ ws) else []
abbrev KwC (K : PySem.W.Frag) (fd : FuncData) (ps ks : List Str) (nu nw : Nat) (pm : List Nat) : Prop := KBinds K fd ps ks (pmF nu nw pm) (pmF nu nw pm)
theorem kwc_of {K : PySem.W.Frag} {x qual : Str} {st : Stmt} {f : Addr} {fd : FuncData} {ps ks : List Str} {nu nw : Nat} {pm : List Nat} (F : Fun K x qual st f fd) (hp : 0 < ps.length)
    (h : ∀ (kV doc pm' : Value) (an : Option Addr) (cdv ct : Value) (us ws : List Value), us.length = nu → ws.length = nw → bindArgs (PySem.W.fnOf x qual (defArgs st) (defBody st) (defScope st) .none kV doc pm' an cdv ct) ⟨us, ks.zip ws⟩ = pure (ps.zip (permL pm (us ++ ws)))) : KwC K fd ps ks nu nw pm := by
  obtain ⟨oc, od, kV, doc, pm', an, cdv, ct, osl, rfl, lk, hcd⟩ := F.ex
  refine ⟨fun s us ws _ hl => ?_, fun {vs zs us ws} r rz => ?_⟩
  · unfold pmF at hl ⊢
    split at hl
    · rename_i c
      rw [if_pos c]
      exact .of_eq (h kV doc pm' an cdv ct us ws c.1 c.2)
    · exact absurd hl (by simp only [List.length_nil]; omega)
  · unfold pmF
    rw [r.length, rz.length]
    split
    · exact vals_perm (r.append rz) pm
    · exact .nil
theorem pmF_len {α β : Type} {nu nw : Nat} {pm : List Nat} {as bs : List α} {vs zs : List β} (h1 : as.length = nu) (h2 : bs.length = nw) (e1 : vs.length = as.length) (e2 : zs.length = bs.length) : pmF nu nw pm vs zs = permL pm (vs ++ zs) := by
  unfold pmF
  rw [if_pos ⟨e1.trans h1, e2.trans h2⟩]
def mCallK (f : FM) (nu nw : Nat) (pm : List Nat) (np : Nat) (ms ks : M (List D)) : M D := mBind ms fun as => mBind ks fun bs => fun _ h => if as.length = nu ∧ bs.length = nw ∧ (permL pm (as ++ bs)).length = np then (match f (permL pm (as ++ bs)) h with
  | none => none
  | some (.rt d h') => some (.ok d h')
  | some (.ex c fs h') => some (.ex c fs h')) else none
section
variable {X : Cx} {W : WX} {k np nu nw : Nat} {f : Addr} {fd : FuncData} {ps ks : List Str} {pm : List Nat} {fm : FM} {x : Str} {p pos : Pos} {e : Expr} {es : List Expr} {kws : List Keyword} {ms mk : M (List D)} {σ : L2.St} {H : Hp} {Q : VK}
theorem run_kwc {pins : List (Addr × Obj)} {s : Shared} {us ws : List Value} {vs zs : List V} (F : FnOk X.prog X.w X.K X.mg X.base (L2.CX X.prog X.w) k f fd ps (spF (ctX X) np fm)) (hr : Room k X.A) (hb : KwC X.K fd ps ks nu nw pm) (tk : Takes X W)
    (I : L2.Inv X pins σ H s) (r : Vals vs us) (rz : Vals zs ws) (h : spF (ctX X) np fm (pmF nu nw pm vs zs) H Q (fun cls d H' => W cls d σ H')) : wpAny (model X.prog X.w) X.A (call (.ref f) us (ks.zip ws)) (EP X pins σ Q) X.xe s := by
  have r2 := hb.rel r rz
  have hl : (pmF nu nw pm us ws).length = ps.length := by rw [← r2.length]; exact F.len _ _ _ _ h
  refine wpAny_call (codeAny_mono (F.run X.A X.stack s H ⟨us, ks.zip ws⟩ (pmF nu nw pm us ws) (pmF nu nw pm vs zs) Q _ hr I.env0 (hb.to s us ws I.kIn hl) r2 h) fun r s' hq => ?_)
  cases r with
  | error e => exact passes_at tk σ pins H s e s' I hq
  | ok fl =>
    cases fl with
    | ret u => exact I.after hq
    | next => exact False.elim hq
    | brk => exact False.elim hq
    | cont => exact False.elim hq
theorem e_kwc (F : FnOk X.prog X.w X.K X.mg X.base (L2.CX X.prog X.w) k f fd ps (spF (ctX X) np fm)) (hr : Room k X.A) (hm : X.mg x = some (.ref f)) (hk : PySem.W.keepIn X.K (.ref f) = true) (hb : KwC X.K fd ps ks nu nw pm) (tk : Takes X W) (hg : Gl X x)
    (ha : PA X (e :: es) (rdA X W ms)) (hkw : PK X kws (rdA X W mk)) (hall : (backToKw pos (keywordEach kws X.env)).all (·.1.isSome) = true := by rfl) (hks : (backToKw pos (keywordEach kws X.env)).filterMap (·.1) = ks := by rfl)
    (hdb : (x == ("__debug__" : Str)) = false := by decide) (he : starEach (e :: es) X.env = (false, eval e X.env) :: starEach es X.env := by rfl)
    (hpl : ((backTo pos (starEach (e :: es) X.env)).any (·.1) || (backToKw pos (keywordEach kws X.env)).any (·.1.isNone)) = false := by rfl) :
    PE X (.Call (.Name x p) (e :: es) kws pos) (rd X W (mCallK fm nu nw pm np ms mk)) := by
  refine ⟨fun pins s σ H Q I q => ?_⟩
  refine wpAny_Call_Name_kw (ld_glob I hg hm ?_ hdb)
  have q2 : rdA X W ms σ H fun vs H1 => rdA X W mk σ H1 fun zs H2 => spF (ctX X) np fm (pmF nu nw pm vs zs) H2 Q (fun cls d H' => W cls d σ H') := by
    obtain ⟨ρ, L, μ, h, rel, q⟩ := q
    refine ⟨ρ, L, μ, h, rel, (q.bind rel).imp fun as h1 μ1 H1 g1 _ ⟨_, rel1, q1⟩ vs rs => ⟨ρ, L, μ1, h1, rel1, (q1.bind rel1).imp fun bs h2 μ2 H2 g2 _ ⟨_, rel2, q2⟩ zs rz => ?_⟩⟩
    split at q2
    · rename_i hl
      rw [pmF_len hl.1 hl.2.1 rs.length rz.length]
      exact sp_of hl.2.2 rel2.hr (((rs.go rel1.hr g2).append rz).perm pm) q2
    · exact q2.none
  refine PySem.W.callWith_KW (h₀ := X.base) I.ok.mod.kin hk hall (thn (ha.run pos pins s σ H _ I q2) fun us s1 ⟨vs, H1, I1, r, q⟩ => ?_) hpl he
  refine thn (hkw.run pos pins s1 σ H1 _ I1 q) fun ws s2 ⟨zs, H2, I2, rz, q2⟩ => ⟨I2.kIn, ?_⟩
  rw [hks]
  exact run_kwc F hr hb tk I2 r rz q2
theorem e_kwc0 (F : FnOk X.prog X.w X.K X.mg X.base (L2.CX X.prog X.w) k f fd ps (spF (ctX X) np fm)) (hr : Room k X.A) (hm : X.mg x = some (.ref f)) (hk : PySem.W.keepIn X.K (.ref f) = true) (hb : KwC X.K fd ps ks nu nw pm) (tk : Takes X W) (hg : Gl X x)
    (hkw : PK X kws (rdA X W mk)) (hall : (backToKw pos (keywordEach kws X.env)).all (·.1.isSome) = true := by rfl) (hks : (backToKw pos (keywordEach kws X.env)).filterMap (·.1) = ks := by rfl)
    (hdb : (x == ("__debug__" : Str)) = false := by decide) (hpl : ((backTo pos (starEach [] X.env)).any (·.1) || (backToKw pos (keywordEach kws X.env)).any (·.1.isNone)) = false := by rfl) :
    PE X (.Call (.Name x p) [] kws pos) (rd X W (mCallK fm nu nw pm np mNil mk)) := by
  refine ⟨fun pins s σ H Q I q => ?_⟩
  refine wpAny_Call_Name_kw (ld_glob I hg hm ?_ hdb)
  have q2 : rdA X W mk σ H fun zs H2 => spF (ctX X) np fm (pmF nu nw pm [] zs) H2 Q (fun cls d H' => W cls d σ H') := by
    obtain ⟨ρ, L, μ, h, rel, q⟩ := q
    have q := (q.bind rel) μ H .refl rel.hr
    obtain ⟨_, rel, q⟩ := q
    refine ⟨ρ, L, μ, h, rel, (q.bind rel).imp fun bs h2 μ2 H2 g2 _ ⟨_, rel2, q2⟩ zs rz => ?_⟩
    split at q2
    · rename_i hl
      rw [show pmF nu nw pm ([] : List V) zs = permL pm ([] ++ zs) from pmF_len (as := ([] : List D)) hl.1 hl.2.1 rfl rz.length]
      exact sp_of hl.2.2 rel2.hr (RepL.perm rz pm) q2
    · exact q2.none
  refine PySem.W.callWith_KW0 (h₀ := X.base) I.ok.mod.kin hk hall (thn (hkw.run pos pins s σ H _ I q2) fun ws s1 ⟨zs, H1, I1, rz, q⟩ => ⟨I1.kIn, ?_⟩) hpl
  rw [hks]
  exact run_kwc F hr hb tk I1 .nil rz q
end
/-! ### list(range(..)), tuple(range(..)) -/
theorem repL_ints {C : Ct} {μ : Mu} {H : Hp} : ∀ is : List Int, RepL C μ H (is.map D.int) (is.map V.int)
  | [] => rfl
  | i :: is => ⟨.int i, is.map V.int, rfl, rfl, repL_ints is⟩
def rgI (a b : Int) : List Int := (List.range (b - a).toNat).map fun i => a + (i : Nat)
theorem rgV_I (a b : Int) : rgV a b = (rgI a b).map V.int := by unfold rgV rgI; rw [List.map_map]; rfl
def rgOkB (a b : Int) : Bool := decide (-1000000 ≤ a ∧ a ≤ 1000000 ∧ -1000000 ≤ b ∧ b ≤ 1000000)
theorem rgOk_of {a b : Int} (h : rgOkB a b = true) : RgOk a b := by
  unfold rgOkB at h
  have := of_decide_eq_true h
  unfold RgOk
  omega
def dRg1 (g : List D → Nv) (_ : Hs) (d : D) : Option Nv := match d with
  | .int n => if rgOkB 0 n = true then some (g ((rgI 0 n).map .int)) else none
  | _ => none
def dRg2 (g : List D → Nv) (_ : Hs) (d e : D) : Option Nv := match d, e with
  | .int m, .int n => if rgOkB m n = true then some (g ((rgI m n).map .int)) else none
  | _, _ => none
def dRgL1 := dRg1 fun ds => .n (.lst ds)
def dRgT1 := dRg1 fun ds => .v (.tup ds)
def dRgL2 := dRg2 fun ds => .n (.lst ds)
def dRgT2 := dRg2 fun ds => .v (.tup ds)
section
variable {X : Cx} {W : WX} {C : Ct} {a b : Expr} {ma mb : M D} {pos p p2 pos2 : Pos}
theorem cov_rg1 {g : List D → Nv} {o : List V → HO} (k : ∀ (is : List Int) (μ : Mu) (H : Hp) (Q : VK) (q : Addr), Want C μ H (g (is.map .int)) Q → H q = none → Q (.ref q) (upd H q (o (is.map V.int)))) : Cov1 C (fun x H Q => ∃ n, x = .int n ∧ RgOk 0 n ∧ ∀ q, H q = none → Q (.ref q) (upd H q (o (rgV 0 n)))) (dRg1 g) := by
  intro H L μ h x d n Q hr r1 hf want
  unfold dRg1 at hf
  split at hf
  · split at hf
    · rename_i h; cases hf
      cases (show x = V.int _ from r1)
      exact ⟨_, rfl, rgOk_of h, fun q hq => by rw [rgV_I]; exact k _ _ _ _ q want hq⟩
    · cases hf
  · cases hf
theorem cov_rg2 {g : List D → Nv} {o : List V → HO} (k : ∀ (is : List Int) (μ : Mu) (H : Hp) (Q : VK) (q : Addr), Want C μ H (g (is.map .int)) Q → H q = none → Q (.ref q) (upd H q (o (is.map V.int)))) : Cov2 C (fun x y H Q => ∃ m n, x = .int m ∧ y = .int n ∧ RgOk m n ∧ ∀ q, H q = none → Q (.ref q) (upd H q (o (rgV m n)))) (dRg2 g) := by
  intro H L μ h x y d e n Q hr r1 r2 hf want
  unfold dRg2 at hf
  split at hf
  · split at hf
    · rename_i h; cases hf
      cases (show x = V.int _ from r1)
      cases (show y = V.int _ from r2)
      exact ⟨_, _, rfl, rfl, rgOk_of h, fun q hq => by rw [rgV_I]; exact k _ _ _ _ q want hq⟩
    · cases hf
  · cases hf
theorem cov_rgL1 : Cov1 C (fun x H Q => ∃ n, x = .int n ∧ RgOk 0 n ∧ ∀ q, H q = none → Q (.ref q) (upd H q (.lst (rgV 0 n)))) dRgL1 := cov_rg1 fun is μ H Q q w hq => w.lst (repL_ints _) hq
theorem cov_rgT1 : Cov1 C (fun x H Q => ∃ n, x = .int n ∧ RgOk 0 n ∧ ∀ q, H q = none → Q (.ref q) (upd H q (.tup (rgV 0 n)))) dRgT1 := cov_rg1 fun is μ H Q q w hq => w.tup (repL_ints _) hq
theorem cov_rgL2 : Cov2 C (fun x y H Q => ∃ m n, x = .int m ∧ y = .int n ∧ RgOk m n ∧ ∀ q, H q = none → Q (.ref q) (upd H q (.lst (rgV m n)))) dRgL2 := cov_rg2 fun is μ H Q q w hq => w.lst (repL_ints _) hq
theorem cov_rgT2 : Cov2 C (fun x y H Q => ∃ m n, x = .int m ∧ y = .int n ∧ RgOk m n ∧ ∀ q, H q = none → Q (.ref q) (upd H q (.tup (rgV m n)))) dRgT2 := cov_rg2 fun is μ H Q q w hq => w.tup (repL_ints _) hq
theorem f_listRg1 (hc : X.calm = true) (hg : Gl X "list") (hm : X.mg "list" = none) (hg2 : Gl X "range") (hm2 : X.mg "range" = none) (ha : PE X a (rd X W ma)) (na : starEach [a] X.env = (false, eval a X.env) :: starEach [] X.env := by rfl) (nb : starEach [(.Call (.Name "range" p2) [a] [] pos2)] X.env = (false, eval (.Call (.Name "range" p2) [a] [] pos2) X.env) :: starEach [] X.env := by rfl) :
    PE X (.Call (.Name "list" p) [(.Call (.Name "range" p2) [a] [] pos2)] [] pos) (rd X W (mOp1 dRgL1 ma)) := pe_imp (pe_listRg hc hg hm (prg_1 hg2 hm2 ha na) nb) fun _ _ _ h => rd_op1 cov_rgL1 h
theorem f_listRg2 (hc : X.calm = true) (hg : Gl X "list") (hm : X.mg "list" = none) (hg2 : Gl X "range") (hm2 : X.mg "range" = none) (ha : PE X a (rd X W ma)) (hb : PE X b (rd X W mb)) (na : starEach [a, b] X.env = (false, eval a X.env) :: starEach [b] X.env := by rfl) (nc : starEach [b] X.env = (false, eval b X.env) :: starEach [] X.env := by rfl) (hp : (backTo pos2 (starEach [b] X.env)).any (·.1) = false := by rfl) (nb : starEach [(.Call (.Name "range" p2) [a, b] [] pos2)] X.env = (false, eval (.Call (.Name "range" p2) [a, b] [] pos2) X.env) :: starEach [] X.env := by rfl) :
    PE X (.Call (.Name "list" p) [(.Call (.Name "range" p2) [a, b] [] pos2)] [] pos) (rd X W (mOp2 dRgL2 ma mb)) := pe_imp (pe_listRg hc hg hm (prg_2 hg2 hm2 ha hb na nc hp) nb) fun _ _ _ h => rd_op2 cov_rgL2 h
theorem f_tupleRg1 (hc : X.calm = true) (hg : Gl X "tuple") (hm : X.mg "tuple" = none) (hg2 : Gl X "range") (hm2 : X.mg "range" = none) (ha : PE X a (rd X W ma)) (na : starEach [a] X.env = (false, eval a X.env) :: starEach [] X.env := by rfl) (nb : starEach [(.Call (.Name "range" p2) [a] [] pos2)] X.env = (false, eval (.Call (.Name "range" p2) [a] [] pos2) X.env) :: starEach [] X.env := by rfl) :
    PE X (.Call (.Name "tuple" p) [(.Call (.Name "range" p2) [a] [] pos2)] [] pos) (rd X W (mOp1 dRgT1 ma)) := pe_imp (pe_tupRg hc hg hm (prg_1 hg2 hm2 ha na) nb) fun _ _ _ h => rd_op1 cov_rgT1 h
theorem f_tupleRg2 (hc : X.calm = true) (hg : Gl X "tuple") (hm : X.mg "tuple" = none) (hg2 : Gl X "range") (hm2 : X.mg "range" = none) (ha : PE X a (rd X W ma)) (hb : PE X b (rd X W mb)) (na : starEach [a, b] X.env = (false, eval a X.env) :: starEach [b] X.env := by rfl) (nc : starEach [b] X.env = (false, eval b X.env) :: starEach [] X.env := by rfl) (hp : (backTo pos2 (starEach [b] X.env)).any (·.1) = false := by rfl) (nb : starEach [(.Call (.Name "range" p2) [a, b] [] pos2)] X.env = (false, eval (.Call (.Name "range" p2) [a, b] [] pos2) X.env) :: starEach [] X.env := by rfl) :
    PE X (.Call (.Name "tuple" p) [(.Call (.Name "range" p2) [a, b] [] pos2)] [] pos) (rd X W (mOp2 dRgT2 ma mb)) := pe_imp (pe_tupRg hc hg hm (prg_2 hg2 hm2 ha hb na nc hp) nb) fun _ _ _ h => rd_op2 cov_rgT2 h
end

/-! ### max, min, sum, sorted of ints -/
def intsD : List D → Option (List Int)
  | [] => some []
  | .int i :: ds => (intsD ds).map (i :: ·)
  | _ => none
theorem intsD_ok {C : Ct} {μ : Mu} {H : Hp} : ∀ {ds : List D} {is : List Int} {vs : List V}, RepL C μ H ds vs → intsD ds = some is → vs = is.map V.int
  | [], _, _, h, e => by cases e; exact h
  | d :: ds, is, _, ⟨v, r, rfl, h1, h2⟩, e => by
    cases d with
    | int i =>
      obtain ⟨cs, e1, rfl⟩ := Option.map_eq_some_iff.mp (show (intsD ds).map (i :: ·) = some is from e)
      rw [intsD_ok h2 e1, show v = V.int i from h1]
      rfl
    | _ => cases e
/-- the greatest, the least -/
def mxI : Int → List Int → Int
  | a, [] => a
  | a, b :: r => mxI (if b > a then b else a) r
def mnI : Int → List Int → Int
  | a, [] => a
  | a, b :: r => mnI (if b < a then b else a) r
theorem mxI_mem : ∀ (a : Int) (r : List Int), mxI a r = a ∨ mxI a r ∈ r
  | a, [] => .inl rfl
  | a, b :: r => by
    unfold mxI
    rcases mxI_mem (if b > a then b else a) r with h | h
    · rw [h]; split <;> simp
    · exact .inr (List.mem_cons_of_mem _ h)
theorem mxI_le : ∀ (a : Int) (r : List Int), a ≤ mxI a r ∧ ∀ y ∈ r, y ≤ mxI a r
  | a, [] => ⟨Int.le_refl _, fun _ h => nomatch h⟩
  | a, b :: r => by
    unfold mxI
    obtain ⟨h1, h2⟩ := mxI_le (if b > a then b else a) r
    refine ⟨?_, fun y hy => ?_⟩
    · split at h1 <;> split <;> first | omega | assumption
    · cases hy with
      | head => split at h1 <;> split <;> first | omega | assumption
      | tail _ hy => exact h2 y hy
theorem mnI_mem : ∀ (a : Int) (r : List Int), mnI a r = a ∨ mnI a r ∈ r
  | a, [] => .inl rfl
  | a, b :: r => by
    unfold mnI
    rcases mnI_mem (if b < a then b else a) r with h | h
    · rw [h]; split <;> simp
    · exact .inr (List.mem_cons_of_mem _ h)
theorem mnI_le : ∀ (a : Int) (r : List Int), mnI a r ≤ a ∧ ∀ y ∈ r, mnI a r ≤ y
  | a, [] => ⟨Int.le_refl _, fun _ h => nomatch h⟩
  | a, b :: r => by
    unfold mnI
    obtain ⟨h1, h2⟩ := mnI_le (if b < a then b else a) r
    refine ⟨?_, fun y hy => ?_⟩
    · split at h1 <;> split <;> first | omega | assumption
    · cases hy with
      | head => split at h1 <;> split <;> first | omega | assumption
      | tail _ hy => exact h2 y hy

def dMax2 (_ : Hs) : List D → Option Nv
  | [.int i, .int j] => some (.v (.int (if j > i then j else i)))
  | _ => none
def dMin2 (_ : Hs) : List D → Option Nv
  | [.int i, .int j] => some (.v (.int (if j < i then j else i)))
  | _ => none
/-- the one argument, a list of ints -/
def boxIs (h : Hs) : List D → Option (List Int)
  | [d] => match lstD h d with
    | some ds => intsD ds
    | none => none
  | _ => none
def dMaxL (h : Hs) (ds : List D) : Option Nv := match boxIs h ds with
  | some (i :: is) => some (.v (.int (mxI i is)))
  | _ => none
def dMinL (h : Hs) (ds : List D) : Option Nv := match boxIs h ds with
  | some (i :: is) => some (.v (.int (mnI i is)))
  | _ => none
def dSum (h : Hs) (ds : List D) : Option Nv := match boxIs h ds with
  | some is => some (.v (.int is.sum))
  | _ => none
section
variable {C : Ct} {L : List Nat}
theorem boxIs_ok {μ : Mu} {H : Hp} {h : Hs} (hr : HR C L μ H h) {ds : List D} {xs : List V} {is : List Int} (r : RepL C μ H ds xs) (e : boxIs h ds = some is) : ∃ a, xs = [.ref a] ∧ SqL C.K H a (is.map V.int) := by
  unfold boxIs at e
  split at e
  · split at e
    · rename_i e1
      obtain ⟨x, rfl, q⟩ := r.one
      obtain ⟨a, vs, rfl, t, q⟩ := lstD_ok hr q e1
      rw [intsD_ok q e] at t
      exact ⟨a, rfl, t⟩
    · cases e
  · cases e
theorem cov_max2 : CovA C (fun xs H Q => ∃ i j, xs = [.int i, .int j] ∧ Q (.int (if j > i then j else i)) H) dMax2 := by
  intro H L μ h xs ds n Q hr r1 hf want
  unfold dMax2 at hf
  split at hf
  · cases hf
    obtain ⟨x, y, rfl, h, h'⟩ := r1.two
    cases (show x = V.int _ from h)
    cases (show y = V.int _ from h')
    exact ⟨_, _, rfl, want.old rfl⟩
  · cases hf
theorem cov_min2 : CovA C (fun xs H Q => ∃ i j, xs = [.int i, .int j] ∧ Q (.int (if j < i then j else i)) H) dMin2 := by
  intro H L μ h xs ds n Q hr r1 hf want
  unfold dMin2 at hf
  split at hf
  · cases hf
    obtain ⟨x, y, rfl, h, h'⟩ := r1.two
    cases (show x = V.int _ from h)
    cases (show y = V.int _ from h')
    exact ⟨_, _, rfl, want.old rfl⟩
  · cases hf
theorem mx_is {i m : Int} {is : List Int} (hm : m ∈ i :: is) (hle : ∀ y ∈ i :: is, y ≤ m) : m = mxI i is := by
  have h1 := mxI_le i is
  have h2 := hle (mxI i is) (by rcases mxI_mem i is with h | h <;> simp [h])
  rcases List.mem_cons.mp hm with hm | hm
  · have := h1.1; omega
  · have := h1.2 m hm; omega
theorem mn_is {i m : Int} {is : List Int} (hm : m ∈ i :: is) (hle : ∀ y ∈ i :: is, m ≤ y) : m = mnI i is := by
  have h1 := mnI_le i is
  have h2 := hle (mnI i is) (by rcases mnI_mem i is with h | h <;> simp [h])
  rcases List.mem_cons.mp hm with hm | hm
  · have := h1.1; omega
  · have := h1.2 m hm; omega
theorem cov_maxL : CovA C (rMax C.K) dMaxL := by
  intro H L μ h xs ds n Q hr r1 hf want
  unfold dMaxL at hf
  split at hf
  · rename_i i is e; cases hf
    obtain ⟨a, rfl, t⟩ := boxIs_ok hr r1 e
    refine ⟨a, _, rfl, t, by simp, fun m hm hle => ?_⟩
    rw [mx_is hm hle]
    exact want.old rfl
  · cases hf
theorem cov_minL : CovA C (rMin C.K) dMinL := by
  intro H L μ h xs ds n Q hr r1 hf want
  unfold dMinL at hf
  split at hf
  · rename_i i is e; cases hf
    obtain ⟨a, rfl, t⟩ := boxIs_ok hr r1 e
    refine ⟨a, _, rfl, t, by simp, fun m hm hle => ?_⟩
    rw [mn_is hm hle]
    exact want.old rfl
  · cases hf
theorem cov_sum : CovA C (rSum C.K) dSum := by
  intro H L μ h xs ds n Q hr r1 hf want
  unfold dSum at hf
  split at hf
  · rename_i is e; cases hf
    obtain ⟨a, rfl, t⟩ := boxIs_ok hr r1 e
    exact ⟨a, _, rfl, t, want.old rfl⟩
  · cases hf
/-- ints in order -/
def insI (a : Int) : List Int → List Int
  | [] => [a]
  | b :: r => if a ≤ b then a :: b :: r else b :: insI a r
def srtI : List Int → List Int
  | [] => []
  | a :: r => insI a (srtI r)
theorem insI_perm (a : Int) : ∀ r, (insI a r).Perm (a :: r)
  | [] => .refl _
  | b :: r => by
    unfold insI
    split
    · exact .refl _
    · exact ((insI_perm a r).cons b).trans (.swap a b r)
theorem srtI_perm : ∀ r, (srtI r).Perm r
  | [] => .refl _
  | a :: r => (insI_perm a (srtI r)).trans ((srtI_perm r).cons a)
theorem insI_srt (a : Int) : ∀ {r : List Int}, r.Pairwise (· ≤ ·) → (insI a r).Pairwise (· ≤ ·)
  | [], _ => by simp [insI]
  | b :: r, h => by
    have hb : ∀ y ∈ r, b ≤ y := fun y hy => List.rel_of_pairwise_cons h hy
    have ht := List.Pairwise.of_cons h
    unfold insI
    split
    · rename_i hab
      refine .cons (fun y hy => ?_) h
      rcases List.mem_cons.mp hy with rfl | hy
      · exact hab
      · exact Int.le_trans hab (hb _ hy)
    · rename_i hab
      refine .cons (fun y hy => ?_) (insI_srt a ht)
      rcases List.mem_cons.mp ((insI_perm a r).mem_iff.mp hy) with rfl | hy
      · omega
      · exact hb _ hy
theorem srtI_srt : ∀ r, (srtI r).Pairwise (· ≤ ·)
  | [] => .nil
  | a :: r => insI_srt a (srtI_srt r)
theorem srt_uniq {xs ys : List Int} (p : xs.Perm ys) (h1 : xs.Pairwise (· ≤ ·)) (h2 : ys.Pairwise (· ≤ ·)) : xs = ys := p.eq_of_pairwise (fun a b _ _ h h' => Int.le_antisymm h h') h1 h2
def dSorted (h : Hs) (ds : List D) : Option Nv := match boxIs h ds with
  | some is => some (.n (.lst ((srtI is).map .int)))
  | _ => none
theorem cov_sorted : CovA C (rSortedI C.K) dSorted := by
  intro H L μ h xs ds n Q hr r1 hf want
  unfold dSorted at hf
  split at hf
  · rename_i is e; cases hf
    obtain ⟨a, rfl, t⟩ := boxIs_ok hr r1 e
    refine ⟨a, _, rfl, t, fun ns p hp hs hq => ?_⟩
    rw [srt_uniq (hp.trans (srtI_perm is).symm) hs (srtI_srt is)]
    exact want.lst (repL_ints _) hq
  · cases hf
end
def dMaxA : Hs → List D → Option Nv := fun h d => match dMax2 h d with | some n => some n | none => dMaxL h d
def dMinA : Hs → List D → Option Nv := fun h d => match dMin2 h d with | some n => some n | none => dMinL h d
section
variable {X : Cx} {W : WX} {e : Expr} {es : List Expr} {ms : M (List D)} {pos p : Pos}
theorem f_max (hc : X.calm = true) (hg : Gl X "max") (hm : X.mg "max" = none) (ha : PA X (e :: es) (rdA X W ms)) (he : starEach (e :: es) X.env = (false, eval e X.env) :: starEach es X.env := by rfl) (hpl : (backTo pos (starEach es X.env)).any (·.1) = false := by rfl) :
    PE X (.Call (.Name "max" p) (e :: es) [] pos) (rd X W (mOpA dMaxA ms)) := e_callB (CallR.or (call_max2 hc) (cr_max hc)) (cov_max2.or cov_maxL) boot_max hg hm ha (by decide) (by decide) he hpl
theorem f_min (hc : X.calm = true) (hg : Gl X "min") (hm : X.mg "min" = none) (ha : PA X (e :: es) (rdA X W ms)) (he : starEach (e :: es) X.env = (false, eval e X.env) :: starEach es X.env := by rfl) (hpl : (backTo pos (starEach es X.env)).any (·.1) = false := by rfl) :
    PE X (.Call (.Name "min" p) (e :: es) [] pos) (rd X W (mOpA dMinA ms)) := e_callB (CallR.or (call_min2 hc) (cr_min hc)) (cov_min2.or cov_minL) boot_min hg hm ha (by decide) (by decide) he hpl
theorem f_sum (hc : X.calm = true) (hg : Gl X "sum") (hm : X.mg "sum" = none) (ha : PA X (e :: es) (rdA X W ms)) (he : starEach (e :: es) X.env = (false, eval e X.env) :: starEach es X.env := by rfl) (hpl : (backTo pos (starEach es X.env)).any (·.1) = false := by rfl) :
    PE X (.Call (.Name "sum" p) (e :: es) [] pos) (rd X W (mOpA dSum ms)) := e_callB (cr_sum hc) cov_sum boot_sum hg hm ha (by decide) (by decide) he hpl
theorem f_sorted (hv : bootBuiltins "sorted" = some (.builtin "sorted")) (hg : Gl X "sorted") (hm : X.mg "sorted" = none) (ha : PA X (e :: es) (rdA X W ms)) (he : starEach (e :: es) X.env = (false, eval e X.env) :: starEach es X.env := by rfl) (hpl : (backTo pos (starEach es X.env)).any (·.1) = false := by rfl) :
    PE X (.Call (.Name "sorted" p) (e :: es) [] pos) (rd X W (mOpA dSorted ms)) := e_callB cr_sortedI cov_sorted hv hg hm ha (by decide) (by decide) he hpl
end
end Rh

set_option Elab.async false
set_option linter.all false
set_option maxRecDepth 100000
set_option maxHeartbeats 2000000
set_option autoImplicit false
namespace Rh
open PySem PySem.Spec PyProof.Rows L2
variable [Tbs]

/-! ### methods -/
/-- what an object's class is, by its content -/
abbrev TyOk (X : Cx) (T : String) (ty : V → Hp → Prop) : Prop := ∀ {pins : List (Addr × Obj)} {σ : L2.St} {H : Hp} {s : Shared} {x : V} {v : Value}, L2.Inv X pins σ H s → RelV x v → ty x H → s.TypeIs v T ∧ ∀ a, v = .ref a → ∃ ob, s.heap.get? a = some ob ∧ ob.dict = none
def tBMt (ty : V → Hp → Prop) (r : V → List V → Hp → VK → Prop) (to : TE) (t : TA) : TE := fun σ H Q => to σ H fun x H1 => ty x H1 ∧ t σ H1 fun xs H2 => r x xs H2 Q
section
variable {X : Cx} {o e : Expr} {es : List Expr} {to : TE} {t : TA} {name : Str} {apos cpos : Pos} {T id : String} {r : V → List V → Hp → VK → Prop} {ty : V → Hp → Prop}
theorem pe_bmt (pa : PlainAttrs T) (slot : Slot T name id) (hty : typeOf (.builtin id) = pure (.type "method_descriptor")) (htv : TyOk X T ty) (hm : MtR X id r) (ho : PE X o to) (ha : PA X (e :: es) t)
    (hbase : attributeBase o name X.env (eval o X.env) = eval o X.env := by rfl)
    (hfew : ((backTo cpos (starEach (e :: es) X.env)).all (fun x => !x.1) && (backToKw cpos (keywordEach [] X.env)).all (fun x => x.1.isSome) && decide ((e :: es).length + ([] : List Keyword).length + (if ([] : List Keyword).isEmpty then 0 else 1) < 30)) = true := by rfl)
    (hline : (apos.endLine == cpos.line) = true := by rfl) (hs : starEach (e :: es) X.env = (false, eval e X.env) :: starEach es X.env := by rfl) (hplain : (backTo cpos (starEach es X.env)).any (·.1) = false := by rfl) :
    PE X (.Call (.Attribute o name apos) (e :: es) [] cpos) (tBMt ty r to t) := by
  refine ⟨fun pins s σ H Q I q => wpAny_Call_method_late hbase hfew hline rfl (thn (ho.run pins s σ H _ I q) fun v s1 ⟨x, H1, I1, r1, tx, q1⟩ => ?_)⟩
  obtain ⟨c1, c2⟩ := htv I1 r1 tx
  have hA := ha.run cpos pins s1 σ H1 _ I1 q1
  refine ⟨T, id, pa, slot, hty, c1, c2, ?_⟩
  rw [hs] at hA ⊢
  exact Calls.callWith_builtin (by show (false || (backTo cpos (starEach es X.env)).any (·.1)) = false; rw [hplain] <;> rfl) (Calls.evalArgs_plain (thn hA fun us s2 ⟨vs, H2, I2, r2, q2⟩ => hm pins s2 σ H2 x vs v us Q I2 r1 r2 q2))
theorem pe_bmt0 (pa : PlainAttrs T) (slot : Slot T name id) (hty : typeOf (.builtin id) = pure (.type "method_descriptor")) (htv : TyOk X T ty) (hm : MtR X id r) (ho : PE X o to)
    (hbase : attributeBase o name X.env (eval o X.env) = eval o X.env := by rfl) (hline : (apos.endLine == cpos.line) = true := by rfl) : PE X (.Call (.Attribute o name apos) [] [] cpos) (fun σ H Q => to σ H fun x H1 => ty x H1 ∧ r x [] H1 Q) := by
  refine ⟨fun pins s σ H Q I q => wpAny_Call_method0_late hbase hline (thn (ho.run pins s σ H _ I q) fun v s1 ⟨x, H1, I1, r1, tx, q1⟩ => ?_)⟩
  obtain ⟨c1, c2⟩ := htv I1 r1 tx
  exact ⟨T, id, pa, slot, hty, c1, c2, Calls.callWith_builtin rfl (PySem.evalArgs_none (hm pins s1 σ H1 x [] v [] Q I1 r1 .nil q1))⟩
theorem tyList : TyOk X "list" (tyV X.K "list") := fun I r t => tyV_is I r t
end
def mMeth (ck : Hs → D → Bool) (f : Hs → D → List D → Option (D × Hs)) (m : M D) (ms : M (List D)) : M D := mBind m fun d => fun ρ h => match ck h d with
  | true => mBind ms (fun ds => fun _ h => match f h d ds with
    | some (d', h') => some (.ok d' h')
    | none => none) ρ h
  | false => none
/-- a method's mirror: the class that is asked for, and what it does -/
structure CovM (C : Ct) (ty : V → Hp → Prop) (r : V → List V → Hp → VK → Prop) (ck : Hs → D → Bool) (f : Hs → D → List D → Option (D × Hs)) : Prop where
  ty : ∀ {L : List Nat} {μ : Mu} {H : Hp} {h : Hs} {d : D} {x : V}, HR C L μ H h → RepV C μ H d x → ck h d = true → ty x H
  run : ∀ {L : List Nat} {μ : Mu} {H : Hp} {h : Hs} {d : D} {x : V} {ds : List D} {xs : List V} {d' : D} {h' : Hs} {Q : VK}, HR C L μ H h → RepV C μ H d x → RepL C μ H ds xs → f h d ds = some (d', h') → (∀ y μ' H', Go L μ H μ' H' → HR C L μ' H' h' → RepV C μ' H' d' y → Q y H') → r x xs H Q
section
variable {X : Cx} {W : WX} {σ : L2.St} {H : Hp} {Q : VK} {ty : V → Hp → Prop} {r : V → List V → Hp → VK → Prop} {ck : Hs → D → Bool} {f : Hs → D → List D → Option (D × Hs)} {m : M D} {ms : M (List D)}
theorem rd_meth (c : CovM (ctX X) ty r ck f) (q : rd X W (mMeth ck f m ms) σ H Q) : tBMt ty r (rd X W m) (rdA X W ms) σ H Q := by
  obtain ⟨ρ, L, μ, h, rel, q⟩ := q
  refine ⟨ρ, L, μ, h, rel, (q.bind rel).imp fun d h1 μ1 H1 g1 _ ⟨_, rel1, q1⟩ x rx => ?_⟩
  cases ek : ck h1 d with
  | false => simp only [ek] at q1; exact q1.none
  | true =>
    simp only [ek] at q1
    refine ⟨c.ty rel1.hr rx ek, ρ, L, μ1, h1, rel1, (q1.bind rel1).imp fun ds h2 μ2 H2 g2 _ ⟨_, rel2, q2⟩ xs rs => ?_⟩
    split at q2
    · rename_i d' h' e
      exact c.run rel2.hr (rx.go rel1.hr g2) rs e fun y μ' H' g r' ry => q2 μ' H' g r' y ry
    · exact q2.none
theorem rd_meth0 (c : CovM (ctX X) ty r ck f) (q : rd X W (mMeth ck f m mNil) σ H Q) : rd X W m σ H fun x H1 => ty x H1 ∧ r x [] H1 Q := by
  obtain ⟨ρ, L, μ, h, rel, q⟩ := q
  refine ⟨ρ, L, μ, h, rel, (q.bind rel).imp fun d h1 μ1 H1 g1 _ ⟨_, rel1, q1⟩ x rx => ?_⟩
  cases ek : ck h1 d with
  | false => simp only [ek] at q1; exact q1.none
  | true =>
    simp only [ek] at q1
    obtain ⟨_, rel2, q2⟩ := (q1.bind rel1) μ1 H1 .refl rel1.hr
    refine ⟨c.ty rel1.hr rx ek, ?_⟩
    split at q2
    · rename_i d' h' e
      exact c.run rel2.hr rx (ds := []) rfl e fun y μ' H' g r' ry => q2 μ' H' g r' y ry
    · exact q2.none
end
def ckL (h : Hs) (d : D) : Bool := match d with
  | .box n => match h.get n with
    | some (.lst _) => true
    | _ => false
  | _ => false
theorem ckL_ok {C : Ct} {L : List Nat} {μ : Mu} {H : Hp} {h : Hs} {d : D} {x : V} (hr : HR C L μ H h) (rx : RepV C μ H d x) (e : ckL h d = true) : tyV C.K "list" x H := by
  unfold ckL at e
  split at e
  · split at e
    · rename_i e0
      obtain ⟨a, vs, rfl, _, t, _⟩ := hr.lst rx e0
      exact .inl ⟨rfl, vs, .inl (.inl t)⟩
    · cases e
  · cases e
def fAppend (h : Hs) (d : D) (ds : List D) : Option (D × Hs) := match d, ds with
  | .box n, [x] => (match h.get n with
    | some (.lst es) => if es.length < 1000000 then (match h.set n (.lst (es ++ [x])) with
      | some h' => some (.non, h')
      | none => none) else none
    | _ => none)
  | _, _ => none
def fPopAt (h : Hs) (d : D) (ds : List D) : Option (D × Hs) := match d, ds with
  | .box n, [.int j] => (match h.get n with
    | some (.lst es) => if -1000000 ≤ j ∧ j ≤ 1000000 then (match ixN es.length j with
      | some k => (match es[k]? with
        | some x => (match h.set n (.lst (es.eraseIdx k)) with
          | some h' => some (x, h')
          | none => none)
        | none => none)
      | none => none) else none
    | _ => none)
  | _, _ => none
def fPop (h : Hs) (d : D) (ds : List D) : Option (D × Hs) := match d, ds with
  | .box n, [] => (match h.get n with
    | some (.lst es) => (match es[es.length - 1]? with
        | some x => (match h.set n (.lst es.dropLast) with
          | some h' => some (x, h')
          | none => none)
        | none => none)
    | _ => none)
  | _, _ => none
def fExtend (h : Hs) (d : D) (ds : List D) : Option (D × Hs) := match d, ds with
  | .box n, [.box m] => (match h.get n, h.get m with
    | some (.lst es), some (.lst us) => if es.length + us.length ≤ 1000000 then (match h.set n (.lst (es ++ us)) with
      | some h' => some (.non, h')
      | none => none) else none
    | _, _ => none)
  | _, _ => none
section
variable {C : Ct} {L : List Nat} {μ : Mu} {H : Hp} {h h' : Hs}
/-- a list box changed -/
theorem HR.setL (hr : HR C L μ H h) {n : Nat} {a : Addr} {ds : List D} {vs : List V} (m : μ[n]? = some a) (e : h.set n (.lst ds) = some h') (rl : RepL C μ H ds vs) : HR C L μ (L2.upd H a (.lst vs)) h' ∧ Go L μ H μ (L2.upd H a (.lst vs)) ∧ Stay μ H μ (L2.upd H a (.lst vs)) := by
  have st := stay_upd hr m (.lst vs)
  obtain ⟨r', g⟩ := hr.upd (ho := .lst vs) (o := .lst ds) m ⟨vs, upd_same, rl.stay st⟩ e
  exact ⟨r', g, st⟩
theorem RepL.dropLast {ds : List D} {vs : List V} (q : RepL C μ H ds vs) : RepL C μ H ds.dropLast vs.dropLast := by
  rw [List.dropLast_eq_take, List.dropLast_eq_take, q.length]
  exact q.take _
theorem cov_append : CovM C (tyV C.K "list") rAppend ckL fAppend := ⟨ckL_ok, fun {L μ H h d x ds xs d' h' Q} hr rx rs e k => by
  unfold fAppend at e
  split at e
  · rename_i n y
    split at e
    · rename_i es e0
      split at e
      · rename_i hl
        split at e
        · rename_i h2 e2
          cases e
          obtain ⟨a, vs, rfl, m, t, rl⟩ := hr.lst rx e0
          obtain ⟨v, rfl, rv⟩ := rs.one
          obtain ⟨r', g, st⟩ := hr.setL (vs := vs ++ [v]) m e2 (rl.append ⟨v, [], rfl, rv, rfl⟩)
          exact ⟨a, vs, v, rfl, rfl, t, by rw [rl.length]; exact small6' hl, k _ _ _ g r' rfl⟩
        · cases e
      · cases e
    · cases e
  · cases e⟩
theorem cov_popAt : CovM C (tyV C.K "list") rPopAt ckL fPopAt := ⟨ckL_ok, fun {L μ H h d x ds xs d' h' Q} hr rx rs e k => by
  unfold fPopAt at e
  split at e
  · rename_i n j
    split at e
    · rename_i es e0
      split at e
      · rename_i hj
        split at e
        · rename_i i ei
          split at e
          · rename_i y ey
            split at e
            · rename_i h2 e2
              cases e
              obtain ⟨a, vs, rfl, m, t, rl⟩ := hr.lst rx e0
              obtain ⟨v, rfl, rv⟩ := rs.one
              cases (show v = V.int j from rv)
              obtain ⟨u, eu, ru⟩ := rl.get ey
              obtain ⟨r', g, st⟩ := hr.setL (vs := vs.eraseIdx i) m e2 (rl.eraseIdx i)
              exact ⟨a, vs, j, i, u, rfl, rfl, t, by omega, by omega, by rw [rl.length]; exact (ixN_seq ei).1, eu, k _ _ _ g r' (ru.stay st)⟩
            · cases e
          · cases e
        · cases e
      · cases e
    · cases e
  · cases e⟩
theorem cov_pop : CovM C (tyV C.K "list") rPop ckL fPop := ⟨ckL_ok, fun {L μ H h d x ds xs d' h' Q} hr rx rs e k => by
  unfold fPop at e
  split at e
  · rename_i n
    split at e
    · rename_i es e0
      split at e
      · rename_i y ey
        split at e
        · rename_i h2 e2
          cases e
          obtain ⟨a, vs, rfl, m, t, rl⟩ := hr.lst rx e0
          obtain ⟨u, eu, ru⟩ := rl.get ey
          obtain ⟨r', g, st⟩ := hr.setL (vs := vs.dropLast) m e2 rl.dropLast
          exact ⟨a, vs, u, rfl, rs, t, by rw [rl.length]; exact eu, k _ _ _ g r' (ru.stay st)⟩
        · cases e
      · cases e
    · cases e
  · cases e⟩
theorem cov_extend : CovM C (tyV C.K "list") rExtend ckL fExtend := ⟨ckL_ok, fun {L μ H h d x ds xs d' h' Q} hr rx rs e k => by
  unfold fExtend at e
  split at e
  · rename_i n m
    split at e
    · rename_i es us e0 e1
      split at e
      · rename_i hl
        split at e
        · rename_i h2 e2
          cases e
          obtain ⟨a, vs, rfl, ma, t, rl⟩ := hr.lst rx e0
          obtain ⟨v, rfl, rv⟩ := rs.one
          obtain ⟨b, ws, rfl, mb, t2, rl2⟩ := hr.lst rv e1
          obtain ⟨r', g, st⟩ := hr.setL (vs := vs ++ ws) ma e2 (rl.append rl2)
          exact ⟨a, b, vs, ws, rfl, rfl, t, t2, by rw [rl.length, rl2.length]; exact small6 hl, k _ _ _ g r' rfl⟩
        · cases e
      · cases e
    · cases e
  · cases e⟩
end
section
variable {X : Cx} {W : WX} {o e : Expr} {es : List Expr} {m : M D} {ms : M (List D)} {apos cpos : Pos}
theorem e_append (ho : PE X o (rd X W m)) (ha : PA X (e :: es) (rdA X W ms)) (hbase : attributeBase o "append" X.env (eval o X.env) = eval o X.env := by rfl)
    (hfew : ((backTo cpos (starEach (e :: es) X.env)).all (fun x => !x.1) && (backToKw cpos (keywordEach [] X.env)).all (fun x => x.1.isSome) && decide ((e :: es).length + ([] : List Keyword).length + (if ([] : List Keyword).isEmpty then 0 else 1) < 30)) = true := by rfl)
    (hline : (apos.endLine == cpos.line) = true := by rfl) (hs : starEach (e :: es) X.env = (false, eval e X.env) :: starEach es X.env := by rfl) (hplain : (backTo cpos (starEach es X.env)).any (·.1) = false := by rfl) :
    PE X (.Call (.Attribute o "append" apos) (e :: es) [] cpos) (rd X W (mMeth ckL fAppend m ms)) :=
  pe_imp (pe_bmt PySem.F.plainAttrs_list PySem.F.slot_list_append PySem.F.type_list_append tyList mt_append ho ha hbase hfew hline hs hplain) fun σ H Q q => rd_meth cov_append q
theorem e_popAt (ho : PE X o (rd X W m)) (ha : PA X (e :: es) (rdA X W ms)) (hbase : attributeBase o "pop" X.env (eval o X.env) = eval o X.env := by rfl)
    (hfew : ((backTo cpos (starEach (e :: es) X.env)).all (fun x => !x.1) && (backToKw cpos (keywordEach [] X.env)).all (fun x => x.1.isSome) && decide ((e :: es).length + ([] : List Keyword).length + (if ([] : List Keyword).isEmpty then 0 else 1) < 30)) = true := by rfl)
    (hline : (apos.endLine == cpos.line) = true := by rfl) (hs : starEach (e :: es) X.env = (false, eval e X.env) :: starEach es X.env := by rfl) (hplain : (backTo cpos (starEach es X.env)).any (·.1) = false := by rfl) :
    PE X (.Call (.Attribute o "pop" apos) (e :: es) [] cpos) (rd X W (mMeth ckL fPopAt m ms)) :=
  pe_imp (pe_bmt PySem.F.plainAttrs_list PySem.F.slot_list_pop PySem.F.type_list_pop tyList mt_popAt ho ha hbase hfew hline hs hplain) fun σ H Q q => rd_meth cov_popAt q
theorem e_pop0 (ho : PE X o (rd X W m)) (hbase : attributeBase o "pop" X.env (eval o X.env) = eval o X.env := by rfl) (hline : (apos.endLine == cpos.line) = true := by rfl) :
    PE X (.Call (.Attribute o "pop" apos) [] [] cpos) (rd X W (mMeth ckL fPop m mNil)) :=
  pe_imp (pe_bmt0 PySem.F.plainAttrs_list PySem.F.slot_list_pop PySem.F.type_list_pop tyList mt_pop ho hbase hline) fun σ H Q q => rd_meth0 cov_pop q
theorem e_extend (ho : PE X o (rd X W m)) (ha : PA X (e :: es) (rdA X W ms)) (hbase : attributeBase o "extend" X.env (eval o X.env) = eval o X.env := by rfl)
    (hfew : ((backTo cpos (starEach (e :: es) X.env)).all (fun x => !x.1) && (backToKw cpos (keywordEach [] X.env)).all (fun x => x.1.isSome) && decide ((e :: es).length + ([] : List Keyword).length + (if ([] : List Keyword).isEmpty then 0 else 1) < 30)) = true := by rfl)
    (hline : (apos.endLine == cpos.line) = true := by rfl) (hs : starEach (e :: es) X.env = (false, eval e X.env) :: starEach es X.env := by rfl) (hplain : (backTo cpos (starEach es X.env)).any (·.1) = false := by rfl) :
    PE X (.Call (.Attribute o "extend" apos) (e :: es) [] cpos) (rd X W (mMeth ckL fExtend m ms)) :=
  pe_imp (pe_bmt PySem.F.plainAttrs_list PySem.F.slot_list_extend PySem.F.type_list_extend tyList mt_extend ho ha hbase hfew hline hs hplain) fun σ H Q q => rd_meth cov_extend q
end
/-! ### op= -/
def mAug (i : Nat) (f : Int → Int → Int) (m : M D) : MS := fun ρ h => match ρ[i]? with
  | some (some d) => mDo m (fun e => fun ρ h => match d, e with
    | .int a, .int b => some (.nx (ρ.set i (some (.int (f a b)))) h)
    | _, _ => none) ρ h
  | _ => none
section
variable {X : Cx} {W : WX} {m mo mi : M D}
theorem s_aug {i : Nat} {x : Str} {e : Expr} {op : Operator} {f : Int → Int → Int} {pos pos' : Pos} (hN : X.N.Nodup) (hi : X.N[i]? = some x) (hx : Loc X.env.scope x) (he : PE X e (rd X W m)) (ho : PIp X op (ipI f))
    (hf : X.fn x = true ∨ X.env.scope.names.lookup x = some .local := by first | exact .inl rfl | exact .inr rfl | assumption) : PS X (.AugAssign (.Name x pos') op e pos) (rdS X W (mAug i f m)) := by
  refine ps_imp (ps_aug hN hi hx he ho hf) fun D σ H ⟨ρ, L, μ, h, rel, q⟩ => ?_
  unfold mAug at q
  split at q
  · rename_i d ed
    obtain ⟨v, e1, rv⟩ := rel.val i d ed
    refine ⟨v, e1, ρ, L, μ, h, rel, (SatS.bind rel q).imp fun e h1 μ1 H1 g1 _ ⟨rel1, q1⟩ y ry => ?_⟩
    split at q1
    · exact ⟨_, _, rv, ry, q1 _ μ1 H1 .refl (rel1.set rfl)⟩
    · exact q1.none
  · exact q.none
/-- an item of a list, by a place from 0 on -/
def rGetL (K : PySem.W.Frag) : V → V → Hp → VK → Prop := fun o i H Q => ∃ p xs k v, o = .ref p ∧ i = .int k ∧ SqL K H p xs ∧ 0 ≤ k ∧ xs[k.toNat]? = some v ∧ Q v H
theorem get_list : PGet X (rGetL X.K) := by
  intro pins s σ H o i ov iv Q I ro ri h
  obtain ⟨p, xs, k, v, rfl, rfl, hq, hk, e, q⟩ := h
  cases ro
  obtain ⟨tk, rfl⟩ := ri
  obtain ⟨its, rv, pl, hz⟩ := I.list hq
  obtain ⟨w, hw, rw'⟩ := rv.get e
  have hl := rv.length
  have hlt := (List.getElem?_eq_some_iff.mp e).1
  have hn := line63
  exact wpAny_getItem_list pl.isList hk (by omega) (by simpa using hw) ⟨v, H, I, rw', q⟩
def getL (h : Hs) (c k : D) : Option D := match lstD h c, k with
  | some ds, .int j => if 0 ≤ j then ds[j.toNat]? else none
  | _, _ => none
def mAugS (f : Int → Int → Int) (mo mi m : M D) : MS := mDo mo fun c => mDo mi fun k => fun ρ h => match getL h c k with
  | some old => mDo m (fun e => fun ρ h => match old, e with
    | .int a, .int b => (match putD h c k (.int (f a b)) with
      | some h' => some (.nx ρ h')
      | none => none)
    | _, _ => none) ρ h
  | _ => none
theorem s_augS {o i e : Expr} {op : Operator} {f : Int → Int → Int} {pos tpos : Pos} (hu : X.A.units + 65 < cLine) (ho : PE X o (rd X W mo)) (hi : PE X i (rd X W mi)) (he : PE X e (rd X W m)) (hp : PIp X op (ipI f))
    (ha : ∀ ov iv new, augStore i ov iv new = (do holding [new, ov, iv] (setItem ov iv new); release [new, ov, iv] []; pure .next) := by intros; rfl) : PS X (.AugAssign (.Subscript o i tpos) op e pos) (rdS X W (mAugS f mo mi m)) := by
  refine ps_imp (ps_augS ho hi get_list he hp (PSet.or' set_list (set_dct hu)) ha) fun D σ H q => rdG_imp (rdS_bind q) fun ρ L c h1 μ1 H1 ⟨rel1, q1⟩ x rx => ?_
  refine ⟨ρ, L, μ1, h1, rel1, (SatS.bind rel1 q1).imp fun k h2 μ2 H2 g2 _ ⟨rel2, q2⟩ y ry => ?_⟩
  split at q2
  · rename_i old eo
    unfold getL at eo
    split at eo
    · rename_i ds j ed _
      split at eo
      · rename_i hj
        obtain ⟨a, vs, rfl, t, rl⟩ := lstD_ok rel2.hr (rx.go rel1.hr g2) ed
        cases (show y = V.int j from ry)
        obtain ⟨v, ev, rv⟩ := rl.get eo
        refine ⟨a, vs, j, v, rfl, rfl, t, hj, ev, ρ, L, μ2, h2, rel2, (SatS.bind rel2 q2).imp fun e h3 μ3 H3 g3 _ ⟨rel3, q3⟩ z rz => ?_⟩
        split at q3
        · rename_i p q _
          split at q3
          · rename_i h4 e4
            refine ⟨p, q, rv, rz, ?_⟩
            exact put_ok rel3.hr (rx.go rel1.hr (g2.trans g3)) (show RepV (ctX X) μ3 H3 (.int j) (.int j) from rfl) (show RepV (ctX X) μ3 H3 (.int (f p q)) (.int (f p q)) from rfl) e4 fun μ4 H4 g4 r4 => q3 σ μ4 H4 g4 (rel3.go g4 r4)
          · exact q3.none
        · exact q3.none
      · cases eo
    · cases eo
  · exact q2.none
end
end Rh

set_option Elab.async false
set_option linter.all false
set_option maxRecDepth 100000
set_option maxHeartbeats 2000000
set_option autoImplicit false
namespace Rh
open PySem PySem.Spec PyProof.Rows L2
variable [Tbs]
/-! ### floor division, powers, products of wide numbers, tuple * int -/
def dFdv : Hs → D → D → Option Nv := dIntC (fun i j => decide (0 < j ∧ j.natAbs.log2 < 9000)) fun i j => .int (i / j)
def dPow : Hs → D → D → Option Nv := dIntC (fun i j => decide (0 ≤ j ∧ j ≤ 1000000 ∧ i.natAbs < 2 ^ 64)) fun i j => .int (i ^ j.toNat)
def dRepT (_ : Hs) (d e : D) : Option Nv := match d, e with
  | .tup [], .int k => none
  | .tup (a :: as), .int k => if 2 ≤ k ∧ k ≤ 1000 ∧ as.length < 1000 then some (.v (.tup (List.replicate k.toNat (a :: as)).flatten)) else none
  | _, _ => none
theorem cov_repT {C : Ct} : Cov2 C (rRepT C.K) dRepT := by
  intro H L μ h x y d e n Q hr r1 r2 hf want
  unfold dRepT at hf
  split at hf
  · cases hf
  · rename_i a as k
    split at hf
    · rename_i hl
      cases hf
      obtain ⟨p, vs, rfl, t1, q1⟩ := r1
      have l1 := q1.length
      refine ⟨p, k, vs, rfl, r2, t1.sq, ?_, hl.1, hl.2.1, ?_, fun q hq => want.tup (q1.rep _) hq⟩
      · rintro rfl
        simp at l1
      · rw [l1, List.length_cons]; exact hl.2.2
    · cases hf
  · cases hf
theorem tuple_mul0 (l : Addr) (items : Array Value) (n : Nat) (dd : Option Addr) (sl : Array (Option Value)) (x : Int) (u : Tok) (c0 : (decide (x < -(2 ^ 63)) || decide (x ≥ 2 ^ 63)) = false) (c1 : (items.isEmpty || x == 1) = false) (c2 : (decide (x ≤ 0) || items.isEmpty) = true) :
    Meets (Builtin.«tuple.__mul__» ⟨[.ref l, .int x u], []⟩) (fun _ R s => s.heap.get? l = some { cls := .type "tuple", dict := dd, data := .seq items n, slots := sl } ∧
      R (.ok (.ret (Value.ref s.heap.objs.size))) { s with heap := s.heap.push { cls := Value.type "tuple", data := Data.seq #[] }, toks := s.toks }) :=
  .of_wp fun prog w A R s h => by
    obtain ⟨hp, g, d, tk, os⟩ := s
    obtain ⟨hl, h⟩ := h
    have f1 := AutoSeq1.idx_int
    wp_walk using wpAny_loadPart' hl
    repeat (first
      | (refine wpAny_ite_false (decide_eq_false (by rw [c0]; exact Bool.false_ne_true)) ?_; wp_walk using wpAny_loadPart' hl)
      | (refine wpAny_ite_false (decide_eq_false (by rw [c1]; exact Bool.false_ne_true)) ?_; wp_walk using wpAny_loadPart' hl)
      | (refine wpAny_ite_true (decide_eq_true c2) ?_; wp_walk using wpAny_loadPart' hl))
    exact ⟨_, rfl, h⟩
theorem tuple_mul1 (l : Addr) (items : Array Value) (n : Nat) (dd : Option Addr) (sl : Array (Option Value)) (x : Int) (u : Tok) (c0 : (decide (x < -(2 ^ 63)) || decide (x ≥ 2 ^ 63)) = false) (c1 : (items.isEmpty || x == 1) = true) :
    Meets (Builtin.«tuple.__mul__» ⟨[.ref l, .int x u], []⟩) (fun _ R s => s.heap.get? l = some { cls := .type "tuple", dict := dd, data := .seq items n, slots := sl } ∧
      R (.ok (.ret (Value.ref l))) s) :=
  .of_wp fun prog w A R s h => by
    obtain ⟨hp, g, d, tk, os⟩ := s
    obtain ⟨hl, h⟩ := h
    have f1 := AutoSeq1.idx_int
    wp_walk using wpAny_loadPart' hl
    repeat (first
      | (refine wpAny_ite_false (decide_eq_false (by rw [c0]; exact Bool.false_ne_true)) ?_; wp_walk using wpAny_loadPart' hl)
      | (refine wpAny_ite_true (decide_eq_true c1) ?_; wp_walk using wpAny_loadPart' hl))
    exact ⟨_, rfl, h⟩
/-- tuple * int where nothing is repeated -/
def rRep1 (K : PySem.W.Frag) : R2 := fun x y H Q => ∃ l k xs, x = .ref l ∧ y = .int k ∧ SqT K H l xs ∧ -1000 ≤ k ∧ k ≤ 1000 ∧ (xs = [] ∨ k ≤ 1) ∧ ((xs = [] ∨ k = 1) → Q (.ref l) H) ∧ (xs ≠ [] → k ≤ 0 → ∀ p, H p = none → Q (.ref p) (upd H p (.tup [])))
theorem op_rep1 {X : Cx} : OpR X (binaryOp .Mult) (rRep1 X.K) := by
  intro pins s σ H x y v u Q I rx ry h
  obtain ⟨l, k, xs, rfl, rfl, hT, h1, h2, h3, qa, qb⟩ := h
  cases rx
  obtain ⟨t, rfl⟩ := ry
  obtain ⟨its, r, ⟨⟨cls, dd, data, sl⟩, ho, hc, n, hd⟩, hs⟩ := I.tuple hT
  simp only at hc hd
  subst hc hd
  have hle : its.length = xs.length := r.length.symm
  have c0 : (decide (k < -(2 ^ 63)) || decide (k ≥ 2 ^ 63)) = false := by
    rw [decide_eq_false (by omega), decide_eq_false (by omega)] <;> rfl
  have hi : its.toArray.isEmpty = decide (xs = []) := by
    cases its with
    | nil => rw [List.eq_nil_of_length_eq_zero hle.symm]; rfl
    | cons a b =>
      cases xs with
      | nil => simp at hle
      | cons c d => simp
  by_cases hz : xs = [] ∨ k = 1
  · have c1 : (its.toArray.isEmpty || k == 1) = true := by
      rw [hi]
      rcases hz with hz | hz
      · simp [hz]
      · simp [hz]
    refine wpAny_binaryOp_repeat_ref (T := "tuple") (U := "int") (by decide) ⟨_, ho, rfl⟩ (fun s' => typeIs_int s' k t) noFill_tuple_mul F.fills_int_mul F.slot_int_rmul repeat_tuple F.slot_int_index.lookup
      (call_meets F.slot_int_rmul (typeIs_int s k t) F.entry_int_rmul (F.args_int_rmul_2 _ _) (int_rmul_tuple k t l its.toArray n dd sl)
        ⟨ho, rfl, ⟨_, ho, rfl⟩, call_meets F.slot_tuple_mul ⟨_, ho, rfl⟩ F.entry_tuple_mul (F.args_tuple_mul_2 _ _) (tuple_mul1 l its.toArray n dd sl k t c0 c1) ⟨ho, ?_⟩⟩)
    exact ⟨.ref l, H, I, rfl, qa hz⟩
  · have hne : xs ≠ [] := fun e => hz (.inl e)
    have hk : k ≤ 0 := by
      have : k ≠ 1 := fun e => hz (.inr e)
      have : k ≤ 1 := by
        rcases h3 with h3 | h3
        · exact absurd h3 hne
        · exact h3
      omega
    have c1 : (its.toArray.isEmpty || k == 1) = false := by
      rw [hi, decide_eq_false hne, Bool.false_or]
      exact beq_eq_false_iff_ne.mpr (by omega)
    have c2 : (decide (k ≤ 0) || its.toArray.isEmpty) = true := by rw [decide_eq_true hk]; rfl
    refine wpAny_binaryOp_repeat_ref (T := "tuple") (U := "int") (by decide) ⟨_, ho, rfl⟩ (fun s' => typeIs_int s' k t) noFill_tuple_mul F.fills_int_mul F.slot_int_rmul repeat_tuple F.slot_int_index.lookup
      (call_meets F.slot_int_rmul (typeIs_int s k t) F.entry_int_rmul (F.args_int_rmul_2 _ _) (int_rmul_tuple k t l its.toArray n dd sl)
        ⟨ho, rfl, ⟨_, ho, rfl⟩, call_meets F.slot_tuple_mul ⟨_, ho, rfl⟩ F.entry_tuple_mul (F.args_tuple_mul_2 _ _) (tuple_mul0 l its.toArray n dd sl k t c0 c1 c2) ⟨ho, ?_⟩⟩)
    refine ⟨.ref s.heap.objs.size, _, I.laid (t' := s.toks) (o := .tup []) (fun b ob q => Heap.get?_push_of_some _ q) (Nat.le_refl _) ?_, rfl, qb hne hk _ (I.hok.fresh (Nat.le_refl _))⟩
    exact ⟨by rw [sizeLine_eq]; simp, [], .nil, IsTup.new _ _⟩
def dRep1 (_ : Hs) (d e : D) : Option Nv := match d, e with
  | .tup [], .int k => if -1000 ≤ k ∧ k ≤ 1000 then some (.v (.tup [])) else none
  | .tup (a :: as), .int k => if -1000 ≤ k ∧ k ≤ 0 then some (.v (.tup [])) else if k = 1 then some (.v (.tup (a :: as))) else none
  | _, _ => none
theorem cov_rep1 {C : Ct} : Cov2 C (rRep1 C.K) dRep1 := by
  intro H L μ h x y d e n Q hr r1 r2 hf want
  unfold dRep1 at hf
  split at hf
  · rename_i k
    split at hf
    · rename_i hl
      cases hf
      obtain ⟨p, vs, rfl, t1, q1⟩ := r1
      cases (show vs = [] from q1)
      exact ⟨p, k, [], rfl, r2, t1.sq, hl.1, hl.2, .inl rfl, fun _ => want.old ⟨p, [], rfl, t1, rfl⟩, fun z => absurd rfl z⟩
    · cases hf
  · rename_i a as k
    obtain ⟨p, vs, rfl, t1, q1⟩ := r1
    have hne : vs ≠ [] := by
      rintro rfl
      have := q1.length
      simp at this
    split at hf
    · rename_i hl
      cases hf
      exact ⟨p, k, vs, rfl, r2, t1.sq, hl.1, by omega, .inr (by omega), fun z => False.elim (by rcases z with z | z; exact hne z; omega), fun _ _ q hq => want.tup (show RepL C μ H [] [] from rfl) hq⟩
    · split at hf
      · rename_i hl
        subst hl
        cases hf
        exact ⟨p, 1, vs, rfl, r2, t1.sq, by decide, by decide, .inr (by decide), fun _ => want.old ⟨p, vs, rfl, t1, q1⟩, fun _ z => absurd z (by decide)⟩
      · cases hf
  · cases hf
def okMul (i j : Int) : Bool := decide ((Builtin.Int.intBits i : Int) + (Builtin.Int.intBits j : Int) ≤ 134217728)
def dMulW : Hs → D → D → Option Nv := fun h d e => match dIntC okMul (fun i j => .int (i * j)) h d e with | some n => some n | none => (fun h d e => match dRepL h d e with | some n => some n | none => (fun h d e => match dRepT h d e with | some n => some n | none => dRep1 h d e) h d e) h d e
section
variable {X : Cx} {W : WX} {a b : Expr} {ma mb : M D} {pos : Pos}
theorem b_fdv (ha : PE X a (rd X W ma)) (hb : PE X b (rd X W mb)) : PE X (.BinOp a .FloorDiv b pos) (rd X W (mOp2 dFdv ma mb)) := e_bin op_fdivW (cov_rI (fun _ _ h => by simpa [CDivW, CPow] using h) fun _ _ => rfl) ha hb
theorem b_pow (ha : PE X a (rd X W ma)) (hb : PE X b (rd X W mb)) : PE X (.BinOp a .Pow b pos) (rd X W (mOp2 dPow ma mb)) := e_bin op_pow (cov_rI (fun _ _ h => by simpa [CDivW, CPow] using h) fun _ _ => rfl) ha hb
theorem cov_mulW {C : Ct} : Cov2 C (rI CMulX fun i j => .int (i * j)) (dIntC okMul fun i j => .int (i * j)) :=
  cov_rI (fun _ _ h => by have := of_decide_eq_true h; exact this) fun _ _ => rfl
theorem b_mulW (ha : PE X a (rd X W ma)) (hb : PE X b (rd X W mb)) : PE X (.BinOp a .Mult b pos) (rd X W (mOp2 dMulW ma mb)) := e_bin (OpR.or' op_mulX (OpR.or' op_rep (OpR.or' op_repT op_rep1))) (cov_mulW.or (cov_repL.or (cov_repT.or cov_rep1))) ha hb
end
/-! ### several names at once -/
def putL : En → List Nat → List D → Option En
  | ρ, [], [] => some ρ
  | ρ, i :: is, d :: ds => putL (ρ.set i (some d)) is ds
  | _, _, _ => none
def mPar (is : List Nat) (ms : M (List D)) : MS := mDo ms fun ds => fun ρ h => match putL ρ is ds with
  | some ρ' => some (.nx ρ' h)
  | none => none
section
variable {X : Cx} {W : WX}
theorem s_par {i j : Nat} {x y : Str} {a b : Expr} {px py pt pos : Pos} {kt k2 pt2} {ms : M (List D)} (hc : X.calm = true) (hN : X.N.Nodup) (hi : X.N[i]? = some x) (hj : X.N[j]? = some y) (hij : i ≠ j)
    (hx : X.env.scope.names.lookup x = some .local) (hy : X.env.scope.names.lookup y = some .local) (ha : PA X [a, b] (rdA X W ms))
    (hw : swappedStores [.Tuple [.Name x px, .Name y py] kt pt] (.Tuple [a, b] k2 pt2) X.env = pure (some [x, y]) := by rfl)
    (hs : swapsWithSole [.Tuple [.Name x px, .Name y py] kt pt] (.Tuple [a, b] k2 pt2) pos.line X.env = pure false := by rfl) :
    PS X (.Assign [.Tuple [.Name x px, .Name y py] kt pt] (.Tuple [a, b] k2 pt2) pos) (rdS X W (mPar [i, j] ms)) :=
  ps_imp (ps_par hc hN hi hj hij hx hy ha hw hs) fun D σ H q => rdG_imp (rdS_bind q) fun ρ L ds h1 μ1 H1 ⟨rel1, q1⟩ xs rx => by
    match ds, rx with
    | [d, e], ⟨v, r, e1, rv, u, r2, e2, ru, e3⟩ =>
      subst e3 e2 e1
      exact ⟨v, u, rfl, q1 _ μ1 H1 .refl ((rel1.set rv).set ru)⟩
    | [], _ => exact False.elim q1
    | [d], _ => exact False.elim q1
    | d :: e :: g :: r, _ => exact False.elim q1
theorem s_par3 {i j l : Nat} {x y z : Str} {a b c : Expr} {px py pz pt pos : Pos} {kt k2 pt2} {ms : M (List D)} (hc : X.calm = true) (hN : X.N.Nodup) (hi : X.N[i]? = some x) (hj : X.N[j]? = some y) (hl : X.N[l]? = some z) (hij : i ≠ j) (hil : i ≠ l) (hjl : j ≠ l)
    (hx : X.env.scope.names.lookup x = some .local) (hy : X.env.scope.names.lookup y = some .local) (hz : X.env.scope.names.lookup z = some .local) (ha : PA X [a, b, c] (rdA X W ms))
    (hw : swappedStores [.Tuple [.Name x px, .Name y py, .Name z pz] kt pt] (.Tuple [a, b, c] k2 pt2) X.env = pure (some [x, y, z]) := by rfl)
    (hs : swapsWithSole [.Tuple [.Name x px, .Name y py, .Name z pz] kt pt] (.Tuple [a, b, c] k2 pt2) pos.line X.env = pure false := by rfl) :
    PS X (.Assign [.Tuple [.Name x px, .Name y py, .Name z pz] kt pt] (.Tuple [a, b, c] k2 pt2) pos) (rdS X W (mPar [i, j, l] ms)) :=
  ps_imp (ps_par3 hc hN hi hj hl hij hil hjl hx hy hz ha hw hs) fun D σ H q => rdG_imp (rdS_bind q) fun ρ L ds h1 μ1 H1 ⟨rel1, q1⟩ xs rx => by
    match ds, rx with
    | [d, e, g], ⟨v, r, e1, rv, u, r2, e2, ru, t, r3, e3, rt, e4⟩ =>
      subst e4 e3 e2 e1
      exact ⟨v, u, t, rfl, q1 _ μ1 H1 .refl (((rel1.set rv).set ru).set rt)⟩
    | [], _ => exact False.elim q1
    | [d], _ => exact False.elim q1
    | [d, e], _ => exact False.elim q1
    | d :: e :: g :: k :: r, _ => exact False.elim q1
end
theorem gs_c {X : Cx} {e : Expr} {es : List Expr} {t : TM} {ts : TMs} {v1 v2 v : List Nat} (h1 : PG X e (rdTg X t v1)) (h2 : PGs X es (rdTgs X ts v2)) (hv : v1 ++ v2 = v := by rfl)
    (hs : (assignEach (e :: es) X.env).map (·.2) = assign e X.env :: (assignEach es X.env).map (·.2) := by rfl) : PGs X (e :: es) (rdTgs X (tsCons t ts) v) := by
  subst hv
  exact gs_cons h1 h2 hs
/-! ### the law's end -/
def spLaw (K : PySem.W.Frag) : Sp := fun vs H Q _ => ∃ (a : Addr) (ns : List Int), vs = [.ref a] ∧ ns.length ≤ 63 ∧ (∀ z ∈ ns, Builtin.Int.intBits z ≤ 1048576) ∧ TbA H ∧ SqL K H a (ns.map V.int) ∧ ∀ H', Q (.bl true) H'
def h0 : Hs := ⟨0, .nil, []⟩
/-- the script in a box -/
def hL (ns : List Int) : Hs := ⟨1, .node (some (.lst (ns.map D.int))) .nil .nil, []⟩
theorem hr0 {C : Ct} {H : Hp} (hz : Tbs.base = []) (tb : TbA H) : HR C [] [] H h0 := by
  constructor
  all_goals first | exact tb | exact ⟨List.nodup_nil, hz ▸ List.prefix_refl _⟩ | simp [h0, Hs.get, Tr.get]
theorem hrL {C : Ct} {H : Hp} {a : Addr} {ns : List Int} (hz : Tbs.base = []) (tb : TbA H) (e : H a = some (.lst (ns.map V.int))) : HR C [] [a] H (hL ns) := by
  refine ⟨rfl, rfl, ⟨by simp, hz ▸ List.nil_prefix⟩, tb, fun i b eb => ?_⟩
  have hi : i = 0 := by
    have := (List.getElem?_eq_some_iff.mp eb).1
    simp at this
    exact this
  subst hi
  simp at eb
  subst eb
  exact ⟨.lst (ns.map D.int), rfl, _, e, repL_ints ns⟩
theorem law_ok (hz : Tbs.base = []) {P : Program} {w : World} {K : PySem.W.Frag} {mg : Str → Option Value} {base : Heap} {ps : List Str} {k : Nat} {f : Addr} {fd : FuncData} {fm : FM} (F : FnOk P w K mg base (L2.CX P w) k f fd ps (spF ⟨w, K, mg⟩ 1 fm))
    (hm : ∀ ns : List Int, ns.length ≤ 63 → (∀ z ∈ ns, Builtin.Int.intBits z ≤ 1048576) → (∃ h, fm [.scr (ns.map D.int)] h0 = some (.rt (.bl true) h)) ∧ ∃ h, fm [.box 0] (hL ns) = some (.rt (.bl true) h)) : FnOk P w K mg base (L2.CX P w) k f fd ps (spLaw K) := by
  refine F.imp fun vs H Q E ⟨a, ns, ev, hl, hb, tb, hS, q⟩ => ?_
  subst ev
  obtain ⟨⟨h, e⟩, h2, e2⟩ := hm ns hl hb
  rcases hS with (hS | hS) | hS
  · refine ⟨[], [a], hL ns, [.box 0], rfl, ⟨_, _, rfl, ⟨a, rfl, rfl⟩, rfl⟩, hrL hz tb hS, ?_⟩
    rw [e2]
    intro x μ' H' g r rx
    cases (show x = V.bl true from rx)
    exact q H'
  · refine ⟨[], [], h0, [.scr (ns.map D.int)], rfl, ⟨_, _, rfl, ⟨a, _, rfl, .inl hS, repL_ints ns⟩, rfl⟩, hr0 hz tb, ?_⟩
    rw [e]
    intro x μ' H' g r rx
    cases (show x = V.bl true from rx)
    exact q H'
  · refine ⟨[], [], h0, [.scr (ns.map D.int)], rfl, ⟨_, _, rfl, ⟨a, _, rfl, .inr hS, repL_ints ns⟩, rfl⟩, hr0 hz tb, ?_⟩
    rw [e]
    intro x μ' H' g r rx
    cases (show x = V.bl true from rx)
    exact q H'
theorem cx_false {P : Program} {w : World} {outer : List PySem.Env} {H : Hp} {s : Shared} {e : Value} {s' : Shared} (h : L2.CX P w outer H s (fun _ _ _ => False) e s') : False := by
  obtain ⟨_, _, _, _, _, _, _, _, _, _, _, _, z⟩ := h
  exact z
end Rh

set_option Elab.async false
set_option linter.all false
set_option maxRecDepth 100000
set_option maxHeartbeats 2000000
set_option autoImplicit false
namespace Rh
open PySem PySem.Spec PyProof.Rows L2
variable [Tbs]
/-! ### d.setdefault(k, v), keys ints, texts, bools, None -/
section
variable {P : Program} {w : World} {a : Addr} {ku : Value}
theorem meets_setd_raw (l : Leaf) (hl : Leaf.isOf l ku = true) (hs : (a == sysModules) = false) (vu : Value) :
    MeetsIn P w (Builtin.«dict.setdefault» ⟨[.ref a, ku, vu], []⟩) (fun _ R s => ∃ ep rs, RawD w s.heap a ep rs ∧ KL rs ∧ rs.length < sizeLine ∧ (∀ v, getR rs l.key = some v → R (.ok (.ret v)) { s with toks := s.toks + 1 }) ∧
      (getR rs l.key = none → ∀ h' ep', RawD w h' a ep' (putR rs l.key ku vu) → Heap.SameBut a s.heap h' → R (.ok (.ret vu)) { s with heap := h', toks := s.toks + 1 })) :=
  .of_wp fun A R s ⟨ep, rs, x, kl, hz, h1, h2⟩ => by
    have D := x.leaf (P := P) kl
    have hT := D.typeIs
    obtain ⟨o, ho, hc, hd⟩ := x.at_
    have hko : KeysOf (leafKind P w) (rs.map (ent w)).toArray := fun e he => by
      obtain ⟨r, hr, rfl⟩ := List.mem_map.mp (List.mem_toArray.mp he)
      obtain ⟨h1, h2⟩ := key_toLeaf kl hr
      exact ⟨toLeaf r.1, h2, by show NestedKey.hash w r.1 = NestedKey.hash w (toLeaf r.1).key; rw [h1]⟩
    have hkey : (leafKind P w).is l ku = true := hl
    have nd2 := put_nodup (k := l.key) (ku := ku) (vu := vu) x.nd
    have sz2 : (putR rs l.key ku vu).length ≤ sizeLine := Nat.le_trans put_len hz
    unfold Builtin.«dict.setdefault»
    refine wpAny_bind ?_
    unfold Builtin.Dict.keyAndDefault
    refine wpAny_bind (wpAny_notOrdered_dict hT ?_)
    show wpAny _ _ (pure (a, ku, some vu)) _ _ s
    refine wpAny_pure ?_
    show wpAny _ _ (if (a == sysModules) = true then _ else (dictSetDefault a ku vu >>= _)) _ _ s
    rw [if_neg (by rw [hs]; exact Bool.false_ne_true)]
    refine wpAny_bind ?_
    unfold dictSetDefault
    try with_reducible refine wpAny_holding ?_
    refine wpAny_bind ((leafKind P w).pyHash hkey ?_)
    refine wpAny_bind (wpAny_dictFind_of (s := { s with toks := s.toks + 1 }) hkey ho hd hko ?_)
    have hidx := idx_arr (P := P) (w := w) kl l
    cases hi : idxK (rs.map (·.1)) l.key with
    | some i =>
      have hi2 : ((rs.map fun e => (⟨e.1.hash w, e.2.1, e.2.2⟩ : DictEntry)).toArray.findIdx? fun e => (leafKind P w).is l e.key) = some i := hidx.trans hi
      rw [hi2]
      refine wpAny_bind (wpAny_dictEntries (s := { s with toks := s.toks + 1 }) ho hd ?_)
      have hlt : i < rs.length := by
        have := (Array.findIdx?_eq_some_iff_findIdx_eq.mp hi2).1
        simpa using this
      have he : ((rs.map fun e => (⟨e.1.hash w, e.2.1, e.2.2⟩ : DictEntry)).toArray)[i]? = some ⟨(rs[i]).1.hash w, (rs[i]).2.1, (rs[i]).2.2⟩ := by
        simp [hlt]
      rw [he]
      refine wpAny_bind (wpAny_rule (wpAny_pure (wpAny_pure ⟨_, rfl, h1 (rs[i]).2.2 ?_⟩)))
      unfold getR
      rw [hi]
      show (rs[i]?).map (·.2.2) = _
      rw [List.getElem?_eq_getElem hlt]
      rfl
    | none =>
      have hi2 : ((rs.map fun e => (⟨e.1.hash w, e.2.1, e.2.2⟩ : DictEntry)).toArray.findIdx? fun e => (leafKind P w).is l e.key) = none := hidx.trans hi
      rw [hi2]
      refine wpAny_bind (wpAny_rule (wpAny_bind (wpAny_updateDictKeys (hz := by simp; exact Nat.le_of_lt hz) (s := { s with toks := s.toks + 1 }) ho hd (wpAny_pure (wpAny_pure ⟨_, rfl, h2 (by unfold getR; rw [hi]; rfl) _ (ep + 1) ⟨x.sys, sz2, ⟨_, Heap.get?_update_self _ ho (Obj.isFreed_of_dict (Obj.data_mapDictKeys hd _)),
        hc.mapDictKeys _, ?_⟩, nd2, homL_put kl⟩ (Heap.SameBut.update ..)⟩)))))
      rw [Obj.data_mapDictKeys hd _, put_none hi, List.map_append]
      simp
      rfl
end
def rSetd (C : Ct) : V → List V → Hp → VK → Prop := fun x xs H Q => ∃ (μ : Mu) (a : Addr) (es : Nat × List EV) (nks : List NestedKey) (ks : List D) (kd : D) (nk : NestedKey) (op : Option Nat) (i v : V), x = .ref a ∧ xs = [i, v] ∧ H a = some (DicO C.w a es) ∧ es.2.map (·.1) = nks ∧ keysD ks = some nks ∧ RepL C μ H ks (es.2.map (·.2.1)) ∧
  RepV C μ H kd i ∧ keyD kd = some nk ∧ idxD nks kd = some op ∧ leafK nk = true ∧ ks.length < 1000000 ∧ (∀ j e, op = some j → es.2[j]? = some e → Q e.2.2 H) ∧ (op = none → ∀ ep', Q v (upd H a (DicO C.w a (ep', putV es.2 none nk i v))))
section
variable {X : Cx}
theorem leaf_no {l : Leaf} {b : Addr} : ¬ Leaf.isOf l (.ref b) = true := fun h => by
  cases l <;> exact nomatch h
theorem mt_setd : MtR X "dict.setdefault" (rSetd (ctX X)) := by
  intro pins s σ H x xs u us Q I rx rs h
  obtain ⟨μ, a, es, nks, ks, kd, nk, op, i, v, rfl, rfl, ea, en, ek, rk, ri, ekd, ei, lf, hl, q1, q2⟩ := h
  cases rx
  obtain ⟨ku, vu, rfl, rku, rvu⟩ := vals2 rs
  obtain ⟨rws, x, p⟩ := dict_raw I ea
  obtain ⟨nk', e1, kf, hi⟩ := key_for I x.hom en ek rk p ri rku ei
  rw [ekd] at e1; cases e1
  have hlen : rws.length = ks.length := by
    rw [← Paired.length p, ← rk.length, List.length_map]
  rcases kf with ⟨kl, l, rfl, hl2⟩ | ⟨kt, b, rfl, hb, dp⟩
  · have D := x.leaf (P := X.prog) kl
    refine call_meetsIn PySem.F.slot_dict_setdefault D.typeIs PySem.F.entry_dict_setdefault (PySem.F.args_dict_setdefault_3 _ _ _) (meets_setd_raw l hl2 x.sys vu) ⟨es.1, rws, x, kl, by rw [hlen, sizeLine_eq]; omega, fun w hw => ?_, fun hn h' ep' x' sb => ?_⟩
    · unfold getR at hw
      rw [hi] at hw
      cases op with
      | none => cases hw
      | some j =>
        obtain ⟨r, er, rfl⟩ := Option.map_eq_some_iff.mp (show (rws[j]?).map (·.2.2) = some w from hw)
        obtain ⟨e, ee, z1, z2, z3⟩ := paired_get p er
        exact ⟨e.2.2, H, I.tok _, z3, q1 j e rfl ee⟩
    · unfold getR at hn
      rw [hi] at hn
      cases op with
      | some j =>
        exfalso
        have hj : j < rws.length := by
          have := (List.findIdx?_eq_some_iff_findIdx_eq.mp hi).1
          simpa using this
        have : (rws[j]?).map (·.2.2) = none := hn
        rw [List.getElem?_eq_getElem hj] at this
        cases this
      | none =>
        obtain ⟨o', ho', _⟩ := x'.at_
        exact ⟨v, _, I.write (t' := s.toks + 1) (x := a) (e := a) (by rw [ea]; exact True.intro) (.inl rfl) (fun b ob hb e => (sb.2 b hb).trans e) ⟨o', ho'⟩ (dict_ok x' (put_paired p hi rku rvu)), rvu, q2 rfl ep'⟩
  · obtain ⟨l, _, hl2⟩ := leaf_of hb lf
    exact absurd hl2 leaf_no
def tyDc (w : World) : V → Hp → Prop := fun x H => ∃ a es, x = .ref a ∧ H a = some (DicO w a es)
theorem tyDict : TyOk X "dict" (tyDc X.w) := fun {pins σ H s x v} I r t => by
  obtain ⟨a, es, rfl, e⟩ := t
  cases r
  obtain ⟨rs, x, p⟩ := dict_raw I e
  obtain ⟨o, ho, hc, hd⟩ := x.at_
  exact ⟨⟨o, ho, hc.1⟩, fun b eb => by cases eb; exact ⟨o, ho, hc.2.1⟩⟩
end
def ckD (h : Hs) (d : D) : Bool := match d with
  | .box n => (match h.get n with
    | some (.dct _ _ _) => true
    | _ => false)
  | _ => false
theorem ckD_ok {C : Ct} {L : List Nat} {μ : Mu} {H : Hp} {h : Hs} {d : D} {x : V} (hr : HR C L μ H h) (rx : RepV C μ H d x) (e : ckD h d = true) : tyDc C.w x H := by
  unfold ckD at e
  split at e
  · split at e
    · rename_i e0
      obtain ⟨a, rfl, m, es, ea, _⟩ := hr.dctO rx e0
      exact ⟨a, es, rfl, ea⟩
    · cases e
  · cases e
def fSetd (h : Hs) (d : D) (ds : List D) : Option (D × Hs) := match d, ds with
  | .box n, [k, v] => (match h.get n with
    | some (.dct nks ks vs) => (match idxD nks k, keyD k with
      | some (some j), some nk => if leafK nk = true ∧ ks.length < 1000000 then (vs[j]?).map fun v => (v, h) else none
      | some none, some nk => if leafK nk = true ∧ ks.length < 1000000 then (h.set n (.dct (nks ++ [nk]) (ks ++ [k]) (vs ++ [v]))).map fun h => (v, h) else none
      | _, _ => none)
    | _ => none)
  | _, _ => none
theorem cov_setd {C : Ct} : CovM C (tyDc C.w) (rSetd C) ckD fSetd := ⟨ckD_ok, fun {L μ H h d x ds xs d' h' Q} hr rx rs e k => by
  unfold fSetd at e
  split at e
  · rename_i n kd vd
    split at e
    · rename_i nks ks vs e0
      obtain ⟨a, rfl, m, es, ea, en, ek, rk, rv⟩ := hr.dctO rx e0
      obtain ⟨i, r1, rfl, ri, v, r2, rfl, rvv, rfl⟩ := rs
      split at e
      · rename_i j nk ei ekd
        split at e
        · rename_i hl
          obtain ⟨dv, edv, ep⟩ := Option.map_eq_some_iff.mp e
          cases ep
          refine ⟨μ, a, es, nks, ks, kd, nk, some j, i, v, rfl, rfl, ea, en, ek, rk, ri, ekd, ei, hl.1, hl.2, fun j' e' ej ee => ?_, fun z => nomatch z⟩
          cases ej
          obtain ⟨y, ey, ry⟩ := rv.get edv
          rw [List.getElem?_map, ee] at ey
          cases ey
          exact k _ μ H .refl hr ry
        · cases e
      · rename_i nk ei ekd
        split at e
        · rename_i hl
          obtain ⟨h2, e2, ep⟩ := Option.map_eq_some_iff.mp e
          cases ep
          refine ⟨μ, a, es, nks, ks, kd, nk, none, i, v, rfl, rfl, ea, en, ek, rk, ri, ekd, ei, hl.1, hl.2, fun j' e' ej => (nomatch ej), fun _ ep' => ?_⟩
          have st := stay_upd (C := C) hr m (DicO C.w a (ep', putV es.2 none nk i v))
          have hp : putV es.2 none nk i v = es.2 ++ [(nk, i, v)] := rfl
          have ob : ObR C μ (L2.upd H a (DicO C.w a (ep', putV es.2 none nk i v))) a (.dct (nks ++ [nk]) (ks ++ [kd]) (vs ++ [d'])) := by
            refine ⟨_, upd_same, ?_, keysD_snoc ek ekd, ?_, ?_⟩
            · rw [hp, List.map_append, en]; rfl
            · rw [hp, List.map_append]
              exact (rk.stay st).append ⟨i, [], rfl, ri.stay st, rfl⟩
            · rw [hp, List.map_append]
              exact (rv.stay st).append ⟨v, [], rfl, rvv.stay st, rfl⟩
          obtain ⟨r', g⟩ := hr.upd m ob e2
          exact k _ _ _ g r' (rvv.stay st)
        · cases e
      · cases e
    · cases e
  · cases e⟩
section
variable {X : Cx} {W : WX} {o e f : Expr} {es : List Expr} {m : M D} {ms : M (List D)} {apos cpos : Pos}
theorem e_setdefault (ho : PE X o (rd X W m)) (ha : PA X (e :: es) (rdA X W ms)) (hbase : attributeBase o "setdefault" X.env (eval o X.env) = eval o X.env := by rfl)
    (hfew : ((backTo cpos (starEach (e :: es) X.env)).all (fun x => !x.1) && (backToKw cpos (keywordEach [] X.env)).all (fun x => x.1.isSome) && decide ((e :: es).length + ([] : List Keyword).length + (if ([] : List Keyword).isEmpty then 0 else 1) < 30)) = true := by rfl)
    (hline : (apos.endLine == cpos.line) = true := by rfl) (hs : starEach (e :: es) X.env = (false, eval e X.env) :: starEach es X.env := by rfl) (hplain : (backTo cpos (starEach es X.env)).any (·.1) = false := by rfl) :
    PE X (.Call (.Attribute o "setdefault" apos) (e :: es) [] cpos) (rd X W (mMeth ckD fSetd m ms)) :=
  pe_imp (pe_bmt PySem.F.plainAttrs_dict PySem.F.slot_dict_setdefault PySem.F.type_dict_setdefault tyDict mt_setd ho ha hbase hfew hline hs hplain) fun σ H Q q => rd_meth cov_setd q
end
/-! ### sorted(a dict with int keys) -/
def rSortD (C : Ct) : List V → Hp → VK → Prop := fun xs H Q => ∃ (a : Addr) (es : Nat × List EV) (ks : List Int), xs = [.ref a] ∧ H a = some (DicO C.w a es) ∧ es.2.map (·.2.1) = ks.map V.int ∧ ks.length < 64 ∧
  ∀ (ys : List Int) (p : Addr), ys.Perm ks → ys.Pairwise (· ≤ ·) → H p = none → Q (.ref p) (upd H p (.lst (ys.map V.int)))
section
variable {X : Cx}
theorem call_sortD (hcalm : X.calm = true) : CallR X (.builtin "sorted") (rSortD (ctX X)) := by
  intro pins s σ H xs us Q I r q
  obtain ⟨a, es, ks, rfl, ea, hks, h64, q⟩ := q
  obtain ⟨u, rfl, rx⟩ := vals1 r
  cases rx
  obtain ⟨rs, x, p⟩ := dict_raw I ea
  obtain ⟨o, ho, hx, hdt⟩ := x.at_
  have hl := Paired.length p
  have hz := x.sz
  have hkl : es.2.length = ks.length := by simpa using congrArg List.length hks
  refine Calls.call_function_entry PyProof.Rows.kind_sorted PyProof.Rows.plain_sorted PyProof.Rows.entry_sorted (PyProof.Rows.args_sorted1 _) ?_
  unfold Builtin.«sorted»
  refine wpAny_bind (m := checkCount "sorted" 1 1 _) (wpAny_pure ?_)
  refine wpAny_bind (PySem.W.kdu_collect (A := X.A.in1) (PySem.KdlSrc.rawDict (es := (rs.map fun e => (⟨e.1.hash X.w, e.2.1, e.2.2⟩ : DictEntry)).toArray) (ep := es.1) x.sys) (I.ok.hd hcalm) ⟨o, ho, hx, hdt⟩ (by simpa using hz) fun h' tk acc hk hacc => ?_)
  have hal : acc.toList.length = ks.length := by rw [Array.length_toList, hacc.1, ← hkl, hl]; simp
  have hS : IntsAre acc.toList ks := ints_each hal fun j v e => by
    obtain ⟨hj, ew⟩ := hacc.2 j v (by rw [← Array.getElem?_toList]; exact e)
    have hj2 : j < rs.length := by simpa using hj
    obtain ⟨e', he', q1, q2, q3⟩ := paired_get p (List.getElem?_eq_getElem hj2)
    have e3 : (es.2.map (·.2.1))[j]? = some e'.2.1 := by rw [List.getElem?_map, he']; rfl
    rw [hks, List.getElem?_map] at e3
    obtain ⟨k, ek, ev⟩ := Option.map_eq_some_iff.mp e3
    subst ew
    rw [← ev] at q2
    obtain ⟨t, et⟩ := q2
    exact ⟨k, t, ek, by simpa using et⟩
  have I1 : Inv X pins σ H { s with heap := h', toks := tk } := I.kept hk
  refine wpAny_bind (wpAny_newList ?_ (by rw [hal, sizeLine_eq]; omega))
  have hoL : (h'.push (seqObj "list" acc.toList.toArray 0)).get? h'.objs.size = some (seqObj "list" acc.toList.toArray 0) := Heap.get?_push_size _ rfl
  show wpAny _ _ _ _ _ { s with heap := h'.push (seqObj "list" acc.toList.toArray 0), toks := tk }
  refine wpAny_bind (wpAny_holding (wpAny_call_entry PyProof.Rows.slot_list_sort ⟨_, hoL, rfl⟩ PyProof.Rows.entry_list_sort
    (PyProof.Rows.list_sort_tree (s := { s with heap := h'.push (seqObj "list" acc.toList.toArray 0), toks := tk }) hoL hS (by rw [hal]; exact h64) fun out ys g1 g2 g3 => ⟨_, rfl, ?_⟩) (PyProof.Rows.args_list_sort _)))
  obtain ⟨e', he'⟩ := PyProof.Rows.sortedHeap_at (vs := acc.toList) (out := out) hoL
  have hlen : (ys.map V.int).length ≤ sizeLine := by
    rw [List.length_map, g2.length_eq]
    exact Nat.le_trans (Nat.le_of_lt h64) (by decide)
  refine wpAny_pure ⟨_, rfl, .ref h'.objs.size, upd H h'.objs.size (.lst (ys.map V.int)), I1.laid (t' := tk) (fun b u e => ?_) (Nat.le_refl _)
    (show ObjOk X.prog X.w _ _ _ (.lst (ys.map V.int)) from ⟨hlen, out.toList, e', vals_of_ints g1, by rw [Array.toArray_toList]; exact he'⟩), rfl, q ys _ g2 g3 (I1.hok.fresh (Nat.le_refl _))⟩
  have hb : b < h'.objs.size := Heap.lt_size e
  rw [PyProof.Rows.sortedHeap_old (Nat.ne_of_lt hb) (by rw [size_push']; exact Nat.lt_succ_of_lt hb)]
  exact Heap.get?_push_of_some _ e
end
def dSortD (h : Hs) : List D → Option Nv
  | [.box n] => match h.get n with
    | some (.dct _ ks _) => (match intsD ks with
      | some is => if is.length < 64 then some (.n (.lst ((srtI is).map .int))) else none
      | none => none)
    | _ => none
  | _ => none
theorem cov_sortD {C : Ct} : CovA C (rSortD C) dSortD := by
  intro H L μ h xs ds n Q hr r1 hf want
  unfold dSortD at hf
  split at hf
  · split at hf
    · rename_i e0
      split at hf
      · rename_i is e
        split at hf
        · rename_i hl
          cases hf
          obtain ⟨x, rfl, rx⟩ := r1.one
          obtain ⟨a, rfl, m, es, ea, en, ek, rk, rv⟩ := hr.dctO rx e0
          refine ⟨a, es, is, rfl, ea, intsD_ok rk e, hl, fun ys p hp hs hq => ?_⟩
          rw [srt_uniq (hp.trans (srtI_perm is).symm) hs (srtI_srt is)]
          exact want.lst (repL_ints _) hq
        · cases hf
      · cases hf
    · cases hf
  · cases hf
def dSortA : Hs → List D → Option Nv := fun h d => match dSorted h d with | some n => some n | none => dSortD h d
section
variable {X : Cx} {W : WX} {e : Expr} {es : List Expr} {ms : M (List D)} {p pos : Pos}
theorem f_sortA (hc : X.calm = true) (hv : bootBuiltins "sorted" = some (.builtin "sorted")) (hg : Gl X "sorted") (hm : X.mg "sorted" = none) (ha : PA X (e :: es) (rdA X W ms)) (he : starEach (e :: es) X.env = (false, eval e X.env) :: starEach es X.env := by rfl) (hpl : (backTo pos (starEach es X.env)).any (·.1) = false := by rfl) :
    PE X (.Call (.Name "sorted" p) (e :: es) [] pos) (rd X W (mOpA dSortA ms)) := e_callB (CallR.or cr_sortedI (call_sortD hc)) (cov_sorted.or cov_sortD) hv hg hm ha (by decide) (by decide) he hpl
end
end Rh

set_option Elab.async false
set_option linter.all false
set_option maxRecDepth 100000
set_option maxHeartbeats 2000000
set_option autoImplicit false
namespace Rh
open PySem PySem.Spec PyProof.Rows L2
variable [Tbs]
/-! ### a call that no box reaches -/
mutual
def flatD : D → Bool
  | .box _ => false
  | .tup ds => flatL ds
  | .scr ds => flatL ds
  | _ => true
def flatL : List D → Bool
  | [] => true
  | d :: ds => flatD d && flatL ds
end
section
variable {C : Ct} {μ μ' : Mu} {H : Hp}
mutual
theorem RepV.flat : ∀ (d : D) (v : V), flatD d = true → RepV C μ H d v → RepV C μ' H d v
  | .non, _, _, h => h
  | .bl _, _, _, h => h
  | .int _, _, _, h => h
  | .str _, _, _, h => h
  | .gl _, _, _, h => h
  | .ty _, _, _, h => h
  | .tup ds, _, f, ⟨a, vs, e, q, r⟩ => ⟨a, vs, e, q, RepL.flat ds vs f r⟩
  | .scr ds, _, f, ⟨a, vs, e, q, r⟩ => ⟨a, vs, e, q, RepL.flat ds vs f r⟩
  | .box n, _, f, _ => nomatch f
theorem RepL.flat : ∀ (ds : List D) (vs : List V), flatL ds = true → RepL C μ H ds vs → RepL C μ' H ds vs
  | [], _, _, h => h
  | d :: ds, _, f, ⟨v, r, e, h1, h2⟩ => by
    have f : (flatD d && flatL ds) = true := f
    rw [Bool.and_eq_true] at f
    exact ⟨v, r, e, RepV.flat d v f.1 h1, RepL.flat ds r f.2 h2⟩
end
end
def clF (f : FM) : FM := fun as h => match flatL as with
  | true => (match f as h0 with
    | some (.rt d _) => (match flatD d with
      | true => some (.rt d h)
      | false => none)
    | _ => none)
  | false => none
theorem fn_cl (hz : Tbs.base = []) {P : Program} {w : World} {K : PySem.W.Frag} {mg : Str → Option Value} {base : Heap} {ps : List Str} {k np : Nat} {f : Addr} {fd : FuncData} {fm : FM} (F : FnOk P w K mg base (L2.CX P w) k f fd ps (spF ⟨w, K, mg⟩ np fm)) :
    FnOk P w K mg base (L2.CX P w) k f fd ps (spF ⟨w, K, mg⟩ np (clF fm)) := by
  refine F.imp fun vs H Q E ⟨L, μ, h, as, hl, rl, hr, q⟩ => ?_
  unfold clF at q
  split at q
  · exact q.elim
  · rename_i e
    split at e
    · rename_i fa
      split at e
      · rename_i d' h' e2
        split at e
        · rename_i fd'
          cases e
          refine ⟨[], [], h0, as, hl, RepL.flat _ _ fa rl, hr0 hz hr.tb, ?_⟩
          rw [e2]
          intro x μ' H' g r rx
          have kb : ∀ b o, H b = some o → (∀ ps, o ≠ .tbl ps) → H' b = some o := fun b o e nt => g.keep b o e nt (by simp)
          have at_ : ∀ (i : Nat) (b : Addr), μ[i]? = some b → H' b = H b := fun i b e => by
            obtain ⟨o, _, qo⟩ := hr.ob i b e
            cases o with
            | lst ds => obtain ⟨vs, e1, _⟩ := qo; rw [e1, kb b _ e1 fun _ z => nomatch z]
            | dct nks ks vs => obtain ⟨es, e1, _⟩ := qo; rw [e1, kb b _ e1 fun _ z => nomatch z]
            | lam _ _ => exact qo.elim
            | exo _ _ => exact qo.elim
          have st : Stay μ H μ H' := ⟨fun _ _ e => e, fun b xs e => kb b _ e (fun _ z => nomatch z), fun b ob u e => kb b _ e (fun _ z => nomatch z)⟩
          have g' : Go L μ H μ H' := ⟨fun i _ b e => at_ i b e, fun b o e nt _ => kb b o e nt, g.dom, ⟨[], (List.append_nil _).symm⟩, fun _ m => .inl m⟩
          have r' : HR ⟨w, K, mg⟩ L μ H' h := ⟨hr.lk, hr.len, hr.nd, r.tb, fun i b e => let ⟨o, e1, qo⟩ := hr.ob i b e; ⟨o, e1, qo.stay st (at_ i b e)⟩⟩
          exact q x μ H' g' r' (RepV.flat _ _ fd' rx)
        · cases e
      · cases e
    · cases e
  · rename_i e
    exfalso
    split at e
    · split at e
      · split at e
        · cases e
        · cases e
      · cases e
    · cases e
/-! ### tables: what can be stored -/
theorem Tr.put0_some {α : Type} (a : α) : ∀ (f : Nat) (t : Tr α) (i : Nat), i + 1 < 2 ^ f → ∃ t', Tr.put0 a f t i = some t'
  | 0, _, i, h => by simp at h
  | f + 1, .nil, i, h => by
    have h2 : 2 ^ (f + 1) = 2 * 2 ^ f := by rw [Nat.pow_succ, Nat.mul_comm]
    unfold Tr.put0
    rw [beq_dec, beq_dec]
    by_cases h0 : i = 0
    · simp [h0]
    · by_cases h1 : i % 2 = 1
      · obtain ⟨t', e⟩ := Tr.put0_some a f .nil (i / 2) (by omega)
        simp [h0, h1, e]
      · obtain ⟨t', e⟩ := Tr.put0_some a f .nil (i / 2 - 1) (by omega)
        simp [h0, h1, e]
  | f + 1, .node v l r, i, h => by
    have h2 : 2 ^ (f + 1) = 2 * 2 ^ f := by rw [Nat.pow_succ, Nat.mul_comm]
    unfold Tr.put0
    rw [beq_dec, beq_dec]
    by_cases h0 : i = 0
    · simp [h0]
    · by_cases h1 : i % 2 = 1
      · obtain ⟨t', e⟩ := Tr.put0_some a f l (i / 2) (by omega)
        simp [h0, h1, e]
      · obtain ⟨t', e⟩ := Tr.put0_some a f r (i / 2 - 1) (by omega)
        simp [h0, h1, e]
theorem Tr.put_some {α : Type} (a : α) (f : Nat) : ∀ (t : Tr α) (i : Nat), i + 1 < 2 ^ f → ∃ t', Tr.put a f t i = some t'
  | .nil, i, h => by
    rw [Tr.put_nil]
    by_cases h0 : i = 0
    · exact ⟨_, if_pos h0⟩
    · rw [if_neg h0]; exact Tr.put0_some a f .nil i h
  | .node v l r, i, h => by
    rw [Tr.put_node]
    by_cases h0 : i = 0
    · exact ⟨_, if_pos h0⟩
    · rw [if_neg h0]
      by_cases h1 : i % 2 = 1
      · obtain ⟨t, e⟩ := Tr.put_some a f l (i / 2) (by omega)
        rw [if_pos h1, e]; exact ⟨_, rfl⟩
      · obtain ⟨t, e⟩ := Tr.put_some a f r (i / 2 - 1) (by omega)
        rw [if_neg h1, e]; exact ⟨_, rfl⟩
theorem Hs.new_some (h : Hs) (o : O) (hn : h.n < 1000000) : ∃ h', h.new o = some h' := by
  obtain ⟨t', e⟩ := Tr.put_some o 40 h.t h.n (by omega)
  exact ⟨_, by unfold Hs.new; rw [e]⟩
theorem Hs.set_some (h : Hs) (o : O) (i : Nat) (hi : i < 1000000) (hl : i ∉ h.lk) : ∃ h', h.set i o = some h' := by
  obtain ⟨t', e⟩ := Tr.put_some o 40 h.t i (by omega)
  refine ⟨⟨h.n, t', h.lk⟩, ?_⟩
  unfold Hs.set
  have : (h.lk.all fun j => !Nat.beq j i) = true := List.all_eq_true.mpr fun j hj => by
    rw [beq_dec, decide_eq_false (fun q : j = i => hl (q ▸ hj))]; rfl
  rw [this, e]
/-! ### the script's cells -/
def mCellBody : MS := (mSeq (mSet 5 (mOp2 dMod (mOpA dInt1 (mCons (mVar 3) mNil)) (mVar 1)))
    (mSeq (mAsg (tSub (mVar 2) (mVar 5)) (mOp2 dAdd (mOp2 dIx (mVar 2) (mVar 5)) (mOp2 dMulW (mVar 4) (mOp2 dAdd (mVar 3) (mCon (.int 2))))))
    mNx))
def mCells : MS := (mSeq (mSet 2 (mOrV (mOpA dListA (mCons (mSl (mVar 0) (mPure none) (mPart (mVar 1))) mNil)) (mLst (mCons (mCon (.int 0)) mNil))))
    (mSeq (mFor (mEnum 0 (mSl (mVar 0) (mPart (mVar 1)) (mPart (mCon (.int 63))))) (tTup 2 (tsCons (tName 3) (tsCons (tName 4) tsNil))) mCellBody)
    (mSeq (mRet (mVar 2))
    mNx)))
theorem dIntC_int {c : Int → Int → Bool} {g : Int → Int → D} {h : Hs} {i j : Int} (hc : c i j = true) : dIntC c g h (.int i) (.int j) = some (.v (g i j)) := if_pos hc
theorem okMul_of {i j : Int} (h : (Builtin.Int.intBits i : Int) + (Builtin.Int.intBits j : Int) ≤ 134217728) : okMul i j = true := decide_eq_true h
theorem bits_small {z c : Int} (hz : Builtin.Int.intBits z ≤ 1048576) (h0 : 0 ≤ c) (h1 : c ≤ 1000) : ((Builtin.Int.intBits z : Int) + (Builtin.Int.intBits c : Int) ≤ 134217728) := by
  have := PyProof.Rows.intBits_le (show c.natAbs < 2 ^ 10 by omega)
  omega
theorem dMod_int {h : Hs} {i j : Int} (hj : 0 < j) : dMod h (.int i) (.int j) = some (.v (.int (i % j))) := dIntC_int (c := fun _ j => decide (0 < j)) (g := fun i j => .int (i % j)) (decide_eq_true hj)
theorem dIx_lst {h : Hs} {b : Nat} {ds : List D} {i : Int} {x : D} (hg : h.get b = some (.lst ds)) (ha : atI ds i = some x) : dIx h (.box b) (.int i) = some (.v x) := by
  have hl : lstD h (.box b) = some ds := by simp only [lstD, hg]
  unfold dIx dIxT dIxL
  simp only [hl, ha, Option.map_some]
theorem dMulW_int {h : Hs} {i j : Int} (hc : okMul i j = true) : dMulW h (.int i) (.int j) = some (.v (.int (i * j))) := by
  have e0 : dIntC okMul (fun i j => .int (i * j)) h (.int i) (.int j) = some (.v (.int (i * j))) := dIntC_int hc
  unfold dMulW
  simp only [e0]
theorem dAdd_int {h : Hs} {i j : Int} : dAdd h (.int i) (.int j) = some (.v (.int (i + j))) := by
  have e0 : dInt (fun i j => .int (i + j)) h (.int i) (.int j) = some (.v (.int (i + j))) := dIntC_int rfl
  unfold dAdd
  simp only [e0]
theorem putD_lst {h h' : Hs} {b : Nat} {ds : List D} {i : Int} {j : Nat} {x : D} (hg : h.get b = some (.lst ds)) (hi : ixN ds.length i = some j) (e : h.set b (.lst (ds.set j x)) = some h') : putD h (.box b) (.int i) x = some h' := by
  unfold putD
  simp only [hg, hi, e]
section
variable {ρ ρ1 ρ' : En} {h h1 h2 h3 : Hs} {a b m mo mi : M D} {d x y : D}
theorem mSeq_nx {s t : MS} (e : s ρ h = some (.nx ρ1 h1)) : mSeq s t ρ h = t ρ1 h1 := by unfold mSeq; rw [e]
theorem mSet_ok {i : Nat} (e : m ρ h = some (.ok d h1)) : mSet i m ρ h = some (.nx (ρ.set i (some d)) h1) := by unfold mSet mDo; rw [e]
theorem mOp2_ok {f : Hs → D → D → Option Nv} (e : a ρ h = some (.ok x h1)) (e2 : b ρ h1 = some (.ok y h2)) (e3 : f h2 x y = some (.v d)) : mOp2 f a b ρ h = some (.ok d h2) := by
  unfold mOp2 mBind; rw [e]; dsimp only; rw [e2]; dsimp only; rw [e3]; rfl
theorem mVar_ok {i : Nat} (e : ρ[i]? = some (some d)) (nl : d ≠ .lm := by first | exact fun z => nomatch z | assumption) : mVar i ρ h = some (.ok d h) := by unfold mVar; rw [e]; exact okS_ok nl
theorem mOpA1_ok {f : Hs → List D → Option Nv} (e : a ρ h = some (.ok x h1)) (e3 : f h1 [x] = some (.v d)) : mOpA f (mCons a mNil) ρ h = some (.ok d h1) := by
  unfold mOpA mCons mNil mBind mPure; dsimp only; rw [e]; dsimp only; rw [e3]; rfl
theorem mAsg_ok {t : TM} (e : m ρ h = some (.ok d h1)) (e2 : t d ρ h1 = some (ρ', h2)) : mAsg t m ρ h = some (.nx ρ' h2) := by unfold mAsg mDo; rw [e]; dsimp only; rw [e2]
theorem tSub_ok (e : mo ρ h = some (.ok x h1)) (e2 : mi ρ h1 = some (.ok y h2)) (e3 : putD h2 x y d = some h3) : tSub mo mi d ρ h = some (ρ, h3) := by unfold tSub; rw [e]; dsimp only; rw [e2]; dsimp only; rw [e3]
end
theorem cell_step {top : Nat} (ht : 1 ≤ top) (sc : D) (b : Nat) (hb : b < 1000000) {z : Int} {k : Nat} (hz : Builtin.Int.intBits z ≤ 1048576) (hk : k ≤ 900) {cs : List Int} (hcs : cs.length = top) {h : Hs} (hg : h.get b = some (.lst (cs.map .int))) (hl : b ∉ h.lk) (x5 : Option D) :
    ∃ h' c5, mCellBody [some sc, some (.int top), some (.box b), some (.int k), some (.int z), x5] h = some (.nx [some sc, some (.int top), some (.box b), some (.int k), some (.int z), c5] h') ∧
      ∃ cs' : List Int, cs'.length = top ∧ h'.get b = some (.lst (cs'.map .int)) ∧ (∀ j, j ≠ b → h'.get j = h.get j) ∧ h'.n = h.n ∧ h'.lk = h.lk := by
  have hm0 : (0 : Int) ≤ (k : Int) % (top : Int) := Int.emod_nonneg _ (by omega)
  have hm1 : (k : Int) % (top : Int) < top := Int.emod_lt_of_pos _ (by omega)
  obtain ⟨j, hj⟩ := Int.eq_ofNat_of_zero_le hm0
  have hjl : j < top := by omega
  have hix : ixN (cs.map D.int).length ((j : Nat) : Int) = some j := by
    unfold ixN
    rw [if_pos (by omega), if_pos (by rw [List.length_map, hcs]; omega)]
    simp
  have hat : atI (cs.map D.int) ((j : Nat) : Int) = some (.int cs[j]) := by
    unfold atI
    rw [hix]
    simp
  have hbit := bits_small (c := (k : Int) + 2) hz (by omega) (by omega)
  obtain ⟨h', e'⟩ := Hs.set_some h (.lst ((cs.map D.int).set j (.int (cs[j] + z * ((k : Int) + 2))))) b hb hl
  refine ⟨h', some (.int (j : Nat)), ?_, cs.set j (cs[j] + z * ((k : Int) + 2)), by rw [List.length_set]; exact hcs, ?_, ?_, (Hs.set_ok e').2.2.1, (Hs.set_ok e').2.1⟩
  · have e1 : dMod h (.int k) (.int top) = some (.v (.int j)) := by rw [dMod_int (by omega), hj]
    have e2 : dIx h (.box b) (.int (j : Nat)) = some (.v (.int cs[j])) := dIx_lst hg hat
    have e3 : dMulW h (.int z) (.int ((k : Int) + 2)) = some (.v (.int (z * ((k : Int) + 2)))) := dMulW_int (okMul_of hbit)
    have e4 : putD h (.box b) (.int (j : Nat)) (.int (cs[j] + z * ((k : Int) + 2))) = some h' := putD_lst hg hix e'
    have e5 : dAdd h (.int k) (.int 2) = some (.v (.int ((k : Int) + 2))) := dAdd_int
    have e6 : dAdd h (.int cs[j]) (.int (z * ((k : Int) + 2))) = some (.v (.int (cs[j] + z * ((k : Int) + 2)))) := dAdd_int
    unfold mCellBody
    rw [mSeq_nx (mSet_ok (mOp2_ok (mOpA1_ok (mVar_ok (d := .int k) rfl) (show dInt1 h [.int k] = some (.v (.int k)) from rfl)) (mVar_ok (d := .int top) rfl) e1)),
      mSeq_nx (mAsg_ok (mOp2_ok (mOp2_ok (mVar_ok (d := .box b) rfl) (mVar_ok (d := .int (j : Nat)) rfl) e2) (mOp2_ok (mVar_ok (d := .int z) rfl) (mOp2_ok (mVar_ok (d := .int k) rfl) (show mCon (.int 2) _ h = some (.ok (.int 2) h) from rfl) e5) e3) e6) (tSub_ok (mVar_ok (d := .box b) rfl) (mVar_ok (d := .int (j : Nat)) rfl) e4))]
    rfl
  · rw [(Hs.set_ok e').2.2.2, if_pos rfl, List.map_set]
  · intro i hi
    rw [(Hs.set_ok e').2.2.2, if_neg hi]
theorem cell_loop {top : Nat} (ht : 1 ≤ top) (sc : D) (b : Nat) (hb : b < 1000000) : ∀ (ns : List Int) (k : Nat) (cs : List Int) (h : Hs) (x3 x4 x5 : Option D), (∀ z ∈ ns, Builtin.Int.intBits z ≤ 1048576) → k + ns.length ≤ 900 → cs.length = top → h.get b = some (.lst (cs.map .int)) → b ∉ h.lk →
    ∃ h' x3' x4' x5', loopF (tTup 2 (tsCons (tName 3) (tsCons (tName 4) tsNil))) mCellBody (enumD k (ns.map .int)) [some sc, some (.int top), some (.box b), x3, x4, x5] h = some (.nx [some sc, some (.int top), some (.box b), x3', x4', x5'] h') ∧
      ∃ cs' : List Int, cs'.length = top ∧ h'.get b = some (.lst (cs'.map .int)) ∧ (∀ j, j ≠ b → h'.get j = h.get j) ∧ h'.n = h.n ∧ h'.lk = h.lk
  | [], k, cs, h, x3, x4, x5, _, _, hcs, hg, _ => ⟨h, x3, x4, x5, rfl, cs, hcs, hg, fun _ _ => rfl, rfl, rfl⟩
  | z :: ns, k, cs, h, x3, x4, x5, hz, hk, hcs, hg, hl => by
    have hk : k + (ns.length + 1) ≤ 900 := hk
    obtain ⟨h1, c5, e1, cs1, l1, g1, o1, n1, k1⟩ := cell_step ht sc b hb (hz z (List.mem_cons_self ..)) (by omega : k ≤ 900) hcs hg hl x5
    obtain ⟨h2, y3, y4, y5, e2, cs2, l2, g2, o2, n2, k2⟩ := cell_loop ht sc b hb ns (k + 1) cs1 h1 (some (.int k)) (some (.int z)) c5 (fun y hy => hz y (List.mem_cons_of_mem _ hy)) (by omega) l1 g1 (by rw [k1]; exact hl)
    refine ⟨h2, y3, y4, y5, ?_, cs2, l2, g2, fun j hj => (o2 j hj).trans (o1 j hj), n2.trans n1, k2.trans k1⟩
    have et : (tTup 2 (tsCons (tName 3) (tsCons (tName 4) tsNil))) (.tup [.int k, .int z]) [some sc, some (.int top), some (.box b), x3, x4, x5] h = some ([some sc, some (.int top), some (.box b), some (.int k), some (.int z), x5], h) := rfl
    show loopF _ _ (.tup [.int k, .int z] :: enumD ((k : Int) + 1) (ns.map .int)) _ h = _
    unfold loopF
    rw [et]
    dsimp only
    rw [e1]
    dsimp only
    have : ((k + 1 : Nat) : Int) = (k : Int) + 1 := by omega
    rw [this] at e2
    exact e2
theorem cells_ok {top : Nat} (ht : 1 ≤ top) (ht2 : top ≤ 63) (ns : List Int) (hn : ns.length ≤ 63) (hb : ∀ z ∈ ns, Builtin.Int.intBits z ≤ 1048576) (h : Hs) (hh : h.n < 900000) (hk : h.lk = []) (sc : D) (hs : sc = .scr (ns.map .int) ∨ ∃ b0, sc = .box b0 ∧ b0 < h.n ∧ h.get b0 = some (.lst (ns.map .int))) :
    ∃ b h' cs, runDef 6 mCells [sc, .int top] h = some (.rt (.box b) h') ∧ h'.get b = some (.lst (List.map D.int cs)) ∧ 1 ≤ cs.length ∧ h'.lk = [] ∧ h'.n < 900010 := by
  have hlen : (ns.map D.int).length = ns.length := List.length_map ..
  have nl : sc ≠ .lm := by rcases hs with rfl | ⟨_, rfl, _⟩ <;> exact fun z => nomatch z
  have hsl : ∀ (h' : Hs) (lo hi : Option Int), (∀ j, j < h.n → h'.get j = h.get j) → dSl h' sc lo hi = some (.n (.lst (cutD (ns.map .int) lo hi))) := fun h' lo hi hj => by
    rcases hs with rfl | ⟨b0, rfl, hb0, hg0⟩
    · rfl
    · unfold dSl lstD
      simp only [hj b0 hb0, hg0, Option.map_some]
  -- script[:top]
  have ec : cutD (ns.map D.int) none (some (top : Int)) = (ns.take top).map D.int := by
    unfold cutD
    rw [HT.sIx_none, HT.sIx_nat, hlen, List.drop_zero, Nat.sub_zero, List.map_take]
    by_cases q : top ≤ ns.length
    · rw [Nat.min_eq_left q]
    · rw [Nat.min_eq_right (by omega), List.take_of_length_le (by simp), List.take_of_length_le (by simp; omega)]
  have ec2 : cutD (ns.map D.int) (some (top : Int)) (some 63) = (ns.drop top).map D.int := by
    unfold cutD
    rw [HT.sIx_nat, show (63 : Int) = ((63 : Nat) : Int) from rfl, HT.sIx_nat, hlen]
    by_cases q : top ≤ ns.length
    · rw [Nat.min_eq_left q, Nat.min_eq_right hn, List.take_of_length_le (by simp), List.map_drop]
    · rw [Nat.min_eq_right (by omega : ns.length ≤ top), Nat.min_eq_right hn, Nat.sub_self, List.take_zero, List.drop_eq_nil_of_le (by omega : ns.length ≤ top)]; rfl
  obtain ⟨h1, e1⟩ := Hs.new_some h (.lst ((ns.take top).map D.int)) (by omega)
  have g1 : h1.get h.n = some (.lst ((ns.take top).map D.int)) := by rw [Hs.new_get e1, if_pos rfl]
  have n1 := Hs.new_n e1
  obtain ⟨h2, e2⟩ := Hs.new_some h1 (.lst ((ns.take top).map D.int)) (by omega)
  have g2 : h2.get h1.n = some (.lst ((ns.take top).map D.int)) := by rw [Hs.new_get e2, if_pos rfl]
  have n2 := Hs.new_n e2
  -- the box of the cells
  have first : ∃ b h3 cs, (mSet 2 (mOrV (mOpA dListA (mCons (mSl (mVar 0) (mPure none) (mPart (mVar 1))) mNil)) (mLst (mCons (mCon (.int 0)) mNil)))) [some sc, some (.int top), none, none, none, none] h = some (.nx [some sc, some (.int top), some (.box b), none, none, none] h3) ∧
      h3.get b = some (.lst (List.map D.int cs)) ∧ 1 ≤ cs.length ∧ (ns.drop top ≠ [] → cs.length = top) ∧ h3.n ≤ h.n + 3 ∧ b < h3.n ∧ h3.lk = [] ∧ ∀ j, j < h.n → h3.get j = h.get j := by
    have d1 : dSl h sc none (some (top : Int)) = some (.n (.lst ((ns.take top).map D.int))) := by
      rw [← ec]; exact hsl h _ _ fun _ _ => rfl
    have d2 : dListA h1 [.box h.n] = some (.n (.lst ((ns.take top).map D.int))) := by
      unfold dListA dList seqD
      simp only [lstD, g1, Option.map_some]
    have o2 : ∀ j, j < h.n → h2.get j = h.get j := fun j hj => by rw [Hs.new_get e2, if_neg (by omega), Hs.new_get e1, if_neg (by omega)]
    have k2 : h2.lk = [] := (Hs.new_lk e2).trans ((Hs.new_lk e1).trans hk)
    by_cases q : ns.take top = []
    · obtain ⟨h3, e3⟩ := Hs.new_some h2 (.lst [.int 0]) (by omega)
      refine ⟨h2.n, h3, [0], ?_, by rw [Hs.new_get e3, if_pos rfl]; rfl, by simp, fun z => ?_, by rw [Hs.new_n e3]; omega, by rw [Hs.new_n e3]; omega, (Hs.new_lk e3).trans k2, fun j hj => by rw [Hs.new_get e3, if_neg (by omega)]; exact o2 j hj⟩
      · have t0 : truthD h2 (.box h1.n) = some false := by
          unfold truthD
          simp only [g2, q, List.map_nil, List.isEmpty_nil, Bool.not_true]
        simp only [mSet, mDo, mOrV, mOpA, mCons, mNil, mSl, mPart, mBind, mVar, okS_ok nl, okS, mCon, mPure, mLst, mDisp, List.getElem?_cons_zero, List.getElem?_cons_succ, lift, Nv.lift, d1, e1, d2, e2, t0, e3, List.set_cons_zero, List.set_cons_succ]
        rfl
      · exfalso
        rw [List.take_eq_nil_iff] at q
        rcases q with q | q
        · omega
        · rw [q] at z; simp at z
    · refine ⟨h1.n, h2, ns.take top, ?_, g2, ?_, fun z => ?_, by omega, by omega, k2, o2⟩
      · have t0 : truthD h2 (.box h1.n) = some true := by
          unfold truthD
          simp only [g2]
          cases hq : ns.take top with
          | nil => exact absurd hq q
          | cons a r => rfl
        simp only [mSet, mDo, mOrV, mOpA, mCons, mNil, mSl, mPart, mBind, mVar, okS_ok nl, okS, mCon, mPure, mLst, mDisp, List.getElem?_cons_zero, List.getElem?_cons_succ, lift, Nv.lift, d1, e1, d2, e2, t0, List.set_cons_zero, List.set_cons_succ]
      · cases hq : ns.take top with
        | nil => exact absurd hq q
        | cons a r => simp
      · rw [List.length_take]
        have : top < ns.length := by
          by_cases y : top < ns.length
          · exact y
          · exact absurd (List.drop_eq_nil_of_le (by omega)) z
        omega
  obtain ⟨b, h3, cs, f1, f2, f3, f4, f5, f6, f7, f8⟩ := first
  -- script[top:63]
  obtain ⟨h4, e4⟩ := Hs.new_some h3 (.lst ((ns.drop top).map D.int)) (by omega)
  have g4 : h4.get h3.n = some (.lst ((ns.drop top).map D.int)) := by rw [Hs.new_get e4, if_pos rfl]
  have g4b : h4.get b = some (.lst (List.map D.int cs)) := by rw [Hs.new_get e4, if_neg (by omega)]; exact f2
  have d3 : dSl h3 sc (some (top : Int)) (some 63) = some (.n (.lst ((ns.drop top).map D.int))) := by
    rw [← ec2]; exact hsl h3 _ _ f8
  have it : itD h4 (.box h3.n) = some ((ns.drop top).map D.int, [h3.n]) := by
    unfold itD; simp only [g4]
  have loop : ∃ h5 x3 x4 x5 cs', loopF (tTup 2 (tsCons (tName 3) (tsCons (tName 4) tsNil))) mCellBody (enumD 0 ((ns.drop top).map .int)) [some sc, some (.int top), some (.box b), none, none, none] (relk ([h3.n] ++ h4.lk) h4) = some (.nx [some sc, some (.int top), some (.box b), x3, x4, x5] h5) ∧
      h5.get b = some (.lst (List.map D.int cs')) ∧ 1 ≤ cs'.length ∧ h5.n = h4.n := by
    by_cases q : ns.drop top = []
    · rw [q]
      exact ⟨_, none, none, none, cs, rfl, g4b, f3, rfl⟩
    · obtain ⟨h5, x3, x4, x5, l1, cs', l2, l3, l4, l5, l6⟩ := cell_loop ht sc b (by omega) (ns.drop top) 0 cs (relk ([h3.n] ++ h4.lk) h4) none none none (fun z hz => hb z (List.mem_of_mem_drop hz)) (by rw [List.length_drop]; omega) (f4 q) g4b
        (by show b ∉ [h3.n] ++ h4.lk; rw [Hs.new_lk e4, f7]; simp; omega)
      exact ⟨h5, x3, x4, x5, cs', l1, l3, by omega, l5⟩
  obtain ⟨h5, x3, x4, x5, cs', l1, l2, l3, l4⟩ := loop
  refine ⟨b, relk h4.lk h5, cs', ?_, l2, l3, (Hs.new_lk e4).trans f7, by show h5.n < _; rw [l4, Hs.new_n e4]; omega⟩
  have henv : envOf 6 [sc, .int top] = [some sc, some (.int top), none, none, none, none] := rfl
  have en : (mEnum 0 (mSl (mVar 0) (mPart (mVar 1)) (mPart (mCon (.int 63))))) [some sc, some (.int top), some (.box b), none, none, none] h3 = some (.ok (enumD 0 ((ns.drop top).map .int), [h3.n]) h4) := by
    simp only [mEnum, mSl, mPart, mBind, mVar, okS_ok nl, okS, mCon, mPure, List.getElem?_cons_zero, List.getElem?_cons_succ, lift, Nv.lift, d3, e4, it]
  unfold runDef
  rw [henv]
  unfold mCells
  rw [show ∀ (a b : MS) ρ h, mSeq a b ρ h = (match a ρ h with | some (.nx ρ1 h1) => b ρ1 h1 | o => o) from fun _ _ _ _ => rfl, f1]
  dsimp only
  rw [show ∀ (a b : MS) ρ h, mSeq a b ρ h = (match a ρ h with | some (.nx ρ1 h1) => b ρ1 h1 | o => o) from fun _ _ _ _ => rfl]
  have ef : mFor (mEnum 0 (mSl (mVar 0) (mPart (mVar 1)) (mPart (mCon (.int 63))))) (tTup 2 (tsCons (tName 3) (tsCons (tName 4) tsNil))) mCellBody [some sc, some (.int top), some (.box b), none, none, none] h3 = some (.nx [some sc, some (.int top), some (.box b), x3, x4, x5] (relk h4.lk h5)) := by
    unfold mFor mDo
    rw [en]
    dsimp only
    rw [l1]
    rfl
  rw [ef]
  rfl
end Rh

set_option Elab.async false
set_option linter.all false
set_option maxRecDepth 100000
set_option maxHeartbeats 2000000
set_option autoImplicit false
namespace Rh
open PySem PySem.Spec PyProof.Rows L2
variable [Tbs]
/-! ### words for a law's last steps -/
def isTrue : Option FR → Bool
  | some (.rt (.bl b) _) => b
  | _ => false
theorem isTrue_ex {o : Option FR} (h : isTrue o = true) : ∃ k, o = some (.rt (.bl true) k) := by
  unfold isTrue at h
  split at h
  · subst h; exact ⟨_, rfl⟩
  · cases h
section
variable {ρ ρ1 ρ' : En} {h h1 h2 h3 : Hs} {a b m mo mi : M D} {d x y : D} {f : FM} {ms : M (List D)}
theorem clF_true {as : List D} (ha : flatL as = true) (e : isTrue (f as h0) = true) (h : Hs) : clF f as h = some (.rt (.bl true) h) := by
  obtain ⟨k, e⟩ := isTrue_ex e
  unfold clF
  rw [ha]
  dsimp only
  rw [e]
  rfl
theorem mCall_ok {ds : List D} (e : ms ρ h = some (.ok ds h1)) (e2 : f ds h1 = some (.rt d h2)) : mCall f ms ρ h = some (.ok d h2) := by unfold mCall mBind; rw [e]; dsimp only; rw [e2]
theorem mNil_ok : mNil ρ h = some (.ok [] h) := rfl
theorem mCons_ok {ds : List D} (e : m ρ h = some (.ok d h1)) (e2 : ms ρ h1 = some (.ok ds h2)) : mCons m ms ρ h = some (.ok (d :: ds) h2) := by unfold mCons mBind mPure; rw [e]; dsimp only; rw [e2]
theorem mCall0_true (e : isTrue (f [] h0) = true) : mCall (clF f) mNil ρ h = some (.ok (.bl true) h) := mCall_ok mNil_ok (clF_true rfl e h)
theorem mTruth_ok {k : Bool} (e : m ρ h = some (.ok d h1)) (e2 : truthD h1 d = some k) : mTruth m ρ h = some (.ok k h1) := by unfold mTruth mBind; rw [e]; dsimp only; rw [e2]
theorem mNot_ok {c : M Bool} {k : Bool} (e : c ρ h = some (.ok k h1)) : mNot c ρ h = some (.ok (!k) h1) := by unfold mNot mBind mPure; rw [e]
theorem mB_ok {k : Bool} (e : m ρ h = some (.ok (.bl k) h1)) : mB m ρ h = some (.ok k h1) := by unfold mB mBind; rw [e]
theorem mIf_ok {c : M Bool} {k : Bool} (e : c ρ h = some (.ok k h1)) : mIf c a b ρ h = (if k = true then a else b) ρ h1 := by unfold mIf mBind; rw [e]
theorem mIfS_ok {c : M Bool} {k : Bool} {s t : MS} (e : c ρ h = some (.ok k h1)) : mIfS c s t ρ h = (if k = true then s else t) ρ h1 := by unfold mIfS mDo; rw [e]
theorem mRet_ok (e : m ρ h = some (.ok d h1)) : mRet m ρ h = some (.rt d h1) := by unfold mRet mDo; rw [e]
theorem mSeq_rt {s t : MS} (e : s ρ h = some (.rt d h1)) : mSeq s t ρ h = some (.rt d h1) := by unfold mSeq; rw [e]
theorem mCon_ok : mCon d ρ h = some (.ok d h) := rfl
theorem dEq_ints (h : Hs) (i j : Int) : dEq false h (.int i) (.int j) = some (.v (.bl (PyData.eqv (.int i) (.int j)))) := by
  unfold dEq
  have e1 : toPy h 40 (.int i) = some (.int i) := rfl
  have e2 : toPy h 40 (.int j) = some (.int j) := rfl
  rw [e1, e2]
  dsimp only
  rw [if_pos ⟨rfl, rfl⟩]
  rfl
theorem runDef_rt {n : Nat} {s : MS} {as : List D} (e : s (envOf n as) h = some (.rt d h1)) : runDef n s as h = some (.rt d h1) := by unfold runDef; rw [e]
theorem atI_zero {x : D} {xs : List D} : atI (x :: xs) (0 : Int) = some x := by
  unfold atI ixN
  rw [if_pos (Int.le_refl 0), if_pos (by simp only [List.length_cons]; omega)]
  rfl
/-- if not f(): return False -/
theorem guard_ok (e : isTrue (f [] h0) = true) {s : MS} : mIfS (mNot (mTruth (mCall (clF f) mNil))) s mNx ρ h = some (.nx ρ h) := mIfS_ok (mNot_ok (mTruth_ok (mCall0_true e) rfl))
end
end Rh

set_option Elab.async false
set_option linter.all false
set_option maxRecDepth 100000
set_option maxHeartbeats 2000000
set_option autoImplicit false
namespace Rh
open PySem PySem.Spec PyProof.Rows L2
variable [Tbs]
/-! ### sorted(..) of tuples of ints, all equally long -/
def tupOf (r : List Int) : D := .tup (r.map .int)
def rowsD : List D → Option (List (List Int))
  | [] => some []
  | .tup es :: ds => match intsD es, rowsD ds with
    | some is, some r => some (is :: r)
    | _, _ => none
  | _ => none
theorem intsD_eq : ∀ {es : List D} {is : List Int}, intsD es = some is → es = is.map .int
  | [], _, e => by cases e; rfl
  | d :: es, is, e => by
    cases d with
    | int i =>
      obtain ⟨cs, e1, rfl⟩ := Option.map_eq_some_iff.mp (show (intsD es).map (i :: ·) = some is from e)
      rw [List.map_cons, ← intsD_eq e1]
    | _ => cases e
theorem rowsD_eq : ∀ {ds : List D} {rows : List (List Int)}, rowsD ds = some rows → ds = rows.map tupOf
  | [], _, e => by cases e; rfl
  | d :: ds, rows, e => by
    cases d with
    | tup es =>
      unfold rowsD at e
      split at e
      · rename_i is r h1 h2
        cases e
        rw [List.map_cons, ← rowsD_eq h2]
        unfold tupOf
        rw [← intsD_eq h1]
      · cases e
    | _ => cases e
section
variable {C : Ct} {μ : Mu} {H : Hp}
theorem repL_perm {α : Type} {f : α → D} : ∀ {xs ys : List V}, ys.Perm xs → ∀ {rows : List α}, RepL C μ H (rows.map f) xs → ∃ rows' : List α, rows'.Perm rows ∧ RepL C μ H (rows'.map f) ys := by
  intro xs ys p
  induction p with
  | nil => exact fun {rows} h => ⟨rows, .refl _, h⟩
  | cons x p ih =>
    intro rows h
    cases rows with
    | nil => cases (show _ = [] from h)
    | cons r rs =>
      obtain ⟨v, t, e, h1, h2⟩ := h
      cases e
      obtain ⟨rs', p', h'⟩ := ih h2
      exact ⟨r :: rs', p'.cons r, _, _, rfl, h1, h'⟩
  | swap x y l =>
    intro rows h
    cases rows with
    | nil => cases (show _ = [] from h)
    | cons r rs =>
      obtain ⟨v, t, e, h1, h2⟩ := h
      cases e
      cases rs with
      | nil => cases (show _ = [] from h2)
      | cons r2 rs =>
        obtain ⟨v, t, e, h3, h4⟩ := h2
        cases e
        exact ⟨r2 :: r :: rs, .swap r r2 rs, _, _, rfl, h3, _, _, rfl, h1, h4⟩
  | trans p1 p2 ih1 ih2 =>
    intro rows h
    obtain ⟨r1, q1, h1⟩ := ih2 h
    obtain ⟨r2, q2, h2⟩ := ih1 h1
    exact ⟨r2, q2.trans q1, h2⟩
theorem repT {r : List Int} {x : V} (h : RepV C μ H (tupOf r) x) : TupI C.K H x r := by
  obtain ⟨a, vs, rfl, t, q⟩ := (show RepV C μ H (.tup (r.map .int)) x from h)
  have e : vs = r.map V.int := by
    clear t h
    induction r generalizing vs with
    | nil => exact q
    | cons i r ih =>
      obtain ⟨v, t, rfl, h1, h2⟩ := q
      rw [ih t h2, show v = V.int i from h1]; rfl
  exact ⟨a, rfl, by rw [← e]; exact t.sq⟩
theorem repT_mem : ∀ {rows : List (List Int)} {vs : List V}, RepL C μ H (rows.map tupOf) vs → ∀ x ∈ vs, ∃ r ∈ rows, TupI C.K H x r
  | [], _, h, x, hx => by rw [show _ = [] from h] at hx; cases hx
  | r :: rows, _, ⟨v, t, rfl, h1, h2⟩, x, hx => by
    rcases List.mem_cons.mp hx with rfl | hx
    · exact ⟨r, List.mem_cons_self .., repT h1⟩
    · obtain ⟨r', m, q⟩ := repT_mem h2 x hx
      exact ⟨r', List.mem_cons_of_mem _ m, q⟩
theorem repT_mem' : ∀ {rows : List (List Int)} {vs : List V}, RepL C μ H (rows.map tupOf) vs → ∀ r ∈ rows, ∃ x ∈ vs, TupI C.K H x r
  | [], _, h, r, hr => by cases hr
  | r :: rows, _, ⟨v, t, rfl, h1, h2⟩, r', hr => by
    rcases List.mem_cons.mp hr with rfl | hr
    · exact ⟨v, List.mem_cons_self .., repT h1⟩
    · obtain ⟨x, m, q⟩ := repT_mem' h2 r' hr
      exact ⟨x, List.mem_cons_of_mem _ m, q⟩
theorem repT_pw {B : Int} : ∀ {rows : List (List Int)} {vs : List V}, RepL C μ H (rows.map tupOf) vs → vs.Pairwise (fun x y => ∀ n m, TupI C.K H x n → TupI C.K H y m → TS.code B n ≤ TS.code B m) → rows.Pairwise fun n m => TS.code B n ≤ TS.code B m
  | [], _, _, _ => .nil
  | r :: rows, _, ⟨v, t, rfl, h1, h2⟩, p => by
    refine .cons (fun r' hr' => ?_) (repT_pw h2 (List.Pairwise.of_cons p))
    obtain ⟨x, m, q⟩ := repT_mem' h2 r' hr'
    exact List.rel_of_pairwise_cons p m _ _ (repT h1) q
end
/-- in order by a key -/
def insK {α : Type} (k : α → Int) (a : α) : List α → List α
  | [] => [a]
  | b :: r => if k a ≤ k b then a :: b :: r else b :: insK k a r
def srtK {α : Type} (k : α → Int) : List α → List α
  | [] => []
  | a :: r => insK k a (srtK k r)
theorem insK_perm {α : Type} (k : α → Int) (a : α) : ∀ r, (insK k a r).Perm (a :: r)
  | [] => .refl _
  | b :: r => by
    unfold insK
    split
    · exact .refl _
    · exact ((insK_perm k a r).cons b).trans (.swap a b r)
theorem srtK_perm {α : Type} (k : α → Int) : ∀ r, (srtK k r).Perm r
  | [] => .refl _
  | a :: r => (insK_perm k a (srtK k r)).trans ((srtK_perm k r).cons a)
theorem insK_srt {α : Type} (k : α → Int) (a : α) : ∀ {r : List α}, r.Pairwise (fun x y => k x ≤ k y) → (insK k a r).Pairwise (fun x y => k x ≤ k y)
  | [], _ => by simp [insK]
  | b :: r, h => by
    have hb : ∀ y ∈ r, k b ≤ k y := fun y hy => List.rel_of_pairwise_cons h hy
    have ht := List.Pairwise.of_cons h
    unfold insK
    split
    · rename_i hab
      refine .cons (fun y hy => ?_) h
      rcases List.mem_cons.mp hy with rfl | hy
      · exact hab
      · exact Int.le_trans hab (hb _ hy)
    · rename_i hab
      refine .cons (fun y hy => ?_) (insK_srt k a ht)
      rcases List.mem_cons.mp ((insK_perm k a r).mem_iff.mp hy) with rfl | hy
      · omega
      · exact hb _ hy
theorem srtK_srt {α : Type} (k : α → Int) : ∀ r, (srtK k r).Pairwise (fun x y => k x ≤ k y)
  | [] => .nil
  | a :: r => insK_srt k a (srtK_srt k r)
def topB (rows : List (List Int)) : Int := mxI 0 rows.flatten + 1
def okRows (rows : List (List Int)) : Bool := let d := (rows.headD []).length; let B := topB rows
  decide (1 ≤ d) && decide (rows.length < 64) && rows.all (fun r => decide (r.length = d) && r.all fun m => decide (0 ≤ m ∧ m < B)) && rows.all fun a => rows.all fun b => !decide (TS.code B a = TS.code B b) || decide (a = b)
def dSortT (h : Hs) : List D → Option Nv
  | [d] => match lstD h d with
    | some ds => (match rowsD ds with
      | some rows => if okRows rows = true then some (.n (.lst ((srtK (TS.code (topB rows)) rows).map tupOf))) else none
      | none => none)
    | none => none
  | _ => none
def rSortTs (K : PySem.W.Frag) : List V → Hp → VK → Prop := fun vs H Q => ∃ (d : Nat) (B : Int), 1 ≤ d ∧ rSortU K d B vs H Q
theorem cr_sortTs {X : Cx} : CallR X (.builtin "sorted") (rSortTs X.K) := by
  intro pins s σ H vs us Q I r h
  obtain ⟨d, B, hd, h⟩ := h
  exact cr_sortT hd pins s σ H vs us Q I r h
theorem cov_sortT {C : Ct} : CovA C (rSortTs C.K) dSortT := by
  intro H L μ h xs ds n Q hr r1 hf want
  unfold dSortT at hf
  split at hf
  · rename_i d
    split at hf
    · rename_i ds e0
      split at hf
      · rename_i rows e
        split at hf
        · rename_i ok
          cases hf
          unfold okRows at ok
          simp only [Bool.and_eq_true, decide_eq_true_eq, List.all_eq_true, Bool.or_eq_true, Bool.not_eq_true', decide_eq_false_iff_not] at ok
          obtain ⟨⟨⟨hd, h64⟩, hall⟩, hinj⟩ := ok
          obtain ⟨x, rfl, rx⟩ := r1.one
          obtain ⟨a, vs, rfl, t, q⟩ := lstD_ok hr rx e0
          rw [rowsD_eq e] at q
          have hlen : vs.length = rows.length := by rw [q.length, List.length_map]
          refine ⟨(rows.headD []).length, topB rows, hd, a, vs, rfl, t, by omega, fun y hy => ?_, fun ys p hp hs hq => ?_⟩
          · obtain ⟨r, hr, ht⟩ := repT_mem q y hy
            exact ⟨r, ht, (hall r hr).1, fun m hm => (hall r hr).2 m hm⟩
          · obtain ⟨rows', hp', q'⟩ := repL_perm hp q
            have hs' := repT_pw q' hs
            have e2 : rows' = srtK (TS.code (topB rows)) rows := by
              refine (hp'.trans (srtK_perm _ rows).symm).eq_of_pairwise (fun a b ha hb h1 h2 => ?_) hs' (srtK_srt _ rows)
              rcases hinj a (hp'.mem_iff.mp ha) b ((srtK_perm _ rows).mem_iff.mp hb) with h | h
              · exact absurd (Int.le_antisymm h1 h2) h
              · exact h
            rw [e2] at q'
            exact want.lst q' hq
        · cases hf
      · cases hf
    · cases hf
  · cases hf
def dSortU : Hs → List D → Option Nv := fun h d => match dSorted h d with | some n => some n | none => (fun h d => match dSortD h d with | some n => some n | none => dSortT h d) h d
section
variable {X : Cx} {W : WX} {e : Expr} {es : List Expr} {ms : M (List D)} {pos p : Pos}
theorem f_sortU (hc : X.calm = true) (hv : bootBuiltins "sorted" = some (.builtin "sorted")) (hg : Gl X "sorted") (hm : X.mg "sorted" = none) (ha : PA X (e :: es) (rdA X W ms)) (he : starEach (e :: es) X.env = (false, eval e X.env) :: starEach es X.env := by rfl) (hpl : (backTo pos (starEach es X.env)).any (·.1) = false := by rfl) :
    PE X (.Call (.Name "sorted" p) (e :: es) [] pos) (rd X W (mOpA dSortU ms)) := e_callB (CallR.or cr_sortedI (CallR.or (call_sortD hc) cr_sortTs)) (cov_sorted.or (cov_sortD.or cov_sortT)) hv hg hm ha (by decide) (by decide) he hpl
end
end Rh

set_option Elab.async false
set_option linter.all false
set_option maxRecDepth 100000
set_option maxHeartbeats 2000000
set_option autoImplicit false
namespace Rh
open PySem PySem.Spec PyProof.Rows L2
variable [Tbs]
/-! ### what the module's top has named -/
section
variable {X : Cx} {W : WX} {x : Str} {pos : Pos}
theorem e_globI {i : Int} (hg : Gl X x) (hm : ∃ t, X.mg x = some (.int i t)) (hd : (x == ("__debug__" : Str)) = false := by decide) : PE X (.Name x pos) (rd X W (mCon (.int i))) := by
  obtain ⟨t, hm⟩ := hm
  exact pe_imp (pe_glob hg hm (show RelV (.int i) (.int i t) from ⟨t, rfl⟩) hd) fun _ _ _ q => rd_con (d := .int i) (fun _ _ => rfl) q
/-- a tuple of ints of the written part -/
def TupK (K : PySem.W.Frag) (mg : Str → Option Value) (x : Str) (is : List Int) : Prop := ∃ a, mg x = some (.ref a) ∧ ∃ (o : Obj) (its : Array Value) (n : Nat), K.lookup a = some o ∧ o.cls = .type "tuple" ∧ o.data = .seq its n ∧ its.size ≤ sizeLine ∧ Vals (is.map V.int) its.toList
theorem e_globT {is : List Int} (hg : Gl X x) (hm : TupK X.K X.mg x is) (hd : (x == ("__debug__" : Str)) = false := by decide) : PE X (.Name x pos) (rd X W (mCon (.tup (is.map .int)))) := by
  obtain ⟨a, hm, o, its, n, h⟩ := hm
  refine pe_imp (pe_glob (v := .ref a) hg hm rfl hd) fun _ _ _ q => rd_con (d := .tup (is.map .int)) (fun _ _ => ⟨a, _, rfl, .inr ⟨o, its, n, h⟩, repL_ints is⟩) q
/-- a def's name as a value -/
theorem e_globF {a : Addr} (hg : Gl X x) (hm : X.mg x = some (.ref a)) (hd : (x == ("__debug__" : Str)) = false := by decide) : PE X (.Name x pos) (rd X W (mCon (.gl x))) :=
  pe_imp (pe_glob (v := .ref a) hg hm rfl hd) fun _ _ _ q => rd_con (d := .gl x) (fun _ _ => ⟨a, rfl, hm⟩) q
end
/-! ### {k: v} -/
section
variable {P : Program} {w : World} {A : Around} {E : Value → Shared → Prop} {s : Shared} {a : Addr} {ep : Nat} {k : NestedKey} {ku : Value}
theorem raw_first {vu : Value} {Q : Unit → Shared → Prop} (hu : A.units + 8 < cLine) (x : RawD w s.heap a ep []) (hk : KeyFor s.heap [] k ku)
    (hQ : ∀ h' ep' tk, RawD w h' a ep' [(k, ku, vu)] → Heap.SameBut a s.heap h' → Q () { s with heap := h', toks := tk }) : wpAny (model P w) A (dictSet a ku vu) Q E s := by
  rcases hk with ⟨kl, l, rfl, hl⟩ | ⟨kt, b, rfl, hb, dp⟩
  · obtain ⟨o, ho, hc, hd⟩ := x.at_
    have hd : o.data = .dict #[] ep := hd
    have hkey : (leafKind P w).is l ku = true := hl
    unfold dictSet
    try with_reducible refine wpAny_holding ?_
    refine wpAny_bind ((leafKind P w).pyHash hkey ?_)
    unfold dictSetHashed
    try with_reducible refine wpAny_holding ?_
    refine wpAny_bind (wpAny_dictFind_of (knd := leafKind P w) (s := { s with toks := s.toks + 1 }) hkey ho hd (fun e he => by simp at he) ?_)
    rw [show ((#[] : Array DictEntry).findIdx? fun e => (leafKind P w).is l e.key) = none from by simp]
    refine wpAny_bind (wpAny_rule (wpAny_updateDictKeys (hz := by simp) (s := { s with toks := s.toks + 1 }) ho hd (hQ _ (ep + 1) _ ⟨x.sys, by rw [sizeLine_eq]; simp, ⟨_, Heap.get?_update_self _ ho (Obj.isFreed_of_dict (Obj.data_mapDictKeys hd _)),
      hc.mapDictKeys _, ?_⟩, by simp, by unfold homK; simp [leaf_leafK]⟩ (Heap.SameBut.update ..))))
    rw [Obj.data_mapDictKeys hd _]
    rfl
  · have Hh := x.heap (P := P) kt
    refine wpAny_dictSet_heap (knd := nestedKind P w) (hsz := by simp) hu ⟨hb, dp⟩ Hh fun h' hm hs => ?_
    rw [put_tv [] x.nd] at hm
    obtain ⟨o, es, ep', ho, hc, hd, he, hi, hn⟩ := hm
    refine hQ h' ep' _ ⟨x.sys, by rw [sizeLine_eq]; simp, ⟨o, ho, hc, ?_⟩, by simp, by unfold homK; simp [nested_tup hb, dp]⟩ hs
    rw [hd]
    have e2 : es = #[(⟨k.hash w, .ref b, vu⟩ : DictEntry)] := by
      rw [← Array.toList_inj, he]
      rfl
    rw [e2]
    rfl
end
def tDict1 (C : Ct) (tk tv : TE) : TE := fun σ H Q => ∀ p, H p = none → tk σ (upd H p (DicO C.w p (0, []))) fun kx H1 => tv σ H1 fun vx H2 => ∃ (μ : Mu) (kd : D) (nk : NestedKey), H2 p = some (DicO C.w p (0, [])) ∧ RepV C μ H2 kd kx ∧ keyD kd = some nk ∧ okK [] nk = true ∧
  ∀ ep, Q (.ref p) (upd H2 p (DicO C.w p (ep, [(nk, kx, vx)])))
section
variable {X : Cx}
theorem pe_dict1 {k v : Expr} {tk tv : TE} {pos : Pos} (hu : X.A.units + 65 < cLine) (hk : PE X k tk) (hv : PE X v tv) : PE X (.Dict [some k] [v] pos) (tDict1 (ctX X) tk tv) := by
  refine ⟨fun pins s σ H Q I h => ?_⟩
  refine wpAny_Dict_any rfl rfl (by simp) (by simp) ?_
  have hn : H s.heap.objs.size = none := I.hok.fresh (Nat.le_refl _)
  have I0 := I.laid (a := s.heap.objs.size) (o := DicO X.w s.heap.objs.size (0, [])) (t' := s.toks) (fun _ _ q => Heap.get?_push_of_some _ q) (Nat.le_refl _) (dict0_ok (P := X.prog) (H := upd H s.heap.objs.size (DicO X.w s.heap.objs.size (0, []))) s.heap I.big)
  refine pairTrees_cons_walk (thn (hk.run pins _ σ _ _ I0 (h _ hn)) fun ku s1 ⟨kx, H1, I1, r1, q1⟩ => thn (hv.run pins s1 σ H1 _ I1 q1) fun vu s2 ⟨vx, H2, I2, r2, q2⟩ => ?_)
  obtain ⟨μ, kd, nk, eD, rk, ek, ok, q⟩ := q2
  show wpAny _ _ (evalPairs []) _ _ s2
  refine wpAny_pure ?_
  show wpAny _ _ (storeAll s.heap.objs.size [(ku, vu)]) _ _ s2
  obtain ⟨rs, x, p⟩ := dict_raw I2 eD
  cases p
  have kf : KeyFor s2.heap [] nk ku := by
    have n1 := nested_of I2 kd kx nk ku rk ek r1
    rcases okK_hom (ks := []) rfl ok with ⟨l1, _⟩ | ⟨l1, dp, _⟩
    · exact .inl ⟨(fun r hr => nomatch hr), leaf_of n1 l1⟩
    · obtain ⟨b, eb⟩ := tup_of n1 l1
      rw [eb] at n1
      exact .inr ⟨(fun r hr => nomatch hr), b, eb, n1, dp⟩
  unfold storeAll
  simp only [List.forIn_cons, List.forIn_nil]
  refine wpAny_bind (wpAny_bind (raw_first (by omega) x kf fun h' ep' tk x' sb => wpAny_pure ?_))
  refine wpAny_pure ?_
  obtain ⟨o', ho', _⟩ := x'.at_
  exact ⟨.ref s.heap.objs.size, _, I2.write (t' := tk) (x := s.heap.objs.size) (e := s.heap.objs.size) (by rw [eD]; exact True.intro) (.inl rfl) (fun b ob hb e => (sb.2 b hb).trans e) ⟨o', ho'⟩ (dict_ok x' (.cons ⟨rfl, r1, r2⟩ .nil)), rfl, q ep'⟩
end
def mDict1 (mk mv : M D) : M D := mBind mk fun kd => mBind mv fun d => fun _ h => match keyD kd with
  | none => none
  | some nk => if okK [] nk = true then (Nv.n (.dct [nk] [kd] [d])).lift h else none
section
variable {X : Cx} {W : WX} {k v : Expr} {mk mv : M D} {pos : Pos}
theorem e_dict1 (hu : X.A.units + 65 < cLine) (hk : PE X k (rd X W mk)) (hv : PE X v (rd X W mv)) : PE X (.Dict [some k] [v] pos) (rd X W (mDict1 mk mv)) := by
  refine pe_imp (pe_dict1 hu hk hv) fun σ H Q ⟨ρ, L, μ, h, rel, q⟩ D0 hD => ?_
  have s0 : Same H (L2.upd H D0 (DicO X.w D0 (0, []))) := fun b o e => by rw [upd_ne (fun z => by subst z; rw [hD] at e; cases e)]; exact e
  have d0 : ∀ b, (L2.upd H D0 (DicO X.w D0 (0, []))) b = none → H b = none := fun b e => by
    by_cases z : b = D0
    · rw [z]; exact hD
    · rw [upd_ne z] at e; exact e
  have nD : D0 ∉ μ := fun m => by obtain ⟨u, e2, _⟩ := rel.hr.mut m; rw [hD] at e2; cases e2
  have g0 : Go L μ H μ (L2.upd H D0 (DicO X.w D0 (0, []))) := Go.same rel.hr s0 d0
  have r0 := rel.hr.same s0
  have rel0 : Rel (ctX X) L ρ σ μ (L2.upd H D0 (DicO X.w D0 (0, []))) h := rel.go g0 r0
  unfold mDict1 mBind at q
  cases e1 : mk ρ h with
  | none => rw [e1] at q; exact q.none
  | some o1 =>
  cases o1 with
  | ex c fs h1 => rw [e1] at q; exact ⟨ρ, L, μ, h, rel0, by rw [e1]; exact fun cls dd μ1 H1 g1 r1 x => q cls dd μ1 H1 (g0.trans g1) r1 x⟩
  | ok kd h1 =>
  rw [e1] at q
  dsimp only at q
  refine ⟨ρ, L, μ, h, rel0, ?_⟩
  rw [e1]
  intro μ1 H1 g1 r1 kx rk
  have rel1 := rel0.go g1 r1
  cases e2 : mv ρ h1 with
  | none => rw [e2] at q; exact q.none
  | some o2 =>
  cases o2 with
  | ex c fs h2 => rw [e2] at q; exact ⟨ρ, L, μ1, h1, rel1, by rw [e2]; exact fun cls dd μ2 H2 g2 r2 x => q cls dd μ2 H2 (g0.trans (g1.trans g2)) r2 x⟩
  | ok d h2 =>
  rw [e2] at q
  dsimp only at q
  refine ⟨ρ, L, μ1, h1, rel1, ?_⟩
  rw [e2]
  intro μ2 H2 g2 r2 vx rv
  cases ek : keyD kd with
  | none => rw [ek] at q; exact q.none
  | some nk =>
    rw [ek] at q
    dsimp only at q
    split at q
    · rename_i ok
      have gt := g1.trans g2
      have n2 : D0 ∉ μ2 := Go.not_mem g0 rel.hr hD nD gt upd_same
      have e3 : H2 D0 = some (DicO X.w D0 (0, [])) := gt.keep D0 _ upd_same (fun _ z => nomatch z) nD
      refine ⟨μ2, kd, nk, e3, rk.go r1 g2, ek, ok, fun ep => ?_⟩
      unfold Nv.lift at q
      cases eh : h2.new (.dct [nk] [kd] [d]) with
      | none => simp only [eh] at q; exact q.none
      | some h3 =>
        simp only [eh] at q
        obtain ⟨r3, st⟩ := r2.side (o := DicO X.w D0 (ep, [(nk, kx, vx)])) e3 n2 (fun _ z => nomatch z) (fun _ _ z => nomatch z) (nc := fun q z => codeO_ne_dic (a := 0) z.symm)
        have st2 : Stay μ2 (L2.upd H2 D0 (DicO X.w D0 (ep, [(nk, kx, vx)]))) (μ2 ++ [D0]) (L2.upd H2 D0 (DicO X.w D0 (ep, [(nk, kx, vx)]))) := ⟨fun i b e => by rw [List.getElem?_append_left (List.getElem?_eq_some_iff.mp e).1]; exact e, fun _ _ e => e, fun _ _ _ e => e⟩
        have ob : ObR (ctX X) (μ2 ++ [D0]) (L2.upd H2 D0 (DicO X.w D0 (ep, [(nk, kx, vx)]))) D0 (.dct [nk] [kd] [d]) := by
          refine ⟨_, upd_same, rfl, ?_, ⟨kx, [], rfl, ((rk.go r1 g2).stay st).stay st2, rfl⟩, ⟨vx, [], rfl, (rv.stay st).stay st2, rfl⟩⟩
          show (match keyD kd, keysD [] with
            | some k, some ks => some (k :: ks)
            | _, _ => none) = _
          rw [ek]
          rfl
        have r4 := r3.adopt n2 ob eh
        have g4 : Go L μ H (μ2 ++ [D0]) (L2.upd H2 D0 (DicO X.w D0 (ep, [(nk, kx, vx)]))) := ((g0.trans gt).side rel.hr hD).adopt hD
        refine q _ _ g4 r4 _ ⟨D0, rfl, ?_⟩
        rw [← r2.len, List.getElem?_append_right (Nat.le_refl _)]
        simp
    · exact q.none
end
end Rh

set_option Elab.async false
set_option linter.all false
set_option maxRecDepth 100000
set_option maxHeartbeats 2000000
set_option autoImplicit false
namespace Rh
open PySem PySem.Spec PyProof.Rows L2
variable [Tbs]
/-! ### d.get(k, x) -/
theorem raw_getd {P : Program} {w : World} {A : Around} {E : Value → Shared → Prop} {s : Shared} {a : Addr} {ep : Nat} {rs : List Ent} {k : NestedKey} {ku dflt : Value} {Q : Value → Shared → Prop} (hu : A.in1.units + 8 < cLine) (x : RawD w s.heap a ep rs) (hk : KeyFor s.heap rs k ku)
    (hq : ∀ tk, Q ((getR rs k).getD dflt) { s with toks := tk }) : wpAny (model P w) A (call (.builtin "dict.get") [.ref a, ku, dflt]) Q E s := by
  rcases hk with ⟨kl, l, rfl, hl⟩ | ⟨kt, b, rfl, hb, dp⟩
  · have D := x.leaf (P := P) kl
    refine call_meetsIn PySem.F.slot_dict_get D.typeIs PySem.F.entry_dict_get (PySem.F.args_dict_get_3 _ _ _) (meets_dict_get_default (leafKind P w) a (show (leafKind P w).is l ku = true from hl) x.sys dflt) ⟨_, D.mapOf, ?_⟩
    rw [at_lv kl]
    exact hq _
  · have D := x.heap (P := P) kt
    refine call_meetsIn PySem.F.slot_dict_get D.typeIs PySem.F.entry_dict_get (PySem.F.args_dict_get_3 _ _ _) (meetsH_dict_get_default (nestedKind P w) a b x.sys dflt) ⟨hu, k, _, ⟨hb, dp⟩, D, ?_⟩
    rw [at_tv]
    exact hq _
def rGetd (C : Ct) : V → List V → Hp → VK → Prop := fun x xs H Q => ∃ (μ : Mu) (a : Addr) (es : Nat × List EV) (nks : List NestedKey) (ks : List D) (kd : D) (op : Option Nat) (i v : V), x = .ref a ∧ xs = [i, v] ∧ H a = some (DicO C.w a es) ∧ es.2.map (·.1) = nks ∧ keysD ks = some nks ∧ RepL C μ H ks (es.2.map (·.2.1)) ∧
  RepV C μ H kd i ∧ idxD nks kd = some op ∧ (∀ j e, op = some j → es.2[j]? = some e → Q e.2.2 H) ∧ (op = none → Q v H)
section
variable {X : Cx}
theorem mt_getd (hu : X.A.units + 65 < cLine) : MtR X "dict.get" (rGetd (ctX X)) := by
  intro pins s σ H x xs u us Q I rx rs h
  obtain ⟨μ, a, es, nks, ks, kd, op, i, v, rfl, rfl, ea, en, ek, rk, ri, ei, q1, q2⟩ := h
  cases rx
  obtain ⟨ku, vu, rfl, rku, rvu⟩ := vals2 rs
  obtain ⟨rws, x, p⟩ := dict_raw I ea
  obtain ⟨nk', e1, kf, hi⟩ := key_for I x.hom en ek rk p ri rku ei
  refine raw_getd (by show X.A.units + 1 + 8 < cLine; omega) x kf fun tk => ?_
  unfold getR
  rw [hi]
  cases op with
  | none => exact ⟨v, H, I.tok _, rvu, q2 rfl⟩
  | some j =>
    have hj : j < rws.length := by
      have := (List.findIdx?_eq_some_iff_findIdx_eq.mp hi).1
      simpa using this
    obtain ⟨e, ee, z1, z2, z3⟩ := paired_get p (List.getElem?_eq_getElem hj)
    show EP X pins σ Q (((rws[j]?).map (·.2.2)).getD vu) _
    rw [List.getElem?_eq_getElem hj]
    exact ⟨e.2.2, H, I.tok _, z3, q1 j e rfl ee⟩
end
def fGetd (h : Hs) (d : D) (ds : List D) : Option (D × Hs) := match d, ds with
  | .box n, [k, v] => (match h.get n with
    | some (.dct nks ks vs) => (match idxD nks k with
      | some (some j) => (vs[j]?).map fun v => (v, h)
      | some none => some (v, h)
      | none => none)
    | _ => none)
  | _, _ => none
theorem cov_getd {C : Ct} : CovM C (tyDc C.w) (rGetd C) ckD fGetd := ⟨ckD_ok, fun {L μ H h d x ds xs d' h' Q} hr rx rs e k => by
  unfold fGetd at e
  split at e
  · rename_i n kd vd
    split at e
    · rename_i nks ks vs e0
      obtain ⟨a, rfl, m, es, ea, en, ek, rk, rv⟩ := hr.dctO rx e0
      obtain ⟨i, r1, rfl, ri, v, r2, rfl, rvv, rfl⟩ := rs
      split at e
      · rename_i j ei
        obtain ⟨dv, edv, ep⟩ := Option.map_eq_some_iff.mp e
        cases ep
        refine ⟨μ, a, es, nks, ks, kd, some j, i, v, rfl, rfl, ea, en, ek, rk, ri, ei, fun j' e' ej ee => ?_, fun z => nomatch z⟩
        cases ej
        obtain ⟨y, ey, ry⟩ := rv.get edv
        rw [List.getElem?_map, ee] at ey
        cases ey
        exact k _ μ H .refl hr ry
      · rename_i ei
        cases e
        exact ⟨μ, a, es, nks, ks, kd, none, i, v, rfl, rfl, ea, en, ek, rk, ri, ei, fun j' e' ej => (nomatch ej), fun _ => k _ μ H .refl hr rvv⟩
      · cases e
    · cases e
  · cases e⟩
section
variable {X : Cx} {W : WX} {o e f : Expr} {es : List Expr} {m : M D} {ms : M (List D)} {apos cpos : Pos}
theorem e_getd (hu : X.A.units + 65 < cLine) (ho : PE X o (rd X W m)) (ha : PA X (e :: es) (rdA X W ms)) (hbase : attributeBase o "get" X.env (eval o X.env) = eval o X.env := by rfl)
    (hfew : ((backTo cpos (starEach (e :: es) X.env)).all (fun x => !x.1) && (backToKw cpos (keywordEach [] X.env)).all (fun x => x.1.isSome) && decide ((e :: es).length + ([] : List Keyword).length + (if ([] : List Keyword).isEmpty then 0 else 1) < 30)) = true := by rfl)
    (hline : (apos.endLine == cpos.line) = true := by rfl) (hs : starEach (e :: es) X.env = (false, eval e X.env) :: starEach es X.env := by rfl) (hplain : (backTo cpos (starEach es X.env)).any (·.1) = false := by rfl) :
    PE X (.Call (.Attribute o "get" apos) (e :: es) [] cpos) (rd X W (mMeth ckD fGetd m ms)) :=
  pe_imp (pe_bmt PySem.F.plainAttrs_dict PySem.F.slot_dict_get PySem.F.type_dict_get tyDict (mt_getd hu) ho ha hbase hfew hline hs hplain) fun σ H Q q => rd_meth cov_getd q
end
end Rh

set_option Elab.async false
set_option linter.all false
set_option maxRecDepth 100000
set_option maxHeartbeats 2000000
set_option autoImplicit false
namespace Rh
open PySem PySem.Spec PyProof.Rows L2
variable [Tbs]
/-! ### xs.index(x) -/
def firstEq (p : PyData) : List PyData → Option Nat
  | [] => none
  | q :: r => match PyData.eqv q p with
    | true => some 0
    | false => (firstEq p r).map (· + 1)
theorem firstEq_ok {p : PyData} : ∀ {ps : List PyData} {j : Nat}, firstEq p ps = some j → (∃ z, ps[j]? = some z ∧ PyData.eqv z p = true) ∧ ∀ (m : Nat) (z' : PyData), m < j → ps[m]? = some z' → PyData.eqv z' p = false
  | [], _, h => nomatch h
  | q :: r, j, h => by
    unfold firstEq at h
    split at h
    · rename_i e
      cases h
      exact ⟨⟨q, rfl, e⟩, fun m z' hm => absurd hm (Nat.not_lt_zero m)⟩
    · rename_i e
      obtain ⟨i, h1, rfl⟩ := Option.map_eq_some_iff.mp h
      obtain ⟨⟨z, a, b⟩, c⟩ := firstEq_ok h1
      refine ⟨⟨z, by simpa using a, b⟩, fun m z' hm hz => ?_⟩
      cases m with
      | zero => simp at hz; subst hz; exact e
      | succ m => exact c m z' (by omega) (by simpa using hz)
def fIndex (h : Hs) (d : D) (ds : List D) : Option (D × Hs) := match ds with
  | [y] => (match toPy h 40 d, toPy h 40 y with
    | some (.list ps), some p => if SeqAt.shaped (.list ps) = true ∧ SeqAt.shaped p = true then (firstEq p ps).map fun (j : Nat) => (D.int (j : Int), h) else none
    | _, _ => none)
  | _ => none
theorem cov_index {C : Ct} : CovM C (tyV C.K "list") (rIndexD C.K) ckL fIndex := ⟨ckL_ok, fun {L μ H h d x ds xs d' h' Q} hr rx rs e k => by
  unfold fIndex at e
  split at e
  · rename_i y
    split at e
    · rename_i ps p e1 e2
      split at e
      · rename_i hs
        obtain ⟨j, ej, ep⟩ := Option.map_eq_some_iff.mp e
        cases ep
        obtain ⟨v, rfl, rv⟩ := rs.one
        obtain ⟨⟨z, hz, hzj⟩, hno⟩ := firstEq_ok ej
        have dl := toPy_dp hr _ _ _ _ rx e1
        obtain ⟨a, rfl⟩ : ∃ a, x = .ref a := by
          cases d with
          | box n => obtain ⟨a, e, _⟩ := rx; exact ⟨a, e⟩
          | tup ds => obtain ⟨a, _, e, _⟩ := rx; exact ⟨a, e⟩
          | scr ds => obtain ⟨a, _, e, _⟩ := rx; exact ⟨a, e⟩
          | gl y => obtain ⟨a, e, _⟩ := rx; exact ⟨a, e⟩
          | non => unfold toPy at e1; cases e1
          | bl b => unfold toPy at e1; cases e1
          | int i => unfold toPy at e1; cases e1
          | str s => unfold toPy at e1; cases e1
          | ty t => unfold toPy at e1; cases e1
          | lm => exact rx.elim
        exact ⟨a, v, p, ps, j, z, rfl, rfl, dl, toPy_dp hr _ _ _ _ rv e2, hs.1, hs.2, hz, hzj, hno, k _ μ H .refl hr rfl⟩
      · cases e
    · cases e
  · cases e⟩
section
variable {X : Cx} {W : WX} {o e f : Expr} {es : List Expr} {m : M D} {ms : M (List D)} {apos cpos : Pos}
theorem e_index (hu : X.A.units + 65 < cLine) (ho : PE X o (rd X W m)) (ha : PA X (e :: es) (rdA X W ms)) (hbase : attributeBase o "index" X.env (eval o X.env) = eval o X.env := by rfl)
    (hfew : ((backTo cpos (starEach (e :: es) X.env)).all (fun x => !x.1) && (backToKw cpos (keywordEach [] X.env)).all (fun x => x.1.isSome) && decide ((e :: es).length + ([] : List Keyword).length + (if ([] : List Keyword).isEmpty then 0 else 1) < 30)) = true := by rfl)
    (hline : (apos.endLine == cpos.line) = true := by rfl) (hs : starEach (e :: es) X.env = (false, eval e X.env) :: starEach es X.env := by rfl) (hplain : (backTo cpos (starEach es X.env)).any (·.1) = false := by rfl) :
    PE X (.Call (.Attribute o "index" apos) (e :: es) [] cpos) (rd X W (mMeth ckL fIndex m ms)) :=
  pe_imp (pe_bmt PySem.F.plainAttrs_list PySem.F.slot_list_index PySem.F.type_list_index tyList (mt_indexD hu) ho ha hbase hfew hline hs hplain) fun σ H Q q => rd_meth cov_index q
end
/-! ### for x in reversed(xs) -/
theorem cover_rev {C : Ct} {μ1 : Mu} {H1 : Hp} {lks : List Nat} {t : Bool} {a : Addr} {vs : List V} {ds : List D} (q : SqF C.K lks t μ1 H1 a vs) (r : RepL C μ1 H1 ds vs) : Cover C (match t with | true => RT.ItvT C.K a vs.length | false => Itv C.K a vs.length) ds.reverse lks μ1 H1 := by
  have hl := r.length
  cases t
  · refine ⟨fun i μ H st hi => ?_, fun i μ H st hi => by rw [List.length_reverse] at hi; show vs.length ≤ i; omega, fun i μ H x H' d st y hd => ?_⟩
    · rw [List.length_reverse] at hi
      have hj : vs.length - 1 - i < ds.length := by omega
      obtain ⟨v, hv, _⟩ := r.get (List.getElem?_eq_getElem hj)
      exact ⟨by omega, vs, v, q.still st, hv⟩
    · obtain ⟨e, y⟩ := y
      subst e
      have hi : i < ds.length := by
        have := (List.getElem?_eq_some_iff.mp hd).1
        rwa [List.length_reverse] at this
      rw [List.getElem?_reverse hi] at hd
      rw [← hl] at hd
      obtain ⟨v, hv, rv⟩ := r.get hd
      have := y vs (q.still st)
      rw [hv] at this; cases this
      exact ⟨fun _ _ e => e, fun _ e => e, rv.stay st.st⟩
  · refine ⟨fun i μ H st hi => ?_, fun i μ H st hi => by rw [List.length_reverse] at hi; show vs.length ≤ i; omega, fun i μ H x H' d st y hd => ?_⟩
    · rw [List.length_reverse] at hi
      have hj : vs.length - 1 - i < ds.length := by omega
      obtain ⟨v, hv, _⟩ := r.get (List.getElem?_eq_getElem hj)
      exact ⟨by omega, vs, v, q.still st, hv⟩
    · obtain ⟨e, y⟩ := y
      subst e
      have hi : i < ds.length := by
        have := (List.getElem?_eq_some_iff.mp hd).1
        rwa [List.length_reverse] at this
      rw [List.getElem?_reverse hi] at hd
      rw [← hl] at hd
      obtain ⟨v, hv, rv⟩ := r.get hd
      have := y vs (q.still st)
      rw [hv] at this; cases this
      exact ⟨fun _ _ e => e, fun _ e => e, rv.stay st.st⟩
def mRev (m : M D) : M (List D × List Nat) := mBind m fun d => fun _ h => match itD h d with
  | some (ds, l) => some (.ok (ds.reverse, l) h)
  | none => none
section
variable {X : Cx} {W : WX} {tg : Expr}
theorem i_rev {e : Expr} {m : M D} {p pos : Pos} (hg : Gl X "reversed") (hm : X.mg "reversed" = none) (he : PE X e (rd X W m)) (hs : starEach [e] X.env = (false, eval e X.env) :: starEach [] X.env := by rfl) :
    PI X tg (.Call (.Name "reversed" p) [e] [] pos) (rdI X W (mRev m)) := by
  refine pi_imp (RT.pi_revA hg hm he hs) fun σ H R q => rdG_imp (rdG_bind q) fun ρ L d h1 μ1 H1 ⟨rel1, q1⟩ x rx => ?_
  cases e1 : itD h1 d with
  | none => simp only [e1] at q1; exact q1.none
  | some p =>
    obtain ⟨ds, lks⟩ := p
    simp only [e1] at q1
    obtain ⟨t, a, vs, rfl, sq, rl⟩ := itD_ok rel1.hr rx e1
    have k := q1 μ1 H1 .refl rel1.hr _ (cover_rev sq rl)
    refine ⟨a, vs, rfl, ?_⟩
    cases t
    · exact .inl ⟨sq.sq, k⟩
    · exact .inr ⟨sq.sq, k⟩
end
end Rh

set_option Elab.async false
set_option linter.all false
set_option maxRecDepth 100000
set_option maxHeartbeats 2000000
set_option autoImplicit false
namespace Rh
open PySem PySem.Spec PyProof.Rows L2
variable [Tbs]
/-! ### xs[::-1], xs a list -/
def dRevL (h : Hs) (d : D) : Option Nv := (lstD h d).map fun ds => .n (.lst ds.reverse)
section
variable {X : Cx} {W : WX}
theorem e_revL {e : Expr} {m : M D} {k : Nat} {p1 p2 p3 pos : Pos} (he : PE X e (rd X W m)) : PE X (.Subscript e (.Slice none none (some (.UnaryOp .USub (.Constant (.int 1) k p1) p2)) p3) pos) (rd X W (mOp1 dRevL m)) := by
  refine pe_imp (pe_revL he) fun σ H Q q => rdG_imp (rdG_bind q) fun ρ L d h1 μ1 H1 ⟨rel1, q1⟩ x rx => ?_
  obtain ⟨n, en, want⟩ := Sat.lift rel1.hr q1
  unfold dRevL at en
  obtain ⟨ds, ed, rfl⟩ := Option.map_eq_some_iff.mp en
  obtain ⟨a, vs, rfl, t, rl⟩ := lstD_ok rel1.hr rx ed
  exact ⟨a, vs, rfl, t, fun p hp => want.lst rl.rev hp⟩
end
/-! ### max(xs, default = d), xs ints -/
def rMaxDef (K : PySem.W.Frag) (x y : V) (H : Hp) (Q : VK) : Prop := ∃ (a : Addr) (ns : List Int), x = .ref a ∧ (SqL K H a (ns.map V.int) ∨ SqT K H a (ns.map V.int)) ∧ (ns = [] → Q y H) ∧ ∀ i is, ns = i :: is → Q (.int (PySem.W.maxOf i is)) H
def mMaxDef (m md : M D) : M D := mBind m fun x => mBind md fun y => fun _ h => match seqD h x with
  | some ds => (match intsD ds with
    | some [] => some (.ok y h)
    | some (i :: is) => some (.ok (.int (PySem.W.maxOf i is)) h)
    | none => none)
  | none => none
section
variable {X : Cx} {W : WX}
theorem e_maxDef {e d : Expr} {m md : M D} {p kp pos : Pos} (hc : X.calm = true) (hu : X.A.units + 65 < cLine) (hg : Gl X "max") (hm : X.mg "max" = none) (he : PE X e (rd X W m)) (hd : PE X d (rd X W md))
    (hs : starEach [e] X.env = (false, eval e X.env) :: starEach [] X.env := by rfl)
    (heq : backTo pos (starEach (e :: []) X.env) = (false, eval e X.env) :: backTo pos (starEach [] X.env) := by rfl)
    (hplain : (backTo pos (starEach (e :: []) X.env)).any (·.1) = false := by rfl)
    (hall : (backToKw pos (keywordEach [⟨some "default", d, kp⟩] X.env)).all (·.1.isSome) = true := by rfl)
    (hkw : (backToKw pos (keywordEach [⟨some "default", d, kp⟩] X.env)).any (·.1.isNone) = false := by rfl)
    (hks : (backToKw pos (keywordEach [⟨some "default", d, kp⟩] X.env)).filterMap (·.1) = [("default" : Str)] := by rfl) :
    PE X (.Call (.Name "max" p) [e] [⟨some "default", d, kp⟩] pos) (rd X W (mMaxDef m md)) := by
  refine ⟨fun pins s σ H Q I q => ?_⟩
  have q2 : rdA X W (mCons m mNil) σ H fun vs H1 => ∃ x, vs = [x] ∧ rdA X W (mCons md mNil) σ H1 fun zs H2 => ∃ y, zs = [y] ∧ rMaxDef X.K x y H2 Q := by
    obtain ⟨ρ, L, μ, h, rel, q⟩ := q
    refine ⟨ρ, L, μ, h, rel, ?_⟩
    have qb := q.bind rel
    unfold mCons mBind mNil mPure
    cases e1 : m ρ h with
    | none => rw [e1] at qb; exact qb.none
    | some o1 =>
      rw [e1] at qb
      cases o1 with
      | ex c fs h1 => exact qb
      | ok x h1 =>
        dsimp only
        intro μ1 H1 g1 r1 vs rs
        obtain ⟨v, rfl, rv⟩ := rs.one
        obtain ⟨_, rel1, qc⟩ := qb μ1 H1 g1 r1
        refine ⟨v, rfl, ρ, L, μ1, h1, rel1, ?_⟩
        have qd := qc.bind rel1
        dsimp only
        cases e2 : md ρ h1 with
        | none => rw [e2] at qd; exact qd.none
        | some o2 =>
          rw [e2] at qd
          cases o2 with
          | ex c fs h2 => exact qd
          | ok y h2 =>
            dsimp only
            intro μ2 H2 g2 r2 zs rz
            obtain ⟨z, rfl, rvz⟩ := rz.one
            obtain ⟨_, rel2, qe⟩ := qd μ2 H2 g2 r2
            refine ⟨z, rfl, ?_⟩
            split at qe
            · rename_i ds ed
              obtain ⟨a, xs, rfl, t, rl⟩ := seqD_ok rel2.hr (rv.go r1 g2) ed
              split at qe
              · rename_i ei
                rw [intsD_ok rl ei] at t
                exact ⟨a, [], rfl, t, fun _ => qe μ2 H2 .refl rel2.hr _ rvz, (fun i is z => nomatch z)⟩
              · rename_i i is ei
                rw [intsD_ok rl ei] at t
                exact ⟨a, i :: is, rfl, t, (fun z => nomatch z), fun i' is' z => by cases z; exact qe μ2 H2 .refl rel2.hr _ rfl⟩
              · exact qe.none
            · exact qe.none
  refine wpAny_Call_Name_kw (ld_blt I hg hm boot_max ?_)
  refine callWith_kw (thn ((a_cons he a_nil hs).run pos pins s σ H _ I q2) fun us s1 ⟨vs, H1, I1, r1, q1⟩ => ?_) heq hplain hall hkw
  obtain ⟨x, rfl, q3⟩ := q1
  obtain ⟨u, rfl, ru⟩ := vals1 r1
  refine thn ((kk_cons (nm := some ("default" : Str)) (kpos := kp) hd kk_nil).run pos pins s1 σ H1 _ I1 q3) fun ws s2 ⟨zs, H2, I2, r2, q4⟩ => ?_
  obtain ⟨y, rfl, a, ns, rfl, t, qa, qb⟩ := q4
  obtain ⟨w, rfl, rw'⟩ := vals1 r2
  cases ru
  rw [hks]
  show wpAny _ _ (call (.builtin "max") [.ref a] [(Str.ofString "default", w)]) _ _ s2
  have dep : X.A.units + 1 + PySem.W.Datum.depth Int < cLine := by show X.A.units + 1 + 0 < cLine; omega
  rcases t with t | t
  · obtain ⟨its, rv, pl, hz⟩ := I2.list t
    refine PySem.W.max_list_datum_default (α := Int) (xs := ns) (I2.ok.hd hc) pl.isList (PySem.W.HoldAll.of_ints (by simpa using rv.ints)) dep (fun e h' tk k => ⟨y, H2, I2.kept k, rw', qa e⟩) fun i is j v h' tk e hv hh k => ?_
    obtain ⟨tk2, ev⟩ := PySem.W.int_of_holds hh
    exact ⟨.int _, H2, I2.kept k, ⟨tk2, ev⟩, qb i is e⟩
  · obtain ⟨its, rv, pl, hz⟩ := I2.tuple t
    refine PySem.W.max_tuple_datum_default (α := Int) (xs := ns) (I2.ok.hd hc) pl (PySem.W.HoldAll.of_ints (by simpa using rv.ints)) dep (fun e h' tk k => ⟨y, H2, I2.kept k, rw', qa e⟩) fun i is j v h' tk e hv hh k => ?_
    obtain ⟨tk2, ev⟩ := PySem.W.int_of_holds hh
    exact ⟨.int _, H2, I2.kept k, ⟨tk2, ev⟩, qb i is e⟩
end
end Rh

set_option Elab.async false
set_option linter.all false
set_option maxRecDepth 100000
set_option maxHeartbeats 2000000
set_option autoImplicit false
namespace Rh
open PySem PySem.Spec PyProof.Rows L2
variable [Tbs]
/-! ### [f, g, ..][i](x, ..): a def that a list holds is called -/
def mCallV (np : Nat) (tb : List (Str × FM)) (mf : M D) (ms : M (List D)) : M D := mBind mf fun d => match d with
  | .gl x => (match tb.lookup x with
    | some f => mBind ms fun as => fun _ h => if as.length = np then (match f as h with
      | none => none
      | some (.rt d h') => some (.ok d h')
      | some (.ex c fs h') => some (.ex c fs h')) else none
    | none => fun _ _ => none)
  | _ => fun _ _ => none
def TbOk (X : Cx) (k np : Nat) (tb : List (Str × FM)) : Prop := ∀ x f, tb.lookup x = some f → ∃ k' fa fd ps, k' ≤ k ∧ X.mg x = some (.ref fa) ∧ PySem.W.keepIn X.K (.ref fa) = true ∧ FnOk X.prog X.w X.K X.mg X.base (L2.CX X.prog X.w) k' fa fd ps (spF (ctX X) np f) ∧ L2.Binds X.K fd ps []
section
variable {X : Cx} {W : WX} {k np : Nat}
theorem tb_nil : TbOk X k np [] := fun x f h => nomatch h
theorem tb_cons {k' : Nat} {x : Str} {f : FM} {tb : List (Str × FM)} {fa : Addr} {fd : FuncData} {ps : List Str} (hl : k' ≤ k) (F : FnOk X.prog X.w X.K X.mg X.base (L2.CX X.prog X.w) k' fa fd ps (spF (ctX X) np f)) (hm : X.mg x = some (.ref fa)) (hk : PySem.W.keepIn X.K (.ref fa) = true) (hb : L2.Binds X.K fd ps []) (r : TbOk X k np tb) : TbOk X k np ((x, f) :: tb) := fun y g h => by
  rw [List.lookup_cons] at h
  split at h
  · rename_i e
    cases h
    rw [eq_of_beq e]
    exact ⟨k', fa, fd, ps, hl, hm, hk, F, hb⟩
  · exact r y g h
theorem e_callV {tb : List (Str × FM)} {o i e : Expr} {es : List Expr} {p1 pos : Pos} {mf : M D} {ms : M (List D)} (hr : Room k X.A) (tk : Takes X W) (ht : TbOk X k np tb) (hf : PE X (.Subscript o i p1) (rd X W mf)) (ha : PA X (e :: es) (rdA X W ms))
    (he : starEach (e :: es) X.env = (false, eval e X.env) :: starEach es X.env := by rfl) (hpl : (backTo pos (starEach es X.env)).any (·.1) = false := by rfl) :
    PE X (.Call (.Subscript o i p1) (e :: es) [] pos) (rd X W (mCallV np tb mf ms)) := by
  refine ⟨fun pins s σ H Q I q => ?_⟩
  have q2 : rd X W mf σ H fun x H1 => ∃ (k' : Nat) (f : FM) (fa : Addr) (fd : FuncData) (ps : List Str), k' ≤ k ∧ x = .ref fa ∧ PySem.W.keepIn X.K (.ref fa) = true ∧ FnOk X.prog X.w X.K X.mg X.base (L2.CX X.prog X.w) k' fa fd ps (spF (ctX X) np f) ∧ L2.Binds X.K fd ps [] ∧
      rdA X W ms σ H1 fun vs H2 => spF (ctX X) np f vs H2 Q (fun cls d H' => W cls d σ H') := by
    obtain ⟨ρ, L, μ, h, rel, q⟩ := q
    refine ⟨ρ, L, μ, h, rel, (q.bind rel).imp fun d h1 μ1 H1 g1 _ ⟨_, rel1, q1⟩ x rx => ?_⟩
    cases d with
    | gl y =>
      dsimp only at q1
      cases el : tb.lookup y with
      | none => rw [el] at q1; exact q1.none
      | some f =>
        rw [el] at q1
        obtain ⟨k', fa, fd, ps, hkl, hm, hk, F, hb⟩ := ht y f el
        obtain ⟨a, rfl, hma⟩ := rx
        have hma : X.mg y = some (.ref a) := hma
        rw [hm] at hma
        cases hma
        refine ⟨k', f, fa, fd, ps, hkl, rfl, hk, F, hb, ρ, L, μ1, h1, rel1, (q1.bind rel1).imp fun as h2 μ2 H2 g2 _ ⟨_, rel2, q2⟩ vs rs => ?_⟩
        split at q2
        · rename_i hl
          exact sp_of hl rel2.hr rs q2
        · exact q2.none
    | _ => exact q1.none
  rw [show eval (.Call (.Subscript o i p1) (e :: es) [] pos) X.env = (do
    callWith pos (← eval (.Subscript o i p1) X.env) [] (backTo pos (starEach (e :: es) X.env)) (backToKw pos (keywordEach [] X.env))) from rfl]
  refine wpAny_bind (thn (hf.run pins s σ H _ I q2) fun fv s1 ⟨x, H1, I1, r1, k', f, fa, fd, ps, hkl, ex, hk, F, hb, q3⟩ => ?_)
  subst ex
  cases r1
  refine PySem.W.callWith_K (h₀ := X.base) I1.ok.mod.kin hk (thn (ha.run pos pins s1 σ H1 _ I1 q3) fun us s2 ⟨vs, H2, I2, r2, q4⟩ => ⟨I2.kIn, ?_⟩) he hpl
  refine run_fnSD (us := us) (E := fun σ cls d H' => W cls d σ H') F (hr.mono hkl) hb .nil (passes_at tk σ) I2 r2 ?_
  rw [List.append_nil]
  exact q4
end
end Rh

set_option Elab.async false
set_option linter.all false
set_option maxRecDepth 100000
set_option maxHeartbeats 2000000
set_option autoImplicit false
namespace Rh
open PySem PySem.Spec PyProof.Rows L2
variable [Tbs]
/-! ### list comprehensions with two fors -/
section
variable {X : Cx} {W : WX} {L0 lks1 : List Nat} {μ1 μ4 : Mu} {H1 H4 : Hp} {h1 h3 hf : Hs} {ρ1 : En} {σ2 : L2.St} {l : Addr} {vacc0 : List V} {acc0 ds1 es : List D} {t1 : TM} {conds1 : M Bool} {elt : M D} {vs1 : List Nat} {J1 : It} {Nx : Hp → Prop}
theorem inner_lc (r1 : HR (ctX X) L0 μ1 H1 h1) (hl : H1 l = none) (g0 : Go L0 μ1 H1 μ4 H4) (rel4 : Rel (ctX X) L0 ρ1 σ2 μ4 H4 h3) (cov : Cover (ctX X) J1 ds1 lks1 μ4 H4) (hD : H4 l = some (.lst vacc0)) (nl : l ∉ μ4) (ra : RepL (ctX X) μ4 H4 acc0 vacc0)
    (hsz : (acc0 ++ es).length ≤ 1000000) (eL : loopC t1 conds1 elt (wipeE ρ1 vs1) ds1 (relk (lks1 ++ L0) h3) = some (es, hf))
    (kN : ∀ μ' H' vacc', Go L0 μ1 H1 μ' H' → HR (ctX X) L0 μ' H' (relk L0 hf) → Stay μ4 H4 μ' H' → H' l = some (.lst vacc') → l ∉ μ' → RepL (ctX X) μ' H' (acc0 ++ es) vacc' → Nx H') :
    ∃ W1 : Nat → Nat → Hp → Prop, (∃ m, W1 0 m H4) ∧ ∀ j k H, W1 j k H → (J1.stop j H ∧ Nx H) ∨ (J1.go j H ∧ ∃ Nx1 : Hp → Prop, (∀ H', Nx1 H' → ∃ k', k' < k ∧ W1 (j + 1) k' H') ∧ ∀ x H', J1.yld j H x H' →
      rdTg X t1 vs1 x (wipe σ2 vs1) H' fun σ3 H5 => wipe σ3 vs1 = wipe σ2 vs1 ∧ rdT X WF conds1 σ3 H5 fun b H6 => if b = true then rd X WF elt σ3 H6 fun y H7 => ∃ acc, H7 l = some (.lst acc) ∧ acc.length < sizeLine ∧ Nx1 (L2.upd H7 l (.lst (acc ++ [y]))) else Nx1 H6) := by
  refine ⟨fun j m Hc => m = ds1.length - j ∧ j ≤ ds1.length ∧ ∃ μi hi acc vacc rest, Go L0 μ1 H1 μi Hc ∧ Still lks1 μ4 H4 μi Hc ∧ HR (ctX X) (lks1 ++ L0) μi Hc hi ∧ Hc l = some (.lst vacc) ∧ l ∉ μi ∧ RepL (ctX X) μi Hc acc vacc ∧ loopC t1 conds1 elt (wipeE ρ1 vs1) (ds1.drop j) hi = some (rest, hf) ∧ acc ++ rest = acc0 ++ es,
    ⟨ds1.length, by simp, Nat.zero_le _, μ4, relk (lks1 ++ L0) h3, acc0, vacc0, es, g0, ⟨.refl, fun _ _ _ _ => rfl⟩, rel4.hr.relk, hD, nl, ra, eL, rfl⟩, ?_⟩
  rintro j m Hc ⟨rfl, hj, μi, hh, acc, vacc, rest, gi, st, ri, hLc, nl, racc, el, ea⟩
  have hva : vacc.length ≤ 1000000 := by
    rw [racc.length]
    have := congrArg List.length ea
    rw [List.length_append] at this
    omega
  by_cases hlt : j < ds1.length
  · refine .inr ⟨cov.go j μi Hc st hlt, fun H' => j + 1 ≤ ds1.length ∧ ∃ μi hi acc vacc rest, Go L0 μ1 H1 μi H' ∧ Still lks1 μ4 H4 μi H' ∧ HR (ctX X) (lks1 ++ L0) μi H' hi ∧ H' l = some (.lst vacc) ∧ l ∉ μi ∧ RepL (ctX X) μi H' acc vacc ∧ loopC t1 conds1 elt (wipeE ρ1 vs1) (ds1.drop (j + 1)) hi = some (rest, hf) ∧ acc ++ rest = acc0 ++ es,
      fun H' ⟨q1, q2⟩ => ⟨ds1.length - (j + 1), by omega, rfl, q1, q2⟩, fun x H' y => ?_⟩
    have hd : ds1[j]? = some ds1[j] := List.getElem?_eq_getElem hlt
    obtain ⟨sm, dm, rv⟩ := cov.yld j μi Hc x H' _ st y hd
    have g2 : Go (lks1 ++ L0) μi Hc μi H' := .same ri sm dm
    have r2 := ri.same sm
    have st2 : Still lks1 μ4 H4 μi H' := ⟨st.st.trans (g2.stay ri), fun n m a e => (g2.lk n (List.mem_append_left _ m) a (st.st.b n a e)).trans (st.lk n m a e)⟩
    rw [List.drop_eq_getElem_cons hlt] at el
    unfold loopC at el
    cases et : turnC t1 conds1 elt (wipeE ρ1 vs1) ds1[j] hh with
    | none => rw [et] at el; cases el
    | some p =>
      obtain ⟨o, hn⟩ := p
      simp only [et] at el
      cases el2 : loopC t1 conds1 elt (wipeE ρ1 vs1) (ds1.drop (j + 1)) hn with
      | none => simp only [el2] at el; cases el
      | some p =>
        obtain ⟨rest2, hf2⟩ := p
        simp only [el2] at el
        cases el
        unfold turnC at et
        cases e1 : t1 ds1[j] (wipeE ρ1 vs1) hh with
        | none => rw [e1] at et; cases et
        | some p =>
          obtain ⟨ρ2, h2⟩ := p
          simp only [e1] at et
          have rw0 : Rel (ctX X) (lks1 ++ L0) ρ1 σ2 μi H' hh := ⟨rel4.len, fun i d e => let ⟨v, a, b⟩ := rel4.val i d e; ⟨v, a, b.stay st2.st⟩, r2⟩
          have relw : Rel (ctX X) (lks1 ++ L0) (wipeE ρ1 vs1) (wipe σ2 vs1) μi H' hh := rw0.wipe (vs := vs1)
          refine ⟨ds1[j], wipeE ρ1 vs1, lks1 ++ L0, μi, hh, ρ2, h2, relw, rv, e1, fun σ3 μ3 H3 g3 rel3 b3 => ⟨b3.wipe, ρ2, lks1 ++ L0, μ3, h2, rel3, ?_⟩⟩
          have g13 : Go L0 μ1 H1 μ3 H3 := gi.trans (g2.trans g3).less
          have hl' : H' l = some (.lst vacc) := sm _ _ hLc
          have hl3 : H3 l = some (.lst vacc) := g3.keep l _ hl' (fun _ z => nomatch z) nl
          have nl3 : l ∉ μ3 := (gi.trans g2.less).not_mem r1 hl nl g3.less hl'
          have ra3 : RepL (ctX X) μ3 H3 acc vacc := (racc.go ri g2).go r2 g3
          have st3 : Still lks1 μ4 H4 μ3 H3 := ⟨st2.st.trans (g3.stay r2), fun n m a e => (g3.lk n (List.mem_append_left _ m) a (st2.st.b n a e)).trans (st2.lk n m a e)⟩
          cases e2 : conds1 ρ2 h2 with
          | none => simp only [e2] at et; cases et
          | some p =>
            cases p with
            | ex c fs ρ3 => simp only [e2] at et; cases et
            | ok c h3' =>
              intro μ4' H4' g4 r4
              have hl4 : H4' l = some (.lst vacc) := g4.keep l _ hl3 (fun _ z => nomatch z) nl3
              have nl4 : l ∉ μ4' := g13.not_mem r1 hl nl3 g4.less hl3
              have ra4 := ra3.go rel3.hr g4
              have st4 : Still lks1 μ4 H4 μ4' H4' := ⟨st3.st.trans (g4.stay rel3.hr), fun n m a e => (g4.lk n (List.mem_append_left _ m) a (st3.st.b n a e)).trans (st3.lk n m a e)⟩
              cases c with
              | false =>
                simp only [e2] at et
                cases et
                refine iteF ?_
                exact ⟨hlt, μ4', _, acc, vacc, rest2, g13.trans g4.less, st4, r4, hl4, nl4, ra4, el2, ea⟩
              | true =>
                refine iteT ?_
                simp only [e2] at et
                refine ⟨ρ2, lks1 ++ L0, μ4', h3', rel3.go g4 r4, ?_⟩
                cases e3 : elt ρ2 h3' with
                | none => simp only [e3] at et; cases et
                | some p =>
                  cases p with
                  | ex c fs ρ4 => simp only [e3] at et; cases et
                  | ok xd h4 =>
                    simp only [e3] at et
                    cases et
                    intro μ5 H5 g5 r5 v rv
                    have hl5 : H5 l = some (.lst vacc) := g5.keep l _ hl4 (fun _ z => nomatch z) nl4
                    have nl5 : l ∉ μ5 := (g13.trans g4.less).not_mem r1 hl nl4 g5.less hl4
                    have ra5 := ra4.go r4 g5
                    have st5 : Still lks1 μ4 H4 μ5 H5 := ⟨st4.st.trans (g5.stay r4), fun n m a e => (g5.lk n (List.mem_append_left _ m) a (st4.st.b n a e)).trans (st4.lk n m a e)⟩
                    obtain ⟨r6, st6⟩ := r5.side (o := .lst (vacc ++ [v])) hl5 nl5 (fun xs e => nomatch e) (fun ob u e => nomatch e)
                    have st7 : Still lks1 μ4 H4 μ5 (L2.upd H5 l (.lst (vacc ++ [v]))) := ⟨st5.st.trans st6, fun n m a e => (upd_ne (show a ≠ l from fun z => nl5 (by rw [← z]; exact List.mem_of_getElem? (st5.st.b n a e)))).trans (st5.lk n m a e)⟩
                    have hlt9 : vacc.length < 1000000 := by
                      rw [racc.length]
                      have h9 := congrArg List.length ea
                      rw [List.length_append] at h9
                      have h8 : (consO (some xd) rest2).length = rest2.length + 1 := rfl
                      omega
                    refine ⟨vacc, hl5, small6' (by omega), hlt, μ5, _, acc ++ [xd], vacc ++ [v], rest2, ((g13.trans g4.less).trans g5.less).side r1 hl, st7, r6, upd_same, nl5, (ra5.stay st6).append ⟨v, [], rfl, rv.stay st6, rfl⟩, el2, ?_⟩
                    rw [List.append_assoc]
                    exact ea
  · have e : j = ds1.length := by omega
    subst e
    rw [List.drop_length] at el
    unfold loopC at el
    cases el
    rw [List.append_nil] at ea
    subst ea
    exact .inl ⟨cov.stop _ μi Hc st rfl, kN μi Hc vacc gi ri.relk st.st hLc nl racc⟩
end
def turnO (t : TM) (conds : M Bool) (mi1 : M (List D × List Nat)) (t1 : TM) (conds1 : M Bool) (elt : M D) (vs1 : List Nat) (ρ : En) (d : D) (h : Hs) : Option (List D × Hs) := match t d ρ h with
  | none => none
  | some (ρ1, h1) => match conds ρ1 h1 with
    | some (.ok false h2) => some ([], h2)
    | some (.ok true h2) => (match mi1 ρ1 h2 with
      | some (.ok p h3) => (match loopC t1 conds1 elt (wipeE ρ1 vs1) p.1 (relk (p.2 ++ h3.lk) h3) with
        | some (es, h4) => some (es, relk h3.lk h4)
        | none => none)
      | _ => none)
    | _ => none
def loopC2 (t : TM) (conds : M Bool) (mi1 : M (List D × List Nat)) (t1 : TM) (conds1 : M Bool) (elt : M D) (vs1 : List Nat) (ρ : En) : List D → Hs → Option (List D × Hs)
  | [], h => some ([], h)
  | d :: ds, h => match turnO t conds mi1 t1 conds1 elt vs1 ρ d h with
    | none => none
    | some (os, h1) => match loopC2 t conds mi1 t1 conds1 elt vs1 ρ ds h1 with
      | none => none
      | some (es, h2) => some (os ++ es, h2)
def mLc2 (mi : M (List D × List Nat)) (t : TM) (conds : M Bool) (mi1 : M (List D × List Nat)) (t1 : TM) (conds1 : M Bool) (elt : M D) (vs vs1 : List Nat) : M D := mBind mi fun p => fun ρ h => match loopC2 t conds mi1 t1 conds1 elt vs1 (wipeE ρ vs) p.1 (relk (p.2 ++ h.lk) h) with
  | some (es, h') => if es.length ≤ 1000000 then (Nv.n (.lst es)).lift (relk h.lk h') else none
  | none => none
section
variable {X : Cx} {W : WX} {σ : L2.St} {H : Hp} {Q : VK}
theorem rd_lc2 {mi mi1 : M (List D × List Nat)} {t t1 : TM} {conds conds1 : M Bool} {elt : M D} {vs vs1 : List Nat} (q : rd X W (mLc2 mi t conds mi1 t1 conds1 elt vs vs1) σ H Q) :
    tLc2 (rdI X W mi) (rdTg X t vs) (rdT X WF conds) (rdI X WF mi1) (rdTg X t1 vs1) (rdT X WF conds1) (rd X WF elt) vs vs1 σ H Q := by
  refine rdG_imp (rdG_bind q) fun ρ L p h1 μ1 H1 ⟨rel1, q1⟩ J cov l hl => ?_
  obtain ⟨ds, lks⟩ := p
  dsimp only at q1 cov
  rw [rel1.hr.lk] at q1
  cases eL : loopC2 t conds mi1 t1 conds1 elt vs1 (wipeE ρ vs) ds (relk (lks ++ L) h1) with
  | none => simp only [eL] at q1; exact q1.none
  | some p =>
    obtain ⟨es, hf⟩ := p
    simp only [eL] at q1
    split at q1
    rotate_left
    · exact q1.none
    rename_i hlen
    have rel2 := rel1.relk (L' := lks ++ L)
    refine ⟨fun i m Hc => m = ds.length - i ∧ i ≤ ds.length ∧ ∃ μi hi acc vacc rest, Go (lks ++ L) μ1 H1 μi Hc ∧ HR (ctX X) (lks ++ L) μi Hc hi ∧ Hc l = some (.lst vacc) ∧ l ∉ μi ∧ RepL (ctX X) μi Hc acc vacc ∧ loopC2 t conds mi1 t1 conds1 elt vs1 (wipeE ρ vs) (ds.drop i) hi = some (rest, hf) ∧ acc ++ rest = es,
      ⟨ds.length, by simp, Nat.zero_le _, μ1, relk (lks ++ L) h1, [], [], es, ?_, ?_, upd_same, ?_, rfl, eL, rfl⟩, ?_⟩
    · obtain ⟨s1, d1⟩ := same_new (o := .lst []) hl
      exact .same rel2.hr s1 d1
    · exact rel2.hr.same (same_new (o := .lst []) hl).1
    · intro m; obtain ⟨u, e, _⟩ := rel2.hr.mut m; rw [hl] at e; cases e
    rintro i m Hc ⟨rfl, hi, μi, hh, acc, vacc, rest, gi, ri, hLc, nl, racc, el, ea⟩
    have st : Still lks μ1 H1 μi Hc := ⟨gi.stay rel2.hr, fun n m => gi.lk n (List.mem_append_left _ m)⟩
    by_cases hlt : i < ds.length
    · refine .inr ⟨cov.go i μi Hc st hlt, fun H' => i + 1 ≤ ds.length ∧ ∃ μi hi acc vacc rest, Go (lks ++ L) μ1 H1 μi H' ∧ HR (ctX X) (lks ++ L) μi H' hi ∧ H' l = some (.lst vacc) ∧ l ∉ μi ∧ RepL (ctX X) μi H' acc vacc ∧ loopC2 t conds mi1 t1 conds1 elt vs1 (wipeE ρ vs) (ds.drop (i + 1)) hi = some (rest, hf) ∧ acc ++ rest = es,
        fun H' ⟨q1, q2⟩ => ⟨ds.length - (i + 1), by omega, rfl, q1, q2⟩, fun x H' y => ?_⟩
      have hd : ds[i]? = some ds[i] := List.getElem?_eq_getElem hlt
      obtain ⟨sm, dm, rv⟩ := cov.yld i μi Hc x H' _ st y hd
      have g2 : Go (lks ++ L) μi Hc μi H' := .same ri sm dm
      have r2 := ri.same sm
      rw [List.drop_eq_getElem_cons hlt] at el
      unfold loopC2 at el
      cases et : turnO t conds mi1 t1 conds1 elt vs1 (wipeE ρ vs) ds[i] hh with
      | none => rw [et] at el; cases el
      | some p =>
        obtain ⟨os, hn⟩ := p
        simp only [et] at el
        cases el2 : loopC2 t conds mi1 t1 conds1 elt vs1 (wipeE ρ vs) (ds.drop (i + 1)) hn with
        | none => simp only [el2] at el; cases el
        | some p =>
          obtain ⟨rest2, hf2⟩ := p
          simp only [el2] at el
          cases el
          unfold turnO at et
          cases e1 : t ds[i] (wipeE ρ vs) hh with
          | none => rw [e1] at et; cases et
          | some p =>
            obtain ⟨ρ2, h2⟩ := p
            simp only [e1] at et
            have relw : Rel (ctX X) (lks ++ L) (wipeE ρ vs) (wipe σ vs) μi H' hh := (rel2.wipe (vs := vs)).go (gi.trans g2) r2
            refine ⟨ds[i], wipeE ρ vs, lks ++ L, μi, hh, ρ2, h2, relw, rv, e1, fun σ2 μ3 H3 g3 rel3 b3 => ⟨b3.wipe, ρ2, lks ++ L, μ3, h2, rel3, ?_⟩⟩
            have g13 := gi.trans (g2.trans g3)
            have hl' : H' l = some (.lst vacc) := sm _ _ hLc
            have hl3 : H3 l = some (.lst vacc) := g3.keep l _ hl' (fun _ z => nomatch z) nl
            have nl3 : l ∉ μ3 := (gi.trans g2).not_mem rel2.hr hl nl g3 hl'
            have ra3 : RepL (ctX X) μ3 H3 acc vacc := (racc.go ri g2).go r2 g3
            cases e2 : conds ρ2 h2 with
            | none => simp only [e2] at et; cases et
            | some p =>
              cases p with
              | ex c fs ρ3 => simp only [e2] at et; cases et
              | ok c h3 =>
                intro μ4 H4 g4 r4
                have hl4 : H4 l = some (.lst vacc) := g4.keep l _ hl3 (fun _ z => nomatch z) nl3
                have nl4 : l ∉ μ4 := g13.not_mem rel2.hr hl nl3 g4 hl3
                have ra4 := ra3.go rel3.hr g4
                cases c with
                | false =>
                  simp only [e2] at et
                  cases et
                  refine iteF ?_
                  exact ⟨hlt, μ4, _, acc, vacc, rest2, g13.trans g4, r4, hl4, nl4, ra4, el2, ea⟩
                | true =>
                  refine iteT ?_
                  simp only [e2] at et
                  refine ⟨ρ2, lks ++ L, μ4, h3, rel3.go g4 r4, ?_⟩
                  cases e3 : mi1 ρ2 h3 with
                  | none => simp only [e3] at et; cases et
                  | some p =>
                    cases p with
                    | ex c fs ρ4 => simp only [e3] at et; cases et
                    | ok p1 h4 =>
                      simp only [e3] at et
                      intro μ5 H5 g5 r5 J1 cov1
                      have hl5 : H5 l = some (.lst vacc) := g5.keep l _ hl4 (fun _ z => nomatch z) nl4
                      have nl5 : l ∉ μ5 := (g13.trans g4).not_mem rel2.hr hl nl4 g5 hl4
                      have ra5 := ra4.go r4 g5
                      cases e4 : loopC t1 conds1 elt (wipeE ρ2 vs1) p1.1 (relk (p1.2 ++ h4.lk) h4) with
                      | none => simp only [e4] at et; cases et
                      | some p =>
                        obtain ⟨os', h5⟩ := p
                        simp only [e4] at et
                        cases et
                        have rel5 : Rel (ctX X) (lks ++ L) ρ2 σ2 μ5 H5 h4 := (rel3.go g4 r4).go g5 r5
                        rw [r5.lk] at e4
                        rw [r5.lk] at el2
                        refine inner_lc rel2.hr hl ((g13.trans g4).trans g5) rel5 cov1 hl5 nl5 ra5 ?_ e4 fun μ' H'' vacc' g' r' st' hl6 nl6 ra6 => ⟨hlt, μ', _, acc ++ os, vacc', rest2, g', r', hl6, nl6, ra6, el2, by rw [List.append_assoc]; exact ea⟩
                        have h9 := congrArg List.length ea
                        rw [List.length_append, List.length_append] at h9
                        rw [List.length_append]
                        omega
    · have e : i = ds.length := by omega
      subst e
      rw [List.drop_length] at el
      unfold loopC2 at el
      cases el
      rw [List.append_nil] at ea
      subst ea
      refine .inl ⟨cov.stop _ μi Hc st rfl, ?_⟩
      have ri' := ri.relk (L' := L)
      unfold Nv.lift at q1
      dsimp only at q1
      cases en : (relk L hf).new (.lst acc) with
      | none => simp only [en] at q1; exact q1.none
      | some hz =>
        simp only [en] at q1
        have ra := ri'.adopt nl (o := .lst acc) ⟨vacc, hLc, racc.stay (stay_more fun _ _ e => e)⟩ en
        refine q1 (μi ++ [l]) Hc (gi.less.adopt hl) ra (.ref l) ⟨l, rfl, ?_⟩
        rw [← ri'.len, List.getElem?_append_right (Nat.le_refl _)]
        simp
end
section
variable {X : Cx} {W : WX}
theorem g_more {tg : Expr} {t : TM} {tv vs : List Nat} (h : PG X tg (rdTg X t tv)) (hs : ∀ i ∈ tv, i ∈ vs) : PG X tg (rdTg X t vs) :=
  pg_imp h fun v σ H Q ⟨d, ρ, L, μ, h, ρ', h', rel, rv, e, k⟩ => ⟨d, ρ, L, μ, h, ρ', h', rel, rv, e, fun σ' μ' H' g r b => k σ' μ' H' g r ⟨b.1, fun i hi => b.2 i fun m => hi (hs i m)⟩⟩
theorem e_lc2 {elt tg iter tg1 iter1 : Expr} {ifs ifs1 : List Expr} {scope : Scope} {own : List (Str × Nat)} {pos : Pos} {mi mi1 : M (List D × List Nat)} {t t1 : TM} {mc mc1 : M Bool} {me : M D} {vs vs0 vs1 : List Nat} (hc : X.calm = true) (hN : X.N.Nodup) (ok : BlkOk X.N X.env.scope scope own) (hvs : own.map (fun x : Str × Nat => x.2) = vs) (hv : ∀ i ∈ vs1, i ∈ vs) (hv0 : ∀ i ∈ vs0, i ∈ vs)
    (hi : PI X tg iter (rdI X W mi))
    (hg : ∀ (s : Shared) (H : Hp) (C : Addr) (cl : List (Str × Addr)) (fp : List Addr), PG (X.blk s H scope (compEnvC scope cl C X.env) fp) tg (rdTg (X.blk s H scope (compEnvC scope cl C X.env) fp) t vs0))
    (ht : ∀ (s : Shared) (H : Hp) (C : Addr) (cl : List (Str × Addr)) (fp : List Addr), PTs (X.blk s H scope (compEnvC scope cl C X.env) fp) ifs (rdT (X.blk s H scope (compEnvC scope cl C X.env) fp) WF mc))
    (hi1 : ∀ (s : Shared) (H : Hp) (C : Addr) (cl : List (Str × Addr)) (fp : List Addr), PI (X.blk s H scope (compEnvC scope cl C X.env) fp) tg1 iter1 (rdI (X.blk s H scope (compEnvC scope cl C X.env) fp) WF mi1))
    (hg1 : ∀ (s : Shared) (H : Hp) (C : Addr) (cl : List (Str × Addr)) (fp : List Addr), PG (X.blk s H scope (compEnvC scope cl C X.env) fp) tg1 (rdTg (X.blk s H scope (compEnvC scope cl C X.env) fp) t1 vs1))
    (ht1 : ∀ (s : Shared) (H : Hp) (C : Addr) (cl : List (Str × Addr)) (fp : List Addr), PTs (X.blk s H scope (compEnvC scope cl C X.env) fp) ifs1 (rdT (X.blk s H scope (compEnvC scope cl C X.env) fp) WF mc1))
    (he : ∀ (s : Shared) (H : Hp) (C : Addr) (cl : List (Str × Addr)) (fp : List Addr), PE (X.blk s H scope (compEnvC scope cl C X.env) fp) elt (rd (X.blk s H scope (compEnvC scope cl C X.env) fp) WF me))
    (hs : ∀ x, foldedSetIterable iter X.env x = pure x := by intro _; rfl) (hs1 : ∀ env x, foldedSetIterable iter1 env x = pure x := by intro _ _; rfl) :
    PE X (.ListComp elt [⟨tg, iter, ifs, 0⟩, ⟨tg1, iter1, ifs1, 0⟩] scope pos) (rd X W (mLc2 mi t mc mi1 t1 mc1 me vs vs1)) := by
  subst hvs
  exact pe_imp (pe_lc2 (g := rdTg X t (own.map (fun x : Str × Nat => x.2))) (tt := rdT X WF mc) (wi1 := rdI X WF mi1) (g1 := rdTg X t1 vs1) (tt1 := rdT X WF mc1) (te := rd X WF me) hc hN hi ok hv (fun s H C cl fp => g_more (hg s H C cl fp) hv0) ht hi1 hg1 ht1 he hs hs1) fun σ H Q h => rd_lc2 h
end
end Rh

set_option Elab.async false
set_option linter.all false
set_option maxRecDepth 100000
set_option maxHeartbeats 2000000
set_option autoImplicit false
namespace Rh
open PySem PySem.Spec PyProof.Rows L2
variable [Tbs]
/-! ### name = {k: v for ..} on one line -/
section
variable {X : Cx} {W : WX}
theorem ps_setDcO {i : Nat} {y : Str} {py : Pos} {kx vx tg iter : Expr} {ifs : List Expr} {scope : Scope} {own : List (Str × Nat)} {pos spos : Pos} {wi : TI} {g : TG} {tt : TT} {tk tv : TE} (hc : X.calm = true) (hN : X.N.Nodup) (hy : X.N[i]? = some y) (hyl : X.env.scope.names.lookup y = some .local)
    (hsw : swapsWith (.DictComp kx vx [⟨tg, iter, ifs, 0⟩] scope pos) (some (.Name y py)) spos.line X.env = pure true) (hi : PI X tg iter wi) (ok : BlkOk X.N X.env.scope scope own)
    (hg : ∀ (s : Shared) (H : Hp) (C : Addr) (cl : List (Str × Addr)) (fp : List Addr), PG (X.blk s H scope (compEnvC scope cl C X.env) fp) tg g) (ht : ∀ (s : Shared) (H : Hp) (C : Addr) (cl : List (Str × Addr)) (fp : List Addr), PTs (X.blk s H scope (compEnvC scope cl C X.env) fp) ifs tt) (hk : ∀ (s : Shared) (H : Hp) (C : Addr) (cl : List (Str × Addr)) (fp : List Addr), PE (X.blk s H scope (compEnvC scope cl C X.env) fp) kx tk)
    (he : ∀ (s : Shared) (H : Hp) (C : Addr) (cl : List (Str × Addr)) (fp : List Addr), PE (X.blk s H scope (compEnvC scope cl C X.env) fp) vx tv) (hs : ∀ x, foldedSetIterable iter X.env x = pure x := by intro _; rfl) :
    PS X (.Assign [.Name y py] (.DictComp kx vx [⟨tg, iter, ifs, 0⟩] scope pos) spos) (tAsg (tDcO X.w wi g tt tk tv (own.map (fun x : Str × Nat => x.2))) (gName i)) := by
  refine ⟨fun pins s σ H E h0 h => ?_⟩
  rw [exec_Assign_Name_used _ _ _ _ hsw]
  refine wpAny_bind (wpAny_standAt (wpAny_bind (show wpAny _ X.A (do let _ ← comprehension (.DictComp kx vx [⟨tg, iter, ifs, 0⟩] scope pos) scope X.env (firstIterPos [⟨tg, iter, ifs, 0⟩] pos) newDict false (eval iter X.env) (some (assign (.Name y py) X.env))) _ _ s from ?_)))
  have h1 : tDc wi g tt tk tv (own.map (·.2)) σ H (fun v H' => ∃ D kvs, v = .ref D ∧ H' D = some (.dK kvs) ∧ ∀ ep, E.nx (σ.set i (some (.ref D))) (upd H' D (DicO X.w D (ep, evOf kvs)))) := h
  refine wpAny_bind (thn (dc_core (Qf := fun _ s' => SP X pins E .next s') hc hN h0 hi ok hg ht hk he hs h1 fun L C s' m H' I' q hn f => ?_) fun _ s' hq => wpAny_pure (wpAny_pure hq))
  obtain ⟨D, kvs, eD0, eD, q⟩ := q
  cases eD0
  refine (show wpAny _ _ (assign (.Name y py) X.env (.ref L)) _ _ _ from wpAny_assign_Name (store_ok2 (v := V.ref L) I' hN hy (.inl hyl) rfl (fun s2 I2 ⟨a, sb, ha⟩ => ?_) (.inr hyl)))
  obtain ⟨f0, f1, f2, f3, f4, f5⟩ := f
  refine ⟨m, hn.sameBut sb (show C ≠ a from ha.elim (fun z => by rw [z]; exact f1) fun z e => f4 y a z e.symm), fun h3 sb3 => ?_⟩
  have I3 : L2.Inv X pins (σ.set i (some (.ref L))) H' { s2 with heap := h3 } := I2.turned (t' := s2.toks) (fun b o hb e => (sb3.2 b hb).trans e) f0 f1 f3 f4 f5
  obtain ⟨ep, okd⟩ := dicO_of (I3.hok L _ eD)
  obtain ⟨o, ho⟩ := objOk_get (I3.hok L _ eD)
  exact ⟨_, _, I3.write (t' := s2.toks) (x := L) (e := L) (o := DicO X.w L (ep, evOf kvs)) (by rw [eD]; exact True.intro) (.inl rfl) (fun _ _ _ q => q) ⟨o, ho⟩ (okd _), q ep⟩
theorem s_setDc {i : Nat} {y : Str} {py : Pos} {kx vx tg iter : Expr} {ifs : List Expr} {scope : Scope} {own : List (Str × Nat)} {pos spos : Pos} {mi : M (List D × List Nat)} {t : TM} {mc : M Bool} {mk mv : M D} {vs : List Nat} (hc : X.calm = true) (hN : X.N.Nodup) (hy : X.N[i]? = some y) (hyl : X.env.scope.names.lookup y = some .local)
    (hsw : swapsWith (.DictComp kx vx [⟨tg, iter, ifs, 0⟩] scope pos) (some (.Name y py)) spos.line X.env = pure true) (ok : BlkOk X.N X.env.scope scope own) (hvs : own.map (fun x : Str × Nat => x.2) = vs)
    (hi : PI X tg iter (rdI X W mi))
    (hg : ∀ (s : Shared) (H : Hp) (C : Addr) (cl : List (Str × Addr)) (fp : List Addr), PG (X.blk s H scope (compEnvC scope cl C X.env) fp) tg (rdTg (X.blk s H scope (compEnvC scope cl C X.env) fp) t vs))
    (ht : ∀ (s : Shared) (H : Hp) (C : Addr) (cl : List (Str × Addr)) (fp : List Addr), PTs (X.blk s H scope (compEnvC scope cl C X.env) fp) ifs (rdT (X.blk s H scope (compEnvC scope cl C X.env) fp) WF mc))
    (hk : ∀ (s : Shared) (H : Hp) (C : Addr) (cl : List (Str × Addr)) (fp : List Addr), PE (X.blk s H scope (compEnvC scope cl C X.env) fp) kx (rd (X.blk s H scope (compEnvC scope cl C X.env) fp) WF mk))
    (he : ∀ (s : Shared) (H : Hp) (C : Addr) (cl : List (Str × Addr)) (fp : List Addr), PE (X.blk s H scope (compEnvC scope cl C X.env) fp) vx (rd (X.blk s H scope (compEnvC scope cl C X.env) fp) WF mv))
    (hs : ∀ x, foldedSetIterable iter X.env x = pure x := by intro _; rfl) :
    PS X (.Assign [.Name y py] (.DictComp kx vx [⟨tg, iter, ifs, 0⟩] scope pos) spos) (rdS X W (mSet i (mDc mi t mc mk mv vs))) := by
  subst hvs
  refine ps_imp (ps_setDcO (i := i) (g := rdTg X t (own.map (fun x : Str × Nat => x.2))) (tt := rdT X WF mc) (tk := rd X WF mk) (tv := rd X WF mv) hc hN hy hyl hsw hi ok hg ht hk he hs) fun D σ H q => rd_dc ?_
  exact rdG_imp (rdS_bind q) fun ρ L d h1 μ1 H1 ⟨rel1, q1⟩ v rv => q1 _ μ1 H1 .refl (rel1.set rv)
end
end Rh

set_option Elab.async false
set_option linter.all false
set_option maxRecDepth 100000
set_option maxHeartbeats 2000000
set_option autoImplicit false
namespace Rh
open PySem PySem.Spec PyProof.Rows L2
/-! ### a frame with captured names and one parameter -/
/-- what the new frame L holds -/
structure NewF (sc : Scope) (p : Str) (u : Value) (L : Addr) (s : Shared) (g : Heap) : Prop where
  old : ∀ b o, s.heap.get? b = some o → g.get? b = some o
  ns : ∃ m, g.Ns L m ∧ (sc.names.lookup p = some .local → m p = some u)
  ces : ∀ n c, (n, c) ∈ cellsFrom (L + 1) sc.names [] → L < c ∧ ∃ x, g.IsCell c x
  apart : (cellsFrom (L + 1) sc.names []).Pairwise fun x y => x.2 ≠ y.2
  own : sc.names.lookup p = some .cell → ∃ c, (cellsFrom (L + 1) sc.names []).lookup p = some c ∧ g.IsCell c (some u)
theorem frame_one {Mo : Model} {A : Around} {Ex : Value → Shared → Prop} {s : Shared} {sc : Scope} {p : Str} {u : Value} {glo blt : Addr} {clo : List (Str × Addr)} {q : Str} {fn : Option Addr} {cd : Value} {Q : PySem.Env → Shared → Prop}
    (hk : sc.kind = .function) (hp : sc.names.lookup p = some .local ∨ sc.names.lookup p = some .cell) 
    (hQ : ∀ g tk, NewF sc p u s.heap.objs.size s g → Q (newEnv sc s.heap.objs.size glo (cellsFrom (s.heap.objs.size + 1) sc.names clo) q fn cd none blt) { s with heap := g, toks := tk }) :
    wpAny Mo A (newFunctionEnv sc glo clo [(p, u)] q fn cd none blt) Q Ex s := by
  simp only [newFunctionEnv, Option.isSome_none, Bool.false_eq_true, if_false]
  refine wpAny_bind (wpAny_alloc ?_)
  refine wpAny_bind (wpAny_layCells _ (fun n kd cs => by cases e : kd == NameKind.cell <;> simp [e]) _ _ _ _ ?_)
  have ok0 := cellsFrom_ok sc.names (s.heap.push { cls := .type "frame", data := .dict #[] }) (s.heap.objs.size + 1) [] ⟨(fun _ _ z => nomatch z), List.Pairwise.nil⟩ (by rw [Heap.size_push]; exact Nat.le_refl _)
  rw [Heap.size_push] at ok0
  have hs : ({ s with heap := s.heap.push { cls := .type "frame", data := .dict #[] } } : Shared).heap.objs.size = s.heap.objs.size + 1 := Heap.size_push ..
  rw [hs]
  have old0 : ∀ b o, s.heap.get? b = some o → (pushCells (s.heap.push { cls := .type "frame", data := .dict #[] }) sc.names).get? b = some o := fun b o e => pushCells_keeps _ _ b o (Heap.get?_push_of_some _ e)
  have ns0 := (Heap.Ns.new s.heap (.type "frame")).keeps (pushCells_keeps sc.names _)
  have lt0 : ∀ n c, (n, c) ∈ cellsFrom (s.heap.objs.size + 1) sc.names [] → s.heap.objs.size < c := fun n c m => (ok0.empty n c m).2
  have ne0 : ∀ b o, s.heap.get? b = some o → b ≠ s.heap.objs.size := fun b o e => Nat.ne_of_lt (Heap.lt_size e)
  rw [List.forIn_cons]
  rcases hp with hl | hl
  · refine wpAny_bind (wpAny_bind (wpAny_bind (wpAny_storeName_local (m := fun _ => none) hl ns0 (fun g hn sb => wpAny_pure (wpAny_pure ?_)) (by show (sc.kind == .class || (sc.kind == .module && _)) = false; rw [hk]; rfl))))
    refine wpAny_pure (hQ g _ ⟨fun b o e => sb.extBut b o (ne0 b o e) (old0 b o e), ⟨_, hn, fun _ => by simp⟩, fun n c m => ⟨lt0 n c m, none, (ok0.empty n c m).1.sameBut sb (Nat.ne_of_gt (lt0 n c m))⟩, ok0.apart, fun z => ?_⟩)
    rw [hl] at z; cases z
  · obtain ⟨c, hc⟩ := Option.isSome_iff_exists.mp (PySem.W.cellsFrom_some sc.names (s.heap.objs.size + 1) [] (.inl hl))
    have mc := PySem.mem_of_lookup hc
    have hc2 : (cellsFrom (s.heap.objs.size + 1) sc.names clo).lookup p = some c := by
      rw [PySem.cellsFrom_over, List.lookup_append, hc]; rfl
    refine wpAny_bind (wpAny_bind (wpAny_bind (wpAny_storeName_cell hk hl hc2 (ok0.empty p c mc).1 fun g hi sb => wpAny_pure (wpAny_pure ?_))))
    refine wpAny_pure (hQ g _ ⟨fun b o e => sb.extBut b o (fun z => Nat.lt_irrefl _ (Nat.lt_trans (z ▸ lt0 p c mc) (Heap.lt_size e))) (old0 b o e), ⟨_, ns0.sameBut sb (Nat.ne_of_lt (lt0 p c mc)), fun z => ?_⟩, fun n d m => ⟨lt0 n d m, ?_⟩, ok0.apart, fun _ => ⟨c, hc, hi⟩⟩)
    · rw [hl] at z; cases z
    · by_cases hd : d = c
      · exact ⟨some u, hd ▸ hi⟩
      · exact ⟨none, (ok0.empty n d m).1.sameBut sb hd⟩
/-! ### the names of a lambda with one parameter -/
structure LamN (sc inner : Scope) (p : Str) : Prop where
  kind : inner.kind = .function
  co : inner.isCoroutine = false
  gen : inner.isGenerator = false
  own : ∀ y ∈ inner.names, y.2 = .local ∨ y.2 = .cell → y.1 = p
  par : inner.names.lookup p = some .local ∨ inner.names.lookup p = some .cell
  free : ∀ y ∈ inner.names, y.2 = .free → sc.names.lookup y.1 = some .cell ∨ sc.names.lookup y.1 = some .free
/-- the frame of a lambda that the def of X has made -/
abbrev lamE (X : Cx) (sc : Scope) (L f cd : Addr) : PySem.Env := PySem.W.envX (X.env.qual ++ "<lambda>") sc L f (.ref cd) (cellsFrom (L + 1) sc.names (cloFrom X.env.cells sc.names []))
/-- the context of its body -/
def lamX (X : Cx) (A : Around) (outer : List PySem.Env) (s : Shared) (H : Hp) (E : XK) (sc : Scope) (f cd : Addr) : Cx where
  prog := X.prog
  w := X.w
  K := X.K
  mg := X.mg
  base := X.base
  N := X.N
  s_0 := s
  H_0 := H
  A := A.deeper (lamE X sc s.heap.objs.size f cd)
  env := lamE X sc s.heap.objs.size f cd
  outer := outer
  stack := lamE X sc s.heap.objs.size f cd :: outer
  ex := []
  pn := []
  fn := fun _ => false
  calm := true
  xe := fun e t => wpAny (model X.prog X.w) (A.deeper (lamE X sc s.heap.objs.size f cd)) (leaving (lamE X sc s.heap.objs.size f cd) e) (fun _ t' => L2.CX X.prog X.w outer H s E e t') (fun e' t' => L2.CX X.prog X.w outer H s E e' t') t
theorem tkL {X : Cx} {A : Around} {outer : List PySem.Env} {s : Shared} {H : Hp} {E : XK} {sc : Scope} {f cd : Addr} : Takes (lamX X A outer s H E sc f cd) (fun cls d _ H => E cls d H) := takes_of rfl rfl rfl rfl
theorem poL {X : Cx} {A : Around} {outer : List PySem.Env} {s : Shared} {H : Hp} {E : XK} {sc : Scope} {f cd : Addr} :
    PassesOwn (model (lamX X A outer s H E sc f cd).prog (lamX X A outer s H E sc f cd).w) (lamX X A outer s H E sc f cd).A (lamX X A outer s H E sc f cd).env (lamX X A outer s H E sc f cd).xe := passes_of rfl
theorem mem_lookup_some {l : List (Str × Addr)} {y : Str} (h : (l.lookup y).isSome = true) : ∃ c, l.lookup y = some c := Option.isSome_iff_exists.mp h
section
variable {X : Cx} {pins : List (Addr × Obj)} {σ : L2.St} {H HZ : Hp} {s s1 : Shared}
theorem LamN.has {sc : Scope} {p : Str} (L : LamN X.env.scope sc p) (ok : X.Ok) : ∀ y ∈ sc.names, y.2 = .free → ∃ c, X.env.cells.lookup y.1 = some c := fun y hy e => ok.has y.1 (L.free y hy e)
theorem look_app {α : Type} {l l' : List (Str × α)} {x : Str} {c : α} (h : (l ++ l').lookup x = some c) : l.lookup x = some c ∨ l'.lookup x = some c := by
  rw [List.lookup_append] at h
  cases e : l.lookup x with
  | none => rw [e] at h; exact .inr h
  | some y => rw [e] at h; exact .inl h
theorem cellsFrom_cell : ∀ {names : List (Str × NameKind)} {n : Nat} {acc : List (Str × Addr)} {y : Str} {c : Addr}, (y, c) ∈ cellsFrom n names acc → (y, c) ∈ acc ∨ (y, NameKind.cell) ∈ names
  | [], _, _, _, _, h => .inl h
  | (x, k) :: r, n, acc, y, c, h => by
    unfold cellsFrom at h
    split at h
    · rename_i e
      rcases cellsFrom_cell h with q | q
      · rcases List.mem_cons.mp q with z | z
        · cases z
          exact .inr (by rw [← eq_of_beq e]; exact List.mem_cons_self)
        · exact .inl z
      · exact .inr (List.mem_cons_of_mem _ q)
    · rcases cellsFrom_cell h with q | q
      · exact .inl q
      · exact .inr (List.mem_cons_of_mem _ q)
/-- the body's frame, as it begins -/
theorem lam_begin {A : Around} {outer : List PySem.Env} {E : XK} {sc : Scope} {p : Str} {i : Nat} {f cd : Addr} {u : Value} {x : V} {g : Heap} {tk : Nat} (I : Inv X pins σ H s) (L : LamN X.env.scope sc p) (hN : X.N[i]? = some p) (nd : X.N.Nodup)
    (e0 : Env0 X.prog X.w X.K X.mg X.base A outer s1 HZ) (hd : A.handled = none) (un : Un (frs X.stack) [] H HZ s.heap s1.heap) (F : NewF sc p u s1.heap.objs.size s1 g) (rx : RelV x u) :
    Inv (lamX X A outer s1 HZ E sc f cd) [] (σ.set i (some x)) HZ { s1 with heap := g, toks := tk } := by
  have hfree := L.has I.ok
  have env_cells : ∀ y, (lamX X A outer s1 HZ E sc f cd).env.cells.lookup y = (cellsFrom (s1.heap.objs.size + 1) sc.names [] ++ cloFrom X.env.cells sc.names []).lookup y := fun y => by
    rw [← PySem.cellsFrom_over]; rfl
  have clo : ∀ {y c}, (cloFrom X.env.cells sc.names []).lookup y = some c → X.env.cells.lookup y = some c := fun {y c} e => by
    rcases cloFrom_mem (PySem.mem_of_lookup e) with z | ⟨h1, h2⟩
    · cases z
    · obtain ⟨d, hd⟩ := hfree (y, .free) h1 rfl
      have hd : X.env.cells.lookup y = some d := hd
      rw [h2]
      rw [hd]; rfl
  have old : ∀ {y c}, (cloFrom X.env.cells sc.names []).lookup y = some c → ∀ v, s.heap.IsCell c v → g.IsCell c v := fun {y c} e v ⟨o, ho, hv⟩ => by
    obtain ⟨sl, q⟩ := un.any ho (I.freeC y c (clo e)) (by simp)
    exact ⟨_, F.old _ _ q, hv⟩
  have olt : ∀ {y c}, (cloFrom X.env.cells sc.names []).lookup y = some c → c < s1.heap.objs.size := fun {y c} e => by
    obtain ⟨v, o, ho, hv⟩ := I.cell y c (clo e)
    obtain ⟨sl, q⟩ := un.any ho (I.freeC y c (clo e)) (by simp)
    exact Heap.lt_size q
  have nlt : ∀ {y c}, (cellsFrom (s1.heap.objs.size + 1) sc.names []).lookup y = some c → s1.heap.objs.size < c := fun e => (F.ces _ _ (PySem.mem_of_lookup e)).1
  have noA : ∀ b : Addr, b ∉ (lamX X A outer s1 HZ E sc f cd).ex := fun b z => nomatch (show b ∈ ([] : List Addr) from z)
  have slotp : ∀ {j : Nat} {y : Str}, X.N[j]? = some y → y = p → j = i := fun {j y} e z => by
    rw [z] at e
    exact (List.getElem?_inj (List.getElem?_eq_some_iff.mp e).1 nd).mp (e.trans hN.symm)
  have hi : i < σ.length := by rw [I.len]; exact (List.getElem?_eq_some_iff.mp hN).1
  obtain ⟨m, hm, hmp⟩ := F.ns
  refine ⟨⟨e0.mod, L.kind, rfl, rfl, Nat.le_refl _, fun y z c h1 h2 => ?_, fun y hy => ?_, fun y c z _ => (nomatch (show false = true from z)), fun _ => hd, Around.frames_deeper e0.frames, .inr ⟨rfl, rfl⟩, fun b z => absurd z (noA b), e0.bs, e0.bsz, fun b _ _ => noA b,
      fun b z => absurd z (noA b), e0.funs, e0.frf⟩,
    rfl, e0.bare, Un.kept F.old, ⟨m, hm, fun j y v h1 h2 h3 => ?_⟩, fun y c h => ?_, e0.hok.fresh (Nat.le_refl _), fun y c h => ?_, fun q hq => (nomatch (show q ∈ ([] : List (Addr × Obj)) from hq)), e0.hok.kept F.old, by rw [List.length_set]; exact I.len⟩
  · rw [env_cells] at h1 h2
    rcases look_app h1 with h1 | h1 <;> rcases look_app h2 with h2 | h2
    · exact name_of_addr F.apart (PySem.mem_of_lookup h1) (PySem.mem_of_lookup h2)
    · exact absurd (nlt h1) (Nat.lt_asymm (olt h2))
    · exact absurd (nlt h2) (Nat.lt_asymm (olt h1))
    · exact I.ok.inj y z c (clo h1) (clo h2)
  · refine mem_lookup_some ?_
    rcases hy with hy | hy
    · exact PySem.W.cellsFrom_some _ _ _ (.inl hy)
    · refine PySem.W.cellsFrom_some _ _ _ (.inr ?_)
      obtain ⟨c, hc⟩ := mem_lookup (cloFrom_has (cells := X.env.cells) (acc := []) (PySem.mem_of_lookup hy))
      exact Option.isSome_iff_exists.mpr ⟨c, hc⟩
  · by_cases z : y = p
    · have ej := slotp h1 z
      subst ej
      rw [List.getElem?_set_self hi] at h2
      cases h2
      subst z
      refine ⟨u, rx, ?_⟩
      rcases L.par with k | k
      · exact .inl ⟨k, hmp k⟩
      · obtain ⟨c, hc, hv⟩ := F.own k
        refine .inr ⟨.inl k, c, ?_, hv⟩
        rw [env_cells, List.lookup_append, hc]; rfl
    · have h1 : X.N[j]? = some y := h1
      have nj : i ≠ j := fun q => z (by rw [← q, hN] at h1; exact (Option.some.inj h1).symm)
      rw [List.getElem?_set_ne nj] at h2
      have h3 : Vis sc y := h3
      have k : sc.names.lookup y = some .free := by
        rcases h3 with k | k | k
        · exact absurd (L.own _ (PySem.mem_of_lookup k) (.inl rfl)) z
        · exact absurd (L.own _ (PySem.mem_of_lookup k) (.inr rfl)) z
        · exact k
      obtain ⟨m', hn, hl⟩ := I.loc
      have kk := L.free _ (PySem.mem_of_lookup k) rfl
      obtain ⟨w, rw', q⟩ := hl j y v h1 h2 (.inr kk)
      obtain ⟨c2, hc2⟩ := mem_lookup (cloFrom_has (cells := X.env.cells) (acc := []) (PySem.mem_of_lookup k))
      have no : (cellsFrom (s1.heap.objs.size + 1) sc.names []).lookup y = none := by
        cases e : (cellsFrom (s1.heap.objs.size + 1) sc.names []).lookup y with
        | none => rfl
        | some c =>
          rcases cellsFrom_cell (PySem.mem_of_lookup e) with q | q
          · cases q
          · exact absurd (L.own _ q (.inr rfl)) z
      refine ⟨w, rw', .inr ⟨.inr k, c2, by rw [env_cells, List.lookup_append, no]; exact hc2, ?_⟩⟩
      rcases q with ⟨k2, _⟩ | ⟨_, c3, e3, hv⟩
      · have k2 : X.env.scope.names.lookup y = some .local := k2
        rcases kk with k3 | k3 <;> rw [show X.env.scope.names.lookup y = _ from k3] at k2 <;> cases k2
      · rw [clo hc2] at e3
        cases e3
        exact old hc2 _ hv
  · rw [env_cells] at h
    rcases look_app h with h | h
    · exact (F.ces _ _ (PySem.mem_of_lookup h)).2
    · obtain ⟨v, hv⟩ := I.cell y c (clo h)
      exact ⟨v, old h v hv⟩
  · rw [env_cells] at h
    rcases look_app h with h | h
    · exact e0.hok.fresh (Nat.le_of_lt (nlt h))
    · obtain ⟨v, o, ho, hv⟩ := I.cell y c (clo h)
      exact un.free c o ho (I.freeC y c (clo h)) (by simp)
end
/-! ### the lambda called, in the def that got it -/
def lamF (ρ : En) (i : Nat) (mb : M D) : FM := fun as h => match as with
  | [u] => (match mb (ρ.set i (some u)) h with
    | some (.ok d h') => some (.rt d h')
    | some (.ex c fs h') => some (.ex c fs h')
    | none => none)
  | _ => none
section
variable [Tbs]
/-- slot j's lambda, called -/
def mAct (j : Nat) (g : FM) (m : M D) : M D := fun ρ h => match ρ[j]? with
  | some (some .lm) => mCall g (mCons m mNil) ρ h
  | _ => none
def ActC (Z : Cx) (W : WX) (a : Str) (j : Nat) (g : FM) : Prop := ∀ (e : Expr) (m : M D) (p1 p2 : Pos), starEach [e] Z.env = (false, eval e Z.env) :: starEach [] Z.env → PE Z e (rd Z W m) → PE Z (.Call (.Name a p1) [e] [] p2) (rd Z W (mAct j g m))
end
/-- the tables and boxes, where a def with a lambda begins -/
abbrev tbsAt (τ : Tbs) (f : Addr) (μ : Mu) (c : Addr) (q : Str) : Tbs := ⟨τ.T, some f, μ, (c, q) :: τ.cod⟩
theorem HR.into {τ τ' : Tbs} {C : Ct} {L : List Nat} {μ : Mu} {H : Hp} {h : Hs} (r : @HR C τ L μ H h) (hT : τ'.T = τ.T) (hb : τ'.base <+: μ) (hc : ∀ p ∈ τ'.cod, H p.1 = some (LamX.CodeO p.1 p.2)) : @HR C τ' L μ H h :=
  @HR.mk C τ' L μ H h (@HR.lk C τ L μ H h r) (@HR.len C τ L μ H h r) ⟨(@HR.nd C τ L μ H h r).1, hb⟩ ⟨hT ▸ (@HR.tb C τ L μ H h r).1, hc⟩ (@HR.ob C τ L μ H h r)
theorem HR.cods {τ : Tbs} {C : Ct} {L : List Nat} {μ : Mu} {H : Hp} {h : Hs} (r : @HR C τ L μ H h) : ∀ p ∈ τ.cod, H p.1 = some (LamX.CodeO p.1 p.2) := r.tb.2
theorem HR.code2 {τ : Tbs} {C : Ct} {L : List Nat} {μ : Mu} {H : Hp} {h : Hs} (r : @HR C τ L μ H h) {c : Addr} {q : Str} (e : H c = some (LamX.CodeO c q)) : c ∉ μ := r.code e
theorem codeRec_H {P : Program} {w : World} {H : Hp} {h : Heap} {c : Addr} {q : Str} (k : HOk P w H h) (e : H c = some (LamX.CodeO c q)) : h.CodeRec (.ref c) q := by
  obtain ⟨⟨oc, vs, t, h1, h2, h3⟩, _, _⟩ := k c _ e
  exact ⟨c, oc, vs, t, rfl, h1, h2, h3⟩
theorem HR.pre {τ : Tbs} {C : Ct} {L : List Nat} {μ : Mu} {H : Hp} {h : Hs} (r : @HR C τ L μ H h) : τ.base <+: μ := r.nd.2
theorem Rel.lamAt {τ : Tbs} {C : Ct} {L : List Nat} {ρ : En} {σ : L2.St} {μ : Mu} {H : Hp} {h : Hs} (r : @Rel τ C L ρ σ μ H h) {j : Nat} (e : ρ[j]? = some (some .lm)) : ∃ a, τ.fn = some a ∧ σ[j]? = some (some (.ref a)) :=
  let ⟨v, e1, a, e2, e3⟩ := r.val j .lm e
  ⟨a, e2, e3 ▸ e1⟩
theorem Rel.heap {τ : Tbs} {C : Ct} {L : List Nat} {ρ : En} {σ : L2.St} {μ : Mu} {H : Hp} {h : Hs} (r : @Rel τ C L ρ σ μ H h) : @HR C τ L μ H h := r.hr
section
variable {X : Cx} {pins : List (Addr × Obj)} {σ : L2.St} {H : Hp} {s : Shared}
theorem mCons1 {m : M D} {ρ : En} {h : Hs} : mCons m mNil ρ h = (match m ρ h with | none => none | some (.ok d h1) => some (.ok [d] h1) | some (.ex c fs h1) => some (.ex c fs h1)) := by
  unfold mCons mBind mNil mPure
  cases m ρ h with
  | none => rfl
  | some o => cases o <;> rfl
/-- the frame of the lambda, from that of the def that made it -/
theorem e_act {τ : Tbs} {Ng : List Str} {qg : Str} {stg : Stmt} {g f cd : Addr} {cdg pm ctv : Value} {params : Arguments} {body : Expr} {sc : Scope} {k i j : Nat} {a p : Str} {E : XK} {mb : M D} {μ : Mu} {h : Hs} {L : List Nat} {ρ : En}
    (I : Inv X pins σ H s) (r0 : @Rel τ (ctX X) L ρ σ μ H h) (S : LamN X.env.scope sc p) (hN : X.N[i]? = some p) (nd : X.N.Nodup)
    (hf : s.heap.get? f = some (PySem.W.kla_obj "<lambda>" (X.env.qual ++ "<lambda>") params body sc (cloFrom X.env.cells sc.names []) pm cd ctv)) (hfn : H f = none) (hfr : f ∉ frs X.stack)
    (hbind : ∀ u : Value, bindArgs (PySem.W.kla_fn "<lambda>" (X.env.qual ++ "<lambda>") params body sc (cloFrom X.env.cells sc.names []) pm (.ref cd) ctv) ⟨[u], []⟩ = pure [(p, u)])
    (hr : Room (k + 1) (X.A.deeper (envOfC qg (defScope stg) s.heap.objs.size g cdg)))
    (hbody : ∀ (A : Around) (outer : List PySem.Env) (s : Shared) (H : Hp) (E : XK), Room k (A.deeper (lamE X sc s.heap.objs.size f cd)) → PE (lamX X A outer s H E sc f cd) body (@rd τ (lamX X A outer s H E sc f cd) (fun cls d _ H => E cls d H) mb))
    (hNg : Ng[j]? = some a) (hv : Vis (defScope stg) a) (hd : (a == ("__debug__" : Str)) = false) (hcd : (a == ("__classdict__" : Str)) = false) :
    @ActC (tbsAt τ f μ cd (X.env.qual ++ "<lambda>")) (cxD X.prog X.w X.K X.mg X.base Ng qg stg g cdg X.A X.stack s H E) (wD E) a j (lamF ρ i mb) := by
  intro e m p1 p2 he ha
  refine ⟨fun pinsZ sZ σZ HZ Q IZ q => ?_⟩
  obtain ⟨ρZ, LZ, μZ, hZ, relZ, q⟩ := q
  unfold mAct at q
  split at q
  · rename_i eρ
    obtain ⟨af, ef, hs⟩ := Rel.lamAt relZ eρ
    cases (show some f = some af from ef)
    refine wpAny_Call_Name_kw (thn ((pe_var (pos := p1) (i := j) hNg hv hd hcd).run pinsZ sZ σZ HZ (fun v H1 => v = .ref f ∧ H1 = HZ) IZ ⟨.ref f, hs, rfl, rfl⟩) fun u s1 ⟨v, H1, I1, r1, q1⟩ => ?_)
    obtain ⟨ev, eH⟩ := q1
    subst ev
    subst eH
    obtain rfl : u = Value.ref f := r1
    have at_f : ∀ {s' : Shared} {σ' : L2.St} {H' : Hp}, Inv (cxD X.prog X.w X.K X.mg X.base Ng qg stg g cdg X.A X.stack s H E) pinsZ σ' H' s' → s'.heap.get? f = some (PySem.W.kla_obj "<lambda>" (X.env.qual ++ "<lambda>") params body sc (cloFrom X.env.cells sc.names []) pm cd ctv) :=
      fun J => J.base.keep f _ hf hfn hfr (fun z => nomatch (show f ∈ ([] : List Addr) from z))
    have q' : @rdA (tbsAt τ f μ cd (X.env.qual ++ "<lambda>")) (cxD X.prog X.w X.K X.mg X.base Ng qg stg g cdg X.A X.stack s H E) (wD E) (mCons m mNil) σZ H1 (fun vs H2 => ∃ (x : V) (d : D) (Lx : List Nat) (μ2 : Mu) (h2 : Hs), vs = [x] ∧ RepV (ctX X) μ2 H2 d x ∧ @HR (ctX X) (tbsAt τ f μ cd (X.env.qual ++ "<lambda>")) Lx μ2 H2 h2 ∧
        @Sat (tbsAt τ f μ cd (X.env.qual ++ "<lambda>")) (cxD X.prog X.w X.K X.mg X.base Ng qg stg g cdg X.A X.stack s H E) (wD E) D Lx σZ μ2 H2 (match lamF ρ i mb [d] h2 with | none => none | some (.rt d h') => some (R.ok d h') | some (.ex c fs h') => some (R.ex c fs h')) fun d _ μ' H' => ∀ y, RepV (ctX X) μ' H' d y → Q y H') := by
      refine ⟨ρZ, LZ, μZ, hZ, relZ, ?_⟩
      have q2 := @Sat.bind (tbsAt τ f μ cd (X.env.qual ++ "<lambda>")) _ _ _ _ _ _ _ _ _ _ _ _ _ relZ q
      rw [mCons1] at q2 ⊢
      cases em : m ρZ hZ with
      | none => rw [em] at q2; exact False.elim q2
      | some o =>
        rw [em] at q2
        cases o with
        | ex c fs h1 => exact q2
        | ok d h1 =>
          intro μ1 H2 g1 hr1 vs rs
          obtain ⟨_, rel1, q3⟩ := q2 μ1 H2 g1 hr1
          obtain ⟨x, rfl, rx⟩ := rs.one
          exact ⟨x, d, LZ, μ1, h1, rfl, rx, hr1, q3⟩
    refine PySem.W.callWith_F (first := []) ⟨_, _, _, _, at_f I1⟩ (thn ((@a_cons (tbsAt τ f μ cd (X.env.qual ++ "<lambda>")) _ _ _ _ _ _ ha (@a_nil (tbsAt τ f μ cd (X.env.qual ++ "<lambda>")) _ _) he).run p2 pinsZ s1 σZ H1 _ I1 q') fun us s2 ⟨vs, H2, I2, r2, x, d, Lx, μ2, h2, ev, rx, hr2, q3⟩ => ⟨⟨_, _, _, _, at_f I2⟩, ?_⟩) he (by rfl)
    subst ev
    obtain ⟨u, rfl, ru⟩ : ∃ u, us = [u] ∧ RelV x u := by
      cases r2 with
      | cons h1 h2 => cases h2; exact ⟨_, rfl, h1⟩
    have un : Un (frs X.stack) [] H H2 s.heap s2.heap := I2.base
    have st : Stay μ H μ2 H2 := ⟨fun n b e => by
        obtain ⟨r, er⟩ := (show μ <+: μ2 from HR.pre hr2)
        rw [← er]
        exact (List.getElem?_append_left (List.getElem?_eq_some_iff.mp e).1).trans e, fun b xs e => un.tups b xs e, fun b o v e => un.frzs b o v e⟩
    have rel : @Rel τ (ctX X) Lx (ρ.set i (some d)) (σ.set i (some x)) μ2 H2 h2 := (show @Rel τ (ctX X) Lx ρ σ μ2 H2 h2 from ⟨r0.len, fun n e en => let ⟨v, a1, b1⟩ := r0.val n e en; ⟨v, a1, b1.stay st⟩, HR.into hr2 rfl (r0.hr.nd.2.trans (show μ <+: μ2 from HR.pre hr2)) fun p hp => HR.cods hr2 p (List.mem_cons_of_mem _ hp)⟩).set rx
    have back : ∀ {μ' : Mu} {H' : Hp} {h' : Hs}, Go Lx μ2 H2 μ' H' → @HR (ctX X) τ Lx μ' H' h' → @HR (ctX X) (tbsAt τ f μ cd (X.env.qual ++ "<lambda>")) Lx μ' H' h' := fun g r => HR.into r rfl ((show μ <+: μ2 from HR.pre hr2).trans (by obtain ⟨r, e⟩ := g.ext; exact ⟨r, e.symm⟩)) fun p hp => g.keep _ _ (HR.cods hr2 p hp) (fun ps z => LamX.codeO_ne ps z) (HR.code2 hr2 (HR.cods hr2 p hp))
    have rc : codeAny (model X.prog X.w) (X.A.deeper (envOfC qg (defScope stg) s.heap.objs.size g cdg)) (.call (.ref f) ⟨[u], []⟩) (CR (L2.CX X.prog X.w) (envOfC qg (defScope stg) s.heap.objs.size g cdg :: X.stack) X.prog X.w H2 s2 Q E) s2 := by
      refine PySem.W.kla_callFunE hr.depth (at_f I2) rfl S.co S.gen rfl (codeRec_H I2.hok (HR.cods hr2 (cd, X.env.qual ++ "<lambda>") List.mem_cons_self)) ?_
      rw [hbind]
      refine wpAny_pure (frame_one S.kind S.par fun g' tk F => ⟨I2.nolimit.keeps F.old, ?_⟩)
      show codeAny _ _ (.expr body (lamE X sc s2.heap.objs.size f cd)) _ _
      have J := lam_begin (f := f) (cd := cd) (tk := tk) (E := E) I S hN nd I2.env0 hr.hd un F ru
      refine PySem.W.kla_codeExpr (wpAny_mono ((hbody _ _ s2 H2 E (hr.deeper _)).run [] _ _ H2 Q J ⟨_, Lx, μ2, h2, rel, ?_⟩) (fun v s' hq => ?_) fun e s' hq => hq)
      · unfold lamF at q3
        cases em : mb (ρ.set i (some d)) h2 with
        | none => simp only [em] at q3; exact q3.elim
        | some o =>
          cases o with
          | ok d' h' => simp only [em] at q3; exact fun μ' H' g r y ry => q3 μ' H' g (back g r) y ry
          | ex c fs h' => simp only [em] at q3; exact fun cls dd μ' H' g r rx => q3 cls dd μ' H' g (back g r) rx
      · obtain ⟨w', H', J', rv, hQ⟩ := hq
        exact ⟨w', H', J'.os, J'.bare, J'.base, J'.hok, rv, hQ⟩
    refine wpAny_call (codeAny_mono rc fun r s' hq => ?_)
    cases r with
    | error e => exact tkD e s' (XE.of_call I2 (fun _ _ _ h => h) hq)
    | ok fl =>
      cases fl with
      | ret u => exact I2.after hq
      | next => exact False.elim hq
      | brk => exact False.elim hq
      | cont => exact False.elim hq
  · exact False.elim q
end
end Rh

set_option Elab.async false
set_option linter.all false
set_option maxRecDepth 100000
set_option maxHeartbeats 2000000
set_option autoImplicit false
namespace Rh
open PySem PySem.Spec PyProof.Rows L2
/-! ### a lambda handed to a def -/
def mLam (ff : FM → FM) (i : Nat) (mb ma mn : M D) : M D := mBind ma fun x => mBind mn fun y => fun ρ h => match ff (lamF ρ i mb) [x, .lm, y] h with
  | none => none
  | some (.rt d h') => some (.ok d h')
  | some (.ex c fs h') => some (.ex c fs h')
section
variable {C : Ct} {L : List Nat} {μ : Mu} {H H' : Hp} {h : Hs}
theorem HR.extN [Tbs] (r : HR C L μ H h) (e : LamX.ExtN H H') (t : LamX.Tabs Tbs.T H') : HR C L μ H' h ∧ Go L μ H μ H' := by
  have st : Stay μ H μ H' := ⟨fun _ _ z => z, fun a xs z => e a _ z (fun _ q => nomatch q), fun a o u z => e a _ z (fun _ q => nomatch q)⟩
  have at_ : ∀ {i : Nat} {a : Addr}, μ[i]? = some a → H' a = H a := fun {i a} ea => by
    obtain ⟨u, e1, m⟩ := r.mut (List.mem_of_getElem? ea)
    rw [e1, e a u e1 (Mut.noT m)]
  refine ⟨⟨r.lk, r.len, r.nd, ⟨t, fun p hp => e _ _ (r.tb.2 p hp) (fun ps z => LamX.codeO_ne ps z)⟩, fun i a ea => ?_⟩, fun i _ a ea => at_ ea, fun a o z nt _ => e a o z nt, fun a n u z => ?_, ⟨[], (List.append_nil _).symm⟩, fun _ m => .inl m⟩
  · obtain ⟨o, e1, q⟩ := r.ob i a ea
    exact ⟨o, e1, q.stay st (at_ ea)⟩
  · by_cases k : ∃ ps, u = .tbl ps
    · exact k
    · exact n u (e a u z fun ps q => k ⟨ps, q⟩)
theorem RepV.slot {τ : Tbs} {d : D} {v : V} (q : RepV C μ H d v) : @RepS τ C μ H d v := q.s
/-- the frame of a def that got a lambda -/
theorem env_relS {τ : Tbs} {N : List Str} {as : List D} {vs : List V} (hl : vs.length = as.length) (hv : ∀ (i : Nat) (d : D), as[i]? = some d → ∃ v, vs[i]? = some v ∧ @RepS τ C μ H d v) (hr : @HR C τ L μ H h) (hN : vs.length ≤ N.length) : @Rel τ C L (envOf N.length as) (start N vs) μ H h := by
  refine ⟨?_, fun i d e => ?_, hr⟩
  · unfold envOf L2.start
    rw [List.length_append, List.length_append, List.length_map, List.length_map, List.length_replicate, List.length_replicate]
    omega
  · unfold envOf at e
    by_cases hi : i < as.length
    · rw [List.getElem?_append_left (by simpa using hi), List.getElem?_map] at e
      obtain ⟨d', e1, e2⟩ := Option.map_eq_some_iff.mp e
      cases e2
      obtain ⟨v, e3, rv⟩ := hv i d e1
      refine ⟨v, ?_, rv⟩
      unfold L2.start
      rw [List.getElem?_append_left (by rw [List.length_map]; omega), List.getElem?_map, e3]
      rfl
    · rw [List.getElem?_append_right (by simpa using Nat.le_of_not_lt hi), List.getElem?_replicate] at e
      split at e <;> cases e
end
section
variable {X : Cx}
theorem frs_cons {e : PySem.Env} {l : List PySem.Env} {b : Addr} (h : b ∈ frs l) : b ∈ frs (e :: l) := by
  unfold frs at h ⊢
  simp only [List.filterMap_cons]
  split
  · exact h
  · exact List.mem_cons_of_mem _ h
theorem lam_pin {pins : List (Addr × Obj)} {σ : L2.St} {H : Hp} {s : Shared} {f : Addr} {o : Obj} {fd : FuncData} (I : Inv X pins σ H s) (hf : s.heap.get? f = some o) (hd : o.data = .func fd) (hn : H f = none) (hfr : f ∉ frs X.stack) : Inv X ((f, o) :: pins) σ H s := by
  refine I.pins_of fun p hp => ?_
  rcases List.mem_cons.mp hp with e | hp
  · subst e
    refine ⟨hf, hn, fun z => ?_, fun z => ?_, fun v z => ?_⟩
    · obtain ⟨m, ⟨ob, es, ep, h1, h2, _⟩, _⟩ := I.loc
      rw [← z, hf] at h1
      cases h1
      rw [hd] at h2
      cases h2
    · rcases I.ok.stk with k | ⟨k, _⟩
      · exact hfr (by rw [k]; exact z)
      · exact hfr (by rw [k]; exact frs_cons z)
    · rw [show o.data = _ from hd] at z
      cases z
  · exact I.pin p (List.mem_append_right _ hp)
theorem e_lam [τ : Tbs] {W : WX} {ff : FM → FM} {mfw : FM → MS} {Ng pas : List Str} {x a n1 n2 p : Str} {stg : Stmt} {g c P : Addr} {fd : FuncData} {k i : Nat} {params : Arguments} {body ea en : Expr} {sc : Scope} {lpos p0 pos : Pos} {mb ma mn : M D}
    (hff : ∀ gm, ff gm = runDef Ng.length (mfw gm)) (tk : Takes X W) (hg : Gl X x) (hm : X.mg x = some (.ref g)) (hk : PySem.W.keepIn X.K (.ref g) = true) (F : Fun X.K x x stg g fd) (hb : L2.Binds X.K fd pas []) (hpa : pas = [n1, a, n2]) (Sg : FnScope Ng pas (defScope stg)) (hNl : 3 ≤ Ng.length) (hNg : Ng[1]? = some a) (hva : Vis (defScope stg) a)
    (hG : ∀ (τ' : Tbs) (cdv : Value) (A : Around) (outer : List PySem.Env) (s : Shared) (H : Hp) (E : XK) (gm : FM), @ActC τ' (cxD X.prog X.w X.K X.mg X.base Ng x stg g cdv A outer s H E) (wD E) a 1 gm → Room (k + 1) (A.deeper (envOfC x (defScope stg) s.heap.objs.size g cdv)) →
      PSs (cxD X.prog X.w X.K X.mg X.base Ng x stg g cdv A outer s H E) (defBody stg) (@rdS τ' (cxD X.prog X.w X.K X.mg X.base Ng x stg g cdv A outer s H E) (wD E) (mfw gm)))
    (TB : LamX.TabB X.base X.mg c P) (hcode : X.env.code = .ref c) (hmT : (P, X.env.qual ++ "<lambda>") ∈ Tbs.T) (hu : ∀ p ∈ Tbs.T, p.1 = P → p.2 = X.env.qual ++ "<lambda>") (hr : Room (k + 2) X.A) (S : LamN X.env.scope sc p) (hN : X.N[i]? = some p) (nd : X.N.Nodup) (hdef : defaultsOf params X.env = ([], []))
    (hbind : ∀ (q : Str) (cl : List (Str × Addr)) (pm cv ctv u : Value), bindArgs (PySem.W.kla_fn "<lambda>" q params body sc cl pm cv ctv) ⟨[u], []⟩ = pure [(p, u)])
    (hbody : ∀ (A : Around) (outer : List PySem.Env) (s : Shared) (H : Hp) (E : XK) (f cd : Addr), Room k (A.deeper (lamE X sc s.heap.objs.size f cd)) → PE (lamX X A outer s H E sc f cd) body (rd (lamX X A outer s H E sc f cd) (fun cls d _ H => E cls d H) mb))
    (ha : PE X ea (rd X W ma)) (hn : PE X en (rd X W mn))
    (hst : starEach [ea, .Lambda params body sc lpos, en] X.env = [(false, eval ea X.env), (false, eval (.Lambda params body sc lpos) X.env), (false, eval en X.env)] := by rfl) (he : starEach [ea, .Lambda params body sc lpos, en] X.env = (false, eval ea X.env) :: starEach [.Lambda params body sc lpos, en] X.env := by rfl)
    (hpl : (backTo pos (starEach [.Lambda params body sc lpos, en] X.env)).any (·.1) = false := by rfl) (hdb : (x == ("__debug__" : Str)) = false := by decide) (hd : (a == ("__debug__" : Str)) = false := by decide) (hcd : (a == ("__classdict__" : Str)) = false := by decide) :
    PE X (.Call (.Name x p0) [ea, .Lambda params body sc lpos, en] [] pos) (rd X W (mLam ff i mb ma mn)) := by
  refine ⟨fun pins s σ H Q I q => ?_⟩
  obtain ⟨ρ, L, μ, h, rel, q⟩ := q
  refine wpAny_Call_Name_kw (ld_glob I hg hm ?_ hdb)
  refine PySem.W.callWith_K (h₀ := X.base) I.ok.mod.kin hk ?_ he hpl
  rw [hst]
  show wpAny _ _ (spliced ((false, eval ea X.env) :: (false, eval (.Lambda params body sc lpos) X.env) :: (false, eval en X.env) :: [])) _ _ s
  have qa : rd X W ma σ H fun x1 H1 => ∃ d1 μ1 h1, Rel (ctX X) L ρ σ μ1 H1 h1 ∧ RepV (ctX X) μ1 H1 d1 x1 ∧ Sat X W L σ μ1 H1 (mBind mn (fun y => fun ρ h => match ff (lamF ρ i mb) [d1, .lm, y] h with | none => none | some (.rt d h') => some (R.ok d h') | some (.ex c fs h') => some (R.ex c fs h')) ρ h1) fun d _ μ' H' => ∀ y, RepV (ctX X) μ' H' d y → Q y H' :=
    ⟨ρ, L, μ, h, rel, (q.bind rel).imp fun d1 h1 μ1 H1 _ _ ⟨_, rel1, q1⟩ x1 rx1 => ⟨d1, μ1, h1, rel1, rx1, q1⟩⟩
  refine Calls.spliced_cons (thn (ha.run pins s σ H _ I qa) fun u1 s1 ⟨x1, H1, I1, r1, d1, μ1, h1, rel1, rx1, q1⟩ => ?_)
  refine Calls.spliced_cons (LamX.lam_make2 I1 TB hcode hmT hu rel1.hr.tb.1 hdef (S.has I1.ok) fun f cd pm ctv H2 s2 I2 eN T2 hf hfn hfr hco => ?_)
  obtain ⟨hr2, g2⟩ := rel1.hr.extN eN T2
  have rel2 : Rel (ctX X) L ρ σ μ1 H2 h1 := rel1.go g2 hr2
  have I2p := lam_pin I2 hf rfl hfn hfr
  have qn : rd X W mn σ H2 fun x3 H3 => ∃ d3 μ3 h3, Go L μ1 H2 μ3 H3 ∧ Rel (ctX X) L ρ σ μ3 H3 h3 ∧ RepV (ctX X) μ3 H3 d3 x3 ∧ Sat X W L σ μ3 H3 (match ff (lamF ρ i mb) [d1, .lm, d3] h3 with | none => none | some (.rt d h') => some (R.ok d h') | some (.ex c fs h') => some (R.ex c fs h')) fun d _ μ' H' => ∀ y, RepV (ctX X) μ' H' d y → Q y H' :=
    ⟨ρ, L, μ1, h1, rel2, ((q1.start g2).bind rel2).imp fun d3 h3 μ3 H3 g3 _ ⟨_, rel3, q3⟩ x3 rx3 => ⟨d3, μ3, h3, g3, rel3, rx3, q3⟩⟩
  refine Calls.spliced_cons (thn (hn.run _ s2 σ H2 _ I2p qn) fun u3 s3 ⟨x3, H3, I3, r3, d3, μ3, h3, g3, rel3, rx3, q3⟩ => ?_)
  refine Calls.spliced_nil ⟨I3.kIn, ?_⟩
  obtain ⟨hf3, hfn3, _, _, _⟩ := I3.pin (f, _) (List.mem_append_right _ List.mem_cons_self)
  have I3' : Inv X pins σ H3 s3 := I3.pins_of fun p hp => I3.pin p (List.mem_append_right _ (List.mem_cons_of_mem _ hp))
  have hco3 : H3 cd = some (LamX.CodeO cd (X.env.qual ++ "<lambda>")) := g3.keep _ _ hco (fun ps z => LamX.codeO_ne ps z) (hr2.code hco)
  have rx13 : RepV (ctX X) μ3 H3 d1 x1 := (rx1.go rel1.hr g2).go hr2 g3
  have hr3' : @HR (ctX X) (tbsAt τ f μ3 cd (X.env.qual ++ "<lambda>")) L μ3 H3 h3 := HR.into rel3.hr rfl (List.prefix_refl _) fun p hp => by
    rcases List.mem_cons.mp hp with e | hp
    · subst e; exact hco3
    · exact rel3.hr.tb.2 p hp
  have rc : codeAny (model X.prog X.w) X.A (.call (.ref g) ⟨[u1, .ref f, u3], []⟩) (CR (L2.CX X.prog X.w) X.stack X.prog X.w H3 s3 Q (fun cls d H' => W cls d σ H')) s3 := by
    obtain ⟨oc, od, kV, doc, pm', an, cdv, ct, osl, rfl, lk, hcdv⟩ := F.ex
    subst hpa
    refine LamX.run_ofS (N := Ng) (ps := [n1, a, n2]) (us := [u1, .ref f, u3]) (vs := [x1, .ref f, x3]) lk hcdv Sg hr I3.env0 (hb s3 [u1, .ref f, u3] I3.kIn rfl) (.cons r1 (.cons rfl (.cons r3 .nil))) rfl fun hr' => ?_
    refine ⟨_, hG (tbsAt τ f μ3 cd (X.env.qual ++ "<lambda>")) cdv X.A X.stack s3 H3 _ (lamF ρ i mb) (e_act I3' rel3 S hN nd hf3 hfn3 hfr (hbind _ _ _ _ _) hr' (fun A outer s H E hr2 => hbody A outer s H E f cd hr2) hNg hva hd hcd) hr', ?_⟩
    refine ⟨envOf Ng.length [d1, .lm, d3], L, μ3, h3, env_relS rfl (fun j d ej => ?_) hr3' hNl, ?_⟩
    · match j, ej with
      | 0, ej => cases ej; exact ⟨_, rfl, RepV.slot rx13⟩
      | 1, ej => cases ej; exact ⟨_, rfl, f, rfl, rfl⟩
      | 2, ej => cases ej; exact ⟨_, rfl, RepV.slot rx3⟩
      | j + 3, ej => cases ej
    · rw [hff] at q3
      unfold runDef at q3
      have back : ∀ {μ' : Mu} {H' : Hp} {h' : Hs}, @HR (ctX X) (tbsAt τ f μ3 cd (X.env.qual ++ "<lambda>")) L μ' H' h' → HR (ctX X) L μ' H' h' := fun r => HR.into r rfl (rel3.hr.nd.2.trans (show μ3 <+: _ from HR.pre r)) fun p hp => HR.cods r p (List.mem_cons_of_mem _ hp)
      cases e : mfw (lamF ρ i mb) (envOf Ng.length [d1, .lm, d3]) h3 with
      | none => simp only [e] at q3; exact False.elim q3
      | some o =>
        cases o with
        | nx ρ' h' => simp only [e] at q3; exact fun σ' μ' H' g r => q3 μ' H' g (back (Rel.heap r)) .non rfl
        | rt n h' => simp only [e] at q3; exact fun μ' H' y g r ry => q3 μ' H' g (back r) y ry
        | ex c fs ρ' h' => simp only [e] at q3; exact fun cls d σ' μ' H' g r rx => q3 cls d μ' H' g (back (Rel.heap r)) rx
        | bk _ _ => simp only [e] at q3; exact False.elim q3
        | ct _ _ => simp only [e] at q3; exact False.elim q3
  refine wpAny_call (codeAny_mono rc fun r s' hq => ?_)
  cases r with
  | error e => exact tk e s' (XE.of_call I3' (fun _ _ _ h => h) hq)
  | ok fl =>
    cases fl with
    | ret u => exact I3'.after hq
    | next => exact False.elim hq
    | brk => exact False.elim hq
    | cont => exact False.elim hq
end
/-! ### a def that makes lambdas: its code object is known -/
theorem fn_okC [Tbs] {P : Program} {w : World} {K : PySem.W.Frag} {mg : Str → Option Value} {base : Heap} {x qual : Str} {st : Stmt} {f c : Addr} {fd : FuncData} {N ps : List Str} {k np : Nat} {mb : MS} (F : Fun K x qual st f fd) (hc : fd.code = .ref c) (S : FnScope N ps (defScope st)) (hp : ps.length = np) (hN : np ≤ N.length)
    (hbody : ∀ (A : Around) (outer : List PySem.Env) (s : Shared) (H : Hp) (E : XK), Room k (A.deeper (envOfC qual (defScope st) s.heap.objs.size f (.ref c))) →
      PSs (cxD P w K mg base N qual st f (.ref c) A outer s H E) (defBody st) (rdS (cxD P w K mg base N qual st f (.ref c) A outer s H E) (wD E) mb)) :
    FnOk P w K mg base (L2.CX P w) (k + 1) f fd ps (spF ⟨w, K, mg⟩ np (runDef N.length mb)) := by
  obtain ⟨oc, od, kV, doc, pm, an, cdv, ct, osl, rfl, lk, hcd⟩ := F.ex
  have hc : cdv = .ref c := hc
  subst hc
  refine fn_of lk hcd S (fun vs H Q E ⟨L, μ, h, as, hv, _⟩ => hv.trans hp.symm) fun A outer s H vs Q E hr ⟨L, μ, h, as, hv, rl, r, q⟩ => ⟨_, hbody A outer s H E hr, _, L, μ, h, env_rel rl r (by omega), ?_⟩
  unfold runDef at q
  cases e : mb (envOf N.length as) h with
  | none => simp only [e] at q
  | some o =>
    cases o with
    | nx ρ h' => simp only [e] at q; exact fun σ' μ' H' g r => q .non μ' H' g r.hr rfl
    | rt n ρ => simp only [e] at q; exact fun μ' H' x g r rr => q x μ' H' g r rr
    | ex c fs ρ h' => simp only [e] at q; exact fun cls d σ' μ' H' g r rx => q cls d μ' H' g r.hr rx
    | bk ρ => simp only [e] at q
    | ct ρ => simp only [e] at q
/-- a lambda's full name, from that of the def that makes it -/
def lamQ (x : Str) : Str := (x ++ ".<locals>.") ++ "<lambda>"
def lamNB (sc inner : Scope) (p : Str) : Bool :=
  decide (inner.kind = .function) && (!inner.isCoroutine && (!inner.isGenerator && ((decide (inner.names.lookup p = some .local) || decide (inner.names.lookup p = some .cell)) &&
    inner.names.all fun y => (!(decide (y.2 = .local) || decide (y.2 = .cell)) || decide (y.1 = p)) && (!decide (y.2 = .free) || (decide (sc.names.lookup y.1 = some .cell) || decide (sc.names.lookup y.1 = some .free))))))
theorem lamN_by {sc inner : Scope} {p : Str} (h : lamNB sc inner p = true) : LamN sc inner p := by
  unfold lamNB at h
  simp only [Bool.and_eq_true, Bool.or_eq_true, Bool.not_eq_true', decide_eq_true_eq, decide_eq_false_iff_not, List.all_eq_true, Bool.or_eq_false_iff] at h
  obtain ⟨h1, h2, h3, h4, h5⟩ := h
  refine ⟨h1, h2, h3, fun y hy e => ?_, h4, fun y hy e => ?_⟩
  · rcases (h5 y hy).1 with z | z
    · rcases e with e | e
      · exact absurd e z.1
      · exact absurd e z.2
    · exact z
  · rcases (h5 y hy).2 with z | z
    · exact absurd e z
    · exact z
/-- a target that writes a slot twice -/
theorem g_dup [Tbs] {X : Cx} {e : Expr} {t : TM} {vs us : List Nat} (h : PG X e (rdTg X t vs)) (hs : ∀ i ∈ vs, i ∈ us) : PG X e (rdTg X t us) :=
  pg_imp h fun _ _ _ _ ⟨d, ρ, L, μ, h, ρ', h', rel, rv, e, k⟩ => ⟨d, ρ, L, μ, h, ρ', h', rel, rv, e, fun σ' μ' H' g r b => k σ' μ' H' g r ⟨b.1, fun i hi => b.2 i fun m => hi (hs i m)⟩⟩
end Rh

set_option Elab.async false
set_option linter.all false
set_option maxRecDepth 100000
set_option maxHeartbeats 2000000
set_option autoImplicit false
namespace Rh
open PySem PySem.Spec PyProof.Rows L2
variable [Tbs]
/-! ### d == e of dicts with plain keys -/
def dHits : List (NestedKey × PyData) → List NestedKey → List PyData → Bool
  | [], _, _ => true
  | (k, p) :: r, ks, qs => match idxK ks k with
    | none => false
    | some i => match qs[i]? with
      | some q => PyData.eqv p q && dHits r ks qs
      | none => false
def rEqDct (C : Ct) (neg : Bool) : R2 := fun x y H Q => ∃ (μ : Mu) (a b : Addr) (n1 n2 : List NestedKey) (k1 v1 k2 v2 : List D) (ps qs : List PyData), x = .ref a ∧ y = .ref b ∧ ObR C μ H a (.dct n1 k1 v1) ∧ ObR C μ H b (.dct n2 k2 v2) ∧ n1.all leafK = true ∧ n2.all leafK = true ∧
  (∀ vs, RepL C μ H v1 vs → DpAll C.K H vs ps) ∧ (∀ vs, RepL C μ H v2 vs → DpAll C.K H vs qs) ∧ ps.all SeqAt.shaped = true ∧ qs.all SeqAt.shaped = true ∧
  Q (.bl (if neg = true then !(n1.length == n2.length && dHits (n1.zip ps) n2 qs) else (n1.length == n2.length && dHits (n1.zip ps) n2 qs))) H
section
variable {X : Cx} {pins : List (Addr × Obj)} {σ : L2.St} {H : Hp} {s : Shared} {μ : Mu}
theorem kl_of (I : L2.Inv X pins σ H s) {nks : List NestedKey} {ks : List D} {es : List (NestedKey × V × V)} {rs : List Ent} (hn : es.map (·.1) = nks) (hk : keysD ks = some nks) (rk : RepL (ctX X) μ H ks (es.map (·.2.1))) (p : Paired EntR es rs) (l : nks.all leafK = true) : KL rs := by
  subst hn
  have vs : Vals (es.map (·.2.1)) (rs.map (·.2.1)) := by
    clear hk rk l
    induction p with
    | nil => exact .nil
    | cons h _ ih => exact .cons h.2.1 ih
  have n2 := nesteds_of I ks _ _ _ rk hk vs
  rw [← paired_keys p] at n2 l
  clear vs rk hk p
  induction rs with
  | nil => exact fun _ h => nomatch h
  | cons r rs ih =>
    cases n2 with
    | cons q1 q2 =>
      rw [List.map_cons, List.all_cons, Bool.and_eq_true] at l
      intro r' hr
      rcases List.mem_cons.mp hr with rfl | hr
      · exact leaf_of q1 l.1
      · exact ih l.2 q2 r' hr
theorem vals_at {es : List (NestedKey × V × V)} {rs : List Ent} (p : Paired EntR es rs) : Vals (es.map (·.2.2)) (rs.map (·.2.2)) := by
  induction p with
  | nil => exact .nil
  | cons h _ ih => exact .cons h.2.2 ih
/-- the values, as data -/
theorem reads_each (I : L2.Inv X pins σ H s) : ∀ {vs : List V} {us : List Value} {ps : List PyData}, DpAll X.K H vs ps → Vals vs us → ∀ (i : Nat) (p : PyData), ps[i]? = some p → ∃ u as, us[i]? = some u ∧ Reads s.heap u p as
  | _, _, _, .nil, _, i, p, e => by simp at e
  | _, _, _, .cons h hs, .cons r rs, 0, p, e => by
    simp at e
    subst e
    obtain ⟨as, q⟩ := Dp.reads I _ _ _ h r
    exact ⟨_, as, rfl, q⟩
  | _, _, _, .cons h hs, .cons r rs, i + 1, p, e => by
    obtain ⟨u, as, a, b⟩ := reads_each I hs rs i p (by simpa using e)
    exact ⟨u, as, by simpa using a, b⟩
theorem dpAll_len {K : PySem.W.Frag} {H : Hp} : ∀ {vs : List V} {ps : List PyData}, DpAll K H vs ps → ps.length = vs.length
  | _, _, .nil => rfl
  | _, _, .cons _ h => by rw [List.length_cons, List.length_cons, dpAll_len h]
theorem hits_of {A : Around} {r2 : List Ent} {qs : List PyData} (l2 : KL r2) (hu : A.in1.units + 64 < cLine) (hq : ∀ (i : Nat) (q : PyData), qs[i]? = some q → ∃ u as, (r2.map (·.2.2))[i]? = some u ∧ Reads s.heap u q as) (ql : qs.length = r2.length) (sq : qs.all SeqAt.shaped = true) :
    ∀ (r1 : List Ent) (ps : List PyData), KL r1 → ps.length = r1.length → ps.all SeqAt.shaped = true → (∀ (i : Nat) (p : PyData), ps[i]? = some p → ∃ u as, (r1.map (·.2.2))[i]? = some u ∧ Reads s.heap u p as) →
      PySem.W.KeqHits A.in1 s (r2.map lv) (r1.map lv) (dHits ((r1.map (·.1)).zip ps) (r2.map (·.1)) qs)
  | [], _, _, _, _, _ => .nil
  | r :: r1, [], _, e, _, _ => by simp at e
  | r :: r1, p :: ps, l1, e, sp, hp => by
    rw [List.all_cons, Bool.and_eq_true] at sp
    obtain ⟨kr, vr⟩ := key_toLeaf l1 List.mem_cons_self
    have at_ : valueAt (r2.map lv) (toLeaf r.1) = getR r2 r.1 := by rw [at_lv l2, kr]
    have rest := hits_of l2 hu hq ql sq r1 ps (fun x hx => l1 x (List.mem_cons_of_mem _ hx)) (by simpa using e) sp.2 fun i q hi => by
      obtain ⟨u, as, a, b⟩ := hp (i + 1) q (by simpa using hi)
      exact ⟨u, as, by simpa using a, b⟩
    show PySem.W.KeqHits A.in1 s (r2.map lv) ((toLeaf r.1, r.2.2) :: r1.map lv) (dHits ((r.1, p) :: (r1.map (·.1)).zip ps) (r2.map (·.1)) qs)
    unfold dHits
    cases ei : idxK (r2.map (·.1)) r.1 with
    | none =>
      refine .miss ?_
      rw [at_]
      unfold getR
      rw [ei]; rfl
    | some i =>
      have hi : i < r2.length := by
        have h : List.findIdx? (fun x => decide (x = r.1)) (r2.map (·.1)) = some i := ei
        obtain ⟨h, _⟩ := List.findIdx?_eq_some_iff_getElem.mp h
        simpa using h
      obtain ⟨q, hq'⟩ : ∃ q, qs[i]? = some q := ⟨qs[i]'(by omega), List.getElem?_eq_getElem _⟩
      obtain ⟨y, as, ey, ry⟩ := hq i q hq'
      obtain ⟨v, bs, ev, rv⟩ := hp 0 p rfl
      have ev : v = r.2.2 := by simpa using ev.symm
      subst ev
      simp only [hq']
      refine .hit (y := y) ?_ (PySem.W.keq_at rv ry sp.1 (List.all_eq_true.mp sq q (List.mem_of_getElem? hq')) hu) rest
      rw [at_]
      unfold getR
      rw [ei]
      rw [List.getElem?_map] at ey
      exact ey
theorem op_eqDct (hu : X.A.units + 65 < cLine) : OpR X (compareOp .Eq) (rEqDct (ctX X) false) := by
  intro pins s σ H x y v u Q I rx ry h
  obtain ⟨μ, a, b, n1, n2, k1, v1, k2, v2, ps, qs, rfl, rfl, ⟨es1, e1, hn1, hk1, rk1, rv1⟩, ⟨es2, e2, hn2, hk2, rk2, rv2⟩, l1, l2, d1, d2, s1, s2, q⟩ := h
  cases rx
  cases ry
  obtain ⟨r1, x1, p1⟩ := dict_raw I e1
  obtain ⟨r2, x2, p2⟩ := dict_raw I e2
  have K1 := kl_of I hn1 hk1 rk1 p1 l1
  have K2 := kl_of I hn2 hk2 rk2 p2 l2
  have D1 := d1 _ rv1
  have D2 := d2 _ rv2
  have L1 : ps.length = r1.length := by rw [dpAll_len D1, ← Paired.length p1]; simp
  have L2 : qs.length = r2.length := by rw [dpAll_len D2, ← Paired.length p2]; simp
  have hits := hits_of (s := s) (A := X.A) K2 (by show X.A.units + 1 + 64 < _; omega) (reads_each I D2 (vals_at p2)) L2 s2 r1 ps K1 L1 s1 (reads_each I D1 (vals_at p1))
  rw [paired_keys p1, paired_keys p2, hn1, hn2] at hits
  refine PySem.W.keq_eq x1.sys x2.sys (x1.leaf K1) (x2.leaf K2) (by omega) (fun _ => hits) ⟨.bl _, H, I, rfl, ?_⟩
  rw [List.length_map, List.length_map, ← Paired.length p1, ← Paired.length p2]
  rw [← hn1, ← hn2, List.length_map, List.length_map, hn1, hn2] at q
  exact q
theorem op_neDct (hu : X.A.units + 65 < cLine) : OpR X (compareOp .NotEq) (rEqDct (ctX X) true) := by
  intro pins s σ H x y v u Q I rx ry h
  obtain ⟨μ, a, b, n1, n2, k1, v1, k2, v2, ps, qs, rfl, rfl, ⟨es1, e1, hn1, hk1, rk1, rv1⟩, ⟨es2, e2, hn2, hk2, rk2, rv2⟩, l1, l2, d1, d2, s1, s2, q⟩ := h
  cases rx
  cases ry
  obtain ⟨r1, x1, p1⟩ := dict_raw I e1
  obtain ⟨r2, x2, p2⟩ := dict_raw I e2
  have K1 := kl_of I hn1 hk1 rk1 p1 l1
  have K2 := kl_of I hn2 hk2 rk2 p2 l2
  have D1 := d1 _ rv1
  have D2 := d2 _ rv2
  have L1 : ps.length = r1.length := by rw [dpAll_len D1, ← Paired.length p1]; simp
  have L2 : qs.length = r2.length := by rw [dpAll_len D2, ← Paired.length p2]; simp
  have hits := hits_of (s := s) (A := X.A) K2 (by show X.A.units + 1 + 64 < _; omega) (reads_each I D2 (vals_at p2)) L2 s2 r1 ps K1 L1 s1 (reads_each I D1 (vals_at p1))
  rw [paired_keys p1, paired_keys p2, hn1, hn2] at hits
  refine PySem.W.keq_ne x1.sys x2.sys (x1.leaf K1) (x2.leaf K2) (by omega) (fun _ => hits) ⟨.bl _, H, I, rfl, ?_⟩
  rw [List.length_map, List.length_map, ← Paired.length p1, ← Paired.length p2]
  rw [← hn1, ← hn2, List.length_map, List.length_map, hn1, hn2] at q
  exact q
end
def dEqDct (neg : Bool) (h : Hs) (d e : D) : Option Nv := match d, e with
  | .box i, .box j => (match h.get i, h.get j with
    | some (.dct n1 _ v1), some (.dct n2 _ v2) => (match mapO (toPy h 40) v1, mapO (toPy h 40) v2 with
      | some ps, some qs => (match n1.all leafK && n2.all leafK && ps.all SeqAt.shaped && qs.all SeqAt.shaped with
        | true => some (.v (.bl (if neg = true then !(n1.length == n2.length && dHits (n1.zip ps) n2 qs) else (n1.length == n2.length && dHits (n1.zip ps) n2 qs))))
        | false => none)
      | _, _ => none)
    | _, _ => none)
  | _, _ => none
section
variable {C : Ct}
theorem cov_eqDct {neg : Bool} : Cov2 C (rEqDct C neg) (dEqDct neg) := by
  intro H L μ h x y d e n Q hr r1 r2 hf want
  unfold dEqDct at hf
  split at hf
  · rename_i i j
    split at hf
    · rename_i n1 k1 v1 n2 k2 v2 g1 g2
      split at hf
      · rename_i ps qs m1 m2
        split at hf
        · rename_i ok
          cases hf
          simp only [Bool.and_eq_true] at ok
          obtain ⟨⟨⟨l1, l2⟩, s1⟩, s2⟩ := ok
          obtain ⟨a, rfl, _, o1⟩ := hr.dctO r1 g1
          obtain ⟨b, rfl, _, o2⟩ := hr.dctO r2 g2
          exact ⟨μ, a, b, n1, n2, k1, v1, k2, v2, ps, qs, rfl, rfl, o1, o2, l1, l2, fun vs rv => mapO_dp (toPy_dp hr 40) rv m1, fun vs rv => mapO_dp (toPy_dp hr 40) rv m2, s1, s2, want.old rfl⟩
        · cases hf
      · cases hf
    · cases hf
  · cases hf
end
def dEqA (neg : Bool) : Hs → D → D → Option Nv := fun h d e => match dEq neg h d e with | some n => some n | none => dEqDct neg h d e
section
variable {X : Cx} {k : Nat}
theorem w_eqA (hr : Room k X.A) : CmpW X .Eq (dEqA false) := ⟨_, OpR.or' (op_eqD (hu_of4 hr)) (op_eqDct (hu_of hr)), cov_eq.or cov_eqDct⟩
theorem w_neA (hr : Room k X.A) : CmpW X .NotEq (dEqA true) := ⟨_, OpR.or' (op_neD (hu_of4 hr)) (op_neDct (hu_of hr)), cov_ne.or cov_eqDct⟩
end
theorem dEqA_ints (h : Hs) (i j : Int) : dEqA false h (.int i) (.int j) = some (.v (.bl (PyData.eqv (.int i) (.int j)))) := by
  unfold dEqA
  rw [dEq_ints]
end Rh

set_option Elab.async false
set_option linter.all false
set_option maxRecDepth 100000
set_option maxHeartbeats 2000000
set_option autoImplicit false
namespace Rh
open PySem PySem.Spec PyProof.Rows L2
variable [Tbs]
/-! ### a dict's entry stored by a comprehension -/
section
variable {P : Program} {w : World} {A : Around} {E : Value → Shared → Prop} {s : Shared} {a : Addr} {ep : Nat} {rs : List Ent} {k : NestedKey} {ku vu : Value} {Q : Unit → Shared → Prop}
theorem raw_dset_leaf {l : Leaf} (x : RawD w s.heap a ep rs) (kl : KL rs) (hl : Leaf.isOf l ku = true) (hz : rs.length < sizeLine)
    (hQ : ∀ h' ep' tk, RawD w h' a ep' (putR rs l.key ku vu) → Heap.SameBut a s.heap h' → Q () { s with heap := h', toks := tk }) : wpAny (model P w) A (dictSet a ku vu) Q E s := by
  have D := x.leaf (P := P) kl
  obtain ⟨o, ho, hc, hd⟩ := x.at_
  have hko : KeysOf (leafKind P w) (rs.map (ent w)).toArray := fun e he => by
    obtain ⟨r, hr, rfl⟩ := List.mem_map.mp (List.mem_toArray.mp he)
    obtain ⟨h1, h2⟩ := key_toLeaf kl hr
    exact ⟨toLeaf r.1, h2, by show NestedKey.hash w r.1 = NestedKey.hash w (toLeaf r.1).key; rw [h1]⟩
  have hkey : (leafKind P w).is l ku = true := hl
  have nd2 := put_nodup (k := l.key) (ku := ku) (vu := vu) x.nd
  have sz2 : (putR rs l.key ku vu).length ≤ sizeLine := Nat.le_trans put_len hz
  unfold dictSet
  try with_reducible refine wpAny_holding ?_
  refine wpAny_bind ((leafKind P w).pyHash hkey ?_)
  unfold dictSetHashed
  try with_reducible refine wpAny_holding ?_
  refine wpAny_bind (wpAny_dictFind_of (s := { s with toks := s.toks + 1 }) hkey ho hd hko ?_)
  have hidx := idx_arr (P := P) (w := w) kl l
  cases hi : idxK (rs.map (·.1)) l.key with
  | some i =>
    have hi2 : ((rs.map fun e => (⟨e.1.hash w, e.2.1, e.2.2⟩ : DictEntry)).toArray.findIdx? fun e => (leafKind P w).is l e.key) = some i := hidx.trans hi
    rw [hi2]
    refine wpAny_bind (wpAny_rule (wpAny_bind (wpAny_updateDict (s := { s with toks := s.toks + 1 }) ho hd (wpAny_point (hQ _ ep _ ⟨x.sys, sz2, ⟨_, Heap.get?_update_self _ ho (Obj.isFreed_of_dict (Obj.data_mapDict hd _)),
      hc.mapDict _, ?_⟩, nd2, homL_put kl⟩ (Heap.SameBut.update ..))))))
    rw [Obj.data_mapDict hd _, put_some hi, modify_map (fun e : Ent => (⟨e.1.hash w, e.2.1, e.2.2⟩ : DictEntry)) (fun r => (r.1, r.2.1, vu)) (fun e => { e with val := vu }) fun _ => rfl]
    simp
  | none =>
    have hi2 : ((rs.map fun e => (⟨e.1.hash w, e.2.1, e.2.2⟩ : DictEntry)).toArray.findIdx? fun e => (leafKind P w).is l e.key) = none := hidx.trans hi
    rw [hi2]
    refine wpAny_bind (wpAny_rule (wpAny_updateDictKeys (hz := by simp; exact Nat.le_of_lt hz) (s := { s with toks := s.toks + 1 }) ho hd (hQ _ (ep + 1) _ ⟨x.sys, sz2, ⟨_, Heap.get?_update_self _ ho (Obj.isFreed_of_dict (Obj.data_mapDictKeys hd _)),
      hc.mapDictKeys _, ?_⟩, nd2, homL_put kl⟩ (Heap.SameBut.update ..))))
    rw [Obj.data_mapDictKeys hd _, put_none hi, List.map_append]
    simp
    rfl
theorem raw_dset_heap {b : Addr} (hu : A.units + 8 < cLine) (x : RawD w s.heap a ep rs) (kt : KT s.heap rs) (hb : NestedIs s.heap k (.ref b)) (dp : k.depth ≤ 8) (hz : rs.length < sizeLine)
    (hQ : ∀ h' ep' tk, RawD w h' a ep' (putR rs k (.ref b) vu) → Heap.SameBut a s.heap h' → Q () { s with heap := h', toks := tk }) : wpAny (model P w) A (dictSet a (.ref b) vu) Q E s := by
  have H := x.heap (P := P) kt
  refine wpAny_dictSet_heap (knd := nestedKind P w) (hsz := by rw [List.length_map]; exact Nat.le_of_lt hz) hu ⟨hb, dp⟩ H fun h' hm hs => ?_
  rw [put_tv rs x.nd] at hm
  obtain ⟨o, es, ep', ho, hc, hd, he, hi, hn⟩ := hm
  refine hQ h' ep' _ ⟨x.sys, Nat.le_trans put_len hz, ⟨o, ho, hc, ?_⟩, put_nodup x.nd, homT_put kt hb dp⟩ hs
  rw [hd]
  have e2 : es = ((putR rs k (.ref b) vu).map fun e => (⟨e.1.hash w, e.2.1, e.2.2⟩ : DictEntry)).toArray := by
    rw [← Array.toList_inj, he, List.map_map]
    show _ = List.map _ _
    refine List.map_congr_left fun r hr => ?_
    show (⟨r.1.hash w, .ref (adr r.2.1), r.2.2⟩ : DictEntry) = ⟨r.1.hash w, r.2.1, r.2.2⟩
    have e3 : ∃ c, r.2.1 = .ref c := by
      rcases put_mem hr with ⟨r0, h0, e1, e2⟩ | ⟨e1, e2⟩
      · obtain ⟨c, ec, _⟩ := kt r0 h0
        exact ⟨c, e2.trans ec⟩
      · exact ⟨b, e2⟩
    obtain ⟨c, ec⟩ := e3
    rw [ec]
    rfl
  rw [e2]
theorem raw_dset (hu : A.units + 8 < cLine) (x : RawD w s.heap a ep rs) (hk : KeyFor s.heap rs k ku) (hz : rs.length < sizeLine)
    (hQ : ∀ h' ep' tk, RawD w h' a ep' (putR rs k ku vu) → Heap.SameBut a s.heap h' → Q () { s with heap := h', toks := tk }) : wpAny (model P w) A (dictSet a ku vu) Q E s := by
  rcases hk with ⟨kl, l, rfl, hl⟩ | ⟨kt, b, rfl, hb, dp⟩
  · exact raw_dset_leaf x kl hl hz hQ
  · exact raw_dset_heap hu x kt hb dp hz hQ
end
theorem dset_dct {Y : Cx} {pins : List (Addr × Obj)} {σ : L2.St} {H : Hp} {s : Shared} {D : Addr} {y z : V} {u r : Value} {Nx : Hp → Prop} {Q : Unit → Shared → Prop} {E : Value → Shared → Prop} (hu : Y.A.units + 65 < cLine) (I : L2.Inv Y pins σ H s) (h : tSetD (ctX Y) (.ref D) y z H Nx) (ry : RelV y u) (rz : RelV z r)
    (k : ∀ s' H', L2.Inv Y pins σ H' s' → Nx H' → Q () s') : wpAny (model Y.prog Y.w) Y.A (dictSet D u r) Q E s := by
  obtain ⟨μ, a, es, nks, ks, kd, nk, op, ea0, ea, en, ek, rk, rx, ekd, ei, hl, q⟩ := h
  cases ea0
  obtain ⟨rs, x, p⟩ := dict_raw I ea
  obtain ⟨nk', e1, kf, hi⟩ := key_for I x.hom en ek rk p rx ry ei
  rw [ekd] at e1; cases e1
  have hlen : rs.length = ks.length := by
    rw [← Paired.length p, ← rk.length, List.length_map]
  refine raw_dset (by omega) x kf (by rw [hlen, sizeLine_eq]; omega) fun h' ep' tk x' sb => ?_
  obtain ⟨o', ho', _⟩ := x'.at_
  exact k _ _ (I.write (t' := tk) (x := D) (e := D) (by rw [ea]; exact True.intro) (.inl rfl) (fun b ob hb e => (sb.2 b hb).trans e) ⟨o', ho'⟩ (dict_ok x' (put_paired p hi ry rz))) (q ep')
/-! ### dict comprehensions, any keys, keys that come twice -/
section
variable {X : Cx}
/-- what a dict comprehension asks: D, the new dict -/
def tDcG (X : Cx) (wi : TI) (g : TG) (tt : TT) (tk tv : TE) (vs : List Nat) : TE := fun σ H Q => wi σ H fun J H1 => ∀ D, H1 D = none → ∃ Wi : Nat → Nat → Hp → Prop, (∃ m, Wi 0 m (upd H1 D (DicO X.w D (0, [])))) ∧
  ∀ i m Hc, Wi i m Hc → (J.stop i Hc ∧ Q (.ref D) Hc) ∨ (J.go i Hc ∧ ∃ Nx : Hp → Prop, (∀ H', Nx H' → ∃ m', m' < m ∧ Wi (i + 1) m' H') ∧
    ∀ x H', J.yld i Hc x H' → g x (wipe σ vs) H' fun σ2 H2 => wipe σ2 vs = wipe σ vs ∧ tt σ2 H2 fun b H3 => if b = true then (tk σ2 H3 fun y H4 => tv σ2 H4 fun z H5 => tSetD (ctX X) (.ref D) y z H5 Nx) else Nx H3)
theorem dcg_core {kx vx tg iter : Expr} {ifs : List Expr} {scope : Scope} {own : List (Str × Nat)} {pos pos' : Pos} {wi : TI} {g : TG} {tt : TT} {tk tv : TE} {use : Option (Value → Sem Unit)} {Qf : Value → Shared → Prop} {pins : List (Addr × Obj)} {s : Shared} {σ : L2.St} {H : Hp} {Q : VK}
    (hu : X.A.units + 65 < cLine) (hc : X.calm = true) (hN : X.N.Nodup) (I : L2.Inv X pins σ H s) (hi : PI X tg iter wi) (ok : BlkOk X.N X.env.scope scope own)
    (hg : ∀ (s : Shared) (H : Hp) (C : Addr) (cl : List (Str × Addr)) (fp : List Addr), PG (X.blk s H scope (compEnvC scope cl C X.env) fp) tg g)
    (ht : ∀ (s : Shared) (H : Hp) (C : Addr) (cl : List (Str × Addr)) (fp : List Addr), PTs (X.blk s H scope (compEnvC scope cl C X.env) fp) ifs tt)
    (hk : ∀ (s : Shared) (H : Hp) (C : Addr) (cl : List (Str × Addr)) (fp : List Addr), PE (X.blk s H scope (compEnvC scope cl C X.env) fp) kx tk)
    (he : ∀ (s : Shared) (H : Hp) (C : Addr) (cl : List (Str × Addr)) (fp : List Addr), PE (X.blk s H scope (compEnvC scope cl C X.env) fp) vx tv)
    (hs : ∀ x, foldedSetIterable iter X.env x = pure x) (h : tDcG X wi g tt tk tv (own.map (fun x : Str × Nat => x.2)) σ H Q)
    (fin : ∀ D C t m H', L2.Inv X pins σ H' t → Q (.ref D) H' → t.heap.Ns C m → FpOk X pins H' C → compPost (model X.prog X.w) X.A X.xe use Qf (.ref D) C (.ok .next) t) :
    wpAny (model X.prog X.w) X.A (comprehension (.DictComp kx vx [⟨tg, iter, ifs, 0⟩] scope pos) scope X.env pos' newDict false (eval iter X.env) use) Qf X.xe s := by
  have hfree : ∀ y ∈ scope.names, y.2 = .free → ∃ c, X.env.cells.lookup y.1 = some c := fun y hy e => I.ok.has _ (ok.free y hy e)
  refine wpAny_comprehension_free (use := use) rfl hs (closure_ok hfree) ok.kind (fun y hy e => by rw [ok.uniq y hy, e]) (thn (hi.run pins s σ H _ I h) fun xv s1 hx => thn hx fun itv s2 ⟨it, fp, tn, J, H2, e, I2, T, st2, f2, q⟩ => ?_)
  subst e
  refine wpAny_newObj_type (newEnv_comp ?_)
  have hDn : H2 s2.heap.objs.size = none := I2.hok.fresh (Nat.le_refl _)
  obtain ⟨Wi, ⟨m0, w0⟩, turn⟩ := q _ hDn
  -- the dict stands
  have I3 : L2.Inv X pins σ (upd H2 s2.heap.objs.size (DicO X.w s2.heap.objs.size (0, []))) { s2 with heap := s2.heap.push { cls := .type "dict", data := .dict #[] } } :=
    I2.laid (t' := s2.toks) (fun b o e => Heap.get?_push_of_some _ e) (Nat.le_refl _) (dict0_ok s2.heap I2.big)
  have sz : ∀ b ∈ fp, b < s2.heap.objs.size := fun b hb => Heap.lt_size (T.obj _ _ st2 b hb).choose_spec.1
  have push2 : ∀ b o, s2.heap.get? b = some o → (s2.heap.push { cls := .type "dict", data := .dict #[] }).get? b = some o := fun b o e => Heap.get?_push_of_some _ e
  generalize hs3 : ({ s2 with heap := s2.heap.push { cls := .type "dict", data := .dict #[] } } : Shared) = s3 at I3 ⊢
  have h3 : s3.heap = s2.heap.push { cls := .type "dict", data := .dict #[] } := by rw [← hs3]
  generalize hD : s2.heap.objs.size = D at *
  have f3 : ∀ b ∈ fp, FpOk X pins (upd H2 D (DicO X.w D (0, []))) b ∧ b < s3.heap.objs.size := fun b hb =>
    ⟨⟨by rw [upd_ne (Nat.ne_of_lt (sz b hb))]; exact (f2 b hb).1, (f2 b hb).2⟩, by rw [h3, Heap.size_push, hD]; exact Nat.lt_succ_of_lt (sz b hb)⟩
  have st3 : tn 0 s3.heap := T.keep _ _ _ st2 fun b _ o e => by rw [h3]; exact push2 b o e
  have nD : ∀ b ∈ fp, upd H2 D (DicO X.w D (0, [])) b = none := fun b hb => (f3 b hb).1.1
  generalize hH3 : upd H2 D (DicO X.w D (0, [])) = H3 at *
  have I4 := block_start I3 ok hN f3
  have pg := hg s3 H3 s3.heap.objs.size (cellsFrom (s3.heap.objs.size + 1) scope.names (cloFrom X.env.cells scope.names [])) fp
  have pt := ht s3 H3 s3.heap.objs.size (cellsFrom (s3.heap.objs.size + 1) scope.names (cloFrom X.env.cells scope.names [])) fp
  have pk := hk s3 H3 s3.heap.objs.size (cellsFrom (s3.heap.objs.size + 1) scope.names (cloFrom X.env.cells scope.names [])) fp
  have pe := he s3 H3 s3.heap.objs.size (cellsFrom (s3.heap.objs.size + 1) scope.names (cloFrom X.env.cells scope.names [])) fp
  have st4 : tn 0 (pushCells (s3.heap.push { cls := .type "dict", data := .dict #[] }) scope.names) := T.keep _ _ _ st3 fun b _ o e => pushCells_keeps _ _ _ _ (Heap.get?_push_of_some _ e)
  show codeAny _ _ (.compStart (.DictComp kx vx [⟨tg, iter, ifs, 0⟩] scope pos) 0 (.ref it) (.ref D) (compEnvC scope (cellsFrom (s3.heap.objs.size + 1) scope.names (cloFrom X.env.cells scope.names [])) s3.heap.objs.size X.env))
    (compPost (model X.prog X.w) X.A X.xe use Qf (.ref D) s3.heap.objs.size) { s3 with heap := pushCells (s3.heap.push { cls := .type "dict", data := .dict #[] }) scope.names }
  generalize hce : compEnvC scope (cellsFrom (s3.heap.objs.size + 1) scope.names (cloFrom X.env.cells scope.names [])) s3.heap.objs.size X.env = ce at I4 pg pt pk pe ⊢
  have cL : ce.locals = s3.heap.objs.size := by rw [← hce]; rfl
  generalize hs4 : ({ s3 with heap := pushCells (s3.heap.push { cls := .type "dict", data := .dict #[] }) scope.names } : Shared) = s4 at I4 ⊢
  have st4 : tn 0 s4.heap := by rw [← hs4]; exact st4
  -- the iterator's objects are left alone by the block
  have apart : ∀ {σ' : L2.St} {H' : Hp} {t : Shared}, L2.Inv (X.blk s3 H3 scope ce fp) [] σ' H' t → (∀ b ∈ fp, H' b = none) → ∀ b ∈ fp, FpOk (X.blk s3 H3 scope ce fp) [] H' b := fun {σ' H' t} J' hn b hb =>
    ⟨hn b hb, (J'.ok.exf b hb).1, J'.ok.exfs b hb, .inl hb, fun x c e => (J'.ok.exf b hb).2 x c e, fun p hp => nomatch (show p ∈ ([] : List (Addr × Obj)) from hp)⟩
  have loop : codeAny (model X.prog X.w) X.A (.compLoop (.DictComp kx vx [⟨tg, iter, ifs, 0⟩] scope pos) 0 (.ref it) (.ref D) ce) (compPost (model X.prog X.w) X.A X.xe use Qf (.ref D) s3.heap.objs.size) s4 := by
    refine compLoop_anyD (fun n t => ∃ i Hc, L2.Inv (X.blk s3 H3 scope ce fp) [] (wipe σ (own.map (fun x : Str × Nat => x.2))) Hc t ∧ (tn i t.heap ∧ (∀ b ∈ fp, Hc b = none)) ∧ Wi i n Hc) ?_ m0 ⟨0, H3, I4, ⟨st4, nD⟩, w0⟩
    rintro n s5 ⟨i, H5, I5, ⟨st5, n5⟩, w5⟩
    rcases turn i n H5 w5 with ⟨stop, qq⟩ | ⟨go, Nx, hNx, step⟩
    · refine thnF (T.done (X.blk s3 H3 scope ce fp) rfl rfl rfl hc i [] s5 _ H5 (fun _ _ => False) I5 (apart I5 n5) st5 stop) fun r s6 ⟨hr, I6⟩ => ?_
      subst hr
      obtain ⟨m, hm, _⟩ := I6.loc
      have fr6 : H5 ce.locals = none := I6.free
      rw [cL] at fr6
      have hm : s6.heap.Ns ce.locals m := hm
      rw [cL] at hm
      exact fin D _ s6 m H5 (I3.call' (ch := fp) I6.os I6.base I6.hok I6.bare fun b hb => ⟨(f3 b hb).1.2.2.2.1, (f3 b hb).1.2.1, (f3 b hb).1.2.2.2.2.1, (f3 b hb).1.2.2.2.2.2⟩) qq hm (I3.fpOk (Nat.le_refl _) fr6)
    · refine thnF (T.item (X.blk s3 H3 scope ce fp) rfl rfl rfl hc i [] s5 _ H5 (fun _ _ => False) I5 (apart I5 n5) st5 go) fun r s6 ⟨u, hr, h6⟩ => ?_
      subst hr
      refine thnF h6 fun _ s7 ⟨x, H7, I7, r7, y7, st7, n7⟩ => ?_
      refine thnF (pg.run _ s7 _ H7 x u _ (I7.pinned (apart I7 n7) (T.obj _ _ st7)) r7 (step x H7 y7)) fun _ s8 ⟨σ8, H8, I8, hw8, q8⟩ => ?_
      refine thnF (pt.run _ s8 σ8 H8 _ I8 q8) fun b s9 ⟨H9, I9, q9⟩ => ?_
      -- the turn is over
      have over : ∀ (t : Shared) (H' : Hp), L2.Inv (X.blk s3 H3 scope ce fp) ([] ++ pinsAt fp s7.heap) σ8 H' t → Nx H' → ∃ m, m < n ∧ ∃ i Hc, L2.Inv (X.blk s3 H3 scope ce fp) [] (wipe σ (own.map (fun x : Str × Nat => x.2))) Hc t ∧ (tn i t.heap ∧ (∀ b ∈ fp, Hc b = none)) ∧ Wi i m Hc := fun t H' I' nx => by
        obtain ⟨m', hm, w'⟩ := hNx H' nx
        have held : ∀ b ∈ fp, ∀ o, s7.heap.get? b = some o → t.heap.get? b = some o ∧ H' b = none := fun b hb o e =>
          ⟨(I'.pin (b, o) (List.mem_append_right _ (List.mem_append_right _ (mem_pinsAt hb e)))).1, (I'.pin (b, o) (List.mem_append_right _ (List.mem_append_right _ (mem_pinsAt hb e)))).2.1⟩
        refine ⟨m', hm, i + 1, H', (I'.unpinned (pins := [])).weak (by rw [← hw8, wipe_length]) (fun j v e => ?_), ⟨T.keep _ _ _ st7 fun b hb o e => (held b hb o e).1, fun b hb => ?_⟩, w'⟩
        · rw [← hw8] at e
          exact (wipe_some e).1
        · obtain ⟨o, e, _⟩ := T.obj _ _ st7 b hb
          exact (held b hb o e).2
      cases b with
      | false =>
        simp only [Bool.false_eq_true, if_false] at q9 ⊢
        exact over _ _ I9 q9
      | true =>
        simp only [if_true] at q9 ⊢
        refine thnF (pk.run _ s9 σ8 H9 _ I9 q9) fun z s10 ⟨yk, H10, I10, r10, q10⟩ => ?_
        refine thnF (pe.run _ s10 σ8 H10 _ I10 q10) fun z2 s11 ⟨yv, H11, I11, r11, q11⟩ => ?_
        exact dset_dct (Y := X.blk s3 H3 scope ce fp) hu I11 q11 r10 r11 over
  exact codeAny_compStart_dict loop (T.self X.A 0 _ _ _ st4 loop)
end
end Rh

set_option Elab.async false
set_option linter.all false
set_option maxRecDepth 100000
set_option maxHeartbeats 2000000
set_option autoImplicit false
namespace Rh
open PySem PySem.Spec PyProof.Rows L2
variable [Tbs]
section
variable {X : Cx} {W : WX}
theorem pe_dcG {kx vx tg iter : Expr} {ifs : List Expr} {scope : Scope} {own : List (Str × Nat)} {pos : Pos} {wi : TI} {g : TG} {tt : TT} {tk tv : TE} (hu : X.A.units + 65 < cLine) (hc : X.calm = true) (hN : X.N.Nodup) (hi : PI X tg iter wi) (ok : BlkOk X.N X.env.scope scope own)
    (hg : ∀ (s : Shared) (H : Hp) (C : Addr) (cl : List (Str × Addr)) (fp : List Addr), PG (X.blk s H scope (compEnvC scope cl C X.env) fp) tg g)
    (ht : ∀ (s : Shared) (H : Hp) (C : Addr) (cl : List (Str × Addr)) (fp : List Addr), PTs (X.blk s H scope (compEnvC scope cl C X.env) fp) ifs tt)
    (hk : ∀ (s : Shared) (H : Hp) (C : Addr) (cl : List (Str × Addr)) (fp : List Addr), PE (X.blk s H scope (compEnvC scope cl C X.env) fp) kx tk)
    (he : ∀ (s : Shared) (H : Hp) (C : Addr) (cl : List (Str × Addr)) (fp : List Addr), PE (X.blk s H scope (compEnvC scope cl C X.env) fp) vx tv) (hs : ∀ x, foldedSetIterable iter X.env x = pure x := by intro _; rfl) :
    PE X (.DictComp kx vx [⟨tg, iter, ifs, 0⟩] scope pos) (tDcG X wi g tt tk tv (own.map (fun x : Str × Nat => x.2))) := by
  refine ⟨fun pins s σ H Q I h => ?_⟩
  rw [arm_eval_DictComp]
  refine dcg_core hu hc hN I hi ok hg ht hk he hs h fun D C t m H' I' q hn f => ⟨m, hn, fun h2 sb => ?_⟩
  obtain ⟨f0, f1, f2, f3, f4, f5⟩ := f
  exact ⟨.ref D, H', I'.turned (t' := t.toks) (fun b o hb e => (sb.2 b hb).trans e) f0 f1 f3 f4 f5, rfl, q⟩
theorem ps_setDcG {i : Nat} {y : Str} {py : Pos} {kx vx tg iter : Expr} {ifs : List Expr} {scope : Scope} {own : List (Str × Nat)} {pos spos : Pos} {wi : TI} {g : TG} {tt : TT} {tk tv : TE} (hu : X.A.units + 65 < cLine) (hc : X.calm = true) (hN : X.N.Nodup) (hy : X.N[i]? = some y) (hyl : X.env.scope.names.lookup y = some .local)
    (hsw : swapsWith (.DictComp kx vx [⟨tg, iter, ifs, 0⟩] scope pos) (some (.Name y py)) spos.line X.env = pure true) (hi : PI X tg iter wi) (ok : BlkOk X.N X.env.scope scope own)
    (hg : ∀ (s : Shared) (H : Hp) (C : Addr) (cl : List (Str × Addr)) (fp : List Addr), PG (X.blk s H scope (compEnvC scope cl C X.env) fp) tg g) (ht : ∀ (s : Shared) (H : Hp) (C : Addr) (cl : List (Str × Addr)) (fp : List Addr), PTs (X.blk s H scope (compEnvC scope cl C X.env) fp) ifs tt) (hk : ∀ (s : Shared) (H : Hp) (C : Addr) (cl : List (Str × Addr)) (fp : List Addr), PE (X.blk s H scope (compEnvC scope cl C X.env) fp) kx tk)
    (he : ∀ (s : Shared) (H : Hp) (C : Addr) (cl : List (Str × Addr)) (fp : List Addr), PE (X.blk s H scope (compEnvC scope cl C X.env) fp) vx tv) (hs : ∀ x, foldedSetIterable iter X.env x = pure x := by intro _; rfl) :
    PS X (.Assign [.Name y py] (.DictComp kx vx [⟨tg, iter, ifs, 0⟩] scope pos) spos) (tAsg (tDcG X wi g tt tk tv (own.map (fun x : Str × Nat => x.2))) (gName i)) := by
  refine ⟨fun pins s σ H E h0 h => ?_⟩
  rw [exec_Assign_Name_used _ _ _ _ hsw]
  refine wpAny_bind (wpAny_standAt (wpAny_bind (show wpAny _ X.A (do let _ ← comprehension (.DictComp kx vx [⟨tg, iter, ifs, 0⟩] scope pos) scope X.env (firstIterPos [⟨tg, iter, ifs, 0⟩] pos) newDict false (eval iter X.env) (some (assign (.Name y py) X.env))) _ _ s from ?_)))
  have h1 : tDcG X wi g tt tk tv (own.map (fun x : Str × Nat => x.2)) σ H (fun v H' => E.nx (σ.set i (some v)) H') := h
  refine wpAny_bind (thn (dcg_core (Qf := fun _ t => SP X pins E .next t) hu hc hN h0 hi ok hg ht hk he hs h1 fun D C t m H' I' q hn f => ?_) fun _ t hq => wpAny_pure (wpAny_pure hq))
  refine (show wpAny _ _ (assign (.Name y py) X.env (.ref D)) _ _ _ from wpAny_assign_Name (store_ok2 (v := V.ref D) I' hN hy (.inl hyl) rfl (fun t2 I2 ⟨a, sb, ha⟩ => ?_) (.inr hyl)))
  obtain ⟨f0, f1, f2, f3, f4, f5⟩ := f
  refine ⟨m, hn.sameBut sb (show C ≠ a from ha.elim (fun z => by rw [z]; exact f1) fun z e => f4 y a z e.symm), fun h3 sb3 => ?_⟩
  exact ⟨_, H', I2.turned (t' := t2.toks) (fun b o hb e => (sb3.2 b hb).trans e) f0 f1 f3 f4 f5, q⟩
end
/-! the mirror -/
def putDc (h : Hs) (b : Nat) (k d : D) : Option Hs := match h.get b with
  | some (.dct _ _ _) => putD h (.box b) k d
  | _ => none
def loopG (b : Nat) (t : TM) (conds : M Bool) (mk mv : M D) (ρ : En) : List D → Hs → Option Hs
  | [], h => some h
  | d :: ds, h => match t d ρ h with
    | none => none
    | some (ρ1, h1) => match conds ρ1 h1 with
      | some (.ok false h2) => loopG b t conds mk mv ρ ds h2
      | some (.ok true h2) => (match mk ρ1 h2 with
        | some (.ok kd h3) => (match mv ρ1 h3 with
          | some (.ok x h4) => (match putDc h4 b kd x with
            | some h5 => loopG b t conds mk mv ρ ds h5
            | none => none)
          | _ => none)
        | _ => none)
      | _ => none
def mDcG (mi : M (List D × List Nat)) (t : TM) (conds : M Bool) (mk mv : M D) (vs : List Nat) : M D := mBind mi fun p => fun ρ h => match h.new (.dct [] [] []) with
  | some h1 => (match loopG h.n t conds mk mv (wipeE ρ vs) p.1 (relk (p.2 ++ h.lk) h1) with
    | some h' => some (.ok (.box h.n) (relk h.lk h'))
    | none => none)
  | none => none
section
variable {X : Cx} {W : WX} {σ : L2.St} {H : Hp} {Q : VK}
theorem rd_dcG {mi : M (List D × List Nat)} {t : TM} {conds : M Bool} {mk mv : M D} {vs : List Nat} (q : rd X W (mDcG mi t conds mk mv vs) σ H Q) :
    tDcG X (rdI X W mi) (rdTg X t vs) (rdT X WF conds) (rd X WF mk) (rd X WF mv) vs σ H Q := by
  refine rdG_imp (rdG_bind q) fun ρ L p h1 μ1 H1 ⟨rel1, q1⟩ J cov l hl => ?_
  obtain ⟨ds, lks⟩ := p
  dsimp only at q1 cov
  rw [rel1.hr.lk] at q1
  cases en : h1.new (.dct [] [] []) with
  | none => simp only [en] at q1; exact q1.none
  | some h2 =>
    simp only [en] at q1
    cases eL : loopG h1.n t conds mk mv (wipeE ρ vs) ds (relk (lks ++ L) h2) with
    | none => simp only [eL] at q1; exact q1.none
    | some hf =>
      simp only [eL] at q1
      obtain ⟨s1, d1⟩ := same_new (o := DicO X.w l (0, [])) hl
      obtain ⟨r2, g2⟩ := rel1.hr.new (o := .dct [] [] []) s1 d1 hl ⟨(0, []), upd_same, rfl, rfl, rfl, rfl⟩ en
      have ml : (μ1 ++ [l])[h1.n]? = some l := by
        rw [← rel1.hr.len, List.getElem?_append_right (Nat.le_refl _)]
        simp
      have g2' : Go (lks ++ L) μ1 H1 (μ1 ++ [l]) (L2.upd H1 l (DicO X.w l (0, []))) := ⟨fun i m a e => by
          obtain ⟨u, q⟩ := rel1.hr.some_at e
          rw [q, s1 _ _ q], g2.keep, g2.dom, g2.ext, g2.new⟩
      have r2' := r2.relk (L' := lks ++ L)
      refine ⟨fun i m Hc => m = ds.length - i ∧ i ≤ ds.length ∧ ∃ μi hi, Go (lks ++ L) μ1 H1 μi Hc ∧ Go L (μ1 ++ [l]) (L2.upd H1 l (DicO X.w l (0, []))) μi Hc ∧ HR (ctX X) (lks ++ L) μi Hc hi ∧ loopG h1.n t conds mk mv (wipeE ρ vs) (ds.drop i) hi = some hf,
        ⟨ds.length, by simp, Nat.zero_le _, μ1 ++ [l], relk (lks ++ L) h2, g2', .refl, r2', eL⟩, ?_⟩
      rintro i m Hc ⟨rfl, hi, μi, hh, gi, gl, ri, el⟩
      have rel2 := rel1.relk (L' := lks ++ L)
      have st : Still lks μ1 H1 μi Hc := ⟨gi.stay rel2.hr, fun n m => gi.lk n (List.mem_append_left _ m)⟩
      by_cases hlt : i < ds.length
      · refine .inr ⟨cov.go i μi Hc st hlt, fun H' => i + 1 ≤ ds.length ∧ ∃ μi hi, Go (lks ++ L) μ1 H1 μi H' ∧ Go L (μ1 ++ [l]) (L2.upd H1 l (DicO X.w l (0, []))) μi H' ∧ HR (ctX X) (lks ++ L) μi H' hi ∧ loopG h1.n t conds mk mv (wipeE ρ vs) (ds.drop (i + 1)) hi = some hf,
          fun H' ⟨q1, q2⟩ => ⟨ds.length - (i + 1), by omega, rfl, q1, q2⟩, fun x H' y => ?_⟩
        have hd : ds[i]? = some ds[i] := List.getElem?_eq_getElem hlt
        obtain ⟨sm, dm, rv⟩ := cov.yld i μi Hc x H' _ st y hd
        have g3 : Go (lks ++ L) μi Hc μi H' := .same ri sm dm
        have r3 := ri.same sm
        rw [List.drop_eq_getElem_cons hlt] at el
        unfold loopG at el
        cases e1 : t ds[i] (wipeE ρ vs) hh with
        | none => rw [e1] at el; cases el
        | some p =>
          obtain ⟨ρ2, h3⟩ := p
          simp only [e1] at el
          have relw : Rel (ctX X) (lks ++ L) (wipeE ρ vs) (wipe σ vs) μi H' hh := (rel2.wipe (vs := vs)).go (gi.trans g3) r3
          refine ⟨ds[i], wipeE ρ vs, lks ++ L, μi, hh, ρ2, h3, relw, rv, e1, fun σ2 μ3 H3 g4 rel3 b3 => ⟨b3.wipe, ρ2, lks ++ L, μ3, h3, rel3, ?_⟩⟩
          have ga : Go (lks ++ L) μ1 H1 μ3 H3 := gi.trans (g3.trans g4)
          have gb : Go L (μ1 ++ [l]) (L2.upd H1 l (DicO X.w l (0, []))) μ3 H3 := gl.trans (g3.less.trans g4.less)
          cases e2 : conds ρ2 h3 with
          | none => simp only [e2] at el; cases el
          | some p =>
            cases p with
            | ex c fs ρ3 => simp only [e2] at el; cases el
            | ok c h4 =>
              intro μ4 H4 g5 r5
              cases c with
              | false =>
                simp only [e2] at el
                refine iteF ?_
                exact ⟨hlt, μ4, _, ga.trans g5, gb.trans g5.less, r5, el⟩
              | true =>
                refine iteT ?_
                simp only [e2] at el
                refine ⟨ρ2, lks ++ L, μ4, h4, rel3.go g5 r5, ?_⟩
                cases e3 : mk ρ2 h4 with
                | none => simp only [e3] at el; cases el
                | some p =>
                  cases p with
                  | ex c fs ρ4 => simp only [e3] at el; cases el
                  | ok kd h5 =>
                    simp only [e3] at el
                    intro μ5 H5 g6 r6 yk ryk
                    refine ⟨ρ2, lks ++ L, μ5, h5, (rel3.go g5 r5).go g6 r6, ?_⟩
                    cases e6 : mv ρ2 h5 with
                    | none => simp only [e6] at el; cases el
                    | some p =>
                      cases p with
                      | ex c fs ρ5 => simp only [e6] at el; cases el
                      | ok xd h6 =>
                        simp only [e6] at el
                        intro μ6 H6 g7 r7 v rv6
                        have gb6 := ((gb.trans g5.less).trans g6.less).trans g7.less
                        have m6 : μ6[h1.n]? = some l := gb6.at_ ml
                        cases e7 : putDc h6 h1.n kd xd with
                        | none => simp only [e7] at el; cases el
                        | some h7 =>
                          simp only [e7] at el
                          unfold putDc at e7
                          split at e7
                          · rename_i n0 k0 v0 eg
                            have rc : RepV (ctX X) μ6 H6 (.box h1.n) (.ref l) := ⟨l, rfl, m6⟩
                            have rk : RepV (ctX X) μ6 H6 kd yk := ryk.go r6 g7
                            rcases put_ok r7 rc rk rv6 e7 (Q := fun H' => i + 1 ≤ ds.length ∧ ∃ μi hi, Go (lks ++ L) μ1 H1 μi H' ∧ Go L (μ1 ++ [l]) (L2.upd H1 l (DicO X.w l (0, []))) μi H' ∧ HR (ctX X) (lks ++ L) μi H' hi ∧ loopG h1.n t conds mk mv (wipeE ρ vs) (ds.drop (i + 1)) hi = some hf)
                              (fun μ' H' g r => ⟨hlt, μ', h7, ((ga.trans g5).trans (g6.trans g7)).trans g, gb6.trans g.less, r, el⟩) with z | z
                            · exfalso
                              obtain ⟨a, vs', j, ix, ea, _, eh, _⟩ := z
                              cases ea
                              obtain ⟨a2, ea2, _, ob⟩ := r7.dctO rc eg
                              cases ea2
                              obtain ⟨es, eD, _⟩ := ob
                              rw [eh] at eD
                              cases eD
                            · exact z
                          · cases e7
      · have e : i = ds.length := by omega
        subst e
        rw [List.drop_length] at el
        unfold loopG at el
        cases el
        refine .inl ⟨cov.stop _ μi Hc st rfl, ?_⟩
        have q2 : ∀ x, RepV (ctX X) μi Hc (.box h1.n) x → Q x Hc := q1 μi Hc ((show Go L μ1 H1 (μ1 ++ [l]) _ from g2).trans gl) (ri.relk (L' := L))
        exact q2 (.ref l) ⟨l, rfl, gl.at_ ml⟩
theorem e_dcG {kx vx tg iter : Expr} {ifs : List Expr} {scope : Scope} {own : List (Str × Nat)} {pos : Pos} {mi : M (List D × List Nat)} {t : TM} {mc : M Bool} {mk mv : M D} {vs : List Nat} (hu : X.A.units + 65 < cLine) (hc : X.calm = true) (hN : X.N.Nodup) (ok : BlkOk X.N X.env.scope scope own) (hvs : own.map (fun x : Str × Nat => x.2) = vs)
    (hi : PI X tg iter (rdI X W mi))
    (hg : ∀ (s : Shared) (H : Hp) (C : Addr) (cl : List (Str × Addr)) (fp : List Addr), PG (X.blk s H scope (compEnvC scope cl C X.env) fp) tg (rdTg (X.blk s H scope (compEnvC scope cl C X.env) fp) t vs))
    (ht : ∀ (s : Shared) (H : Hp) (C : Addr) (cl : List (Str × Addr)) (fp : List Addr), PTs (X.blk s H scope (compEnvC scope cl C X.env) fp) ifs (rdT (X.blk s H scope (compEnvC scope cl C X.env) fp) WF mc))
    (hk : ∀ (s : Shared) (H : Hp) (C : Addr) (cl : List (Str × Addr)) (fp : List Addr), PE (X.blk s H scope (compEnvC scope cl C X.env) fp) kx (rd (X.blk s H scope (compEnvC scope cl C X.env) fp) WF mk))
    (he : ∀ (s : Shared) (H : Hp) (C : Addr) (cl : List (Str × Addr)) (fp : List Addr), PE (X.blk s H scope (compEnvC scope cl C X.env) fp) vx (rd (X.blk s H scope (compEnvC scope cl C X.env) fp) WF mv))
    (hs : ∀ x, foldedSetIterable iter X.env x = pure x := by intro _; rfl) :
    PE X (.DictComp kx vx [⟨tg, iter, ifs, 0⟩] scope pos) (rd X W (mDcG mi t mc mk mv vs)) := by
  subst hvs
  exact pe_imp (pe_dcG (g := rdTg X t (own.map (fun x : Str × Nat => x.2))) (tt := rdT X WF mc) (tk := rd X WF mk) (tv := rd X WF mv) hu hc hN hi ok hg ht hk he hs) fun σ H Q h => rd_dcG h
theorem s_setDcG {i : Nat} {y : Str} {py : Pos} {kx vx tg iter : Expr} {ifs : List Expr} {scope : Scope} {own : List (Str × Nat)} {pos spos : Pos} {mi : M (List D × List Nat)} {t : TM} {mc : M Bool} {mk mv : M D} {vs : List Nat} (hu : X.A.units + 65 < cLine) (hc : X.calm = true) (hN : X.N.Nodup) (hy : X.N[i]? = some y) (hyl : X.env.scope.names.lookup y = some .local)
    (hsw : swapsWith (.DictComp kx vx [⟨tg, iter, ifs, 0⟩] scope pos) (some (.Name y py)) spos.line X.env = pure true) (ok : BlkOk X.N X.env.scope scope own) (hvs : own.map (fun x : Str × Nat => x.2) = vs)
    (hi : PI X tg iter (rdI X W mi))
    (hg : ∀ (s : Shared) (H : Hp) (C : Addr) (cl : List (Str × Addr)) (fp : List Addr), PG (X.blk s H scope (compEnvC scope cl C X.env) fp) tg (rdTg (X.blk s H scope (compEnvC scope cl C X.env) fp) t vs))
    (ht : ∀ (s : Shared) (H : Hp) (C : Addr) (cl : List (Str × Addr)) (fp : List Addr), PTs (X.blk s H scope (compEnvC scope cl C X.env) fp) ifs (rdT (X.blk s H scope (compEnvC scope cl C X.env) fp) WF mc))
    (hk : ∀ (s : Shared) (H : Hp) (C : Addr) (cl : List (Str × Addr)) (fp : List Addr), PE (X.blk s H scope (compEnvC scope cl C X.env) fp) kx (rd (X.blk s H scope (compEnvC scope cl C X.env) fp) WF mk))
    (he : ∀ (s : Shared) (H : Hp) (C : Addr) (cl : List (Str × Addr)) (fp : List Addr), PE (X.blk s H scope (compEnvC scope cl C X.env) fp) vx (rd (X.blk s H scope (compEnvC scope cl C X.env) fp) WF mv))
    (hs : ∀ x, foldedSetIterable iter X.env x = pure x := by intro _; rfl) :
    PS X (.Assign [.Name y py] (.DictComp kx vx [⟨tg, iter, ifs, 0⟩] scope pos) spos) (rdS X W (mSet i (mDcG mi t mc mk mv vs))) := by
  subst hvs
  refine ps_imp (ps_setDcG (i := i) (g := rdTg X t (own.map (fun x : Str × Nat => x.2))) (tt := rdT X WF mc) (tk := rd X WF mk) (tv := rd X WF mv) hu hc hN hy hyl hsw hi ok hg ht hk he hs) fun D σ H q => rd_dcG ?_
  exact rdG_imp (rdS_bind q) fun ρ L d h1 μ1 H1 ⟨rel1, q1⟩ v rv => q1 _ μ1 H1 .refl (rel1.set rv)
end
end Rh

set_option Elab.async false
set_option linter.all false
set_option maxRecDepth 100000
set_option maxHeartbeats 2000000
set_option autoImplicit false
namespace Rh
open PySem PySem.Spec PyProof.Rows L2
/-! ### a zip whose tuples are kept -/
section
variable {prog : Program} {w : World} {A : Around} {E : Value → Shared → Prop} {s : Shared} {z TI TO T i1 i2 : Addr} {fp1 fp2 : List Addr} {n1 n2 i : Nat} {P1 P2 : Nat → Value → Prop} {St1 St2 : Nat → Heap → Prop} {f : Bool} {oT : Obj}
theorem zipH_item {Q : Value → Shared → Prop} (sp : ZipSep2 z TI TO i1 i2 fp1 fp2) (da : Draws prog w A i1 fp1 n1 P1 St1) (db : Draws prog w A i2 fp2 n2 P2 St2) (zz : PySem.IsZipHeld s.heap z TI TO T f) (tt : s.heap.get? T = some oT) (ti : IsTupOf2 s.heap TI (.ref i1) (.ref i2))
    (sa : St1 i s.heap) (sb : St2 i s.heap) (la : i < n1) (lb : i < n2)
    (k : ∀ x1 x2 h' tk, P1 i x1 → P2 i x2 → PySem.IsZipHeld h' z TI TO T true → St1 (i + 1) h' → St2 (i + 1) h' → IsTupOf2 h' s.heap.objs.size x1 x2 → h'.objs.size = s.heap.objs.size + 1 →
      (∀ c o, c ≠ z → c ≠ i1 → c ≠ i2 → s.heap.get? c = some o → h'.get? c = some o) → Q (.ref s.heap.objs.size) { s with heap := h', toks := tk }) :
    wpAny (model prog w) A (Builtin.«zip.__next__» ⟨[.ref z], []⟩) (fun fin s' => ∃ v, fin = .done (.ret v) ∧ Q v s') E s := by
  obtain ⟨hp, gn, dr, tk0, os⟩ := s
  show wpAny _ _ (field (.ref z) 2 >>= _) _ _ _
  refine wpAny_bind (wpAny_field zz rfl (x := .bool false) rfl ?_)
  show wpAny _ _ (field (.ref z) 3 >>= _) _ _ _
  refine wpAny_bind (wpAny_field zz rfl (x := .ref TI) rfl (wpAny_bind (wpAny_seqItems ti rfl ?_)))
  show wpAny _ _ (Builtin.SmallTypes.ownedTupleIsFree (.ref z) >>= _) _ _ _
  refine wpAny_bind (PySem.wpAny_tupleHeld_zip zz tt fun g0 z0 k0 => ?_)
  replace k0 : Heap.SameBut z hp g0 := k0
  replace z0 : PySem.IsZipHeld g0 z TI TO T true := z0
  simp only [Bool.false_eq_true, if_false]
  refine wpAny_bind ?_
  rw [← Array.forIn_toList]
  simp only [List.forIn_cons, List.forIn_nil]
  refine wpAny_bind (wpAny_bind (wpAny_holding ?_))
  show wpAny _ _ (Builtin.SmallTypes.nextOf (.ref i1) >>= _) _ _ ⟨g0, gn, dr, tk0, os⟩
  refine wpAny_bind (da.item i _ _ _ la (da.over sa k0 sp.zf1) fun x1 p1 tk1 hx1 n1 k1 => wpAny_pure (wpAny_pure ?_))
  replace k1 : Heap.SameBut i1 g0 p1 := k1
  refine wpAny_bind (wpAny_bind (wpAny_holding ?_))
  show wpAny _ _ (Builtin.SmallTypes.nextOf (.ref i2) >>= _) _ _ ⟨p1, gn, dr, tk1, os⟩
  refine wpAny_bind (db.item i _ _ _ lb (db.over (db.over sb k0 sp.zf2) k1 sp.sep1_2) fun x2 p2 tk2 hx2 n2 k2 => wpAny_pure (wpAny_pure (wpAny_pure ?_)))
  replace k2 : Heap.SameBut i2 p1 p2 := k2
  show wpAny _ _ (newTuple [x1, x2] >>= _) _ _ _
  refine wpAny_bind (wpAny_newTuple (wpAny_pure ⟨_, rfl, ?_⟩))
  have sz : p2.objs.size = hp.objs.size := by rw [k2.1, k1.1, k0.1]
  have old : ∀ c o, c ≠ z → c ≠ i1 → c ≠ i2 → hp.get? c = some o → (p2.push { cls := .type "tuple", data := .seq #[x1, x2] }).get? c = some o := fun c o h1 h2 h3 e =>
    Heap.get?_push_of_some _ (k2.extBut _ _ h3 (k1.extBut _ _ h2 (k0.extBut _ _ h1 e)))
  have up : ∀ c o, p2.get? c = some o → (p2.push { cls := .type "tuple", data := .seq #[x1, x2] }).get? c = some o := fun c o e => Heap.get?_push_of_some _ e
  show Q (.ref p2.objs.size) ⟨p2.push { cls := .type "tuple", data := .seq #[x1, x2] }, gn, dr, tk2, os⟩
  have tup : IsTupOf2 (p2.push { cls := .type "tuple", data := .seq #[x1, x2] }) p2.objs.size x1 x2 := Heap.get?_push_size _ rfl
  have size2 : (p2.push { cls := .type "tuple", data := .seq #[x1, x2] }).objs.size = p2.objs.size + 1 := Heap.size_push ..
  rw [sz] at tup size2 ⊢
  refine k x1 x2 _ tk2 hx1 hx2 (up _ _ (k2.extBut _ _ sp.zi2 (k1.extBut _ _ sp.zi1 z0))) ?_ ?_ tup size2 old
  · exact da.frame _ _ _ (da.over n1 k2 sp.sep2_1) fun b _ o e => up b o e
  · exact db.frame _ _ _ n2 fun b _ o e => up b o e
theorem zipH_end {Q : PySem.Fin → Shared → Prop} (sp : ZipSep2 z TI TO i1 i2 fp1 fp2) (da : Draws prog w A i1 fp1 n1 P1 St1) (db : Draws prog w A i2 fp2 n2 P2 St2) (zz : PySem.IsZipHeld s.heap z TI TO T f) (tt : s.heap.get? T = some oT) (ti : IsTupOf2 s.heap TI (.ref i1) (.ref i2))
    (sa : St1 i s.heap) (sb : St2 i s.heap) (la : i ≤ n1) (lb : i ≤ n2) (over : i = n1 ∨ i = n2)
    (k : ∀ h' tk e, (∀ c o, c ≠ z → c ≠ i1 → c ≠ i2 → s.heap.get? c = some o → h'.get? c = some o) → (∃ o, h'.get? e = some o ∧ o.cls = .type "StopIteration") → E (.ref e) { s with heap := h', toks := tk }) :
    wpAny (model prog w) A (Builtin.«zip.__next__» ⟨[.ref z], []⟩) Q E s := by
  obtain ⟨hp, gn, dr, tk0, os⟩ := s
  show wpAny _ _ (field (.ref z) 2 >>= _) _ _ _
  refine wpAny_bind (wpAny_field zz rfl (x := .bool false) rfl ?_)
  show wpAny _ _ (field (.ref z) 3 >>= _) _ _ _
  refine wpAny_bind (wpAny_field zz rfl (x := .ref TI) rfl (wpAny_bind (wpAny_seqItems ti rfl ?_)))
  show wpAny _ _ (Builtin.SmallTypes.ownedTupleIsFree (.ref z) >>= _) _ _ _
  refine wpAny_bind (PySem.wpAny_tupleHeld_zip zz tt fun g0 z0 k0 => ?_)
  replace k0 : Heap.SameBut z hp g0 := k0
  simp only [Bool.false_eq_true, if_false]
  refine wpAny_bind ?_
  rw [← Array.forIn_toList]
  simp only [List.forIn_cons, List.forIn_nil]
  refine wpAny_bind (wpAny_bind (wpAny_holding ?_))
  show wpAny _ _ (Builtin.SmallTypes.nextOf (.ref i1) >>= _) _ _ ⟨g0, gn, dr, tk0, os⟩
  by_cases lt : i < n1
  · refine wpAny_bind (da.item i _ _ _ lt (da.over sa k0 sp.zf1) fun x1 p1 tk1 hx1 m1 k1 => wpAny_pure (wpAny_pure ?_))
    replace k1 : Heap.SameBut i1 g0 p1 := k1
    refine wpAny_bind (wpAny_bind (wpAny_holding ?_))
    show wpAny _ _ (Builtin.SmallTypes.nextOf (.ref i2) >>= _) _ _ ⟨p1, gn, dr, tk1, os⟩
    have e2 : i = n2 := by omega
    refine wpAny_bind (db.done ⟨p1, gn, dr, tk1, os⟩ _ _ (by rw [← e2]; exact db.over (db.over sb k0 sp.zf2) k1 sp.sep1_2) fun q e kq he => ?_)
    replace kq : Heap.ExtBut i2 p1 q := kq
    exact k q tk1 e (fun c o h1 h2 h3 x => kq _ _ h3 (k1.extBut _ _ h2 (k0.extBut _ _ h1 x))) he
  · have e1 : i = n1 := by omega
    refine wpAny_bind (da.done ⟨g0, gn, dr, tk0, os⟩ _ _ (by rw [← e1]; exact da.over sa k0 sp.zf1) fun q e kq he => ?_)
    replace kq : Heap.ExtBut i1 g0 q := kq
    exact k q tk0 e (fun c o h1 h2 h3 x => kq _ _ h2 (k0.extBut _ _ h1 x)) he
theorem ne_lo {T z lo : Addr} (h : lo < T) (l : z ≤ lo) : T ≠ z := Nat.ne_of_gt (Nat.lt_of_le_of_lt l h)
/-- the zip between two turns, its last tuple (above lo) still there -/
def ZSt (h : Heap) (z TI TO lo : Addr) : Prop := IsZip h z TI TO .none ∨ ∃ T f oT, PySem.IsZipHeld h z TI TO T f ∧ h.get? T = some oT ∧ lo < T
theorem z_item {lo : Addr} {Q : Option Value → Shared → Prop} (sp : ZipSep2 z TI TO i1 i2 fp1 fp2) (da : Draws prog w A.in1 i1 fp1 n1 P1 St1) (db : Draws prog w A.in1 i2 fp2 n2 P2 St2) (zz : ZSt s.heap z TI TO lo) (hlo : lo < s.heap.objs.size) (l1 : z ≤ lo) (l2 : TO ≤ lo) (l3 : i1 ≤ lo) (l4 : i2 ≤ lo)
    (ti : IsTupOf2 s.heap TI (.ref i1) (.ref i2)) (to : ∃ a b, IsTupOf2 s.heap TO a b) (sa : St1 i s.heap) (sb : St2 i s.heap) (la : i < n1) (lb : i < n2)
    (k : ∀ x1 x2 h' tk, P1 i x1 → P2 i x2 → ZSt h' z TI TO lo → (∃ a b, IsTupOf2 h' TO a b) → St1 (i + 1) h' → St2 (i + 1) h' → IsTupOf2 h' s.heap.objs.size x1 x2 → h'.objs.size = s.heap.objs.size + 1 →
      (∀ c o, c ≠ z → c ≠ TO → c ≠ i1 → c ≠ i2 → s.heap.get? c = some o → h'.get? c = some o) → Q (some (.ref s.heap.objs.size)) { s with heap := h', toks := tk }) : wpAny (model prog w) A (pyNext (.ref z)) Q E s := by
  obtain ⟨ta, tb, to⟩ := to
  rcases zz with zz | ⟨T, f, oT, zz, tt, hT⟩
  · exact wpAny_pyNext_zipD2_item sp da db zz ti to sa sb la lb fun x1 x2 h' tk y1 y2 b1 b2 d1 d2 b5 b6 b7 => k x1 x2 h' tk y1 y2 (.inr ⟨s.heap.objs.size, false, _, b1, b5, hlo⟩) ⟨_, _, b2⟩ d1 d2 b5 b6 b7
  · have ty : s.TypeIs (.ref z) "zip" := ⟨_, zz, rfl⟩
    unfold pyNext
    refine wpAny_bind (wpAny_attempt (wpAny_callSpecial?_slot (name := Str.ofString "__next__") ty F.slot_zip_next (wpAny_call_entry F.slot_zip_next ty F.entry_zip_next
      (zipH_item sp da db zz tt ti sa sb la lb fun x1 x2 h' tk y1 y2 b1 d1 d2 b5 b6 b7 => wpAny_pure ?_) (F.args_zip_next_1 _))))
    exact k x1 x2 h' tk y1 y2 (.inr ⟨T, true, oT, b1, b7 _ _ (ne_lo hT l1) (ne_lo hT l3) (ne_lo hT l4) tt, hT⟩) ⟨ta, tb, b7 _ _ sp.TOz sp.Ti1 sp.Ti2 to⟩ d1 d2 b5 b6 fun c o c1 _ c3 c4 e => b7 c o c1 c3 c4 e
theorem z_end {lo : Addr} {Q : Option Value → Shared → Prop} (sp : ZipSep2 z TI TO i1 i2 fp1 fp2) (da : Draws prog w A.in1 i1 fp1 n1 P1 St1) (db : Draws prog w A.in1 i2 fp2 n2 P2 St2) (zz : ZSt s.heap z TI TO lo)
    (ti : IsTupOf2 s.heap TI (.ref i1) (.ref i2)) (to : ∃ a b, IsTupOf2 s.heap TO a b) (sa : St1 i s.heap) (sb : St2 i s.heap) (la : i ≤ n1) (lb : i ≤ n2) (over : i = n1 ∨ i = n2)
    (k : ∀ h' tk, (∀ c o, c ≠ z → c ≠ TO → c ≠ i1 → c ≠ i2 → s.heap.get? c = some o → h'.get? c = some o) → Q none { s with heap := h', toks := tk }) : wpAny (model prog w) A (pyNext (.ref z)) Q E s := by
  obtain ⟨ta, tb, to⟩ := to
  rcases zz with zz | ⟨T, f, oT, zz, tt, hT⟩
  · exact wpAny_pyNext_zipD2_end sp da db zz ti to sa sb la lb over k
  · have ty : s.TypeIs (.ref z) "zip" := ⟨_, zz, rfl⟩
    unfold pyNext
    refine wpAny_bind (wpAny_attempt (wpAny_callSpecial?_slot (name := Str.ofString "__next__") ty F.slot_zip_next (wpAny_call_entry F.slot_zip_next ty F.entry_zip_next
      (zipH_end sp da db zz tt ti sa sb la lb over fun h' tk e kk he => ?_) (F.args_zip_next_1 _))))
    obtain ⟨o, ho, hc⟩ := he
    refine wpAny_bind (wpAny_isInstance (T := "StopIteration") (b := true) ⟨o, ho, hc⟩ isSubtype_stop ?_)
    exact wpAny_pure (k _ _ fun c o h1 _ h3 h4 x => kk c o h1 h3 h4 x)
end
/-- the tuples that were handed out -/
structure ZGot (xs ys : List Value) (lo : Addr) (h : Heap) (as : List Addr) : Prop where
  rise : as.Pairwise (· < ·)
  above : ∀ a ∈ as, lo < a
  tup : ∀ (j : Nat) (a : Addr), as[j]? = some a → ∃ x y, xs[j]? = some x ∧ ys[j]? = some y ∧ IsTupOf2 h a x y
theorem ZGot.there {xs ys : List Value} {lo : Addr} {h : Heap} {as : List Addr} (g : ZGot xs ys lo h as) {a : Addr} (m : a ∈ as) : a < h.objs.size := by
  obtain ⟨j, e⟩ := List.mem_iff_getElem?.mp m
  obtain ⟨_, _, _, _, q⟩ := g.tup j a e
  exact Heap.lt_size q
section
variable {prog : Program} {w : World} {A : Around} {s : Shared} {R : Result → Shared → Prop} {z TI TO i1 i2 S lo : Addr} {fp1 fp2 : List Addr} {xs ys : List Value} {St1 St2 : Nat → Heap → Prop}
theorem z_loop (sp : ZipSep2 z TI TO i1 i2 fp1 fp2) (da : Draws prog w A.in1.in1 i1 fp1 xs.length (fun i v => xs[i]? = some v) St1) (db : Draws prog w A.in1.in1 i2 fp2 ys.length (fun i v => ys[i]? = some v) St2) (l1 : z ≤ lo) (l2 : TO ≤ lo) (l3 : i1 ≤ lo) (l4 : i2 ≤ lo) (l5 : S ≤ lo) (l6 : TI ≤ lo)
    (nz : S ≠ z) (nO : S ≠ TO) (nI : S ≠ TI) (n1 : S ∉ fp1) (n2 : S ∉ fp2) (hn : min xs.length ys.length ≤ sizeLine) (res : Value) {hb : Heap}
    (fin : ∀ h' tk acc c as, (∀ b o, b ≠ S → b ≠ z → b ≠ TO → b ≠ i1 → b ≠ i2 → hb.get? b = some o → h'.get? b = some o) → h'.get? S = some { cls := .type "list", dict := none, data := .seq acc c, slots := #[] } → as.length = min xs.length ys.length → ZGot xs ys lo h' as →
      acc.toList = as.map Value.ref → R (.ok (.ret res)) { s with heap := h', toks := tk }) :
    ∀ (m i : Nat) (h : Heap) (tk c : Nat) (acc : Array Value) (as : List Addr), min xs.length ys.length - i = m → i ≤ min xs.length ys.length → ZSt h z TI TO lo → IsTupOf2 h TI (.ref i1) (.ref i2) → (∃ a b, IsTupOf2 h TO a b) → St1 i h → St2 i h →
      (∀ b o, b ≠ S → b ≠ z → b ≠ TO → b ≠ i1 → b ≠ i2 → hb.get? b = some o → h.get? b = some o) → h.get? S = some { cls := .type "list", dict := none, data := .seq acc c, slots := #[] } → acc.toList = as.map Value.ref → as.length = i → ZGot xs ys lo h as → lo < h.objs.size →
      codeAny (model prog w) A (.builtin "list.extend.loop" ⟨[.ref S, .ref z, res], []⟩) R { s with heap := h, toks := tk } := by
  have m1 : S ≠ i1 := fun e => n1 (e ▸ sp.mem1)
  have m2 : S ≠ i2 := fun e => n2 (e ▸ sp.mem2)
  intro m
  induction m with
  | zero =>
    intro i h tk c acc as hm hi zz ti to sa sb kp hS ha al g hlo
    refine codeAny_builtin F.entry_extend_loop ?_
    rw [Around.under_plainId F.plain_extend_loop _]
    show wpAny _ A.in1 (pyNext (.ref z) >>= _) _ _ _
    refine wpAny_bind (z_end (s := { s with heap := h, toks := tk }) sp da db zz ti to sa sb (by omega) (by omega) (by omega) fun h' tk' kk => ?_)
    dsimp only at kk
    refine wpAny_pure (fin h' tk' acc c as (fun b o h1 h2 h3 h4 h5 e => kk b o h2 h3 h4 h5 (kp b o h1 h2 h3 h4 h5 e)) (kk _ _ nz nO m1 m2 hS) (by omega) ⟨g.rise, g.above, fun j a ej => ?_⟩ ha)
    obtain ⟨x, y, q1, q2, q3⟩ := g.tup j a ej
    have := g.above a (List.mem_of_getElem? ej)
    exact ⟨x, y, q1, q2, kk _ _ (ne_lo this l1) (ne_lo this l2) (ne_lo this l3) (ne_lo this l4) q3⟩
  | succ m ih =>
    intro i h tk c acc as hm hi zz ti to sa sb kp hS ha al g hlo
    have sz : acc.size = i := by rw [← Array.length_toList, ha, List.length_map, al]
    refine codeAny_builtin F.entry_extend_loop ?_
    rw [Around.under_plainId F.plain_extend_loop _]
    show wpAny _ A.in1 (pyNext (.ref z) >>= _) _ _ _
    refine wpAny_bind (z_item (s := { s with heap := h, toks := tk }) sp da db zz hlo l1 l2 l3 l4 ti to sa sb (by omega) (by omega) fun x y h' tk' ex ey zz' to' sa' sb' tp sz' kk => ?_)
    dsimp only at tp sz' kk ⊢
    have hS' := kk _ _ nz nO m1 m2 hS
    have sl : S < h.objs.size := Heap.lt_size hS
    have up : ∀ b o, b ≠ S → h'.get? b = some o → (h'.update S (Obj.mapSeq (·.push (Value.ref h.objs.size)))).get? b = some o := fun b o e q => (Heap.get?_update_other _ _ (Ne.symm e)).trans q
    show wpAny _ A.in1 (updateSeq S (·.push (Value.ref h.objs.size)) >>= _) _ _ _
    refine wpAny_bind (wpAny_updateSeq hS' rfl (wpAny_pure ⟨plainId_quiet F.plain_extend_loop _, ih (i + 1) _ tk' _ (acc.push (Value.ref h.objs.size)) (as ++ [h.objs.size]) (by omega) (by omega) ?_ (up _ _ (Ne.symm nI) (kk _ _ sp.TIz sp.TITO sp.TIi1 sp.TIi2 ti)) ?_ ?_ ?_
      (fun b o h1 h2 h3 h4 h5 e => up b o h1 (kk b o h2 h3 h4 h5 (kp b o h1 h2 h3 h4 h5 e))) (Heap.get?_update_self _ hS' rfl) (by rw [Array.toList_push, ha, List.map_append]; rfl) (by rw [List.length_append, al]; rfl) ⟨?_, ?_, ?_⟩ ?_⟩) (by rw [sz]; omega) (by show (acc.push (Value.ref h.objs.size)).size ≤ sizeLine + 1; rw [Array.size_push, sz]; omega))
    · rcases zz' with q | ⟨T, f, oT, q1, q2, q3⟩
      · exact .inl (up _ _ (Ne.symm nz) q)
      · exact .inr ⟨T, f, oT, up _ _ (Ne.symm nz) q1, up _ _ (ne_lo q3 l5) q2, q3⟩
    · obtain ⟨p, q, e⟩ := to'
      exact ⟨p, q, up _ _ (Ne.symm nO) e⟩
    · exact da.frame _ _ _ sa' fun b mb o e => up b o (fun q => n1 (q ▸ mb)) e
    · exact db.frame _ _ _ sb' fun b mb o e => up b o (fun q => n2 (q ▸ mb)) e
    · refine List.pairwise_append.mpr ⟨g.rise, List.pairwise_singleton _ _, fun a ma b mb => ?_⟩
      rw [List.mem_singleton.mp mb]
      exact g.there ma
    · intro a ma
      rcases List.mem_append.mp ma with ma | ma
      · exact g.above a ma
      · rw [List.mem_singleton.mp ma]; exact hlo
    · intro j b ej
      rcases Nat.lt_trichotomy j as.length with q | q | q
      · rw [List.getElem?_append_left q] at ej
        obtain ⟨x', y', q1, q2, q3⟩ := g.tup j b ej
        have := g.above b (List.mem_of_getElem? ej)
        exact ⟨x', y', q1, q2, up b _ (ne_lo this l5) (kk _ _ (ne_lo this l1) (ne_lo this l2) (ne_lo this l3) (ne_lo this l4) q3)⟩
      · subst q
        have e : h.objs.size = b := by simpa using ej
        subst e
        exact ⟨x, y, by rw [al]; exact ex, by rw [al]; exact ey, up _ _ (Nat.ne_of_gt sl) tp⟩
      · rw [List.getElem?_eq_none (by rw [List.length_append, List.length_singleton]; omega)] at ej
        cases ej
    · have e : (h'.update S (Obj.mapSeq (·.push (Value.ref h.objs.size)))).get? h.objs.size = _ := up _ _ (Nat.ne_of_gt sl) tp
      exact Nat.lt_trans hlo (Heap.lt_size e)
end
theorem zip_nolen : typeLookup (.type "zip") "__len__" = pure none := am_miss_of_fast (by decide +kernel)
theorem zip_nohint : typeLookup (.type "zip") "__length_hint__" = pure none := am_miss_of_fast (by decide +kernel)
section
variable {prog : Program} {w : World} {A : Around} {E : Value → Shared → Prop} {s : Shared} {R : Result → Shared → Prop} {z TI TO i1 i2 S : Addr} {fp1 fp2 : List Addr} {xs ys : List Value} {St1 St2 : Nat → Heap → Prop} {ta tb : Value}
/-- the list S, empty, gets all of the zip -/
theorem z_extend (sp : ZipSep2 z TI TO i1 i2 fp1 fp2) (da : Draws prog w A.in1.in1 i1 fp1 xs.length (fun i v => xs[i]? = some v) St1) (db : Draws prog w A.in1.in1 i2 fp2 ys.length (fun i v => ys[i]? = some v) St2)
    (zz : IsZip s.heap z TI TO .none) (ti : IsTupOf2 s.heap TI (.ref i1) (.ref i2)) (to : IsTupOf2 s.heap TO ta tb) (sa : St1 0 s.heap) (sb : St2 0 s.heap) (nz : S ≠ z) (nO : S ≠ TO) (nI : S ≠ TI) (n1 : S ∉ fp1) (n2 : S ∉ fp2) (hn : min xs.length ys.length ≤ sizeLine) (res : Value) (c0 : Nat)
    (hS : s.heap.get? S = some { cls := .type "list", data := .seq #[] c0 })
    (fin : ∀ h' tk acc c as, (∀ b o, b ≠ S → b ≠ z → b ≠ TO → b ≠ i1 → b ≠ i2 → s.heap.get? b = some o → h'.get? b = some o) → h'.get? S = some { cls := .type "list", dict := none, data := .seq acc c, slots := #[] } → as.length = min xs.length ys.length → ZGot xs ys (s.heap.objs.size - 1) h' as →
      acc.toList = as.map Value.ref → R (.ok (.ret res)) { s with heap := h', toks := tk }) :
    wpAny (model prog w) A.in1 (Builtin.List.listExtendWith (.ref S) (.ref z) res)
      (fun fn s' => match fn with | .done f => R (.ok f) s' | .again c' => c'.quiet = true ∧ codeAny (model prog w) A c' R s') (fun e s' => R (.error e) s') s := by
  have ty : s.TypeIs (.ref z) "zip" := ⟨_, zz, rfl⟩
  have lz : z < s.heap.objs.size := Heap.lt_size zz
  have lS : S < s.heap.objs.size := Heap.lt_size hS
  obtain ⟨o1, e1⟩ := da.live _ _ sa
  obtain ⟨o2, e2⟩ := db.live _ _ sb
  have below : ∀ {a : Addr}, a < s.heap.objs.size → a ≤ s.heap.objs.size - 1 := fun h => Nat.le_sub_one_of_lt h
  unfold Builtin.List.listExtendWith
  refine wpAny_bind (wpAny_typeOf ty ?_)
  simp only [show Builtin.List.listSameRef (.ref S) (.ref z) = false by simp [Builtin.List.listSameRef, nz], show (Value.type "zip" == Value.type "list") = false by decide, show (Value.type "zip" == Value.type "tuple") = false by decide, Bool.or_false, Bool.false_eq_true, if_false]
  refine wpAny_bind (wpAny_pyIter_zip zz (wpAny_bind (wpAny_holding ?_)))
  unfold Builtin.List.listLengthHint
  refine wpAny_bind (wpAny_specialOf ty zip_nolen ?_)
  show wpAny _ A.in1 (specialOf (Value.ref z) (Str.ofString "__length_hint__") >>= _) _ _ _
  refine wpAny_bind (wpAny_specialOf ty zip_nohint (wpAny_pure ?_))
  show wpAny _ A.in1 (rule "list.extend.makes-room" >>= fun _ => Builtin.List.listTouch (.ref S) >>= fun _ => again (.builtin "list.extend.loop" ⟨[.ref S, .ref z, res], []⟩)) _ _ _
  refine wpAny_bind (wpAny_rule (wpAny_bind ?_))
  show wpAny _ A.in1 (updateSeq S (·.push .none) >>= fun _ => updateSeq S (·.pop)) _ _ _
  refine wpAny_bind (wpAny_updateSeq hS rfl ?_)
  have hS2 := Heap.get?_update_self (Obj.mapSeq (·.push Value.none)) hS rfl
  refine wpAny_updateSeq (hz := by seq_fits) hS2 rfl ?_
  have hS3 := Heap.get?_update_self (Obj.mapSeq (·.pop)) hS2 rfl
  have oth : ∀ b o, b ≠ S → s.heap.get? b = some o → ((s.heap.update S (Obj.mapSeq (·.push Value.none))).update S (Obj.mapSeq (·.pop))).get? b = some o := fun b o hb e =>
    (Heap.get?_update_other _ _ (Ne.symm hb)).trans ((Heap.get?_update_other _ _ (Ne.symm hb)).trans e)
  refine wpAny_pure ⟨plainId_quiet F.plain_extend_loop _, z_loop (lo := s.heap.objs.size - 1) (hb := s.heap) (s := s) sp da db (below lz) (below (Heap.lt_size to)) (below (Heap.lt_size e1)) (below (Heap.lt_size e2)) (below lS) (below (Heap.lt_size ti)) nz nO nI n1 n2 hn res (fun h' tk acc c as k1 k2 k3 k4 k5 => fin h' tk acc c as k1 k2 k3 k4 k5)
    (min xs.length ys.length) 0 _ s.toks _ #[] [] (Nat.sub_zero _) (Nat.zero_le _) (.inl (oth _ _ (Ne.symm nz) zz)) (oth _ _ (Ne.symm nI) ti) ⟨ta, tb, oth _ _ (Ne.symm nO) to⟩ (da.frame _ _ _ sa fun b mb o e => oth b o (fun q => n1 (q ▸ mb)) e) (db.frame _ _ _ sb fun b mb o e => oth b o (fun q => n2 (q ▸ mb)) e)
    (fun b o h1 _ _ _ _ e => oth b o h1 e) hS3 rfl rfl ⟨List.Pairwise.nil, (fun _ m => nomatch m), fun j a e => by simp at e⟩ ?_⟩
  have := Heap.lt_size (oth _ _ (Ne.symm nz) zz)
  rw [Heap.size_update, Heap.size_update] at this ⊢
  exact Nat.sub_lt (Nat.lt_of_le_of_lt (Nat.zero_le _) this) Nat.one_pos
end
section
variable {prog : Program} {w : World} {A : Around} {E : Value → Shared → Prop} {s : Shared} {z TI TO i1 i2 : Addr} {fp1 fp2 : List Addr} {xs ys : List Value} {St1 St2 : Nat → Heap → Prop} {ta tb : Value}
/-- list(zip) -/
theorem z_call {Q : Value → Shared → Prop} (sp : ZipSep2 z TI TO i1 i2 fp1 fp2) (da : ∀ A' : Around, A'.handled = A.handled → Draws prog w A' i1 fp1 xs.length (fun i v => xs[i]? = some v) St1) (db : ∀ A' : Around, A'.handled = A.handled → Draws prog w A' i2 fp2 ys.length (fun i v => ys[i]? = some v) St2)
    (zz : IsZip s.heap z TI TO .none) (ti : IsTupOf2 s.heap TI (.ref i1) (.ref i2)) (to : IsTupOf2 s.heap TO ta tb) (sa : St1 0 s.heap) (sb : St2 0 s.heap) (l1 : ∀ b ∈ fp1, b < s.heap.objs.size) (l2 : ∀ b ∈ fp2, b < s.heap.objs.size) (hn : min xs.length ys.length ≤ sizeLine)
    (fin : ∀ h' tk acc c as, (∀ b o, b ≠ z → b ≠ TO → b ≠ i1 → b ≠ i2 → s.heap.get? b = some o → h'.get? b = some o) → h'.get? s.heap.objs.size = some { cls := .type "list", dict := none, data := .seq acc c, slots := #[] } → as.length = min xs.length ys.length →
      ZGot xs ys s.heap.objs.size h' as → acc.toList = as.map Value.ref → Q (.ref s.heap.objs.size) { s with heap := h', toks := tk }) :
    wpAny (model prog w) A (call (.type "list") [.ref z]) Q E s := by
  refine callType_codes (Q₁ := fun obj t => obj = .ref s.heap.objs.size ∧ t = { s with heap := s.heap.push { cls := .type "list", data := .seq #[] } }) PySem.F.called_list (PySem.F.typeCall_list_1 _) PySem.F.entry_list_init (code_list_new _ ⟨rfl, rfl⟩) fun obj t h1 => ?_
  obtain ⟨rfl, rfl⟩ := h1
  have hS : (s.heap.push { cls := .type "list", data := .seq #[] }).get? s.heap.objs.size = some { cls := .type "list", data := .seq #[] } := Heap.get?_push_size _ rfl
  have old : ∀ b o, s.heap.get? b = some o → (s.heap.push { cls := .type "list", data := .seq #[] }).get? b = some o := fun b o e => Heap.get?_push_of_some _ e
  have ne : ∀ {b : Addr}, b < s.heap.objs.size → s.heap.objs.size ≠ b := fun h => Nat.ne_of_gt h
  refine ⟨⟨_, hS, rfl⟩, PySem.F.args_list_init_2 _ _, ?_⟩
  show wpAny _ _ (do let had ← Builtin.List.listItems (.ref s.heap.objs.size); Builtin.List.listUpdate (.ref s.heap.objs.size) (fun _ => #[]); letGo had.toList.reverse; Builtin.List.listExtendWith (.ref s.heap.objs.size) (.ref z) .none) _ _ _
  refine wpAny_bind ?_
  unfold Builtin.List.listItems
  refine wpAny_bind (wpAny_seqItems hS rfl (wpAny_pure ?_))
  show wpAny _ _ (updateSeq s.heap.objs.size (fun _ => #[]) >>= fun _ => letGo (#[] : Array Value).toList.reverse >>= fun _ => Builtin.List.listExtendWith (.ref s.heap.objs.size) (.ref z) .none) _ _ _
  refine wpAny_bind (wpAny_updateSeq hS rfl ?_)
  have hS2 := Heap.get?_update_self (Obj.mapSeq (fun _ => (#[] : Array Value))) hS rfl
  have oth : ∀ b o, s.heap.get? b = some o → ((s.heap.push { cls := .type "list", data := .seq #[] }).update s.heap.objs.size (Obj.mapSeq (fun _ => (#[] : Array Value)))).get? b = some o := fun b o e =>
    (Heap.get?_update_other _ _ (ne (Heap.lt_size e))).trans (old b o e)
  refine wpAny_bind (wpAny_letGo ?_)
  have sz : ((s.heap.push { cls := .type "list", data := .seq #[] }).update s.heap.objs.size (Obj.mapSeq (fun _ => (#[] : Array Value)))).objs.size = s.heap.objs.size + 1 := by rw [Heap.size_update, Heap.size_push]
  refine z_extend (A := A.in1) sp (da _ rfl) (db _ rfl) (oth _ _ zz) (oth _ _ ti) (oth _ _ to) ((da A rfl).frame _ _ _ sa fun b _ o e => oth b o e) ((db A rfl).frame _ _ _ sb fun b _ o e => oth b o e) (ne (Heap.lt_size zz)) (ne (Heap.lt_size to)) (ne (Heap.lt_size ti)) (fun m => Nat.lt_irrefl _ (l1 _ m)) (fun m => Nat.lt_irrefl _ (l2 _ m)) hn .none _ hS2
    fun h' tk acc c as k1 k2 k3 k4 k5 => ⟨rfl, fin h' tk acc c as (fun b o h1 h2 h3 h4 e => k1 b o (Nat.ne_of_lt (Heap.lt_size e)) h1 h2 h3 h4 (oth b o e)) k2 k3 ?_ k5⟩
  rw [sz] at k4
  exact k4
end
end Rh

set_option Elab.async false
set_option linter.all false
set_option maxRecDepth 100000
set_option maxHeartbeats 2000000
set_option autoImplicit false
namespace Rh
open PySem PySem.Spec PyProof.Rows L2
/-! ### list(zip(a, b)) -/
def putP : Hp → List Addr → List (V × V) → Hp
  | H, a :: as, p :: ps => upd (putP H as ps) a (.tup [p.1, p.2])
  | H, _, _ => H
theorem putP_off {b : Addr} : ∀ (as : List Addr) (ps : List (V × V)) (H : Hp), b ∉ as → putP H as ps b = H b
  | [], _, _, _ => rfl
  | a :: as, [], _, _ => rfl
  | a :: as, p :: ps, H, n => by
    show upd (putP H as ps) a _ b = H b
    have hne : b ≠ a := fun z => n (by rw [z]; exact List.mem_cons_self)
    rw [upd_ne hne, putP_off as ps H fun m => n (List.mem_cons_of_mem _ m)]
theorem putP_at : ∀ (as : List Addr) (ps : List (V × V)) (H : Hp) (j : Nat) (a : Addr) (p : V × V), as.Nodup → as[j]? = some a → ps[j]? = some p → putP H as ps a = some (.tup [p.1, p.2])
  | [], _, _, _, _, _, _, e, _ => by simp at e
  | a :: as, [], _, _, _, _, _, _, e => by simp at e
  | a :: as, p :: ps, H, 0, b, q, _, e1, e2 => by
    simp at e1 e2
    subst e1 e2
    exact upd_same
  | a :: as, p :: ps, H, j + 1, b, q, nd, e1, e2 => by
    have e1 : as[j]? = some b := by simpa using e1
    show upd (putP H as ps) a _ b = _
    have hne : b ≠ a := fun z => (List.nodup_cons.mp nd).1 (by rw [← z]; exact List.mem_of_getElem? e1)
    rw [upd_ne hne]
    exact putP_at as ps H j b q (List.nodup_cons.mp nd).2 e1 (by simpa using e2)
theorem vals_of_addr : ∀ as : List Addr, Vals (as.map V.ref) (as.map Value.ref)
  | [] => .nil
  | _ :: as => .cons rfl (vals_of_addr as)
section
variable {X : Cx}
/-- the list l of the pairs as, of xs and ys -/
structure ZMade (H1 H' : Hp) (l : Addr) (as : List Addr) (xs ys : List V) : Prop where
  old : ∀ b o, H1 b = some o → H' b = some o
  dom : ∀ b, H' b = none → H1 b = none
  new : H1 l = none
  lst : H' l = some (.lst (as.map V.ref))
  len : as.length = min xs.length ys.length
  tup : ∀ (j : Nat) (t : Addr), as[j]? = some t → ∃ x y, xs[j]? = some x ∧ ys[j]? = some y ∧ H' t = some (.tup [x, y])
theorem zip_laid {pins : List (Addr × Obj)} {σ : L2.St} {H : Hp} {s : Shared} {h' : Heap} {tk : Nat} {xs ys : List V} {vs us : List Value} {acc : Array Value} {c : Nat} {as : List Addr} {l : Addr} (I : L2.Inv X pins σ H s) (hz : min xs.length ys.length ≤ sizeLine) (rx : Vals xs vs) (ry : Vals ys us)
    (hk : ∀ b o, s.heap.get? b = some o → h'.get? b = some o) (hl : s.heap.objs.size ≤ l) (hS : h'.get? l = some { cls := .type "list", dict := none, data := .seq acc c, slots := #[] }) (al : as.length = min vs.length us.length) (g : ZGot vs us l h' as) (ha : acc.toList = as.map Value.ref) :
    ∃ H', ZMade H H' l as xs ys ∧ L2.Inv X pins σ H' { s with heap := h', toks := tk } := by
  have lx : xs.length = vs.length := rx.length
  have ly : ys.length = us.length := ry.length
  have nd : as.Nodup := List.Pairwise.imp (fun {a b} (h : a < b) => Nat.ne_of_lt h) g.rise
  have nl : l ∉ as := fun m => Nat.lt_irrefl _ (g.above _ m)
  have new : ∀ t ∈ as, H t = none := fun t m => I.hok.fresh (Nat.le_trans hl (Nat.le_of_lt (g.above t m)))
  have newl : H l = none := I.hok.fresh hl
  have off : ∀ b, b ∉ as → b ≠ l → putP (upd H l (.lst (as.map V.ref))) as (xs.zip ys) b = H b := fun b h1 h2 => by rw [putP_off as _ _ h1, upd_ne h2]
  have el : putP (upd H l (.lst (as.map V.ref))) as (xs.zip ys) l = some (.lst (as.map V.ref)) := by rw [putP_off as _ _ nl, upd_same]
  have low : ∀ b o, s.heap.get? b = some o → b ∉ as ∧ b ≠ l := fun b o e => ⟨fun m => absurd (Heap.lt_size e) (Nat.not_lt.mpr (Nat.le_trans hl (Nat.le_of_lt (g.above b m)))), Nat.ne_of_lt (Nat.lt_of_lt_of_le (Heap.lt_size e) hl)⟩
  have kp : ∀ b u, H b = some u → putP (upd H l (.lst (as.map V.ref))) as (xs.zip ys) b = some u := fun b u e => by
    rw [off b (fun m => by rw [new b m] at e; cases e) (fun z => by rw [z, newl] at e; cases e)]
    exact e
  have tup : ∀ (j : Nat) (t : Addr), as[j]? = some t → ∃ x y u v, xs[j]? = some x ∧ ys[j]? = some y ∧ vs[j]? = some u ∧ us[j]? = some v ∧ RelV x u ∧ RelV y v ∧ putP (upd H l (.lst (as.map V.ref))) as (xs.zip ys) t = some (.tup [x, y]) ∧ IsTupOf2 h' t u v := fun j t e => by
    obtain ⟨u, v, e1, e2, e3⟩ := g.tup j t e
    have jx : j < xs.length := by rw [lx]; exact (List.getElem?_eq_some_iff.mp e1).1
    have jy : j < ys.length := by rw [ly]; exact (List.getElem?_eq_some_iff.mp e2).1
    obtain ⟨u', eu, ru⟩ := rx.get (List.getElem?_eq_getElem jx)
    obtain ⟨v', ev, rv⟩ := ry.get (List.getElem?_eq_getElem jy)
    rw [e1] at eu; cases eu
    rw [e2] at ev; cases ev
    refine ⟨xs[j], ys[j], u, v, List.getElem?_eq_getElem jx, List.getElem?_eq_getElem jy, e1, e2, ru, rv, ?_, e3⟩
    exact putP_at as (xs.zip ys) _ j t (xs[j], ys[j]) nd e (by rw [List.getElem?_zip_eq_some]; exact ⟨List.getElem?_eq_getElem jx, List.getElem?_eq_getElem jy⟩)
  refine ⟨putP (upd H l (.lst (as.map V.ref))) as (xs.zip ys), ⟨kp, fun b e => ?_, newl, el, by omega, fun j t e => ?_⟩, ?_⟩
  · cases q : H b with
    | none => rfl
    | some u => rw [kp b u q] at e; cases e
  · obtain ⟨x, y, u, v, e1, e2, _, _, _, _, e3, _⟩ := tup j t e
    exact ⟨x, y, e1, e2, e3⟩
  · refine I.call' (ch := []) rfl ⟨fun b o q _ _ _ => hk b o q, fun b o q _ _ _ => ⟨o.slots, hk b o q⟩, fun b o q n _ => ?_, fun b o q _ => ⟨o, hk b o q⟩, fun b xs q => kp b _ q, fun b o u q => kp b _ q, fun b ps q => ⟨#[], by rw [kp b _ q]; simp⟩⟩ (fun b u q => ?_) I.bare fun b z => by simp at z
    · rw [off b (low b o q).1 (low b o q).2]
      exact n
    · by_cases hb : b ∈ as
      · obtain ⟨j, ej⟩ := List.mem_iff_getElem?.mp hb
        obtain ⟨x, y, u', v', _, _, _, _, r1, r2, e3, e4⟩ := tup j b ej
        rw [e3] at q
        cases q
        exact ⟨by show 2 ≤ sizeLine; decide, [u', v'], .cons r1 (.cons r2 .nil), ⟨_, e4, rfl, _, rfl⟩⟩
      · by_cases hb2 : b = l
        · rw [hb2] at q ⊢
          rw [el] at q
          cases q
          refine ⟨by rw [List.length_map]; omega, acc.toList, c, by rw [ha]; exact vals_of_addr as, ?_⟩
          rw [Array.toArray_toList]
          exact hS
        · rw [off b hb hb2] at q
          exact (I.hok b u q).stay (fun d v _ y => hk d v y) (fun d y => kp d _ y) fun d xs y => kp d _ y
def tListZip (X : Cx) (ta : TA) : TE := fun σ H Q => ta σ H fun vs H1 => ∃ t1 a t2 b xs ys, vs = [.ref a, .ref b] ∧ SqB X.K t1 H1 a xs ∧ SqB X.K t2 H1 b ys ∧ ∀ H' l as, ZMade H1 H' l as xs ys → Q (.ref l) H'
theorem pe_listZip [Tbs] {e e2 : Expr} {ta : TA} {p pz pos posz : Pos} (hc : X.calm = true) (hgl : Gl X "list") (hml : X.mg "list" = none) (hv : bootBuiltins "list" = some (.type "list")) (hg : Gl X "zip") (hm : X.mg "zip" = none) (ha : PA X [e, e2] ta)
    (ho : starEach [.Call (.Name "zip" pz) [e, e2] [] posz] X.env = (false, eval (.Call (.Name "zip" pz) [e, e2] [] posz) X.env) :: starEach [] X.env := by rfl)
    (hs : starEach [e, e2] X.env = (false, eval e X.env) :: starEach [e2] X.env := by rfl) (hpl : (backTo posz (starEach [e2] X.env)).any (·.1) = false := by rfl) :
    PE X (.Call (.Name "list" p) [.Call (.Name "zip" pz) [e, e2] [] posz] [] pos) (tListZip X ta) := by
  refine ⟨fun pins s σ H Q I h => ?_⟩
  refine wpAny_Call_Name_kw (ld_blt I hgl hml hv ?_)
  refine PyProof.Rows.callWith_type1 ?_ ho rfl
  rw [ho]
  show wpAny _ _ (spliced ((false, eval (.Call (.Name "zip" pz) [e, e2] [] posz) X.env) :: backTo pos (starEach [] X.env))) _ _ s
  refine Calls.spliced_cons ?_
  refine Call_ (ld_blt I hg hm PyProof.Rows.boot_zip (PyProof.Rows.callWith_type1 (thn (ha.run posz pins s σ H _ I h) fun us s1 ⟨vs, H1, I1, r1, q1⟩ => ?_) hs hpl))
  obtain ⟨t1, a, t2, b, xs, ys, ex, hqx, hqy, q⟩ := q1
  subst ex
  cases r1 with
  | cons r rr =>
    cases rr with
    | cons r' rr =>
      cases rr
      cases r
      cases r'
      obtain ⟨vs, rv, p1, z1⟩ := sqB_ok I1 hqx
      obtain ⟨us, rv2, p2, z2⟩ := sqB_ok I1 hqy
      have la := hpB_lt p1
      have lb := hpB_lt p2
      refine zip_begins2 (beginsB t1 a vs.toArray) (beginsB t2 b us.toArray) p1 p2 fun h' hz hTI hTO h1 h2 hsz hk => ?_
      refine Calls.spliced_nil ?_
      have D : ZipSep2 (s1.heap.objs.size + 4) (s1.heap.objs.size + 2) (s1.heap.objs.size + 3) s1.heap.objs.size (s1.heap.objs.size + 1) [s1.heap.objs.size, a] [s1.heap.objs.size + 1, b] :=
        zip_sep2 (fun c hc => by rw [List.mem_singleton.mp hc]; exact la) (fun c hc => by rw [List.mem_singleton.mp hc]; exact lb)
      have hh := I1.ok.hd hc
      have keepB : ∀ (t : Bool) (c : Addr) (its : List Value), HpB t s1.heap c its.toArray → HpB t h' c its.toArray := fun t c its x => by
        cases t
        · obtain ⟨o, e, r⟩ := x; exact ⟨o, hk _ _ e, r⟩
        · obtain ⟨o, e, r⟩ := x; exact ⟨o, hk _ _ e, r⟩
      have bound : ∀ (c : Addr), c < s1.heap.objs.size + 5 → c < h'.objs.size := fun c hc => by rw [hsz]; exact hc
      refine z_call (s := { s1 with heap := h' }) (xs := vs) (ys := us) (St1 := fun i h => ItAt t1 h s1.heap.objs.size a i ∧ HpB t1 h a vs.toArray) (St2 := fun i h => ItAt t2 h (s1.heap.objs.size + 1) b i ∧ HpB t2 h b us.toArray) D (fun A' hA => ?_) (fun A' hA => ?_) hz hTI hTO ⟨itAt_new h1, keepB t1 a vs p1⟩ ⟨itAt_new h2, keepB t2 b us p2⟩ (fun c hc => bound c ?_) (fun c hc => bound c ?_) (by rw [← rv.length, ← rv2.length]; omega) fun g tk acc c as k1 k2 k3 k4 k5 => ?_
      · have d := drawsB (prog := X.prog) (w := X.w) (A := A') (hA.trans hh) t1 s1.heap.objs.size a (Nat.ne_of_lt la) vs.toArray
        simpa using d
      · have d := drawsB (prog := X.prog) (w := X.w) (A := A') (hA.trans hh) t2 (s1.heap.objs.size + 1) b (Nat.ne_of_lt (Nat.lt_succ_of_lt lb)) us.toArray
        simpa using d
      · rcases List.mem_cons.mp hc with e | hc
        · rw [e]; exact Nat.lt_add_of_pos_right (by decide)
        · rw [List.mem_singleton.mp hc]; exact Nat.lt_of_lt_of_le la (Nat.le_add_right _ _)
      · rcases List.mem_cons.mp hc with e | hc
        · rw [e]; exact Nat.add_lt_add_left (by decide) _
        · rw [List.mem_singleton.mp hc]; exact Nat.lt_of_lt_of_le lb (Nat.le_add_right _ _)
      · have old : ∀ b o, s1.heap.get? b = some o → g.get? b = some o := fun b o e => by
          have lt := Heap.lt_size e
          exact k1 b o (Nat.ne_of_lt (Nat.lt_of_lt_of_le lt (Nat.le_add_right _ _))) (Nat.ne_of_lt (Nat.lt_of_lt_of_le lt (Nat.le_add_right _ _))) (Nat.ne_of_lt lt) (Nat.ne_of_lt (Nat.lt_of_lt_of_le lt (Nat.le_add_right _ _))) (hk b o e)
        obtain ⟨H', made, J⟩ := zip_laid (tk := tk) (l := h'.objs.size) I1 (by omega) rv rv2 old (by rw [hsz]; exact Nat.le_add_right _ _) k2 k3 k4 k5
        exact ⟨.ref _, H', J, rfl, q H' _ as made⟩
end
def mListZip (ms : M (List D)) : M D := mBind ms fun ds => fun _ h => match ds with
  | [d1, d2] => (match itD h d1, itD h d2 with
    | some (xs, _), some (ys, _) => (Nv.n (.lst (zipD xs ys))).lift h
    | _, _ => none)
  | _ => none
section
variable [Tbs] {X : Cx} {W : WX}
theorem rep_zip {C : Ct} {μ μ' : Mu} {H H' : Hp} (s : Stay μ H μ' H') : ∀ {ds es : List D} {xs ys : List V} {as : List Addr}, RepL C μ H ds xs → RepL C μ H es ys → as.length = min xs.length ys.length → (∀ (j : Nat) (t : Addr), as[j]? = some t → ∃ x y, xs[j]? = some x ∧ ys[j]? = some y ∧ H' t = some (.tup [x, y])) → RepL C μ' H' (zipD ds es) (as.map V.ref)
  | [], es, xs, ys, as, h1, h2, hl, _ => by
    rw [show xs = [] from h1] at hl
    have : as = [] := List.length_eq_zero_iff.mp (by simpa using hl)
    subst this
    exact rfl
  | d :: ds, [], xs, ys, as, h1, h2, hl, _ => by
    rw [show ys = [] from h2] at hl
    have : as = [] := List.length_eq_zero_iff.mp (by simpa using hl)
    subst this
    exact rfl
  | d :: ds, e :: es, _, _, [], ⟨x, xs, ex, h1, r1⟩, ⟨y, ys, ey, h2, r2⟩, hl, k => by subst ex ey; simp at hl
  | d :: ds, e :: es, _, _, t :: as, ⟨x, xs, ex, h1, r1⟩, ⟨y, ys, ey, h2, r2⟩, hl, k => by
    subst ex ey
    obtain ⟨x', y', e1, e2, e3⟩ := k 0 t rfl
    cases (show some x = some x' from e1)
    cases (show some y = some y' from e2)
    refine ⟨.ref t, as.map V.ref, rfl, ⟨t, [x, y], rfl, .inl e3, x, [y], rfl, h1.stay s, y, [], rfl, h2.stay s, rfl⟩, ?_⟩
    refine rep_zip s r1 r2 (by simp at hl; omega) fun j t' ej => ?_
    obtain ⟨a, b, q1, q2, q3⟩ := k (j + 1) t' (by simpa using ej)
    exact ⟨a, b, by simpa using q1, by simpa using q2, q3⟩
theorem e_listZip {e e2 : Expr} {ms : M (List D)} {p pz pos posz : Pos} (hc : X.calm = true) (hgl : Gl X "list") (hml : X.mg "list" = none) (hv : bootBuiltins "list" = some (.type "list")) (hg : Gl X "zip") (hm : X.mg "zip" = none) (ha : PA X [e, e2] (rdA X W ms))
    (ho : starEach [.Call (.Name "zip" pz) [e, e2] [] posz] X.env = (false, eval (.Call (.Name "zip" pz) [e, e2] [] posz) X.env) :: starEach [] X.env := by rfl)
    (hs : starEach [e, e2] X.env = (false, eval e X.env) :: starEach [e2] X.env := by rfl) (hpl : (backTo posz (starEach [e2] X.env)).any (·.1) = false := by rfl) :
    PE X (.Call (.Name "list" p) [.Call (.Name "zip" pz) [e, e2] [] posz] [] pos) (rd X W (mListZip ms)) := by
  refine pe_imp (pe_listZip hc hgl hml hv hg hm ha ho hs hpl) fun σ H Q ⟨ρ, L, μ, h, rel, q⟩ => ?_
  refine ⟨ρ, L, μ, h, rel, (q.bind rel).imp fun ds h1 μ1 H1 g1 _ ⟨_, rel1, q1⟩ vs rs => ?_⟩
  split at q1
  · rename_i d1 d2
    split at q1
    · rename_i xs l1 ys l2 e1 e2
      obtain ⟨x, y, rfl, hx, hy⟩ := rs.two
      obtain ⟨t1, a, va, rfl, s1, r1⟩ := itD_ok rel1.hr hx e1
      obtain ⟨t2, b, vb, rfl, s2, r2⟩ := itD_ok rel1.hr hy e2
      obtain ⟨m, em, want⟩ := Sat.lift (n := some (.n (.lst (zipD xs ys)))) rel1.hr q1
      cases em
      refine ⟨t1, a, t2, b, va, vb, rfl, s1.sq, s2.sq, fun H' l as md => want (.ref l) H' md.old md.dom ⟨l, rfl, md.new, fun r => ⟨as.map V.ref, md.lst, ?_⟩⟩⟩
      exact rep_zip (stay_more md.old) r1 r2 md.len md.tup
    · exact q1.none
  · exact q1.none
end
end Rh

set_option Elab.async false
set_option linter.all false
set_option maxRecDepth 100000
set_option maxHeartbeats 2000000
set_option autoImplicit false
namespace Rh
open PySem PySem.Spec PyProof.Rows L2
/-! ### 0 if len(script) == 0 else int(abs(script[0])) % m -/
def IsScr (h : Hs) (sc : D) (ns : List Int) : Prop := sc = .scr (ns.map .int) ∨ ∃ b0, sc = .box b0 ∧ h.get b0 = some (.lst (ns.map .int))
theorem IsScr.nl {h : Hs} {sc : D} {ns : List Int} (s : IsScr h sc ns) : sc ≠ .lm := by
  rcases s with rfl | ⟨_, rfl, _⟩ <;> exact fun z => nomatch z
theorem IsScr.lst {h : Hs} {sc : D} {ns : List Int} (s : IsScr h sc ns) : lstD h sc = some (ns.map .int) := by
  rcases s with rfl | ⟨b, rfl, e⟩
  · rfl
  · unfold lstD; simp only [e]
theorem IsScr.len {h : Hs} {sc : D} {ns : List Int} (s : IsScr h sc ns) : dLenA h [sc] = some (.v (.int ns.length)) := by
  have e : dLen h [sc] = some (.v (.int ns.length)) := by
    unfold dLen
    have q : seqD h sc = some (ns.map .int) := by
      rcases s with rfl | ⟨b, rfl, e⟩
      · rfl
      · unfold seqD lstD; simp only [e]
    simp only [q, Option.map_some, List.length_map]
  unfold dLenA
  simp only [e]
theorem IsScr.ix [Tbs] {h : Hs} {sc : D} {z : Int} {ns : List Int} (s : IsScr h sc (z :: ns)) : dIx h sc (.int 0) = some (.v (.int z)) := by
  have e1 : dIxT h sc (.int 0) = none := by rcases s with rfl | ⟨b, rfl, e⟩ <;> rfl
  have e2 : dIxL h sc (.int 0) = some (.v (.int z)) := by
    unfold dIxL
    have q : lstD h sc = some (D.int z :: ns.map .int) := s.lst
    simp only [q]
    rw [atI_zero]; rfl
  unfold dIx
  simp only [e1, e2]
section
variable [Tbs]
abbrev mTurn (m : Int) : M D := mIf (mB (mOp2 (dEqA false) (mOpA dLenA (mCons (mVar 0) mNil)) (mCon (.int 0)))) (mCon (.int 0)) (mOp2 dMod (mOpA dInt1 (mCons (mOpA dAbs (mCons (mOp2 dIx (mVar 0) (mCon (.int 0))) mNil)) mNil)) (mCon (.int m)))
theorem turn_ok {m : Int} (hm : 0 < m) {ns : List Int} {sc : D} {h : Hs} {ρ : En} (s : IsScr h sc ns) (e : ρ[0]? = some (some sc)) : ∃ t, mTurn m ρ h = some (.ok (.int t) h) := by
  have v := mVar_ok (h := h) e s.nl
  have c := mB_ok (mOp2_ok (mOpA1_ok v s.len) mCon_ok (dEqA_ints h (ns.length : Int) 0))
  cases ns with
  | nil => exact ⟨0, (mIf_ok c).trans rfl⟩
  | cons z r =>
    have el : mOp2 dMod (mOpA dInt1 (mCons (mOpA dAbs (mCons (mOp2 dIx (mVar 0) (mCon (.int 0))) mNil)) mNil)) (mCon (.int m)) ρ h = some (.ok (.int ((if z < 0 then -z else z) % m)) h) :=
      mOp2_ok (mOpA1_ok (mOpA1_ok (mOp2_ok v mCon_ok s.ix) rfl) rfl) mCon_ok (dMod_int hm)
    cases k : PyData.eqv (.int ((z :: r).length : Int)) (.int 0) with
    | true => rw [k] at c; exact ⟨0, (mIf_ok c).trans rfl⟩
    | false => rw [k] at c; exact ⟨_, (mIf_ok c).trans el⟩
end
end Rh

set_option Elab.async false
set_option linter.all false
set_option maxRecDepth 100000
set_option maxHeartbeats 4000000
set_option autoImplicit false
namespace Gn
open PySem PySem.Spec PyProof.Rows L2 Rh
variable [Tbs]

theorem bt_list : bootBuiltins (PySem.Str.ofString "list") = some (.type "list") := by first | rfl | decide +kernel | with_unfolding_all rfl
theorem bt_tuple : bootBuiltins (PySem.Str.ofString "tuple") = some (.type "tuple") := by first | rfl | decide +kernel | with_unfolding_all rfl
theorem bt_int : bootBuiltins (PySem.Str.ofString "int") = some (.type "int") := by first | rfl | decide +kernel | with_unfolding_all rfl
theorem bt_bool : bootBuiltins (PySem.Str.ofString "bool") = some (.type "bool") := by first | rfl | decide +kernel | with_unfolding_all rfl
theorem bt_str : bootBuiltins (PySem.Str.ofString "str") = some (.type "str") := by first | rfl | decide +kernel | with_unfolding_all rfl
theorem bt_dict : bootBuiltins (PySem.Str.ofString "dict") = some (.type "dict") := by first | rfl | decide +kernel | with_unfolding_all rfl
theorem bt_abs : bootBuiltins (PySem.Str.ofString "abs") = some (.builtin "abs") := by first | rfl | decide +kernel | with_unfolding_all rfl
theorem bt_all : bootBuiltins (PySem.Str.ofString "all") = some (.builtin "all") := by first | rfl | decide +kernel | with_unfolding_all rfl
theorem bt_any : bootBuiltins (PySem.Str.ofString "any") = some (.builtin "any") := by first | rfl | decide +kernel | with_unfolding_all rfl
theorem bt_sorted : bootBuiltins (PySem.Str.ofString "sorted") = some (.builtin "sorted") := by first | rfl | decide +kernel | with_unfolding_all rfl
theorem bt_isi : bootBuiltins (PySem.Str.ofString "isinstance") = some (.builtin "isinstance") := by first | rfl | decide +kernel | with_unfolding_all rfl
def top (i : Nat) : Stmt := PySem.Challenge.pw_bothroads_k01_words_and_machines_by_hand.main.body.getD i (.Pass ⟨0, 0, 0, 0⟩)
/-- what the top has left -/
structure Txt (P : Program) (w : World) (K : PySem.W.Frag) (mg : Str → Option Value) (a_is_number : Addr) (a_are_numbers_from : Addr) (a_are_places : Addr) (a_is_set_of_places : Addr) (a_is_word : Addr) (a_are_steps : Addr) (a_is_machine : Addr) (a_letters_in : Addr) (a_check_letters : Addr) (a_check_as_many_letters : Addr) (a_state_from : Addr) (a_state_behind : Addr) (a_takes : Addr) (a_first_words : Addr) (a_words_to_states : Addr) (a_numbered : Addr) (a_kinds_of_states : Addr) (a_least : Addr) (a_are_alike : Addr) (a_parting_word_from : Addr) (a_parting_word : Addr) (a__law_same : Addr) (a__law_lists : Addr) (a__law_heard : Addr) (a__law_machines_right : Addr) (a__law_refused_right : Addr) (a__law_lists_right : Addr) (a_law : Addr) (a_NoPlace : Addr) (a_Unfit : Addr) : Prop where
  g_is_number : mg (PySem.Str.ofString "is_number") = some (.ref a_is_number)
  k_is_number : PySem.W.keepIn K (.ref a_is_number) = true
  g_are_numbers_from : mg (PySem.Str.ofString "are_numbers_from") = some (.ref a_are_numbers_from)
  k_are_numbers_from : PySem.W.keepIn K (.ref a_are_numbers_from) = true
  g_are_places : mg (PySem.Str.ofString "are_places") = some (.ref a_are_places)
  k_are_places : PySem.W.keepIn K (.ref a_are_places) = true
  g_is_set_of_places : mg (PySem.Str.ofString "is_set_of_places") = some (.ref a_is_set_of_places)
  k_is_set_of_places : PySem.W.keepIn K (.ref a_is_set_of_places) = true
  g_is_word : mg (PySem.Str.ofString "is_word") = some (.ref a_is_word)
  k_is_word : PySem.W.keepIn K (.ref a_is_word) = true
  g_are_steps : mg (PySem.Str.ofString "are_steps") = some (.ref a_are_steps)
  k_are_steps : PySem.W.keepIn K (.ref a_are_steps) = true
  g_is_machine : mg (PySem.Str.ofString "is_machine") = some (.ref a_is_machine)
  k_is_machine : PySem.W.keepIn K (.ref a_is_machine) = true
  g_letters_in : mg (PySem.Str.ofString "letters_in") = some (.ref a_letters_in)
  k_letters_in : PySem.W.keepIn K (.ref a_letters_in) = true
  g_check_letters : mg (PySem.Str.ofString "check_letters") = some (.ref a_check_letters)
  k_check_letters : PySem.W.keepIn K (.ref a_check_letters) = true
  g_check_as_many_letters : mg (PySem.Str.ofString "check_as_many_letters") = some (.ref a_check_as_many_letters)
  k_check_as_many_letters : PySem.W.keepIn K (.ref a_check_as_many_letters) = true
  g_state_from : mg (PySem.Str.ofString "state_from") = some (.ref a_state_from)
  k_state_from : PySem.W.keepIn K (.ref a_state_from) = true
  g_state_behind : mg (PySem.Str.ofString "state_behind") = some (.ref a_state_behind)
  k_state_behind : PySem.W.keepIn K (.ref a_state_behind) = true
  g_takes : mg (PySem.Str.ofString "takes") = some (.ref a_takes)
  k_takes : PySem.W.keepIn K (.ref a_takes) = true
  g_first_words : mg (PySem.Str.ofString "first_words") = some (.ref a_first_words)
  k_first_words : PySem.W.keepIn K (.ref a_first_words) = true
  g_words_to_states : mg (PySem.Str.ofString "words_to_states") = some (.ref a_words_to_states)
  k_words_to_states : PySem.W.keepIn K (.ref a_words_to_states) = true
  g_numbered : mg (PySem.Str.ofString "numbered") = some (.ref a_numbered)
  k_numbered : PySem.W.keepIn K (.ref a_numbered) = true
  g_kinds_of_states : mg (PySem.Str.ofString "kinds_of_states") = some (.ref a_kinds_of_states)
  k_kinds_of_states : PySem.W.keepIn K (.ref a_kinds_of_states) = true
  g_least : mg (PySem.Str.ofString "least") = some (.ref a_least)
  k_least : PySem.W.keepIn K (.ref a_least) = true
  g_are_alike : mg (PySem.Str.ofString "are_alike") = some (.ref a_are_alike)
  k_are_alike : PySem.W.keepIn K (.ref a_are_alike) = true
  g_parting_word_from : mg (PySem.Str.ofString "parting_word_from") = some (.ref a_parting_word_from)
  k_parting_word_from : PySem.W.keepIn K (.ref a_parting_word_from) = true
  g_parting_word : mg (PySem.Str.ofString "parting_word") = some (.ref a_parting_word)
  k_parting_word : PySem.W.keepIn K (.ref a_parting_word) = true
  g__law_same : mg (PySem.Str.ofString "_law_same") = some (.ref a__law_same)
  k__law_same : PySem.W.keepIn K (.ref a__law_same) = true
  g__law_lists : mg (PySem.Str.ofString "_law_lists") = some (.ref a__law_lists)
  k__law_lists : PySem.W.keepIn K (.ref a__law_lists) = true
  g__law_heard : mg (PySem.Str.ofString "_law_heard") = some (.ref a__law_heard)
  k__law_heard : PySem.W.keepIn K (.ref a__law_heard) = true
  g__law_machines_right : mg (PySem.Str.ofString "_law_machines_right") = some (.ref a__law_machines_right)
  k__law_machines_right : PySem.W.keepIn K (.ref a__law_machines_right) = true
  g__law_refused_right : mg (PySem.Str.ofString "_law_refused_right") = some (.ref a__law_refused_right)
  k__law_refused_right : PySem.W.keepIn K (.ref a__law_refused_right) = true
  g__law_lists_right : mg (PySem.Str.ofString "_law_lists_right") = some (.ref a__law_lists_right)
  k__law_lists_right : PySem.W.keepIn K (.ref a__law_lists_right) = true
  g_law : mg (PySem.Str.ofString "law") = some (.ref a_law)
  k_law : PySem.W.keepIn K (.ref a_law) = true
  n_abs : mg (PySem.Str.ofString "abs") = none
  n_all : mg (PySem.Str.ofString "all") = none
  n_bool : mg (PySem.Str.ofString "bool") = none
  n_enumerate : mg (PySem.Str.ofString "enumerate") = none
  n_int : mg (PySem.Str.ofString "int") = none
  n_isinstance : mg (PySem.Str.ofString "isinstance") = none
  n_len : mg (PySem.Str.ofString "len") = none
  n_list : mg (PySem.Str.ofString "list") = none
  n_str : mg (PySem.Str.ofString "str") = none
  n_tuple : mg (PySem.Str.ofString "tuple") = none
  n_zip : mg (PySem.Str.ofString "zip") = none
  g_NoPlace : mg (PySem.Str.ofString "NoPlace") = some (.ref a_NoPlace)
  k_NoPlace : PySem.W.keepIn K (.ref a_NoPlace) = true
  b_NoPlace : PySem.W.subIn K (.ref a_NoPlace) (.type "BaseException") = some true
  t_NoPlace : PySem.W.typeIn K (.ref a_NoPlace) = some (.type "type")
  m_NoPlace : Mkr P w K a_NoPlace (PySem.Str.ofString "place")
  at_NoPlace : AttrX K a_NoPlace (PySem.Str.ofString "place")
  g_Unfit : mg (PySem.Str.ofString "Unfit") = some (.ref a_Unfit)
  k_Unfit : PySem.W.keepIn K (.ref a_Unfit) = true
  b_Unfit : PySem.W.subIn K (.ref a_Unfit) (.type "BaseException") = some true
  t_Unfit : PySem.W.typeIn K (.ref a_Unfit) = some (.type "type")
  x_Unfit : PySem.W.excIn K a_Unfit [.type "ValueError", .type "Exception", .type "BaseException", .type "object"] "ValueError.__new__" = true
  ek : ExK K mg [(PySem.Str.ofString "NoPlace"), (PySem.Str.ofString "Unfit")]
abbrev st_is_number : Stmt := top 4
abbrev N_is_number : List Str := [(PySem.Str.ofString "thing")]
abbrev ps_is_number : List Str := [(PySem.Str.ofString "thing")]
def m_is_number : MS := (mSeq (mRet (mAndV (mOpA dIsi (mCons (mVar 0) (mCons (mCon (.ty .int)) mNil))) (mNotV (mOpA dIsi (mCons (mVar 0) (mCons (mCon (.ty .bool)) mNil))))))
    mNx)
def f_is_number : FM := runDef N_is_number.length m_is_number
theorem sc_is_number : FnScope N_is_number ps_is_number (defScope st_is_number) := ⟨rfl, rfl, rfl, by decide +kernel, rfl, by decide +kernel, by decide +kernel⟩
abbrev st_are_numbers_from : Stmt := top 5
abbrev N_are_numbers_from : List Str := [(PySem.Str.ofString "thing"), (PySem.Str.ofString "low"), (PySem.Str.ofString "own")]
abbrev ps_are_numbers_from : List Str := [(PySem.Str.ofString "thing"), (PySem.Str.ofString "low")]
def m_are_numbers_from : MS := (mSeq (mRet (mAndV (mOpA dIsi (mCons (mVar 0) (mCons (mCon (.ty .tuple)) mNil))) (mOpA dAll (mCons (mLc (mIter (mVar 0)) (tName 2) (mPure true) (mAndV (mCall f_is_number (mCons (mVar 2) mNil)) (mOp2 dGe (mVar 2) (mVar 1))) [2]) mNil))))
    mNx)
def f_are_numbers_from : FM := runDef N_are_numbers_from.length m_are_numbers_from
theorem sc_are_numbers_from : FnScope N_are_numbers_from ps_are_numbers_from (defScope st_are_numbers_from) := ⟨rfl, rfl, rfl, by decide +kernel, rfl, by decide +kernel, by decide +kernel⟩
abbrev st_are_places : Stmt := top 6
abbrev N_are_places : List Str := [(PySem.Str.ofString "thing"), (PySem.Str.ofString "many"), (PySem.Str.ofString "own")]
abbrev ps_are_places : List Str := [(PySem.Str.ofString "thing"), (PySem.Str.ofString "many")]
def m_are_places : MS := (mSeq (mRet (mAndV (mCall f_are_numbers_from (mCons (mVar 0) (mCons (mCon (.int 0)) mNil))) (mOpA dAll (mCons (mLc (mIter (mVar 0)) (tName 2) (mPure true) (mOp2 dLt (mVar 2) (mVar 1)) [2]) mNil))))
    mNx)
def f_are_places : FM := runDef N_are_places.length m_are_places
theorem sc_are_places : FnScope N_are_places ps_are_places (defScope st_are_places) := ⟨rfl, rfl, rfl, by decide +kernel, rfl, by decide +kernel, by decide +kernel⟩
abbrev st_is_set_of_places : Stmt := top 7
abbrev N_is_set_of_places : List Str := [(PySem.Str.ofString "thing"), (PySem.Str.ofString "many"), (PySem.Str.ofString "low"), (PySem.Str.ofString "high")]
abbrev ps_is_set_of_places : List Str := [(PySem.Str.ofString "thing"), (PySem.Str.ofString "many")]
def m_is_set_of_places : MS := (mSeq (mRet (mAndV (mCall f_are_places (mCons (mVar 0) (mCons (mVar 1) mNil))) (mOpA dAll (mCons (mLc (mZip (mCons (mVar 0) (mCons (mSl (mVar 0) (mPart (mCon (.int 1))) (mPure none)) mNil))) (tTup 2 (tsCons (tName 2) (tsCons (tName 3) tsNil))) (mPure true) (mOp2 dLt (mVar 2) (mVar 3)) [2, 3]) mNil))))
    mNx)
def f_is_set_of_places : FM := runDef N_is_set_of_places.length m_is_set_of_places
theorem sc_is_set_of_places : FnScope N_is_set_of_places ps_is_set_of_places (defScope st_is_set_of_places) := ⟨rfl, rfl, rfl, by decide +kernel, rfl, by decide +kernel, by decide +kernel⟩
abbrev st_is_word : Stmt := top 9
abbrev N_is_word : List Str := [(PySem.Str.ofString "thing")]
abbrev ps_is_word : List Str := [(PySem.Str.ofString "thing")]
def m_is_word : MS := (mSeq (mRet (mCall f_are_numbers_from (mCons (mVar 0) (mCons (mCon (.int 1)) mNil))))
    mNx)
def f_is_word : FM := runDef N_is_word.length m_is_word
theorem sc_is_word : FnScope N_is_word ps_is_word (defScope st_is_word) := ⟨rfl, rfl, rfl, by decide +kernel, rfl, by decide +kernel, by decide +kernel⟩
abbrev st_are_steps : Stmt := top 11
abbrev N_are_steps : List Str := [(PySem.Str.ofString "thing"), (PySem.Str.ofString "row")]
abbrev ps_are_steps : List Str := [(PySem.Str.ofString "thing")]
def m_are_steps : MS := (mSeq (mIfS (mOr (mNot (mTruth (mOpA dIsi (mCons (mVar 0) (mCons (mCon (.ty .tuple)) mNil))))) (mB (mOp2 (dEqA false) (mOpA dLenA (mCons (mVar 0) mNil)) (mCon (.int 0))))) (mSeq (mRet (mCon (.bl false)))
    mNx) mNx)
    (mSeq (mIfS (mNot (mTruth (mOpA dAll (mCons (mLc (mIter (mVar 0)) (tName 1) (mPure true) (mCall f_are_places (mCons (mVar 1) (mCons (mOpA dLenA (mCons (mVar 0) mNil)) mNil))) [1]) mNil)))) (mSeq (mRet (mCon (.bl false)))
    mNx) mNx)
    (mSeq (mRet (mAndV (mOp2 dGt (mOpA dLenA (mCons (mOp2 dIx (mVar 0) (mCon (.int 0))) mNil)) (mCon (.int 0))) (mOpA dAll (mCons (mLc (mIter (mVar 0)) (tName 1) (mPure true) (mOp2 (dEqA false) (mOpA dLenA (mCons (mVar 1) mNil)) (mOpA dLenA (mCons (mOp2 dIx (mVar 0) (mCon (.int 0))) mNil))) [1]) mNil))))
    mNx)))
def f_are_steps : FM := runDef N_are_steps.length m_are_steps
theorem sc_are_steps : FnScope N_are_steps ps_are_steps (defScope st_are_steps) := ⟨rfl, rfl, rfl, by decide +kernel, rfl, by decide +kernel, by decide +kernel⟩
abbrev st_is_machine : Stmt := top 10
abbrev N_is_machine : List Str := [(PySem.Str.ofString "thing"), (PySem.Str.ofString "steps"), (PySem.Str.ofString "ends")]
abbrev ps_is_machine : List Str := [(PySem.Str.ofString "thing")]
def m_is_machine : MS := (mSeq (mIfS (mOr (mNot (mTruth (mOpA dIsi (mCons (mVar 0) (mCons (mCon (.ty .tuple)) mNil))))) (mB (mOp2 (dEqA true) (mOpA dLenA (mCons (mVar 0) mNil)) (mCon (.int 2))))) (mSeq (mRet (mCon (.bl false)))
    mNx) mNx)
    (mSeq (mAsg (tTup 2 (tsCons (tName 1) (tsCons (tName 2) tsNil))) (mVar 0))
    (mSeq (mRet (mAndV (mCall f_are_steps (mCons (mVar 1) mNil)) (mCall f_is_set_of_places (mCons (mVar 2) (mCons (mOpA dLenA (mCons (mVar 1) mNil)) mNil)))))
    mNx)))
def f_is_machine : FM := runDef N_is_machine.length m_is_machine
theorem sc_is_machine : FnScope N_is_machine ps_is_machine (defScope st_is_machine) := ⟨rfl, rfl, rfl, by decide +kernel, rfl, by decide +kernel, by decide +kernel⟩
abbrev st_letters_in : Stmt := top 12
abbrev N_letters_in : List Str := [(PySem.Str.ofString "machine")]
abbrev ps_letters_in : List Str := [(PySem.Str.ofString "machine")]
def m_letters_in : MS := (mSeq (mRet (mOpA dLenA (mCons (mOp2 dIx (mOp2 dIx (mVar 0) (mCon (.int 0))) (mCon (.int 0))) mNil)))
    mNx)
def f_letters_in : FM := runDef N_letters_in.length m_letters_in
theorem sc_letters_in : FnScope N_letters_in ps_letters_in (defScope st_letters_in) := ⟨rfl, rfl, rfl, by decide +kernel, rfl, by decide +kernel, by decide +kernel⟩
abbrev st_check_letters : Stmt := top 13
abbrev N_check_letters : List Str := [(PySem.Str.ofString "machine"), (PySem.Str.ofString "word"), (PySem.Str.ofString "many"), (PySem.Str.ofString "letter")]
abbrev ps_check_letters : List Str := [(PySem.Str.ofString "machine"), (PySem.Str.ofString "word")]
def m_check_letters : MS := (mSeq (mSet 2 (mCall f_letters_in (mCons (mVar 0) mNil)))
    (mSeq (mFor (mIter (mVar 1)) (tName 3) (mSeq (mIfS (mNot (mB (mChain dLe dLe (mCon (.int 1)) (mVar 3) (mVar 2)))) (mSeq (mRaise1 "NoPlace" "place" (mVar 3))
    mNx) mNx)
    mNx))
    mNx))
def f_check_letters : FM := runDef N_check_letters.length m_check_letters
theorem sc_check_letters : FnScope N_check_letters ps_check_letters (defScope st_check_letters) := ⟨rfl, rfl, rfl, by decide +kernel, rfl, by decide +kernel, by decide +kernel⟩
abbrev st_check_as_many_letters : Stmt := top 14
abbrev N_check_as_many_letters : List Str := [(PySem.Str.ofString "one"), (PySem.Str.ofString "other")]
abbrev ps_check_as_many_letters : List Str := [(PySem.Str.ofString "one"), (PySem.Str.ofString "other")]
def m_check_as_many_letters : MS := (mSeq (mIfS (mB (mOp2 (dEqA true) (mCall f_letters_in (mCons (mVar 0) mNil)) (mCall f_letters_in (mCons (mVar 1) mNil)))) (mSeq (mRaise0 "Unfit")
    mNx) mNx)
    mNx)
def f_check_as_many_letters : FM := runDef N_check_as_many_letters.length m_check_as_many_letters
theorem sc_check_as_many_letters : FnScope N_check_as_many_letters ps_check_as_many_letters (defScope st_check_as_many_letters) := ⟨rfl, rfl, rfl, by decide +kernel, rfl, by decide +kernel, by decide +kernel⟩
abbrev st_state_from : Stmt := top 15
abbrev N_state_from : List Str := [(PySem.Str.ofString "machine"), (PySem.Str.ofString "state"), (PySem.Str.ofString "word"), (PySem.Str.ofString "steps"), (PySem.Str.ofString "now"), (PySem.Str.ofString "letter")]
abbrev ps_state_from : List Str := [(PySem.Str.ofString "machine"), (PySem.Str.ofString "state"), (PySem.Str.ofString "word")]
def m_state_from : MS := (mSeq (mSet 3 (mOp2 dIx (mVar 0) (mCon (.int 0))))
    (mSeq (mSet 4 (mVar 1))
    (mSeq (mFor (mIter (mVar 2)) (tName 5) (mSeq (mSet 4 (mOp2 dIx (mOp2 dIx (mVar 3) (mVar 4)) (mOp2 dSub (mVar 5) (mCon (.int 1)))))
    mNx))
    (mSeq (mRet (mVar 4))
    mNx))))
def f_state_from : FM := runDef N_state_from.length m_state_from
theorem sc_state_from : FnScope N_state_from ps_state_from (defScope st_state_from) := ⟨rfl, rfl, rfl, by decide +kernel, rfl, by decide +kernel, by decide +kernel⟩
abbrev st_state_behind : Stmt := top 16
abbrev N_state_behind : List Str := [(PySem.Str.ofString "machine"), (PySem.Str.ofString "word")]
abbrev ps_state_behind : List Str := [(PySem.Str.ofString "machine"), (PySem.Str.ofString "word")]
def m_state_behind : MS := (mSeq (mExpr (mCall f_check_letters (mCons (mVar 0) (mCons (mVar 1) mNil))))
    (mSeq (mRet (mCall f_state_from (mCons (mVar 0) (mCons (mCon (.int 0)) (mCons (mVar 1) mNil)))))
    mNx))
def f_state_behind : FM := runDef N_state_behind.length m_state_behind
theorem sc_state_behind : FnScope N_state_behind ps_state_behind (defScope st_state_behind) := ⟨rfl, rfl, rfl, by decide +kernel, rfl, by decide +kernel, by decide +kernel⟩
abbrev st_takes : Stmt := top 17
abbrev N_takes : List Str := [(PySem.Str.ofString "machine"), (PySem.Str.ofString "word")]
abbrev ps_takes : List Str := [(PySem.Str.ofString "machine"), (PySem.Str.ofString "word")]
def m_takes : MS := (mSeq (mRet (mOp2 (dIn false) (mCall f_state_behind (mCons (mVar 0) (mCons (mVar 1) mNil))) (mOp2 dIx (mVar 0) (mCon (.int 1)))))
    mNx)
def f_takes : FM := runDef N_takes.length m_takes
theorem sc_takes : FnScope N_takes ps_takes (defScope st_takes) := ⟨rfl, rfl, rfl, by decide +kernel, rfl, by decide +kernel, by decide +kernel⟩
abbrev st_first_words : Stmt := top 18
abbrev N_first_words : List Str := [(PySem.Str.ofString "start"), (PySem.Str.ofString "behind"), (PySem.Str.ofString "most"), (PySem.Str.ofString "words"), (PySem.Str.ofString "level"), (PySem.Str.ofString "further"), (PySem.Str.ofString "place"), (PySem.Str.ofString "letter"), (PySem.Str.ofString "to")]
abbrev ps_first_words : List Str := [(PySem.Str.ofString "start"), (PySem.Str.ofString "behind"), (PySem.Str.ofString "most")]
def m_first_words (gm : FM) : MS := (mSeq (mSet 3 (mDict1 (mVar 0) (mTup mNil)))
    (mSeq (mSet 4 (mLst (mCons (mVar 0) mNil)))
    (mSeq (loopW (mAnd (mTruth (mVar 4)) (mB (mOp2 dLe (mOpA dLenA (mCons (mVar 3) mNil)) (mVar 2)))) (mSeq (mSet 5 (mLst mNil))
    (mSeq (mFor (mIter (mVar 4)) (tName 6) (mSeq (mFor (mEnum 1 (mAct 1 gm (mVar 6))) (tTup 2 (tsCons (tName 7) (tsCons (tName 8) tsNil))) (mSeq (mIfS (mB (mOp2 (dIn true) (mVar 8) (mVar 3))) (mSeq (mAsg (tSub (mVar 3) (mVar 8)) (mOp2 dAdd (mOp2 dIx (mVar 3) (mVar 6)) (mTup (mCons (mVar 7) mNil))))
    (mSeq (mExpr (mMeth ckL fAppend (mVar 5) (mCons (mVar 8) mNil)))
    mNx)) mNx)
    mNx))
    mNx))
    (mSeq (mSet 4 (mVar 5))
    mNx))) 100000)
    (mSeq (mRet (mVar 3))
    mNx))))
def f_first_words (gm : FM) : FM := runDef N_first_words.length (m_first_words gm)
theorem sc_first_words : FnScope N_first_words ps_first_words (defScope st_first_words) := ⟨rfl, rfl, rfl, by decide +kernel, rfl, by decide +kernel, by decide +kernel⟩
abbrev st_words_to_states : Stmt := top 19
abbrev N_words_to_states : List Str := [(PySem.Str.ofString "machine"), (PySem.Str.ofString "steps"), (PySem.Str.ofString "state")]
abbrev ps_words_to_states : List Str := [(PySem.Str.ofString "machine")]
def m_words_to_states : MS := (mSeq (mSet 1 (mOp2 dIx (mVar 0) (mCon (.int 0))))
    (mSeq (mRet (mLam f_first_words 2 (mOp2 dIx (mVar 1) (mVar 2)) (mCon (.int 0)) (mOpA dLenA (mCons (mVar 1) mNil))))
    mNx))
def f_words_to_states : FM := runDef N_words_to_states.length m_words_to_states
theorem sc_words_to_states : FnScope N_words_to_states ps_words_to_states (defScope st_words_to_states) := ⟨rfl, rfl, rfl, by decide +kernel, rfl, by decide +kernel, by decide +kernel⟩
abbrev st_numbered : Stmt := top 20
abbrev N_numbered : List Str := [(PySem.Str.ofString "marks"), (PySem.Str.ofString "numbers"), (PySem.Str.ofString "key")]
abbrev ps_numbered : List Str := [(PySem.Str.ofString "marks")]
def m_numbered : MS := (mSeq (mSet 1 mDict0)
    (mSeq (mFor (mIter (mVar 0)) (tName 2) (mSeq (mIfS (mB (mOp2 (dIn true) (mOp2 dIx (mVar 0) (mVar 2)) (mVar 1))) (mSeq (mAsg (tSub (mVar 1) (mOp2 dIx (mVar 0) (mVar 2))) (mOpA dLenA (mCons (mVar 1) mNil)))
    mNx) mNx)
    mNx))
    (mSeq (mRet (mDcG (mIter (mVar 0)) (tName 2) (mPure true) (mVar 2) (mOp2 dIx (mVar 1) (mOp2 dIx (mVar 0) (mVar 2))) [2]))
    mNx)))
def f_numbered : FM := runDef N_numbered.length m_numbered
theorem sc_numbered : FnScope N_numbered ps_numbered (defScope st_numbered) := ⟨rfl, rfl, rfl, by decide +kernel, rfl, by decide +kernel, by decide +kernel⟩
abbrev st_kinds_of_states : Stmt := top 21
abbrev N_kinds_of_states : List Str := [(PySem.Str.ofString "machine"), (PySem.Str.ofString "come"), (PySem.Str.ofString "kinds"), (PySem.Str.ofString "steps"), (PySem.Str.ofString "ends"), (PySem.Str.ofString "finer"), (PySem.Str.ofString "state"), (PySem.Str.ofString "to")]
abbrev ps_kinds_of_states : List Str := [(PySem.Str.ofString "machine")]
def m_kinds_of_states : MS := (mSeq (mAsg (tTup 2 (tsCons (tName 3) (tsCons (tName 4) tsNil))) (mVar 0))
    (mSeq (mSet 1 (mOpA dListA (mCons (mCall f_words_to_states (mCons (mVar 0) mNil)) mNil)))
    (mSeq (mSet 2 (mCall f_numbered (mCons (mDcG (mIter (mVar 1)) (tName 6) (mPure true) (mVar 6) (mOp2 (dIn false) (mVar 6) (mVar 4)) [6]) mNil)))
    (mSeq (loopW (mTruth (mCon (.bl true))) (mSeq (mSet 5 (mCall f_numbered (mCons (mDcG (mIter (mVar 1)) (tName 6) (mPure true) (mVar 6) (mTup (mCons (mOp2 dIx (mVar 2) (mVar 6)) (mCons (mOpA dTuple (mCons (mLc (mIter (mOp2 dIx (mVar 3) (mVar 6))) (tName 7) (mPure true) (mOp2 dIx (mVar 2) (mVar 7)) [7]) mNil)) mNil))) [6]) mNil)))
    (mSeq (mIfS (mB (mOp2 (dEqA false) (mVar 5) (mVar 2))) (mSeq (mRet (mVar 2))
    mNx) mNx)
    (mSeq (mSet 2 (mVar 5))
    mNx))) 100000)
    mNx))))
def f_kinds_of_states : FM := runDef N_kinds_of_states.length m_kinds_of_states
theorem sc_kinds_of_states : FnScope N_kinds_of_states ps_kinds_of_states (defScope st_kinds_of_states) := ⟨rfl, rfl, rfl, by decide +kernel, rfl, by decide +kernel, by decide +kernel⟩
abbrev st_least : Stmt := top 22
abbrev N_least : List Str := [(PySem.Str.ofString "machine"), (PySem.Str.ofString "kinds"), (PySem.Str.ofString "rows"), (PySem.Str.ofString "least_ends"), (PySem.Str.ofString "state"), (PySem.Str.ofString "steps"), (PySem.Str.ofString "ends"), (PySem.Str.ofString "to")]
abbrev ps_least : List Str := [(PySem.Str.ofString "machine")]
def m_least : MS := (mSeq (mAsg (tTup 2 (tsCons (tName 5) (tsCons (tName 6) tsNil))) (mVar 0))
    (mSeq (mSet 1 (mCall f_kinds_of_states (mCons (mVar 0) mNil)))
    (mSeq (mSet 2 (mLst mNil))
    (mSeq (mSet 3 (mLst mNil))
    (mSeq (mFor (mIter (mVar 1)) (tName 4) (mSeq (mIfS (mB (mOp2 (dEqA false) (mOp2 dIx (mVar 1) (mVar 4)) (mOpA dLenA (mCons (mVar 2) mNil)))) (mSeq (mExpr (mMeth ckL fAppend (mVar 2) (mCons (mOpA dTuple (mCons (mLc (mIter (mOp2 dIx (mVar 5) (mVar 4))) (tName 7) (mPure true) (mOp2 dIx (mVar 1) (mVar 7)) [7]) mNil)) mNil)))
    (mSeq (mIfS (mB (mOp2 (dIn false) (mVar 4) (mVar 6))) (mSeq (mExpr (mMeth ckL fAppend (mVar 3) (mCons (mOp2 dIx (mVar 1) (mVar 4)) mNil)))
    mNx) mNx)
    mNx)) mNx)
    mNx))
    (mSeq (mRet (mTup (mCons (mOpA dTuple (mCons (mVar 2) mNil)) (mCons (mOpA dTuple (mCons (mVar 3) mNil)) mNil))))
    mNx))))))
def f_least : FM := runDef N_least.length m_least
theorem sc_least : FnScope N_least ps_least (defScope st_least) := ⟨rfl, rfl, rfl, by decide +kernel, rfl, by decide +kernel, by decide +kernel⟩
abbrev st_are_alike : Stmt := top 23
abbrev N_are_alike : List Str := [(PySem.Str.ofString "one"), (PySem.Str.ofString "other")]
abbrev ps_are_alike : List Str := [(PySem.Str.ofString "one"), (PySem.Str.ofString "other")]
def m_are_alike : MS := (mSeq (mExpr (mCall f_check_as_many_letters (mCons (mVar 0) (mCons (mVar 1) mNil))))
    (mSeq (mRet (mOp2 (dEqA false) (mCall f_least (mCons (mVar 0) mNil)) (mCall f_least (mCons (mVar 1) mNil))))
    mNx))
def f_are_alike : FM := runDef N_are_alike.length m_are_alike
theorem sc_are_alike : FnScope N_are_alike ps_are_alike (defScope st_are_alike) := ⟨rfl, rfl, rfl, by decide +kernel, rfl, by decide +kernel, by decide +kernel⟩
abbrev st_parting_word_from : Stmt := top 25
abbrev N_parting_word_from : List Str := [(PySem.Str.ofString "one"), (PySem.Str.ofString "start"), (PySem.Str.ofString "other"), (PySem.Str.ofString "other_start"), (PySem.Str.ofString "words"), (PySem.Str.ofString "steps"), (PySem.Str.ofString "ends"), (PySem.Str.ofString "other_steps"), (PySem.Str.ofString "other_ends"), (PySem.Str.ofString "pair"), (PySem.Str.ofString "state"), (PySem.Str.ofString "other_state")]
abbrev ps_parting_word_from : List Str := [(PySem.Str.ofString "one"), (PySem.Str.ofString "start"), (PySem.Str.ofString "other"), (PySem.Str.ofString "other_start")]
def m_parting_word_from : MS := (mSeq (mAsg (tTup 2 (tsCons (tName 5) (tsCons (tName 6) tsNil))) (mVar 0))
    (mSeq (mAsg (tTup 2 (tsCons (tName 7) (tsCons (tName 8) tsNil))) (mVar 2))
    (mSeq (mSet 4 (mLam f_first_words 9 (mListZip (mCons (mOp2 dIx (mVar 5) (mOp2 dIx (mVar 9) (mCon (.int 0)))) (mCons (mOp2 dIx (mVar 7) (mOp2 dIx (mVar 9) (mCon (.int 1)))) mNil))) (mTup (mCons (mVar 1) (mCons (mVar 3) mNil))) (mOp2 dMulW (mOpA dLenA (mCons (mVar 5) mNil)) (mOpA dLenA (mCons (mVar 7) mNil)))))
    (mSeq (mFor (mIter (mVar 4)) (tTup 2 (tsCons (tName 10) (tsCons (tName 11) tsNil))) (mSeq (mIfS (mB (mOp2 (dEqA true) (mOp2 (dIn false) (mVar 10) (mVar 6)) (mOp2 (dIn false) (mVar 11) (mVar 8)))) (mSeq (mRet (mOp2 dIx (mVar 4) (mTup (mCons (mVar 10) (mCons (mVar 11) mNil)))))
    mNx) mNx)
    mNx))
    (mSeq (mRet (mCon .non))
    mNx)))))
def f_parting_word_from : FM := runDef N_parting_word_from.length m_parting_word_from
theorem sc_parting_word_from : FnScope N_parting_word_from ps_parting_word_from (defScope st_parting_word_from) := ⟨rfl, rfl, rfl, by decide +kernel, rfl, by decide +kernel, by decide +kernel⟩
abbrev st_parting_word : Stmt := top 24
abbrev N_parting_word : List Str := [(PySem.Str.ofString "one"), (PySem.Str.ofString "other")]
abbrev ps_parting_word : List Str := [(PySem.Str.ofString "one"), (PySem.Str.ofString "other")]
def m_parting_word : MS := (mSeq (mExpr (mCall f_check_as_many_letters (mCons (mVar 0) (mCons (mVar 1) mNil))))
    (mSeq (mRet (mCall f_parting_word_from (mCons (mVar 0) (mCons (mCon (.int 0)) (mCons (mVar 1) (mCons (mCon (.int 0)) mNil))))))
    mNx))
def f_parting_word : FM := runDef N_parting_word.length m_parting_word
theorem sc_parting_word : FnScope N_parting_word ps_parting_word (defScope st_parting_word) := ⟨rfl, rfl, rfl, by decide +kernel, rfl, by decide +kernel, by decide +kernel⟩
abbrev st__law_same : Stmt := top 27
abbrev N__law_same : List Str := [(PySem.Str.ofString "got"), (PySem.Str.ofString "goal"), (PySem.Str.ofString "mine_so"), (PySem.Str.ofString "own")]
abbrev ps__law_same : List Str := [(PySem.Str.ofString "got"), (PySem.Str.ofString "goal")]
def m__law_same (fm : FM) : MS := (mSeq (mIfS (mTruth (mOpA dIsi (mCons (mVar 1) (mCons (mTup (mCons (mCon (.ty .list)) (mCons (mCon (.ty .tuple)) mNil))) mNil)))) (mSeq (mIfS (mOr (mB (mOp2 (dEqA true) (mOpA dIsi (mCons (mVar 0) (mCons (mCon (.ty .list)) mNil))) (mOpA dIsi (mCons (mVar 1) (mCons (mCon (.ty .list)) mNil))))) (mB (mOp2 (dEqA true) (mOpA dIsi (mCons (mVar 0) (mCons (mCon (.ty .tuple)) mNil))) (mOpA dIsi (mCons (mVar 1) (mCons (mCon (.ty .tuple)) mNil)))))) (mSeq (mRet (mCon (.bl false)))
    mNx) mNx)
    (mSeq (mRet (mAndV (mOp2 (dEqA false) (mOpA dLenA (mCons (mVar 0) mNil)) (mOpA dLenA (mCons (mVar 1) mNil))) (mOpA dAll (mCons (mLc (mZip (mCons (mVar 0) (mCons (mVar 1) mNil))) (tTup 2 (tsCons (tName 2) (tsCons (tName 3) tsNil))) (mPure true) (mCall fm (mCons (mVar 2) (mCons (mVar 3) mNil))) [2, 3]) mNil))))
    mNx)) mNx)
    (mSeq (mIfS (mOr (mB (mOp2 (dIs false) (mVar 1) (mCon .non))) (mTruth (mOpA dIsi (mCons (mVar 1) (mCons (mTup (mCons (mCon (.ty .bool)) (mCons (mCon (.ty .str)) mNil))) mNil))))) (mSeq (mRet (mAndV (mOp2 (dEqA false) (mVar 0) (mVar 1)) (mAndV (mOp2 (dEqA false) (mOpA dIsi (mCons (mVar 0) (mCons (mCon (.ty .bool)) mNil))) (mOpA dIsi (mCons (mVar 1) (mCons (mCon (.ty .bool)) mNil)))) (mOp2 (dEqA false) (mOp2 (dIs false) (mVar 0) (mCon .non)) (mOp2 (dIs false) (mVar 1) (mCon .non))))))
    mNx) mNx)
    (mSeq (mRet (mAndV (mOpA dIsi (mCons (mVar 0) (mCons (mCon (.ty .int)) mNil))) (mAndV (mNotV (mOpA dIsi (mCons (mVar 0) (mCons (mCon (.ty .bool)) mNil)))) (mOp2 (dEqA false) (mVar 0) (mVar 1)))))
    mNx)))
def f__law_same : FM := fuelF N__law_same m__law_same 40
theorem sc__law_same : FnScope N__law_same ps__law_same (defScope st__law_same) := ⟨rfl, rfl, rfl, by decide +kernel, rfl, by decide +kernel, by decide +kernel⟩
abbrev st__law_lists : Stmt := top 28
abbrev N__law_lists : List Str := [(PySem.Str.ofString "matter"), (PySem.Str.ofString "own")]
abbrev ps__law_lists : List Str := [(PySem.Str.ofString "matter")]
def m__law_lists (fm : FM) : MS := (mSeq (mRet (mIf (mTruth (mOpA dIsi (mCons (mVar 0) (mCons (mTup (mCons (mCon (.ty .list)) (mCons (mCon (.ty .tuple)) mNil))) mNil)))) (mLc (mIter (mVar 0)) (tName 1) (mPure true) (mCall fm (mCons (mVar 1) mNil)) [1]) (mVar 0)))
    mNx)
def f__law_lists : FM := fuelF N__law_lists m__law_lists 40
theorem sc__law_lists : FnScope N__law_lists ps__law_lists (defScope st__law_lists) := ⟨rfl, rfl, rfl, by decide +kernel, rfl, by decide +kernel, by decide +kernel⟩
abbrev st__law_heard : Stmt := top 29
abbrev N__law_heard : List Str := [(PySem.Str.ofString "door"), (PySem.Str.ofString "first_so"), (PySem.Str.ofString "far_so"), (PySem.Str.ofString "error")]
abbrev ps__law_heard : List Str := [(PySem.Str.ofString "door"), (PySem.Str.ofString "first_so"), (PySem.Str.ofString "far_so")]
def m__law_heard : MS := (mSeq (mTry ["NoPlace", "Unfit"] (mSeq (mIfS (mB (mOp2 (dEqA false) (mVar 0) (mCon (.int 0)))) (mSeq (mRet (mCall f_state_behind (mCons (mVar 1) (mCons (mVar 2) mNil))))
    mNx) mNx)
    (mSeq (mIfS (mB (mOp2 (dEqA false) (mVar 0) (mCon (.int 1)))) (mSeq (mRet (mCall f_takes (mCons (mVar 1) (mCons (mVar 2) mNil))))
    mNx) mNx)
    (mSeq (mRet (mIf (mB (mOp2 (dEqA false) (mVar 0) (mCon (.int 2)))) (mCall f_are_alike (mCons (mVar 1) (mCons (mVar 2) mNil))) (mCall f_parting_word (mCons (mVar 1) (mCons (mVar 2) mNil)))))
    mNx))) [⟨"NoPlace", (some 3), (fun c fs => mRet (mXL (xCons (xC (.str "place")) (xCons (xAt "NoPlace" "place") xNil)) c fs))⟩, ⟨"Unfit", none, (fun c fs => mRet (mXL (xCons (xC (.str "unfit")) xNil) c fs))⟩])
    mNx)
def f__law_heard : FM := runDef N__law_heard.length m__law_heard
theorem sc__law_heard : FnScope N__law_heard ps__law_heard (defScope st__law_heard) := ⟨rfl, rfl, rfl, by decide +kernel, rfl, by decide +kernel, by decide +kernel⟩
abbrev st__law_machines_right : Stmt := top 30
abbrev N__law_machines_right : List Str := [(PySem.Str.ofString "heard"), (PySem.Str.ofString "due"), (PySem.Str.ofString "twisted_so"), (PySem.Str.ofString "odd"), (PySem.Str.ofString "begins"), (PySem.Str.ofString "last"), (PySem.Str.ofString "four"), (PySem.Str.ofString "none")]
abbrev ps__law_machines_right : List Str := []
def m__law_machines_right : MS := (mSeq (mAsg (tTup 3 (tsCons (tName 3) (tsCons (tName 4) (tsCons (tName 5) tsNil)))) (mTup (mCons (mTup (mCons (mTup (mCons (mTup (mCons (mCon (.int 1)) mNil)) (mCons (mTup (mCons (mCon (.int 0)) mNil)) mNil))) (mCons (mTup (mCons (mCon (.int 1)) mNil)) mNil))) (mCons (mTup (mCons (mTup (mCons (mTup (mCons (mCon (.int 1)) (mCons (mCon (.int 2)) mNil))) (mCons (mTup (mCons (mCon (.int 1)) (mCons (mCon (.int 1)) mNil))) (mCons (mTup (mCons (mCon (.int 2)) (mCons (mCon (.int 2)) mNil))) mNil)))) (mCons (mTup (mCons (mCon (.int 1)) mNil)) mNil))) (mCons (mTup (mCons (mTup (mCons (mTup (mCons (mCon (.int 1)) (mCons (mCon (.int 0)) mNil))) (mCons (mTup (mCons (mCon (.int 1)) (mCons (mCon (.int 0)) mNil))) mNil))) (mCons (mTup (mCons (mCon (.int 1)) mNil)) mNil))) mNil)))))
    (mSeq (mAsg (tTup 2 (tsCons (tName 6) (tsCons (tName 7) tsNil))) (mTup (mCons (mTup (mCons (mTup (mCons (mTup (mCons (mCon (.int 1)) mNil)) (mCons (mTup (mCons (mCon (.int 2)) mNil)) (mCons (mTup (mCons (mCon (.int 3)) mNil)) (mCons (mTup (mCons (mCon (.int 0)) mNil)) mNil))))) (mCons (mTup (mCons (mCon (.int 1)) (mCons (mCon (.int 3)) mNil))) mNil))) (mCons (mTup (mCons (mTup (mCons (mTup (mCons (mCon (.int 0)) (mCons (mCon (.int 1)) mNil))) (mCons (mTup (mCons (mCon (.int 1)) (mCons (mCon (.int 0)) mNil))) mNil))) (mCons (mTup mNil) mNil))) mNil))))
    (mSeq (mSet 0 (mLst (mCons (mCall f_takes (mCons (mVar 3) (mCons (mTup (mCons (mCon (.int 1)) (mCons (mCon (.int 1)) (mCons (mCon (.int 1)) mNil)))) mNil))) (mCons (mCall f_takes (mCons (mVar 3) (mCons (mTup mNil) mNil))) (mCons (mCall f_state_behind (mCons (mVar 4) (mCons (mTup (mCons (mCon (.int 2)) (mCons (mCon (.int 1)) mNil))) mNil))) (mCons (mCall f_state_behind (mCons (mVar 4) (mCons (mTup mNil) mNil))) (mCons (mCall f_takes (mCons (mVar 4) (mCons (mTup (mCons (mCon (.int 1)) (mCons (mCon (.int 2)) mNil))) mNil))) (mCons (mCall f_takes (mCons (mVar 5) (mCons (mTup (mCons (mCon (.int 1)) (mCons (mCon (.int 2)) mNil))) mNil))) (mCons (mCall f_letters_in (mCons (mVar 4) mNil)) mNil)))))))))
    (mSeq (mSet 0 (mOp2 dAdd (mVar 0) (mLst (mCons (mCall f_letters_in (mCons (mVar 3) mNil)) mNil))))
    (mSeq (mSet 1 (mLst (mCons (mCon (.bl true)) (mCons (mCon (.bl false)) (mCons (mCon (.int 2)) (mCons (mCon (.int 0)) (mCons (mCon (.bl true)) (mCons (mCon (.bl false)) (mCons (mCon (.int 2)) (mCons (mCon (.int 1)) mNil))))))))))
    (mSeq (mSet 2 (mTup (mCons (mTup (mCons (mTup (mCons (mCon (.int 3)) (mCons (mCon (.int 1)) mNil))) (mCons (mTup (mCons (mCon (.int 1)) (mCons (mCon (.int 1)) mNil))) (mCons (mTup (mCons (mCon (.int 2)) (mCons (mCon (.int 2)) mNil))) (mCons (mTup (mCons (mCon (.int 0)) (mCons (mCon (.int 2)) mNil))) mNil))))) (mCons (mTup (mCons (mCon (.int 1)) (mCons (mCon (.int 2)) mNil))) mNil))))
    (mSeq (mSet 0 (mOp2 dAdd (mVar 0) (mLst (mCons (mCall f_least (mCons (mVar 6) mNil)) (mCons (mCall f_least (mCons (mVar 4) mNil)) (mCons (mCall f_least (mCons (mVar 7) mNil)) (mCons (mCall f_least (mCons (mVar 3) mNil)) (mCons (mCall f_least (mCons (mVar 2) mNil)) (mCons (mCall f_least (mCons (mTup (mCons (mTup (mCons (mTup (mCons (mCon (.int 0)) mNil)) (mCons (mTup (mCons (mCon (.int 0)) mNil)) mNil))) (mCons (mTup (mCons (mCon (.int 1)) mNil)) mNil))) mNil)) (mCons (mCall f_least (mCons (mTup (mCons (mTup (mCons (mTup (mCons (mCon (.int 2)) mNil)) (mCons (mTup (mCons (mCon (.int 1)) mNil)) (mCons (mTup (mCons (mCon (.int 2)) mNil)) mNil)))) (mCons (mTup (mCons (mCon (.int 0)) (mCons (mCon (.int 1)) (mCons (mCon (.int 2)) mNil)))) mNil))) mNil)) mNil))))))))))
    (mSeq (mSet 1 (mOp2 dAdd (mVar 1) (mLst (mCons (mVar 3) (mCons (mVar 4) (mCons (mTup (mCons (mTup (mCons (mTup (mCons (mCon (.int 0)) (mCons (mCon (.int 0)) mNil))) mNil)) (mCons (mTup mNil) mNil))) (mCons (mVar 3) (mCons (mTup (mCons (mTup (mCons (mTup (mCons (mCon (.int 0)) (mCons (mCon (.int 1)) mNil))) (mCons (mTup (mCons (mCon (.int 1)) (mCons (mCon (.int 1)) mNil))) mNil))) (mCons (mTup (mCons (mCon (.int 1)) mNil)) mNil))) (mCons (mTup (mCons (mTup (mCons (mTup (mCons (mCon (.int 0)) mNil)) mNil)) (mCons (mTup mNil) mNil))) (mCons (mTup (mCons (mTup (mCons (mTup (mCons (mCon (.int 0)) mNil)) mNil)) (mCons (mTup (mCons (mCon (.int 0)) mNil)) mNil))) mNil))))))))))
    (mSeq (mSet 0 (mOp2 dAdd (mVar 0) (mLst (mCons (mCall f_are_alike (mCons (mVar 3) (mCons (mVar 6) mNil))) (mCons (mCall f_are_alike (mCons (mVar 4) (mCons (mVar 4) mNil))) (mCons (mCall f_are_alike (mCons (mVar 4) (mCons (mVar 5) mNil))) (mCons (mCall f_parting_word (mCons (mVar 4) (mCons (mVar 5) mNil))) (mCons (mCall f_parting_word (mCons (mVar 3) (mCons (mVar 3) mNil))) (mCons (mCall f_parting_word (mCons (mVar 5) (mCons (mVar 7) mNil))) mNil)))))))))
    (mSeq (mSet 0 (mOp2 dAdd (mVar 0) (mLst (mCons (mCall f_parting_word (mCons (mVar 6) (mCons (mTup (mCons (mTup (mCons (mTup (mCons (mCon (.int 1)) mNil)) (mCons (mTup (mCons (mCon (.int 2)) mNil)) (mCons (mTup (mCons (mCon (.int 3)) mNil)) (mCons (mTup (mCons (mCon (.int 0)) mNil)) mNil))))) (mCons (mTup (mCons (mCon (.int 1)) mNil)) mNil))) mNil))) mNil))))
    (mSeq (mSet 1 (mOp2 dAdd (mVar 1) (mLst (mCons (mCon (.bl true)) (mCons (mCon (.bl true)) (mCons (mCon (.bl false)) (mCons (mTup (mCons (mCon (.int 1)) (mCons (mCon (.int 2)) mNil))) (mCons (mCon .non) (mCons (mTup (mCons (mCon (.int 1)) mNil)) (mCons (mTup (mCons (mCon (.int 1)) (mCons (mCon (.int 1)) (mCons (mCon (.int 1)) mNil)))) mNil))))))))))
    (mSeq (mSet 0 (mOp2 dAdd (mVar 0) (mLst (mCons (mCall f_parting_word (mCons (mVar 3) (mCons (mTup (mCons (mTup (mCons (mTup (mCons (mCon (.int 1)) mNil)) (mCons (mTup (mCons (mCon (.int 0)) mNil)) mNil))) (mCons (mTup (mCons (mCon (.int 0)) mNil)) mNil))) mNil))) (mCons (mCall f_is_word (mCons (mTup mNil) mNil)) (mCons (mCall f_is_word (mCons (mTup (mCons (mCon (.int 1)) (mCons (mCon (.int 3)) mNil))) mNil)) mNil))))))
    (mSeq (mRet (mCall f__law_same (mCons (mVar 0) (mCons (mOp2 dAdd (mVar 1) (mLst (mCons (mTup mNil) (mCons (mCon (.bl true)) (mCons (mCon (.bl true)) mNil))))) mNil))))
    mNx)))))))))))))
def f__law_machines_right : FM := runDef N__law_machines_right.length m__law_machines_right
theorem sc__law_machines_right : FnScope N__law_machines_right ps__law_machines_right (defScope st__law_machines_right) := ⟨rfl, rfl, rfl, by decide +kernel, rfl, by decide +kernel, by decide +kernel⟩
abbrev st__law_refused_right : Stmt := top 31
abbrev N__law_refused_right : List Str := [(PySem.Str.ofString "heard"), (PySem.Str.ofString "due"), (PySem.Str.ofString "goods"), (PySem.Str.ofString "odd_so"), (PySem.Str.ofString "odd"), (PySem.Str.ofString "begins"), (PySem.Str.ofString "door"), (PySem.Str.ofString "own")]
abbrev ps__law_refused_right : List Str := []
def m__law_refused_right : MS := (mSeq (mAsg (tTup 2 (tsCons (tName 4) (tsCons (tName 5) tsNil))) (mTup (mCons (mTup (mCons (mTup (mCons (mTup (mCons (mCon (.int 1)) mNil)) (mCons (mTup (mCons (mCon (.int 0)) mNil)) mNil))) (mCons (mTup (mCons (mCon (.int 1)) mNil)) mNil))) (mCons (mTup (mCons (mTup (mCons (mTup (mCons (mCon (.int 1)) (mCons (mCon (.int 2)) mNil))) (mCons (mTup (mCons (mCon (.int 1)) (mCons (mCon (.int 1)) mNil))) (mCons (mTup (mCons (mCon (.int 2)) (mCons (mCon (.int 2)) mNil))) mNil)))) (mCons (mTup (mCons (mCon (.int 1)) mNil)) mNil))) mNil))))
    (mSeq (mSet 0 (mLst (mCons (mCall f__law_heard (mCons (mCon (.int 0)) (mCons (mVar 4) (mCons (mTup (mCons (mCon (.int 1)) (mCons (mCon (.int 2)) mNil))) mNil)))) (mCons (mCall f__law_heard (mCons (mCon (.int 1)) (mCons (mVar 4) (mCons (mTup (mCons (mCon (.int 2)) (mCons (mCon (.int 3)) mNil))) mNil)))) (mCons (mCall f__law_heard (mCons (mCon (.int 0)) (mCons (mVar 5) (mCons (mTup (mCons (mCon (.int 1)) (mCons (mCon (.int 2)) (mCons (mCon (.int 3)) (mCons (mCon (.int 1)) mNil))))) mNil)))) (mCons (mLc (mIter (mTup (mCons (mCon (.int 2)) (mCons (mCon (.int 3)) mNil)))) (tName 6) (mPure true) (mCall f__law_heard (mCons (mVar 6) (mCons (mVar 4) (mCons (mVar 5) mNil)))) [6]) mNil))))))
    (mSeq (mSet 1 (mLst (mCons (mLst (mCons (mCon (.str "place")) (mCons (mCon (.int 2)) mNil))) (mCons (mLst (mCons (mCon (.str "place")) (mCons (mCon (.int 2)) mNil))) (mCons (mLst (mCons (mCon (.str "place")) (mCons (mCon (.int 3)) mNil))) (mCons (mOp2 dMulW (mLst (mCons (mLst (mCons (mCon (.str "unfit")) mNil)) mNil)) (mCon (.int 2))) mNil))))))
    (mSeq (mExpr (mMeth ckL fAppend (mVar 0) (mCons (mLc (mIter (mTup (mCons (mTup (mCons (mCon (.int 0)) mNil)) (mCons (mLst (mCons (mCon (.int 1)) mNil)) (mCons (mTup (mCons (mCon (.bl true)) mNil)) (mCons (mTup (mCons (mOp1 dNeg (mCon (.int 1))) mNil)) (mCons (mCon .non) (mCons (mCon (.int 1)) (mCons (mCon (.str "1")) (mCons (mTup (mCons (mTup (mCons (mCon (.int 1)) mNil)) mNil)) mNil)))))))))) (tName 7) (mPure true) (mCall f_is_word (mCons (mVar 7) mNil)) [7]) mNil)))
    (mSeq (mExpr (mMeth ckL fAppend (mVar 1) (mCons (mOp2 dMulW (mLst (mCons (mCon (.bl false)) mNil)) (mCon (.int 8))) mNil)))
    (mSeq (mSet 2 (mLst (mCons (mVar 4) (mCons (mVar 5) (mCons (mTup (mCons (mTup (mCons (mTup (mCons (mCon (.int 0)) mNil)) mNil)) (mCons (mTup mNil) mNil))) (mCons (mTup (mCons (mTup (mCons (mTup (mCons (mCon (.int 0)) (mCons (mCon (.int 0)) (mCons (mCon (.int 0)) (mCons (mCon (.int 0)) mNil))))) mNil)) (mCons (mTup (mCons (mCon (.int 0)) mNil)) mNil))) mNil))))))
    (mSeq (mSet 3 (mLst (mCons (mTup (mCons (mTup mNil) (mCons (mTup mNil) mNil))) (mCons (mTup (mCons (mTup (mCons (mTup mNil) mNil)) (mCons (mTup mNil) mNil))) (mCons (mTup (mCons (mTup (mCons (mTup (mCons (mCon (.int 1)) mNil)) mNil)) (mCons (mTup mNil) mNil))) (mCons (mTup (mCons (mTup (mCons (mTup (mCons (mCon (.int 0)) mNil)) (mCons (mTup (mCons (mCon (.int 0)) (mCons (mCon (.int 0)) mNil))) mNil))) (mCons (mTup mNil) mNil))) (mCons (mTup (mCons (mTup (mCons (mTup (mCons (mCon (.int 0)) mNil)) mNil)) (mCons (mTup (mCons (mCon (.int 1)) mNil)) mNil))) (mCons (mTup (mCons (mTup (mCons (mTup (mCons (mCon (.int 0)) mNil)) (mCons (mTup (mCons (mCon (.int 1)) mNil)) mNil))) (mCons (mTup (mCons (mCon (.int 1)) (mCons (mCon (.int 0)) mNil))) mNil))) (mCons (mTup (mCons (mTup (mCons (mTup (mCons (mCon (.int 0)) mNil)) mNil)) (mCons (mTup (mCons (mCon (.int 0)) (mCons (mCon (.int 0)) mNil))) mNil))) (mCons (mTup (mCons (mLst (mCons (mTup (mCons (mCon (.int 0)) mNil)) mNil)) (mCons (mTup mNil) mNil))) (mCons (mTup (mCons (mTup (mCons (mLst (mCons (mCon (.int 0)) mNil)) mNil)) (mCons (mTup mNil) mNil))) mNil)))))))))))
    (mSeq (mSet 3 (mOp2 dAdd (mVar 3) (mLst (mCons (mTup (mCons (mTup (mCons (mTup (mCons (mCon (.int 0)) mNil)) mNil)) (mCons (mLst (mCons (mCon (.int 0)) mNil)) mNil))) (mCons (mTup (mCons (mTup (mCons (mTup (mCons (mCon (.bl true)) mNil)) (mCons (mTup (mCons (mCon (.int 0)) mNil)) mNil))) (mCons (mTup mNil) mNil))) (mCons (mTup (mCons (mTup (mCons (mTup (mCons (mCon (.int 0)) mNil)) mNil)) (mCons (mTup (mCons (mCon (.bl false)) mNil)) mNil))) (mCons (mCon .non) (mCons (mTup (mCons (mTup (mCons (mTup (mCons (mCon (.int 0)) mNil)) mNil)) mNil)) (mCons (mTup (mCons (mTup (mCons (mCon (.int 0)) mNil)) (mCons (mTup mNil) mNil))) mNil)))))))))
    (mSeq (mSet 0 (mOp2 dAdd (mVar 0) (mLst (mCons (mLc (mIter (mVar 2)) (tName 7) (mPure true) (mCall f_is_machine (mCons (mVar 7) mNil)) [7]) (mCons (mLc (mIter (mVar 3)) (tName 7) (mPure true) (mCall f_is_machine (mCons (mVar 7) mNil)) [7]) mNil)))))
    (mSeq (mRet (mCall f__law_same (mCons (mVar 0) (mCons (mOp2 dAdd (mVar 1) (mLst (mCons (mOp2 dMulW (mLst (mCons (mCon (.bl true)) mNil)) (mCon (.int 4))) (mCons (mOp2 dMulW (mLst (mCons (mCon (.bl false)) mNil)) (mCon (.int 15))) mNil)))) mNil))))
    mNx))))))))))
def f__law_refused_right : FM := runDef N__law_refused_right.length m__law_refused_right
theorem sc__law_refused_right : FnScope N__law_refused_right ps__law_refused_right (defScope st__law_refused_right) := ⟨rfl, rfl, rfl, by decide +kernel, rfl, by decide +kernel, by decide +kernel⟩
abbrev st__law_lists_right : Stmt := top 32
abbrev N__law_lists_right : List Str := [(PySem.Str.ofString "odd"), (PySem.Str.ofString "own"), (PySem.Str.ofString "soft"), (PySem.Str.ofString "half"), (PySem.Str.ofString "heard"), (PySem.Str.ofString "due")]
abbrev ps__law_lists_right : List Str := []
def m__law_lists_right : MS := (mSeq (mSet 0 (mTup (mCons (mTup (mCons (mTup (mCons (mCon (.int 1)) mNil)) (mCons (mTup (mCons (mCon (.int 0)) mNil)) mNil))) (mCons (mTup (mCons (mCon (.int 1)) mNil)) mNil))))
    (mSeq (mPar [2, 3] (mCons (mCall f__law_lists (mCons (mVar 0) mNil)) (mCons (mTup (mCons (mLst (mCons (mTup (mCons (mCon (.int 1)) mNil)) (mCons (mLst (mCons (mCon (.int 0)) mNil)) mNil))) (mCons (mTup (mCons (mCon (.int 1)) mNil)) mNil))) mNil)))
    (mSeq (mPar [4, 5] (mCons (mLst (mCons (mCallK f_is_word 0 1 [0] 1 mNil (mCons (mTup (mCons (mCon (.int 1)) mNil)) mNil)) (mCons (mCallK f_is_machine 0 1 [0] 1 mNil (mCons (mVar 0) mNil)) mNil))) (mCons (mLst (mCons (mCon (.bl true)) (mCons (mCon (.bl true)) mNil))) mNil)))
    (mSeq (mFor (mIter (mTup (mCons (mVar 2) (mCons (mVar 3) mNil)))) (tName 1) (mSeq (mSet 4 (mOp2 dAdd (mVar 4) (mLst (mCons (mCallK f_letters_in 0 1 [0] 1 mNil (mCons (mVar 1) mNil)) (mCons (mCallK f_state_behind 0 2 [0, 1] 2 mNil (mCons (mVar 1) (mCons (mLst (mCons (mCon (.int 1)) mNil)) mNil))) (mCons (mCallK f_takes 0 2 [0, 1] 2 mNil (mCons (mVar 1) (mCons (mLst (mCons (mCon (.int 1)) mNil)) mNil))) (mCons (mCallK f_least 0 1 [0] 1 mNil (mCons (mVar 1) mNil)) (mCons (mCallK f_are_alike 0 2 [0, 1] 2 mNil (mCons (mVar 1) (mCons (mVar 0) mNil))) mNil))))))))
    (mSeq (mSet 4 (mOp2 dAdd (mVar 4) (mLst (mCons (mCallK f_parting_word 0 2 [0, 1] 2 mNil (mCons (mVar 0) (mCons (mVar 1) mNil))) mNil))))
    (mSeq (mSet 5 (mOp2 dAdd (mVar 5) (mLst (mCons (mCon (.int 1)) (mCons (mCon (.int 1)) (mCons (mCon (.bl true)) (mCons (mVar 0) (mCons (mCon (.bl true)) (mCons (mCon .non) mNil)))))))))
    mNx))))
    (mSeq (mRet (mCall f__law_same (mCons (mVar 4) (mCons (mVar 5) mNil))))
    mNx)))))
def f__law_lists_right : FM := runDef N__law_lists_right.length m__law_lists_right
theorem sc__law_lists_right : FnScope N__law_lists_right ps__law_lists_right (defScope st__law_lists_right) := ⟨rfl, rfl, rfl, by decide +kernel, rfl, by decide +kernel, by decide +kernel⟩
abbrev st_law : Stmt := top 33
abbrev N_law : List Str := [(PySem.Str.ofString "script"), (PySem.Str.ofString "turn")]
abbrev ps_law : List Str := [(PySem.Str.ofString "script")]
def m_law : MS := (mSeq (mIfS (mNot (mTruth (mCall (clF f__law_machines_right) mNil))) (mSeq (mRet (mCon (.bl false)))
    mNx) mNx)
    (mSeq (mSet 1 (mIf (mB (mOp2 (dEqA false) (mOpA dLenA (mCons (mVar 0) mNil)) (mCon (.int 0)))) (mCon (.int 0)) (mOp2 dMod (mOpA dInt1 (mCons (mOpA dAbs (mCons (mOp2 dIx (mVar 0) (mCon (.int 0))) mNil)) mNil)) (mCon (.int 2)))))
    (mSeq (mRet (mIf (mB (mOp2 (dEqA false) (mVar 1) (mCon (.int 0)))) (mCall (clF f__law_refused_right) mNil) (mCall (clF f__law_lists_right) mNil)))
    mNx)))
def f_law : FM := runDef N_law.length m_law
theorem sc_law : FnScope N_law ps_law (defScope st_law) := ⟨rfl, rfl, rfl, by decide +kernel, rfl, by decide +kernel, by decide +kernel⟩
section
variable {P : Program} {w : World} {K : PySem.W.Frag} {mg : Str → Option Value} {base : Heap} {a_is_number : Addr} {a_are_numbers_from : Addr} {a_are_places : Addr} {a_is_set_of_places : Addr} {a_is_word : Addr} {a_are_steps : Addr} {a_is_machine : Addr} {a_letters_in : Addr} {a_check_letters : Addr} {a_check_as_many_letters : Addr} {a_state_from : Addr} {a_state_behind : Addr} {a_takes : Addr} {a_first_words : Addr} {a_words_to_states : Addr} {a_numbered : Addr} {a_kinds_of_states : Addr} {a_least : Addr} {a_are_alike : Addr} {a_parting_word_from : Addr} {a_parting_word : Addr} {a__law_same : Addr} {a__law_lists : Addr} {a__law_heard : Addr} {a__law_machines_right : Addr} {a__law_refused_right : Addr} {a__law_lists_right : Addr} {a_law : Addr} {a_NoPlace : Addr} {a_Unfit : Addr} {fd_is_number : FuncData} {fd_are_numbers_from : FuncData} {fd_are_places : FuncData} {fd_is_set_of_places : FuncData} {fd_is_word : FuncData} {fd_are_steps : FuncData} {fd_is_machine : FuncData} {fd_letters_in : FuncData} {fd_check_letters : FuncData} {fd_check_as_many_letters : FuncData} {fd_state_from : FuncData} {fd_state_behind : FuncData} {fd_takes : FuncData} {fd_first_words : FuncData} {fd_words_to_states : FuncData} {fd_numbered : FuncData} {fd_kinds_of_states : FuncData} {fd_least : FuncData} {fd_are_alike : FuncData} {fd_parting_word_from : FuncData} {fd_parting_word : FuncData} {fd__law_same : FuncData} {fd__law_lists : FuncData} {fd__law_heard : FuncData} {fd__law_machines_right : FuncData} {fd__law_refused_right : FuncData} {fd__law_lists_right : FuncData} {fd_law : FuncData}
theorem ok_is_number (T : Txt P w K mg a_is_number a_are_numbers_from a_are_places a_is_set_of_places a_is_word a_are_steps a_is_machine a_letters_in a_check_letters a_check_as_many_letters a_state_from a_state_behind a_takes a_first_words a_words_to_states a_numbered a_kinds_of_states a_least a_are_alike a_parting_word_from a_parting_word a__law_same a__law_lists a__law_heard a__law_machines_right a__law_refused_right a__law_lists_right a_law a_NoPlace a_Unfit) (F : Fun K (PySem.Str.ofString "is_number") (PySem.Str.ofString "is_number") st_is_number a_is_number fd_is_number) : FnOk P w K mg base (L2.CX P w) 1 a_is_number fd_is_number ps_is_number (spF ⟨w, K, mg⟩ 1 f_is_number) := by
  have sc := sc_is_number
  refine fn_ok F sc rfl (by decide) fun cdv A outer s H E hr => ?_
  exact (s_cons (s_ret (e_and (f_isi bt_isi rfl T.n_isinstance (a_cons (e_var (i := 0) rfl (by first | exact .inl rfl | exact .inr (.inl rfl) | exact .inr (.inr rfl))) (a_cons (e_ty (n := .int) rfl T.n_int bt_int) a_nil))) (e_one (e_not (f_isi bt_isi rfl T.n_isinstance (a_cons (e_var (i := 0) rfl (by first | exact .inl rfl | exact .inr (.inl rfl) | exact .inr (.inr rfl))) (a_cons (e_ty (n := .bool) rfl T.n_bool bt_bool) a_nil)))))))
    s_nil)
theorem ok_are_numbers_from (T : Txt P w K mg a_is_number a_are_numbers_from a_are_places a_is_set_of_places a_is_word a_are_steps a_is_machine a_letters_in a_check_letters a_check_as_many_letters a_state_from a_state_behind a_takes a_first_words a_words_to_states a_numbered a_kinds_of_states a_least a_are_alike a_parting_word_from a_parting_word a__law_same a__law_lists a__law_heard a__law_machines_right a__law_refused_right a__law_lists_right a_law a_NoPlace a_Unfit) (F : Fun K (PySem.Str.ofString "are_numbers_from") (PySem.Str.ofString "are_numbers_from") st_are_numbers_from a_are_numbers_from fd_are_numbers_from) (F_is_number : FnOk P w K mg base (L2.CX P w) 1 a_is_number fd_is_number ps_is_number (spF ⟨w, K, mg⟩ 1 f_is_number)) (B_is_number : Binds K fd_is_number ps_is_number []) : FnOk P w K mg base (L2.CX P w) 2 a_are_numbers_from fd_are_numbers_from ps_are_numbers_from (spF ⟨w, K, mg⟩ 2 f_are_numbers_from) := by
  have sc := sc_are_numbers_from
  refine fn_ok F sc rfl (by decide) fun cdv A outer s H E hr => ?_
  exact (s_cons (s_ret (e_and (f_isi bt_isi rfl T.n_isinstance (a_cons (e_var (i := 0) rfl (by first | exact .inl rfl | exact .inr (.inl rfl) | exact .inr (.inr rfl))) (a_cons (e_ty (n := .tuple) rfl T.n_tuple bt_tuple) a_nil))) (e_one (f_all rfl bt_all rfl T.n_all (a_cons (e_lc (own := [((PySem.Str.ofString "own"), 2)]) rfl sc.nd (blkOk_by (by first | rfl | kernel_rfl | with_unfolding_all rfl)) rfl (i_any (e_var (i := 0) rfl (by first | exact .inl rfl | exact .inr (.inl rfl) | exact .inr (.inr rfl)))) (fun s H C cl fp => (g_name (i := 2) sc.nd rfl (by first | exact .inl rfl | exact .inr rfl))) (fun s H C cl fp => ts_nil) (fun s H C cl fp => (e_and (e_call F_is_number (hr.mono (by first | decide | omega)) T.g_is_number T.k_is_number B_is_number tkF (len_cons len_nil) rfl (a_cons (e_var (i := 2) rfl (by first | exact .inl rfl | exact .inr (.inl rfl) | exact .inr (.inr rfl))) a_nil)) (e_one (e_cmpW w_ge (by with_unfolding_all rfl) (e_var (i := 2) rfl (by first | exact .inl rfl | exact .inr (.inl rfl) | exact .inr (.inr rfl))) (e_var (i := 1) rfl (by first | exact .inl rfl | exact .inr (.inl rfl) | exact .inr (.inr rfl)))))))) a_nil)))))
    s_nil)
theorem ok_are_places (T : Txt P w K mg a_is_number a_are_numbers_from a_are_places a_is_set_of_places a_is_word a_are_steps a_is_machine a_letters_in a_check_letters a_check_as_many_letters a_state_from a_state_behind a_takes a_first_words a_words_to_states a_numbered a_kinds_of_states a_least a_are_alike a_parting_word_from a_parting_word a__law_same a__law_lists a__law_heard a__law_machines_right a__law_refused_right a__law_lists_right a_law a_NoPlace a_Unfit) (F : Fun K (PySem.Str.ofString "are_places") (PySem.Str.ofString "are_places") st_are_places a_are_places fd_are_places) (F_are_numbers_from : FnOk P w K mg base (L2.CX P w) 2 a_are_numbers_from fd_are_numbers_from ps_are_numbers_from (spF ⟨w, K, mg⟩ 2 f_are_numbers_from)) (B_are_numbers_from : Binds K fd_are_numbers_from ps_are_numbers_from []) : FnOk P w K mg base (L2.CX P w) 3 a_are_places fd_are_places ps_are_places (spF ⟨w, K, mg⟩ 2 f_are_places) := by
  have sc := sc_are_places
  refine fn_ok F sc rfl (by decide) fun cdv A outer s H E hr => ?_
  exact (s_cons (s_ret (e_and (e_call F_are_numbers_from (hr.mono (by first | decide | omega)) T.g_are_numbers_from T.k_are_numbers_from B_are_numbers_from tkD (len_cons (len_cons len_nil)) rfl (a_cons (e_var (i := 0) rfl (by first | exact .inl rfl | exact .inr (.inl rfl) | exact .inr (.inr rfl))) (a_cons e_int a_nil))) (e_one (f_all rfl bt_all rfl T.n_all (a_cons (e_lc (own := [((PySem.Str.ofString "own"), 2)]) rfl sc.nd (blkOk_by (by first | rfl | kernel_rfl | with_unfolding_all rfl)) rfl (i_any (e_var (i := 0) rfl (by first | exact .inl rfl | exact .inr (.inl rfl) | exact .inr (.inr rfl)))) (fun s H C cl fp => (g_name (i := 2) sc.nd rfl (by first | exact .inl rfl | exact .inr rfl))) (fun s H C cl fp => ts_nil) (fun s H C cl fp => (e_cmpW w_lt (by with_unfolding_all rfl) (e_var (i := 2) rfl (by first | exact .inl rfl | exact .inr (.inl rfl) | exact .inr (.inr rfl))) (e_var (i := 1) rfl (by first | exact .inl rfl | exact .inr (.inl rfl) | exact .inr (.inr rfl)))))) a_nil)))))
    s_nil)
theorem ok_is_set_of_places (T : Txt P w K mg a_is_number a_are_numbers_from a_are_places a_is_set_of_places a_is_word a_are_steps a_is_machine a_letters_in a_check_letters a_check_as_many_letters a_state_from a_state_behind a_takes a_first_words a_words_to_states a_numbered a_kinds_of_states a_least a_are_alike a_parting_word_from a_parting_word a__law_same a__law_lists a__law_heard a__law_machines_right a__law_refused_right a__law_lists_right a_law a_NoPlace a_Unfit) (F : Fun K (PySem.Str.ofString "is_set_of_places") (PySem.Str.ofString "is_set_of_places") st_is_set_of_places a_is_set_of_places fd_is_set_of_places) (F_are_places : FnOk P w K mg base (L2.CX P w) 3 a_are_places fd_are_places ps_are_places (spF ⟨w, K, mg⟩ 2 f_are_places)) (B_are_places : Binds K fd_are_places ps_are_places []) : FnOk P w K mg base (L2.CX P w) 4 a_is_set_of_places fd_is_set_of_places ps_is_set_of_places (spF ⟨w, K, mg⟩ 2 f_is_set_of_places) := by
  have sc := sc_is_set_of_places
  refine fn_ok F sc rfl (by decide) fun cdv A outer s H E hr => ?_
  exact (s_cons (s_ret (e_and (e_call F_are_places (hr.mono (by first | decide | omega)) T.g_are_places T.k_are_places B_are_places tkD (len_cons (len_cons len_nil)) rfl (a_cons (e_var (i := 0) rfl (by first | exact .inl rfl | exact .inr (.inl rfl) | exact .inr (.inr rfl))) (a_cons (e_var (i := 1) rfl (by first | exact .inl rfl | exact .inr (.inl rfl) | exact .inr (.inr rfl))) a_nil))) (e_one (f_all rfl bt_all rfl T.n_all (a_cons (e_lc (own := [((PySem.Str.ofString "low"), 2), ((PySem.Str.ofString "high"), 3)]) rfl sc.nd (blkOk_by (by first | rfl | kernel_rfl | with_unfolding_all rfl)) rfl (i_zip rfl T.n_zip (a_cons (e_var (i := 0) rfl (by first | exact .inl rfl | exact .inr (.inl rfl) | exact .inr (.inr rfl))) (a_cons (e_slice (e_var (i := 0) rfl (by first | exact .inl rfl | exact .inr (.inl rfl) | exact .inr (.inr rfl))) (o_some e_int) o_none) a_nil))) (fun s H C cl fp => (g_tup rfl (gs_c (g_name (i := 2) sc.nd rfl (by first | exact .inl rfl | exact .inr rfl)) (gs_c (g_name (i := 3) sc.nd rfl (by first | exact .inl rfl | exact .inr rfl)) gs_nil)))) (fun s H C cl fp => ts_nil) (fun s H C cl fp => (e_cmpW w_lt (by with_unfolding_all rfl) (e_var (i := 2) rfl (by first | exact .inl rfl | exact .inr (.inl rfl) | exact .inr (.inr rfl))) (e_var (i := 3) rfl (by first | exact .inl rfl | exact .inr (.inl rfl) | exact .inr (.inr rfl)))))) a_nil)))))
    s_nil)
theorem ok_is_word (T : Txt P w K mg a_is_number a_are_numbers_from a_are_places a_is_set_of_places a_is_word a_are_steps a_is_machine a_letters_in a_check_letters a_check_as_many_letters a_state_from a_state_behind a_takes a_first_words a_words_to_states a_numbered a_kinds_of_states a_least a_are_alike a_parting_word_from a_parting_word a__law_same a__law_lists a__law_heard a__law_machines_right a__law_refused_right a__law_lists_right a_law a_NoPlace a_Unfit) (F : Fun K (PySem.Str.ofString "is_word") (PySem.Str.ofString "is_word") st_is_word a_is_word fd_is_word) (F_are_numbers_from : FnOk P w K mg base (L2.CX P w) 2 a_are_numbers_from fd_are_numbers_from ps_are_numbers_from (spF ⟨w, K, mg⟩ 2 f_are_numbers_from)) (B_are_numbers_from : Binds K fd_are_numbers_from ps_are_numbers_from []) : FnOk P w K mg base (L2.CX P w) 3 a_is_word fd_is_word ps_is_word (spF ⟨w, K, mg⟩ 1 f_is_word) := by
  have sc := sc_is_word
  refine fn_ok F sc rfl (by decide) fun cdv A outer s H E hr => ?_
  exact (s_cons (s_ret (e_call F_are_numbers_from (hr.mono (by first | decide | omega)) T.g_are_numbers_from T.k_are_numbers_from B_are_numbers_from tkD (len_cons (len_cons len_nil)) rfl (a_cons (e_var (i := 0) rfl (by first | exact .inl rfl | exact .inr (.inl rfl) | exact .inr (.inr rfl))) (a_cons e_int a_nil))))
    s_nil)
theorem ok_are_steps (T : Txt P w K mg a_is_number a_are_numbers_from a_are_places a_is_set_of_places a_is_word a_are_steps a_is_machine a_letters_in a_check_letters a_check_as_many_letters a_state_from a_state_behind a_takes a_first_words a_words_to_states a_numbered a_kinds_of_states a_least a_are_alike a_parting_word_from a_parting_word a__law_same a__law_lists a__law_heard a__law_machines_right a__law_refused_right a__law_lists_right a_law a_NoPlace a_Unfit) (F : Fun K (PySem.Str.ofString "are_steps") (PySem.Str.ofString "are_steps") st_are_steps a_are_steps fd_are_steps) (F_are_places : FnOk P w K mg base (L2.CX P w) 3 a_are_places fd_are_places ps_are_places (spF ⟨w, K, mg⟩ 2 f_are_places)) (B_are_places : Binds K fd_are_places ps_are_places []) : FnOk P w K mg base (L2.CX P w) 4 a_are_steps fd_are_steps ps_are_steps (spF ⟨w, K, mg⟩ 1 f_are_steps) := by
  have sc := sc_are_steps
  refine fn_ok F sc rfl (by decide) fun cdv A outer s H E hr => ?_
  exact (s_cons (s_if (t_pw (tw_or (t_not (t_val (f_isi bt_isi rfl T.n_isinstance (a_cons (e_var (i := 0) rfl (by first | exact .inl rfl | exact .inr (.inl rfl) | exact .inr (.inr rfl))) (a_cons (e_ty (n := .tuple) rfl T.n_tuple bt_tuple) a_nil))))) (tw_or1 (t_cmpW (w_eqA hr) (by with_unfolding_all rfl) (f_len rfl T.n_len (a_cons (e_var (i := 0) rfl (by first | exact .inl rfl | exact .inr (.inl rfl) | exact .inr (.inr rfl))) a_nil)) e_int)))) (s_cons (s_ret e_bl)
    s_nil) s_nil)
    (s_cons (s_if (t_not (t_val (f_all rfl bt_all rfl T.n_all (a_cons (e_lc (own := [((PySem.Str.ofString "row"), 1)]) rfl sc.nd (blkOk_by (by first | rfl | kernel_rfl | with_unfolding_all rfl)) rfl (i_any (e_var (i := 0) rfl (by first | exact .inl rfl | exact .inr (.inl rfl) | exact .inr (.inr rfl)))) (fun s H C cl fp => (g_name (i := 1) sc.nd rfl (by first | exact .inl rfl | exact .inr rfl))) (fun s H C cl fp => ts_nil) (fun s H C cl fp => (e_call F_are_places (hr.mono (by first | decide | omega)) T.g_are_places T.k_are_places B_are_places tkF (len_cons (len_cons len_nil)) rfl (a_cons (e_var (i := 1) rfl (by first | exact .inl rfl | exact .inr (.inl rfl) | exact .inr (.inr rfl))) (a_cons (f_len rfl T.n_len (a_cons (e_var (i := 0) rfl (by first | exact .inl rfl | exact .inr (.inl rfl) | exact .inr (.inr rfl))) a_nil)) a_nil))))) a_nil)))) (s_cons (s_ret e_bl)
    s_nil) s_nil)
    (s_cons (s_ret (e_and (e_cmpW w_gt (by with_unfolding_all rfl) (f_len rfl T.n_len (a_cons (x_ix hr (e_var (i := 0) rfl (by first | exact .inl rfl | exact .inr (.inl rfl) | exact .inr (.inr rfl))) e_int) a_nil)) e_int) (e_one (f_all rfl bt_all rfl T.n_all (a_cons (e_lc (own := [((PySem.Str.ofString "row"), 1)]) rfl sc.nd (blkOk_by (by first | rfl | kernel_rfl | with_unfolding_all rfl)) rfl (i_any (e_var (i := 0) rfl (by first | exact .inl rfl | exact .inr (.inl rfl) | exact .inr (.inr rfl)))) (fun s H C cl fp => (g_name (i := 1) sc.nd rfl (by first | exact .inl rfl | exact .inr rfl))) (fun s H C cl fp => ts_nil) (fun s H C cl fp => (e_cmpW (w_eqA hr) (by with_unfolding_all rfl) (f_len rfl T.n_len (a_cons (e_var (i := 1) rfl (by first | exact .inl rfl | exact .inr (.inl rfl) | exact .inr (.inr rfl))) a_nil)) (f_len rfl T.n_len (a_cons (x_ix hr (e_var (i := 0) rfl (by first | exact .inl rfl | exact .inr (.inl rfl) | exact .inr (.inr rfl))) e_int) a_nil))))) a_nil)))))
    s_nil)))
theorem ok_is_machine (T : Txt P w K mg a_is_number a_are_numbers_from a_are_places a_is_set_of_places a_is_word a_are_steps a_is_machine a_letters_in a_check_letters a_check_as_many_letters a_state_from a_state_behind a_takes a_first_words a_words_to_states a_numbered a_kinds_of_states a_least a_are_alike a_parting_word_from a_parting_word a__law_same a__law_lists a__law_heard a__law_machines_right a__law_refused_right a__law_lists_right a_law a_NoPlace a_Unfit) (F : Fun K (PySem.Str.ofString "is_machine") (PySem.Str.ofString "is_machine") st_is_machine a_is_machine fd_is_machine) (F_are_steps : FnOk P w K mg base (L2.CX P w) 4 a_are_steps fd_are_steps ps_are_steps (spF ⟨w, K, mg⟩ 1 f_are_steps)) (B_are_steps : Binds K fd_are_steps ps_are_steps []) (F_is_set_of_places : FnOk P w K mg base (L2.CX P w) 4 a_is_set_of_places fd_is_set_of_places ps_is_set_of_places (spF ⟨w, K, mg⟩ 2 f_is_set_of_places)) (B_is_set_of_places : Binds K fd_is_set_of_places ps_is_set_of_places []) : FnOk P w K mg base (L2.CX P w) 5 a_is_machine fd_is_machine ps_is_machine (spF ⟨w, K, mg⟩ 1 f_is_machine) := by
  have sc := sc_is_machine
  refine fn_ok F sc rfl (by decide) fun cdv A outer s H E hr => ?_
  exact (s_cons (s_if (t_pw (tw_or (t_not (t_val (f_isi bt_isi rfl T.n_isinstance (a_cons (e_var (i := 0) rfl (by first | exact .inl rfl | exact .inr (.inl rfl) | exact .inr (.inr rfl))) (a_cons (e_ty (n := .tuple) rfl T.n_tuple bt_tuple) a_nil))))) (tw_or1 (t_cmpW (w_neA hr) (by with_unfolding_all rfl) (f_len rfl T.n_len (a_cons (e_var (i := 0) rfl (by first | exact .inl rfl | exact .inr (.inl rfl) | exact .inr (.inr rfl))) a_nil)) e_int)))) (s_cons (s_ret e_bl)
    s_nil) s_nil)
    (s_cons (s_asg (e_var (i := 0) rfl (by first | exact .inl rfl | exact .inr (.inl rfl) | exact .inr (.inr rfl))) (g_tup rfl (gs_c (g_name (i := 1) sc.nd rfl (by first | exact .inl rfl | exact .inr rfl)) (gs_c (g_name (i := 2) sc.nd rfl (by first | exact .inl rfl | exact .inr rfl)) gs_nil))))
    (s_cons (s_ret (e_and (e_call F_are_steps (hr.mono (by first | decide | omega)) T.g_are_steps T.k_are_steps B_are_steps tkD (len_cons len_nil) rfl (a_cons (e_var (i := 1) rfl (by first | exact .inl rfl | exact .inr (.inl rfl) | exact .inr (.inr rfl))) a_nil)) (e_one (e_call F_is_set_of_places (hr.mono (by first | decide | omega)) T.g_is_set_of_places T.k_is_set_of_places B_is_set_of_places tkD (len_cons (len_cons len_nil)) rfl (a_cons (e_var (i := 2) rfl (by first | exact .inl rfl | exact .inr (.inl rfl) | exact .inr (.inr rfl))) (a_cons (f_len rfl T.n_len (a_cons (e_var (i := 1) rfl (by first | exact .inl rfl | exact .inr (.inl rfl) | exact .inr (.inr rfl))) a_nil)) a_nil))))))
    s_nil)))
theorem ok_letters_in (T : Txt P w K mg a_is_number a_are_numbers_from a_are_places a_is_set_of_places a_is_word a_are_steps a_is_machine a_letters_in a_check_letters a_check_as_many_letters a_state_from a_state_behind a_takes a_first_words a_words_to_states a_numbered a_kinds_of_states a_least a_are_alike a_parting_word_from a_parting_word a__law_same a__law_lists a__law_heard a__law_machines_right a__law_refused_right a__law_lists_right a_law a_NoPlace a_Unfit) (F : Fun K (PySem.Str.ofString "letters_in") (PySem.Str.ofString "letters_in") st_letters_in a_letters_in fd_letters_in) : FnOk P w K mg base (L2.CX P w) 1 a_letters_in fd_letters_in ps_letters_in (spF ⟨w, K, mg⟩ 1 f_letters_in) := by
  have sc := sc_letters_in
  refine fn_ok F sc rfl (by decide) fun cdv A outer s H E hr => ?_
  exact (s_cons (s_ret (f_len rfl T.n_len (a_cons (x_ix hr (x_ix hr (e_var (i := 0) rfl (by first | exact .inl rfl | exact .inr (.inl rfl) | exact .inr (.inr rfl))) e_int) e_int) a_nil)))
    s_nil)
theorem ok_check_letters (T : Txt P w K mg a_is_number a_are_numbers_from a_are_places a_is_set_of_places a_is_word a_are_steps a_is_machine a_letters_in a_check_letters a_check_as_many_letters a_state_from a_state_behind a_takes a_first_words a_words_to_states a_numbered a_kinds_of_states a_least a_are_alike a_parting_word_from a_parting_word a__law_same a__law_lists a__law_heard a__law_machines_right a__law_refused_right a__law_lists_right a_law a_NoPlace a_Unfit) (F : Fun K (PySem.Str.ofString "check_letters") (PySem.Str.ofString "check_letters") st_check_letters a_check_letters fd_check_letters) (F_letters_in : FnOk P w K mg base (L2.CX P w) 1 a_letters_in fd_letters_in ps_letters_in (spF ⟨w, K, mg⟩ 1 f_letters_in)) (B_letters_in : Binds K fd_letters_in ps_letters_in []) : FnOk P w K mg base (L2.CX P w) 2 a_check_letters fd_check_letters ps_check_letters (spF ⟨w, K, mg⟩ 2 f_check_letters) := by
  have sc := sc_check_letters
  refine fn_ok F sc rfl (by decide) fun cdv A outer s H E hr => ?_
  exact (s_cons (s_set (i := 2) sc.nd rfl (by first | exact .inl rfl | exact .inr rfl) (e_call F_letters_in (hr.mono (by first | decide | omega)) T.g_letters_in T.k_letters_in B_letters_in tkD (len_cons len_nil) rfl (a_cons (e_var (i := 0) rfl (by first | exact .inl rfl | exact .inr (.inl rfl) | exact .inr (.inr rfl))) a_nil)))
    (s_cons (s_for poD rfl (i_any (e_var (i := 1) rfl (by first | exact .inl rfl | exact .inr (.inl rfl) | exact .inr (.inr rfl)))) (g_name (i := 3) sc.nd rfl (by first | exact .inl rfl | exact .inr rfl)) (s_cons (s_if (t_not (t_chainW w_le w_le e_int (e_var (i := 3) rfl (by first | exact .inl rfl | exact .inr (.inl rfl) | exact .inr (.inr rfl))) (e_var (i := 2) rfl (by first | exact .inl rfl | exact .inr (.inl rfl) | exact .inr (.inr rfl))))) (s_cons (s_raise1 rfl tkD T.m_NoPlace T.g_NoPlace T.k_NoPlace (raises_own T.b_NoPlace T.t_NoPlace) hr (e_var (i := 3) rfl (by first | exact .inl rfl | exact .inr (.inl rfl) | exact .inr (.inr rfl))) rfl)
    s_nil) s_nil)
    s_nil))
    s_nil))
theorem ok_check_as_many_letters (T : Txt P w K mg a_is_number a_are_numbers_from a_are_places a_is_set_of_places a_is_word a_are_steps a_is_machine a_letters_in a_check_letters a_check_as_many_letters a_state_from a_state_behind a_takes a_first_words a_words_to_states a_numbered a_kinds_of_states a_least a_are_alike a_parting_word_from a_parting_word a__law_same a__law_lists a__law_heard a__law_machines_right a__law_refused_right a__law_lists_right a_law a_NoPlace a_Unfit) (F : Fun K (PySem.Str.ofString "check_as_many_letters") (PySem.Str.ofString "check_as_many_letters") st_check_as_many_letters a_check_as_many_letters fd_check_as_many_letters) (F_letters_in : FnOk P w K mg base (L2.CX P w) 1 a_letters_in fd_letters_in ps_letters_in (spF ⟨w, K, mg⟩ 1 f_letters_in)) (B_letters_in : Binds K fd_letters_in ps_letters_in []) : FnOk P w K mg base (L2.CX P w) 2 a_check_as_many_letters fd_check_as_many_letters ps_check_as_many_letters (spF ⟨w, K, mg⟩ 2 f_check_as_many_letters) := by
  have sc := sc_check_as_many_letters
  refine fn_ok F sc rfl (by decide) fun cdv A outer s H E hr => ?_
  exact (s_cons (s_if (t_cmpW (w_neA hr) (by with_unfolding_all rfl) (e_call F_letters_in (hr.mono (by first | decide | omega)) T.g_letters_in T.k_letters_in B_letters_in tkD (len_cons len_nil) rfl (a_cons (e_var (i := 0) rfl (by first | exact .inl rfl | exact .inr (.inl rfl) | exact .inr (.inr rfl))) a_nil)) (e_call F_letters_in (hr.mono (by first | decide | omega)) T.g_letters_in T.k_letters_in B_letters_in tkD (len_cons len_nil) rfl (a_cons (e_var (i := 1) rfl (by first | exact .inl rfl | exact .inr (.inl rfl) | exact .inr (.inr rfl))) a_nil))) (s_cons (s_raise0 rfl tkD PySem.F.excBase_ValueError T.x_Unfit T.g_Unfit T.k_Unfit (raises_own T.b_Unfit T.t_Unfit) rfl)
    s_nil) s_nil)
    s_nil)
theorem ok_state_from (T : Txt P w K mg a_is_number a_are_numbers_from a_are_places a_is_set_of_places a_is_word a_are_steps a_is_machine a_letters_in a_check_letters a_check_as_many_letters a_state_from a_state_behind a_takes a_first_words a_words_to_states a_numbered a_kinds_of_states a_least a_are_alike a_parting_word_from a_parting_word a__law_same a__law_lists a__law_heard a__law_machines_right a__law_refused_right a__law_lists_right a_law a_NoPlace a_Unfit) (F : Fun K (PySem.Str.ofString "state_from") (PySem.Str.ofString "state_from") st_state_from a_state_from fd_state_from) : FnOk P w K mg base (L2.CX P w) 1 a_state_from fd_state_from ps_state_from (spF ⟨w, K, mg⟩ 3 f_state_from) := by
  have sc := sc_state_from
  refine fn_ok F sc rfl (by decide) fun cdv A outer s H E hr => ?_
  exact (s_cons (s_set (i := 3) sc.nd rfl (by first | exact .inl rfl | exact .inr rfl) (x_ix hr (e_var (i := 0) rfl (by first | exact .inl rfl | exact .inr (.inl rfl) | exact .inr (.inr rfl))) e_int))
    (s_cons (s_set (i := 4) sc.nd rfl (by first | exact .inl rfl | exact .inr rfl) (e_var (i := 1) rfl (by first | exact .inl rfl | exact .inr (.inl rfl) | exact .inr (.inr rfl))))
    (s_cons (s_for poD rfl (i_any (e_var (i := 2) rfl (by first | exact .inl rfl | exact .inr (.inl rfl) | exact .inr (.inr rfl)))) (g_name (i := 5) sc.nd rfl (by first | exact .inl rfl | exact .inr rfl)) (s_cons (s_set (i := 4) sc.nd rfl (by first | exact .inl rfl | exact .inr rfl) (x_ix hr (x_ix hr (e_var (i := 3) rfl (by first | exact .inl rfl | exact .inr (.inl rfl) | exact .inr (.inr rfl))) (e_var (i := 4) rfl (by first | exact .inl rfl | exact .inr (.inl rfl) | exact .inr (.inr rfl)))) (b_sub (e_var (i := 5) rfl (by first | exact .inl rfl | exact .inr (.inl rfl) | exact .inr (.inr rfl))) e_int)))
    s_nil))
    (s_cons (s_ret (e_var (i := 4) rfl (by first | exact .inl rfl | exact .inr (.inl rfl) | exact .inr (.inr rfl))))
    s_nil))))
theorem ok_state_behind (T : Txt P w K mg a_is_number a_are_numbers_from a_are_places a_is_set_of_places a_is_word a_are_steps a_is_machine a_letters_in a_check_letters a_check_as_many_letters a_state_from a_state_behind a_takes a_first_words a_words_to_states a_numbered a_kinds_of_states a_least a_are_alike a_parting_word_from a_parting_word a__law_same a__law_lists a__law_heard a__law_machines_right a__law_refused_right a__law_lists_right a_law a_NoPlace a_Unfit) (F : Fun K (PySem.Str.ofString "state_behind") (PySem.Str.ofString "state_behind") st_state_behind a_state_behind fd_state_behind) (F_check_letters : FnOk P w K mg base (L2.CX P w) 2 a_check_letters fd_check_letters ps_check_letters (spF ⟨w, K, mg⟩ 2 f_check_letters)) (B_check_letters : Binds K fd_check_letters ps_check_letters []) (F_state_from : FnOk P w K mg base (L2.CX P w) 1 a_state_from fd_state_from ps_state_from (spF ⟨w, K, mg⟩ 3 f_state_from)) (B_state_from : Binds K fd_state_from ps_state_from []) : FnOk P w K mg base (L2.CX P w) 3 a_state_behind fd_state_behind ps_state_behind (spF ⟨w, K, mg⟩ 2 f_state_behind) := by
  have sc := sc_state_behind
  refine fn_ok F sc rfl (by decide) fun cdv A outer s H E hr => ?_
  exact (s_cons (s_expr (e_call F_check_letters (hr.mono (by first | decide | omega)) T.g_check_letters T.k_check_letters B_check_letters tkD (len_cons (len_cons len_nil)) rfl (a_cons (e_var (i := 0) rfl (by first | exact .inl rfl | exact .inr (.inl rfl) | exact .inr (.inr rfl))) (a_cons (e_var (i := 1) rfl (by first | exact .inl rfl | exact .inr (.inl rfl) | exact .inr (.inr rfl))) a_nil))))
    (s_cons (s_ret (e_call F_state_from (hr.mono (by first | decide | omega)) T.g_state_from T.k_state_from B_state_from tkD (len_cons (len_cons (len_cons len_nil))) rfl (a_cons (e_var (i := 0) rfl (by first | exact .inl rfl | exact .inr (.inl rfl) | exact .inr (.inr rfl))) (a_cons e_int (a_cons (e_var (i := 1) rfl (by first | exact .inl rfl | exact .inr (.inl rfl) | exact .inr (.inr rfl))) a_nil)))))
    s_nil))
theorem ok_takes (T : Txt P w K mg a_is_number a_are_numbers_from a_are_places a_is_set_of_places a_is_word a_are_steps a_is_machine a_letters_in a_check_letters a_check_as_many_letters a_state_from a_state_behind a_takes a_first_words a_words_to_states a_numbered a_kinds_of_states a_least a_are_alike a_parting_word_from a_parting_word a__law_same a__law_lists a__law_heard a__law_machines_right a__law_refused_right a__law_lists_right a_law a_NoPlace a_Unfit) (F : Fun K (PySem.Str.ofString "takes") (PySem.Str.ofString "takes") st_takes a_takes fd_takes) (F_state_behind : FnOk P w K mg base (L2.CX P w) 3 a_state_behind fd_state_behind ps_state_behind (spF ⟨w, K, mg⟩ 2 f_state_behind)) (B_state_behind : Binds K fd_state_behind ps_state_behind []) : FnOk P w K mg base (L2.CX P w) 4 a_takes fd_takes ps_takes (spF ⟨w, K, mg⟩ 2 f_takes) := by
  have sc := sc_takes
  refine fn_ok F sc rfl (by decide) fun cdv A outer s H E hr => ?_
  exact (s_cons (s_ret (e_cmpW (w_in hr) (by with_unfolding_all rfl) (e_call F_state_behind (hr.mono (by first | decide | omega)) T.g_state_behind T.k_state_behind B_state_behind tkD (len_cons (len_cons len_nil)) rfl (a_cons (e_var (i := 0) rfl (by first | exact .inl rfl | exact .inr (.inl rfl) | exact .inr (.inr rfl))) (a_cons (e_var (i := 1) rfl (by first | exact .inl rfl | exact .inr (.inl rfl) | exact .inr (.inr rfl))) a_nil))) (x_ix hr (e_var (i := 0) rfl (by first | exact .inl rfl | exact .inr (.inl rfl) | exact .inr (.inr rfl))) e_int)))
    s_nil)
theorem act_first_words (T : Txt P w K mg a_is_number a_are_numbers_from a_are_places a_is_set_of_places a_is_word a_are_steps a_is_machine a_letters_in a_check_letters a_check_as_many_letters a_state_from a_state_behind a_takes a_first_words a_words_to_states a_numbered a_kinds_of_states a_least a_are_alike a_parting_word_from a_parting_word a__law_same a__law_lists a__law_heard a__law_machines_right a__law_refused_right a__law_lists_right a_law a_NoPlace a_Unfit) {cdv : Value} {A : Around} {outer : List PySem.Env} {s : Shared} {H : Hp} {E : XK} {gm : FM} {k : Nat} (hc : ActC (cxD P w K mg base N_first_words (PySem.Str.ofString "first_words") st_first_words a_first_words cdv A outer s H E) (wD E) (PySem.Str.ofString "behind") 1 gm) (hr : Room (k + 1) (A.deeper (envOfC (PySem.Str.ofString "first_words") (defScope st_first_words) s.heap.objs.size a_first_words cdv))) : PSs (cxD P w K mg base N_first_words (PySem.Str.ofString "first_words") st_first_words a_first_words cdv A outer s H E) (defBody st_first_words) (rdS (cxD P w K mg base N_first_words (PySem.Str.ofString "first_words") st_first_words a_first_words cdv A outer s H E) (wD E) (m_first_words gm)) := by
  have sc := sc_first_words
  exact (s_cons (s_set (i := 3) sc.nd rfl (by first | exact .inl rfl | exact .inr rfl) (e_dict1 (hu_of hr) (e_var (i := 0) rfl (by first | exact .inl rfl | exact .inr (.inl rfl) | exact .inr (.inr rfl))) (e_tup a_nil)))
    (s_cons (s_set (i := 4) sc.nd rfl (by first | exact .inl rfl | exact .inr rfl) (e_lst (a_cons (e_var (i := 0) rfl (by first | exact .inl rfl | exact .inr (.inl rfl) | exact .inr (.inr rfl))) a_nil)))
    (s_cons (s_while 100000 poD (t_pw (tw_and (t_val (e_var (i := 4) rfl (by first | exact .inl rfl | exact .inr (.inl rfl) | exact .inr (.inr rfl)))) (tw_and1 (t_cmpW w_le (by with_unfolding_all rfl) (f_len rfl T.n_len (a_cons (e_var (i := 3) rfl (by first | exact .inl rfl | exact .inr (.inl rfl) | exact .inr (.inr rfl))) a_nil)) (e_var (i := 2) rfl (by first | exact .inl rfl | exact .inr (.inl rfl) | exact .inr (.inr rfl))))))) (s_cons (s_set (i := 5) sc.nd rfl (by first | exact .inl rfl | exact .inr rfl) (e_lst a_nil))
    (s_cons (s_for poD rfl (i_any (e_var (i := 4) rfl (by first | exact .inl rfl | exact .inr (.inl rfl) | exact .inr (.inr rfl)))) (g_name (i := 6) sc.nd rfl (by first | exact .inl rfl | exact .inr rfl)) (s_cons (s_for poD rfl (i_enumK (by decide) rfl T.n_enumerate (hc _ _ _ _ rfl (e_var (i := 6) rfl (by first | exact .inl rfl | exact .inr (.inl rfl) | exact .inr (.inr rfl))))) (g_tup rfl (gs_c (g_name (i := 7) sc.nd rfl (by first | exact .inl rfl | exact .inr rfl)) (gs_c (g_name (i := 8) sc.nd rfl (by first | exact .inl rfl | exact .inr rfl)) gs_nil))) (s_cons (s_if (t_cmpW (w_nin hr) (by with_unfolding_all rfl) (e_var (i := 8) rfl (by first | exact .inl rfl | exact .inr (.inl rfl) | exact .inr (.inr rfl))) (e_var (i := 3) rfl (by first | exact .inl rfl | exact .inr (.inl rfl) | exact .inr (.inr rfl)))) (s_cons (s_asg (b_add (x_ix hr (e_var (i := 3) rfl (by first | exact .inl rfl | exact .inr (.inl rfl) | exact .inr (.inr rfl))) (e_var (i := 6) rfl (by first | exact .inl rfl | exact .inr (.inl rfl) | exact .inr (.inr rfl)))) (e_tup (a_cons (e_var (i := 7) rfl (by first | exact .inl rfl | exact .inr (.inl rfl) | exact .inr (.inr rfl))) a_nil))) (g_sub (W := WF) (hu_of hr) (e_var (i := 3) rfl (by first | exact .inl rfl | exact .inr (.inl rfl) | exact .inr (.inr rfl))) (e_var (i := 8) rfl (by first | exact .inl rfl | exact .inr (.inl rfl) | exact .inr (.inr rfl)))))
    (s_cons (s_expr (e_append (e_var (i := 5) rfl (by first | exact .inl rfl | exact .inr (.inl rfl) | exact .inr (.inr rfl))) (a_cons (e_var (i := 8) rfl (by first | exact .inl rfl | exact .inr (.inl rfl) | exact .inr (.inr rfl))) a_nil)))
    s_nil)) s_nil)
    s_nil))
    s_nil))
    (s_cons (s_set (i := 4) sc.nd rfl (by first | exact .inl rfl | exact .inr rfl) (e_var (i := 5) rfl (by first | exact .inl rfl | exact .inr (.inl rfl) | exact .inr (.inr rfl))))
    s_nil))))
    (s_cons (s_ret (e_var (i := 3) rfl (by first | exact .inl rfl | exact .inr (.inl rfl) | exact .inr (.inr rfl))))
    s_nil))))
theorem ok_words_to_states (T : Txt P w K mg a_is_number a_are_numbers_from a_are_places a_is_set_of_places a_is_word a_are_steps a_is_machine a_letters_in a_check_letters a_check_as_many_letters a_state_from a_state_behind a_takes a_first_words a_words_to_states a_numbered a_kinds_of_states a_least a_are_alike a_parting_word_from a_parting_word a__law_same a__law_lists a__law_heard a__law_machines_right a__law_refused_right a__law_lists_right a_law a_NoPlace a_Unfit) (F : Fun K (PySem.Str.ofString "words_to_states") (PySem.Str.ofString "words_to_states") st_words_to_states a_words_to_states fd_words_to_states) (U_first_words : Fun K (PySem.Str.ofString "first_words") (PySem.Str.ofString "first_words") st_first_words a_first_words fd_first_words) (B_first_words : Binds K fd_first_words ps_first_words []) {cc PP : Addr} (ct : fd_words_to_states.code = .ref cc) (tb : LamX.TabB base mg cc PP) (ht : (PP, lamQ (PySem.Str.ofString "words_to_states")) ∈ Tbs.T) (hu : ∀ p ∈ Tbs.T, p.1 = PP → p.2 = lamQ (PySem.Str.ofString "words_to_states")) : FnOk P w K mg base (L2.CX P w) 3 a_words_to_states fd_words_to_states ps_words_to_states (spF ⟨w, K, mg⟩ 1 f_words_to_states) := by
  have sc := sc_words_to_states
  refine fn_okC F ct sc rfl (by decide) fun A outer s H E hr => ?_
  exact (s_cons (s_set (i := 1) sc.nd rfl (by first | exact .inl rfl | exact .inr rfl) (x_ix hr (e_var (i := 0) rfl (by first | exact .inl rfl | exact .inr (.inl rfl) | exact .inr (.inr rfl))) e_int))
    (s_cons (s_ret (e_lam (k := 0) (ff := f_first_words) (mfw := m_first_words) (Ng := N_first_words) (pas := ps_first_words) (stg := st_first_words) (i := 2) (fun _ => rfl) tkD rfl T.g_first_words T.k_first_words U_first_words B_first_words rfl sc_first_words (by decide) rfl (by first | exact .inl rfl | exact .inr (.inl rfl)) (fun τ1 cdv A outer s H E gm hc hr => (letI : Tbs := τ1; act_first_words T hc hr)) tb rfl ht hu (hr.mono (by first | decide | omega)) (lamN_by (by first | rfl | kernel_rfl | with_unfolding_all rfl)) rfl sc.nd rfl (fun _ _ _ _ _ _ => by first | rfl | with_unfolding_all rfl) (fun A outer s H E f cd hr => (x_ix hr (e_var (i := 1) rfl (by first | exact .inl rfl | exact .inr (.inl rfl) | exact .inr (.inr rfl))) (e_var (i := 2) rfl (by first | exact .inl rfl | exact .inr (.inl rfl) | exact .inr (.inr rfl))))) e_int (f_len rfl T.n_len (a_cons (e_var (i := 1) rfl (by first | exact .inl rfl | exact .inr (.inl rfl) | exact .inr (.inr rfl))) a_nil))))
    s_nil))
theorem ok_numbered (T : Txt P w K mg a_is_number a_are_numbers_from a_are_places a_is_set_of_places a_is_word a_are_steps a_is_machine a_letters_in a_check_letters a_check_as_many_letters a_state_from a_state_behind a_takes a_first_words a_words_to_states a_numbered a_kinds_of_states a_least a_are_alike a_parting_word_from a_parting_word a__law_same a__law_lists a__law_heard a__law_machines_right a__law_refused_right a__law_lists_right a_law a_NoPlace a_Unfit) (F : Fun K (PySem.Str.ofString "numbered") (PySem.Str.ofString "numbered") st_numbered a_numbered fd_numbered) : FnOk P w K mg base (L2.CX P w) 1 a_numbered fd_numbered ps_numbered (spF ⟨w, K, mg⟩ 1 f_numbered) := by
  have sc := sc_numbered
  refine fn_ok F sc rfl (by decide) fun cdv A outer s H E hr => ?_
  exact (s_cons (s_set (i := 1) sc.nd rfl (by first | exact .inl rfl | exact .inr rfl) e_dict0)
    (s_cons (s_for poD rfl (i_any (e_var (i := 0) rfl (by first | exact .inl rfl | exact .inr (.inl rfl) | exact .inr (.inr rfl)))) (g_name (i := 2) sc.nd rfl (by first | exact .inl rfl | exact .inr rfl)) (s_cons (s_if (t_cmpW (w_nin hr) (by with_unfolding_all rfl) (x_ix hr (e_var (i := 0) rfl (by first | exact .inl rfl | exact .inr (.inl rfl) | exact .inr (.inr rfl))) (e_var (i := 2) rfl (by first | exact .inl rfl | exact .inr (.inl rfl) | exact .inr (.inr rfl)))) (e_var (i := 1) rfl (by first | exact .inl rfl | exact .inr (.inl rfl) | exact .inr (.inr rfl)))) (s_cons (s_asg (f_len rfl T.n_len (a_cons (e_var (i := 1) rfl (by first | exact .inl rfl | exact .inr (.inl rfl) | exact .inr (.inr rfl))) a_nil)) (g_sub (W := WF) (hu_of hr) (e_var (i := 1) rfl (by first | exact .inl rfl | exact .inr (.inl rfl) | exact .inr (.inr rfl))) (x_ix hr (e_var (i := 0) rfl (by first | exact .inl rfl | exact .inr (.inl rfl) | exact .inr (.inr rfl))) (e_var (i := 2) rfl (by first | exact .inl rfl | exact .inr (.inl rfl) | exact .inr (.inr rfl))))))
    s_nil) s_nil)
    s_nil))
    (s_cons (s_ret (e_dcG (own := [((PySem.Str.ofString "key"), 2)]) (hu_of hr) rfl sc.nd (blkOk_by (by first | rfl | kernel_rfl | with_unfolding_all rfl)) rfl (i_any (e_var (i := 0) rfl (by first | exact .inl rfl | exact .inr (.inl rfl) | exact .inr (.inr rfl)))) (fun s H C cl fp => (g_name (i := 2) sc.nd rfl (by first | exact .inl rfl | exact .inr rfl))) (fun s H C cl fp => ts_nil) (fun s H C cl fp => (e_var (i := 2) rfl (by first | exact .inl rfl | exact .inr (.inl rfl) | exact .inr (.inr rfl)))) (fun s H C cl fp => (x_ix hr (e_var (i := 1) rfl (by first | exact .inl rfl | exact .inr (.inl rfl) | exact .inr (.inr rfl))) (x_ix hr (e_var (i := 0) rfl (by first | exact .inl rfl | exact .inr (.inl rfl) | exact .inr (.inr rfl))) (e_var (i := 2) rfl (by first | exact .inl rfl | exact .inr (.inl rfl) | exact .inr (.inr rfl))))))))
    s_nil)))
theorem ok_kinds_of_states (T : Txt P w K mg a_is_number a_are_numbers_from a_are_places a_is_set_of_places a_is_word a_are_steps a_is_machine a_letters_in a_check_letters a_check_as_many_letters a_state_from a_state_behind a_takes a_first_words a_words_to_states a_numbered a_kinds_of_states a_least a_are_alike a_parting_word_from a_parting_word a__law_same a__law_lists a__law_heard a__law_machines_right a__law_refused_right a__law_lists_right a_law a_NoPlace a_Unfit) (F : Fun K (PySem.Str.ofString "kinds_of_states") (PySem.Str.ofString "kinds_of_states") st_kinds_of_states a_kinds_of_states fd_kinds_of_states) (F_words_to_states : FnOk P w K mg base (L2.CX P w) 3 a_words_to_states fd_words_to_states ps_words_to_states (spF ⟨w, K, mg⟩ 1 f_words_to_states)) (B_words_to_states : Binds K fd_words_to_states ps_words_to_states []) (F_numbered : FnOk P w K mg base (L2.CX P w) 1 a_numbered fd_numbered ps_numbered (spF ⟨w, K, mg⟩ 1 f_numbered)) (B_numbered : Binds K fd_numbered ps_numbered []) : FnOk P w K mg base (L2.CX P w) 4 a_kinds_of_states fd_kinds_of_states ps_kinds_of_states (spF ⟨w, K, mg⟩ 1 f_kinds_of_states) := by
  have sc := sc_kinds_of_states
  refine fn_ok F sc rfl (by decide) fun cdv A outer s H E hr => ?_
  exact (s_cons (s_asg (e_var (i := 0) rfl (by first | exact .inl rfl | exact .inr (.inl rfl) | exact .inr (.inr rfl))) (g_tup rfl (gs_c (g_name (i := 3) sc.nd rfl (by first | exact .inl rfl | exact .inr rfl)) (gs_c (g_name (i := 4) sc.nd rfl (by first | exact .inl rfl | exact .inr rfl)) gs_nil))))
    (s_cons (s_set (i := 1) sc.nd rfl (by first | exact .inl rfl | exact .inr rfl) (f_list rfl bt_list rfl T.n_list (a_cons (e_call F_words_to_states (hr.mono (by first | decide | omega)) T.g_words_to_states T.k_words_to_states B_words_to_states tkD (len_cons len_nil) rfl (a_cons (e_var (i := 0) rfl (by first | exact .inl rfl | exact .inr (.inl rfl) | exact .inr (.inr rfl))) a_nil)) a_nil)))
    (s_cons (s_set (i := 2) sc.nd rfl (by first | exact .inl rfl | exact .inr rfl) (e_call F_numbered (hr.mono (by first | decide | omega)) T.g_numbered T.k_numbered B_numbered tkD (len_cons len_nil) rfl (a_cons (e_dcG (own := [((PySem.Str.ofString "state"), 6)]) (hu_of hr) rfl sc.nd (blkOk_by (by first | rfl | kernel_rfl | with_unfolding_all rfl)) rfl (i_any (e_var (i := 1) rfl (by first | exact .inl rfl | exact .inr (.inl rfl) | exact .inr (.inr rfl)))) (fun s H C cl fp => (g_name (i := 6) sc.nd rfl (by first | exact .inl rfl | exact .inr rfl))) (fun s H C cl fp => ts_nil) (fun s H C cl fp => (e_var (i := 6) rfl (by first | exact .inl rfl | exact .inr (.inl rfl) | exact .inr (.inr rfl)))) (fun s H C cl fp => (e_cmpW (w_in hr) (by with_unfolding_all rfl) (e_var (i := 6) rfl (by first | exact .inl rfl | exact .inr (.inl rfl) | exact .inr (.inr rfl))) (e_var (i := 4) rfl (by first | exact .inl rfl | exact .inr (.inl rfl) | exact .inr (.inr rfl)))))) a_nil)))
    (s_cons (s_while 100000 poD (t_val e_bl) (s_cons (s_set (i := 5) sc.nd rfl (by first | exact .inl rfl | exact .inr rfl) (e_call F_numbered (hr.mono (by first | decide | omega)) T.g_numbered T.k_numbered B_numbered tkD (len_cons len_nil) rfl (a_cons (e_dcG (own := [((PySem.Str.ofString "state"), 6)]) (hu_of hr) rfl sc.nd (blkOk_by (by first | rfl | kernel_rfl | with_unfolding_all rfl)) rfl (i_any (e_var (i := 1) rfl (by first | exact .inl rfl | exact .inr (.inl rfl) | exact .inr (.inr rfl)))) (fun s H C cl fp => (g_name (i := 6) sc.nd rfl (by first | exact .inl rfl | exact .inr rfl))) (fun s H C cl fp => ts_nil) (fun s H C cl fp => (e_var (i := 6) rfl (by first | exact .inl rfl | exact .inr (.inl rfl) | exact .inr (.inr rfl)))) (fun s H C cl fp => (e_tup (a_cons (x_ix hr (e_var (i := 2) rfl (by first | exact .inl rfl | exact .inr (.inl rfl) | exact .inr (.inr rfl))) (e_var (i := 6) rfl (by first | exact .inl rfl | exact .inr (.inl rfl) | exact .inr (.inr rfl)))) (a_cons (f_tuple bt_tuple rfl T.n_tuple (a_cons (e_lc (own := [((PySem.Str.ofString "to"), 7)]) rfl sc.nd (blkOk_by (by first | rfl | kernel_rfl | with_unfolding_all rfl)) rfl (i_any (x_ix hr (e_var (i := 3) rfl (by first | exact .inl rfl | exact .inr (.inl rfl) | exact .inr (.inr rfl))) (e_var (i := 6) rfl (by first | exact .inl rfl | exact .inr (.inl rfl) | exact .inr (.inr rfl))))) (fun s H C cl fp => (g_name (i := 7) sc.nd rfl (by first | exact .inl rfl | exact .inr rfl))) (fun s H C cl fp => ts_nil) (fun s H C cl fp => (x_ix hr (e_var (i := 2) rfl (by first | exact .inl rfl | exact .inr (.inl rfl) | exact .inr (.inr rfl))) (e_var (i := 7) rfl (by first | exact .inl rfl | exact .inr (.inl rfl) | exact .inr (.inr rfl)))))) a_nil)) a_nil))))) a_nil)))
    (s_cons (s_if (t_cmpW (w_eqA hr) (by with_unfolding_all rfl) (e_var (i := 5) rfl (by first | exact .inl rfl | exact .inr (.inl rfl) | exact .inr (.inr rfl))) (e_var (i := 2) rfl (by first | exact .inl rfl | exact .inr (.inl rfl) | exact .inr (.inr rfl)))) (s_cons (s_ret (e_var (i := 2) rfl (by first | exact .inl rfl | exact .inr (.inl rfl) | exact .inr (.inr rfl))))
    s_nil) s_nil)
    (s_cons (s_set (i := 2) sc.nd rfl (by first | exact .inl rfl | exact .inr rfl) (e_var (i := 5) rfl (by first | exact .inl rfl | exact .inr (.inl rfl) | exact .inr (.inr rfl))))
    s_nil))))
    s_nil))))
theorem ok_least (T : Txt P w K mg a_is_number a_are_numbers_from a_are_places a_is_set_of_places a_is_word a_are_steps a_is_machine a_letters_in a_check_letters a_check_as_many_letters a_state_from a_state_behind a_takes a_first_words a_words_to_states a_numbered a_kinds_of_states a_least a_are_alike a_parting_word_from a_parting_word a__law_same a__law_lists a__law_heard a__law_machines_right a__law_refused_right a__law_lists_right a_law a_NoPlace a_Unfit) (F : Fun K (PySem.Str.ofString "least") (PySem.Str.ofString "least") st_least a_least fd_least) (F_kinds_of_states : FnOk P w K mg base (L2.CX P w) 4 a_kinds_of_states fd_kinds_of_states ps_kinds_of_states (spF ⟨w, K, mg⟩ 1 f_kinds_of_states)) (B_kinds_of_states : Binds K fd_kinds_of_states ps_kinds_of_states []) : FnOk P w K mg base (L2.CX P w) 5 a_least fd_least ps_least (spF ⟨w, K, mg⟩ 1 f_least) := by
  have sc := sc_least
  refine fn_ok F sc rfl (by decide) fun cdv A outer s H E hr => ?_
  exact (s_cons (s_asg (e_var (i := 0) rfl (by first | exact .inl rfl | exact .inr (.inl rfl) | exact .inr (.inr rfl))) (g_tup rfl (gs_c (g_name (i := 5) sc.nd rfl (by first | exact .inl rfl | exact .inr rfl)) (gs_c (g_name (i := 6) sc.nd rfl (by first | exact .inl rfl | exact .inr rfl)) gs_nil))))
    (s_cons (s_set (i := 1) sc.nd rfl (by first | exact .inl rfl | exact .inr rfl) (e_call F_kinds_of_states (hr.mono (by first | decide | omega)) T.g_kinds_of_states T.k_kinds_of_states B_kinds_of_states tkD (len_cons len_nil) rfl (a_cons (e_var (i := 0) rfl (by first | exact .inl rfl | exact .inr (.inl rfl) | exact .inr (.inr rfl))) a_nil)))
    (s_cons (s_set (i := 2) sc.nd rfl (by first | exact .inl rfl | exact .inr rfl) (e_lst a_nil))
    (s_cons (s_set (i := 3) sc.nd rfl (by first | exact .inl rfl | exact .inr rfl) (e_lst a_nil))
    (s_cons (s_for poD rfl (i_any (e_var (i := 1) rfl (by first | exact .inl rfl | exact .inr (.inl rfl) | exact .inr (.inr rfl)))) (g_name (i := 4) sc.nd rfl (by first | exact .inl rfl | exact .inr rfl)) (s_cons (s_if (t_cmpW (w_eqA hr) (by with_unfolding_all rfl) (x_ix hr (e_var (i := 1) rfl (by first | exact .inl rfl | exact .inr (.inl rfl) | exact .inr (.inr rfl))) (e_var (i := 4) rfl (by first | exact .inl rfl | exact .inr (.inl rfl) | exact .inr (.inr rfl)))) (f_len rfl T.n_len (a_cons (e_var (i := 2) rfl (by first | exact .inl rfl | exact .inr (.inl rfl) | exact .inr (.inr rfl))) a_nil))) (s_cons (s_expr (e_append (e_var (i := 2) rfl (by first | exact .inl rfl | exact .inr (.inl rfl) | exact .inr (.inr rfl))) (a_cons (f_tuple bt_tuple rfl T.n_tuple (a_cons (e_lc (own := [((PySem.Str.ofString "to"), 7)]) rfl sc.nd (blkOk_by (by first | rfl | kernel_rfl | with_unfolding_all rfl)) rfl (i_any (x_ix hr (e_var (i := 5) rfl (by first | exact .inl rfl | exact .inr (.inl rfl) | exact .inr (.inr rfl))) (e_var (i := 4) rfl (by first | exact .inl rfl | exact .inr (.inl rfl) | exact .inr (.inr rfl))))) (fun s H C cl fp => (g_name (i := 7) sc.nd rfl (by first | exact .inl rfl | exact .inr rfl))) (fun s H C cl fp => ts_nil) (fun s H C cl fp => (x_ix hr (e_var (i := 1) rfl (by first | exact .inl rfl | exact .inr (.inl rfl) | exact .inr (.inr rfl))) (e_var (i := 7) rfl (by first | exact .inl rfl | exact .inr (.inl rfl) | exact .inr (.inr rfl)))))) a_nil)) a_nil)))
    (s_cons (s_if (t_cmpW (w_in hr) (by with_unfolding_all rfl) (e_var (i := 4) rfl (by first | exact .inl rfl | exact .inr (.inl rfl) | exact .inr (.inr rfl))) (e_var (i := 6) rfl (by first | exact .inl rfl | exact .inr (.inl rfl) | exact .inr (.inr rfl)))) (s_cons (s_expr (e_append (e_var (i := 3) rfl (by first | exact .inl rfl | exact .inr (.inl rfl) | exact .inr (.inr rfl))) (a_cons (x_ix hr (e_var (i := 1) rfl (by first | exact .inl rfl | exact .inr (.inl rfl) | exact .inr (.inr rfl))) (e_var (i := 4) rfl (by first | exact .inl rfl | exact .inr (.inl rfl) | exact .inr (.inr rfl)))) a_nil)))
    s_nil) s_nil)
    s_nil)) s_nil)
    s_nil))
    (s_cons (s_ret (e_tup (a_cons (f_tuple bt_tuple rfl T.n_tuple (a_cons (e_var (i := 2) rfl (by first | exact .inl rfl | exact .inr (.inl rfl) | exact .inr (.inr rfl))) a_nil)) (a_cons (f_tuple bt_tuple rfl T.n_tuple (a_cons (e_var (i := 3) rfl (by first | exact .inl rfl | exact .inr (.inl rfl) | exact .inr (.inr rfl))) a_nil)) a_nil))))
    s_nil))))))
theorem ok_are_alike (T : Txt P w K mg a_is_number a_are_numbers_from a_are_places a_is_set_of_places a_is_word a_are_steps a_is_machine a_letters_in a_check_letters a_check_as_many_letters a_state_from a_state_behind a_takes a_first_words a_words_to_states a_numbered a_kinds_of_states a_least a_are_alike a_parting_word_from a_parting_word a__law_same a__law_lists a__law_heard a__law_machines_right a__law_refused_right a__law_lists_right a_law a_NoPlace a_Unfit) (F : Fun K (PySem.Str.ofString "are_alike") (PySem.Str.ofString "are_alike") st_are_alike a_are_alike fd_are_alike) (F_check_as_many_letters : FnOk P w K mg base (L2.CX P w) 2 a_check_as_many_letters fd_check_as_many_letters ps_check_as_many_letters (spF ⟨w, K, mg⟩ 2 f_check_as_many_letters)) (B_check_as_many_letters : Binds K fd_check_as_many_letters ps_check_as_many_letters []) (F_least : FnOk P w K mg base (L2.CX P w) 5 a_least fd_least ps_least (spF ⟨w, K, mg⟩ 1 f_least)) (B_least : Binds K fd_least ps_least []) : FnOk P w K mg base (L2.CX P w) 6 a_are_alike fd_are_alike ps_are_alike (spF ⟨w, K, mg⟩ 2 f_are_alike) := by
  have sc := sc_are_alike
  refine fn_ok F sc rfl (by decide) fun cdv A outer s H E hr => ?_
  exact (s_cons (s_expr (e_call F_check_as_many_letters (hr.mono (by first | decide | omega)) T.g_check_as_many_letters T.k_check_as_many_letters B_check_as_many_letters tkD (len_cons (len_cons len_nil)) rfl (a_cons (e_var (i := 0) rfl (by first | exact .inl rfl | exact .inr (.inl rfl) | exact .inr (.inr rfl))) (a_cons (e_var (i := 1) rfl (by first | exact .inl rfl | exact .inr (.inl rfl) | exact .inr (.inr rfl))) a_nil))))
    (s_cons (s_ret (e_cmpW (w_eqA hr) (by with_unfolding_all rfl) (e_call F_least (hr.mono (by first | decide | omega)) T.g_least T.k_least B_least tkD (len_cons len_nil) rfl (a_cons (e_var (i := 0) rfl (by first | exact .inl rfl | exact .inr (.inl rfl) | exact .inr (.inr rfl))) a_nil)) (e_call F_least (hr.mono (by first | decide | omega)) T.g_least T.k_least B_least tkD (len_cons len_nil) rfl (a_cons (e_var (i := 1) rfl (by first | exact .inl rfl | exact .inr (.inl rfl) | exact .inr (.inr rfl))) a_nil))))
    s_nil))
theorem ok_parting_word_from (T : Txt P w K mg a_is_number a_are_numbers_from a_are_places a_is_set_of_places a_is_word a_are_steps a_is_machine a_letters_in a_check_letters a_check_as_many_letters a_state_from a_state_behind a_takes a_first_words a_words_to_states a_numbered a_kinds_of_states a_least a_are_alike a_parting_word_from a_parting_word a__law_same a__law_lists a__law_heard a__law_machines_right a__law_refused_right a__law_lists_right a_law a_NoPlace a_Unfit) (F : Fun K (PySem.Str.ofString "parting_word_from") (PySem.Str.ofString "parting_word_from") st_parting_word_from a_parting_word_from fd_parting_word_from) (U_first_words : Fun K (PySem.Str.ofString "first_words") (PySem.Str.ofString "first_words") st_first_words a_first_words fd_first_words) (B_first_words : Binds K fd_first_words ps_first_words []) {cc PP : Addr} (ct : fd_parting_word_from.code = .ref cc) (tb : LamX.TabB base mg cc PP) (ht : (PP, lamQ (PySem.Str.ofString "parting_word_from")) ∈ Tbs.T) (hu : ∀ p ∈ Tbs.T, p.1 = PP → p.2 = lamQ (PySem.Str.ofString "parting_word_from")) : FnOk P w K mg base (L2.CX P w) 3 a_parting_word_from fd_parting_word_from ps_parting_word_from (spF ⟨w, K, mg⟩ 4 f_parting_word_from) := by
  have sc := sc_parting_word_from
  refine fn_okC F ct sc rfl (by decide) fun A outer s H E hr => ?_
  exact (s_cons (s_asg (e_var (i := 0) rfl (by first | exact .inl rfl | exact .inr (.inl rfl) | exact .inr (.inr rfl))) (g_tup rfl (gs_c (g_name (i := 5) sc.nd rfl (by first | exact .inl rfl | exact .inr rfl)) (gs_c (g_name (i := 6) sc.nd rfl (by first | exact .inl rfl | exact .inr rfl)) gs_nil))))
    (s_cons (s_asg (e_var (i := 2) rfl (by first | exact .inl rfl | exact .inr (.inl rfl) | exact .inr (.inr rfl))) (g_tup rfl (gs_c (g_name (i := 7) sc.nd rfl (by first | exact .inl rfl | exact .inr rfl)) (gs_c (g_name (i := 8) sc.nd rfl (by first | exact .inl rfl | exact .inr rfl)) gs_nil))))
    (s_cons (s_set (i := 4) sc.nd rfl (by first | exact .inl rfl | exact .inr rfl) (e_lam (k := 0) (ff := f_first_words) (mfw := m_first_words) (Ng := N_first_words) (pas := ps_first_words) (stg := st_first_words) (i := 9) (fun _ => rfl) tkD rfl T.g_first_words T.k_first_words U_first_words B_first_words rfl sc_first_words (by decide) rfl (by first | exact .inl rfl | exact .inr (.inl rfl)) (fun τ1 cdv A outer s H E gm hc hr => (letI : Tbs := τ1; act_first_words T hc hr)) tb rfl ht hu (hr.mono (by first | decide | omega)) (lamN_by (by first | rfl | kernel_rfl | with_unfolding_all rfl)) rfl sc.nd rfl (fun _ _ _ _ _ _ => by first | rfl | with_unfolding_all rfl) (fun A outer s H E f cd hr => (e_listZip rfl rfl T.n_list bt_list rfl T.n_zip (a_cons (x_ix hr (e_var (i := 5) rfl (by first | exact .inl rfl | exact .inr (.inl rfl) | exact .inr (.inr rfl))) (x_ix hr (e_var (i := 9) rfl (by first | exact .inl rfl | exact .inr (.inl rfl) | exact .inr (.inr rfl))) e_int)) (a_cons (x_ix hr (e_var (i := 7) rfl (by first | exact .inl rfl | exact .inr (.inl rfl) | exact .inr (.inr rfl))) (x_ix hr (e_var (i := 9) rfl (by first | exact .inl rfl | exact .inr (.inl rfl) | exact .inr (.inr rfl))) e_int)) a_nil)))) (e_tup (a_cons (e_var (i := 1) rfl (by first | exact .inl rfl | exact .inr (.inl rfl) | exact .inr (.inr rfl))) (a_cons (e_var (i := 3) rfl (by first | exact .inl rfl | exact .inr (.inl rfl) | exact .inr (.inr rfl))) a_nil))) (b_mulW (f_len rfl T.n_len (a_cons (e_var (i := 5) rfl (by first | exact .inl rfl | exact .inr (.inl rfl) | exact .inr (.inr rfl))) a_nil)) (f_len rfl T.n_len (a_cons (e_var (i := 7) rfl (by first | exact .inl rfl | exact .inr (.inl rfl) | exact .inr (.inr rfl))) a_nil)))))
    (s_cons (s_for poD rfl (i_any (e_var (i := 4) rfl (by first | exact .inl rfl | exact .inr (.inl rfl) | exact .inr (.inr rfl)))) (g_tup rfl (gs_c (g_name (i := 10) sc.nd rfl (by first | exact .inl rfl | exact .inr rfl)) (gs_c (g_name (i := 11) sc.nd rfl (by first | exact .inl rfl | exact .inr rfl)) gs_nil))) (s_cons (s_if (t_cmpW (w_neA hr) (by with_unfolding_all rfl) (e_cmpW (w_in hr) (by with_unfolding_all rfl) (e_var (i := 10) rfl (by first | exact .inl rfl | exact .inr (.inl rfl) | exact .inr (.inr rfl))) (e_var (i := 6) rfl (by first | exact .inl rfl | exact .inr (.inl rfl) | exact .inr (.inr rfl)))) (e_cmpW (w_in hr) (by with_unfolding_all rfl) (e_var (i := 11) rfl (by first | exact .inl rfl | exact .inr (.inl rfl) | exact .inr (.inr rfl))) (e_var (i := 8) rfl (by first | exact .inl rfl | exact .inr (.inl rfl) | exact .inr (.inr rfl))))) (s_cons (s_ret (x_ix hr (e_var (i := 4) rfl (by first | exact .inl rfl | exact .inr (.inl rfl) | exact .inr (.inr rfl))) (e_tup (a_cons (e_var (i := 10) rfl (by first | exact .inl rfl | exact .inr (.inl rfl) | exact .inr (.inr rfl))) (a_cons (e_var (i := 11) rfl (by first | exact .inl rfl | exact .inr (.inl rfl) | exact .inr (.inr rfl))) a_nil)))))
    s_nil) s_nil)
    s_nil))
    (s_cons (s_ret e_non)
    s_nil)))))
theorem ok_parting_word (T : Txt P w K mg a_is_number a_are_numbers_from a_are_places a_is_set_of_places a_is_word a_are_steps a_is_machine a_letters_in a_check_letters a_check_as_many_letters a_state_from a_state_behind a_takes a_first_words a_words_to_states a_numbered a_kinds_of_states a_least a_are_alike a_parting_word_from a_parting_word a__law_same a__law_lists a__law_heard a__law_machines_right a__law_refused_right a__law_lists_right a_law a_NoPlace a_Unfit) (F : Fun K (PySem.Str.ofString "parting_word") (PySem.Str.ofString "parting_word") st_parting_word a_parting_word fd_parting_word) (F_check_as_many_letters : FnOk P w K mg base (L2.CX P w) 2 a_check_as_many_letters fd_check_as_many_letters ps_check_as_many_letters (spF ⟨w, K, mg⟩ 2 f_check_as_many_letters)) (B_check_as_many_letters : Binds K fd_check_as_many_letters ps_check_as_many_letters []) (F_parting_word_from : FnOk P w K mg base (L2.CX P w) 3 a_parting_word_from fd_parting_word_from ps_parting_word_from (spF ⟨w, K, mg⟩ 4 f_parting_word_from)) (B_parting_word_from : Binds K fd_parting_word_from ps_parting_word_from []) : FnOk P w K mg base (L2.CX P w) 4 a_parting_word fd_parting_word ps_parting_word (spF ⟨w, K, mg⟩ 2 f_parting_word) := by
  have sc := sc_parting_word
  refine fn_ok F sc rfl (by decide) fun cdv A outer s H E hr => ?_
  exact (s_cons (s_expr (e_call F_check_as_many_letters (hr.mono (by first | decide | omega)) T.g_check_as_many_letters T.k_check_as_many_letters B_check_as_many_letters tkD (len_cons (len_cons len_nil)) rfl (a_cons (e_var (i := 0) rfl (by first | exact .inl rfl | exact .inr (.inl rfl) | exact .inr (.inr rfl))) (a_cons (e_var (i := 1) rfl (by first | exact .inl rfl | exact .inr (.inl rfl) | exact .inr (.inr rfl))) a_nil))))
    (s_cons (s_ret (e_call F_parting_word_from (hr.mono (by first | decide | omega)) T.g_parting_word_from T.k_parting_word_from B_parting_word_from tkD (len_cons (len_cons (len_cons (len_cons len_nil)))) rfl (a_cons (e_var (i := 0) rfl (by first | exact .inl rfl | exact .inr (.inl rfl) | exact .inr (.inr rfl))) (a_cons e_int (a_cons (e_var (i := 1) rfl (by first | exact .inl rfl | exact .inr (.inl rfl) | exact .inr (.inr rfl))) (a_cons e_int a_nil))))))
    s_nil))
theorem ok__law_same (T : Txt P w K mg a_is_number a_are_numbers_from a_are_places a_is_set_of_places a_is_word a_are_steps a_is_machine a_letters_in a_check_letters a_check_as_many_letters a_state_from a_state_behind a_takes a_first_words a_words_to_states a_numbered a_kinds_of_states a_least a_are_alike a_parting_word_from a_parting_word a__law_same a__law_lists a__law_heard a__law_machines_right a__law_refused_right a__law_lists_right a_law a_NoPlace a_Unfit) (F : Fun K (PySem.Str.ofString "_law_same") (PySem.Str.ofString "_law_same") st__law_same a__law_same fd__law_same) (B__law_same : Binds K fd__law_same ps__law_same []) : FnOk P w K mg base (L2.CX P w) 41 a__law_same fd__law_same ps__law_same (spF ⟨w, K, mg⟩ 2 f__law_same) := by
  have sc := sc__law_same
  refine fn_recK (m := m__law_same) rfl 1 (fun j fm Fself => ?_) 40
  refine fn_ok F sc rfl (by decide) fun cdv A outer s H E hr => ?_
  exact (s_cons (s_if (t_val (f_isi bt_isi rfl T.n_isinstance (a_cons (e_var (i := 1) rfl (by first | exact .inl rfl | exact .inr (.inl rfl) | exact .inr (.inr rfl))) (a_cons (e_tup (a_cons (e_ty (n := .list) rfl T.n_list bt_list) (a_cons (e_ty (n := .tuple) rfl T.n_tuple bt_tuple) a_nil))) a_nil)))) (s_cons (s_if (t_pw (tw_or (t_cmpW (w_neA hr) (by with_unfolding_all rfl) (f_isi bt_isi rfl T.n_isinstance (a_cons (e_var (i := 0) rfl (by first | exact .inl rfl | exact .inr (.inl rfl) | exact .inr (.inr rfl))) (a_cons (e_ty (n := .list) rfl T.n_list bt_list) a_nil))) (f_isi bt_isi rfl T.n_isinstance (a_cons (e_var (i := 1) rfl (by first | exact .inl rfl | exact .inr (.inl rfl) | exact .inr (.inr rfl))) (a_cons (e_ty (n := .list) rfl T.n_list bt_list) a_nil)))) (tw_or1 (t_cmpW (w_neA hr) (by with_unfolding_all rfl) (f_isi bt_isi rfl T.n_isinstance (a_cons (e_var (i := 0) rfl (by first | exact .inl rfl | exact .inr (.inl rfl) | exact .inr (.inr rfl))) (a_cons (e_ty (n := .tuple) rfl T.n_tuple bt_tuple) a_nil))) (f_isi bt_isi rfl T.n_isinstance (a_cons (e_var (i := 1) rfl (by first | exact .inl rfl | exact .inr (.inl rfl) | exact .inr (.inr rfl))) (a_cons (e_ty (n := .tuple) rfl T.n_tuple bt_tuple) a_nil))))))) (s_cons (s_ret e_bl)
    s_nil) s_nil)
    (s_cons (s_ret (e_and (e_cmpW (w_eqA hr) (by with_unfolding_all rfl) (f_len rfl T.n_len (a_cons (e_var (i := 0) rfl (by first | exact .inl rfl | exact .inr (.inl rfl) | exact .inr (.inr rfl))) a_nil)) (f_len rfl T.n_len (a_cons (e_var (i := 1) rfl (by first | exact .inl rfl | exact .inr (.inl rfl) | exact .inr (.inr rfl))) a_nil))) (e_one (f_all rfl bt_all rfl T.n_all (a_cons (e_lc (own := [((PySem.Str.ofString "mine_so"), 2), ((PySem.Str.ofString "own"), 3)]) rfl sc.nd (blkOk_by (by first | rfl | kernel_rfl | with_unfolding_all rfl)) rfl (i_zip rfl T.n_zip (a_cons (e_var (i := 0) rfl (by first | exact .inl rfl | exact .inr (.inl rfl) | exact .inr (.inr rfl))) (a_cons (e_var (i := 1) rfl (by first | exact .inl rfl | exact .inr (.inl rfl) | exact .inr (.inr rfl))) a_nil))) (fun s H C cl fp => (g_tup rfl (gs_c (g_name (i := 2) sc.nd rfl (by first | exact .inl rfl | exact .inr rfl)) (gs_c (g_name (i := 3) sc.nd rfl (by first | exact .inl rfl | exact .inr rfl)) gs_nil)))) (fun s H C cl fp => ts_nil) (fun s H C cl fp => (e_call Fself hr T.g__law_same T.k__law_same B__law_same tkF (len_cons (len_cons len_nil)) rfl (a_cons (e_var (i := 2) rfl (by first | exact .inl rfl | exact .inr (.inl rfl) | exact .inr (.inr rfl))) (a_cons (e_var (i := 3) rfl (by first | exact .inl rfl | exact .inr (.inl rfl) | exact .inr (.inr rfl))) a_nil))))) a_nil)))))
    s_nil)) s_nil)
    (s_cons (s_if (t_pw (tw_or (t_cmpW w_is (by with_unfolding_all rfl) (e_var (i := 1) rfl (by first | exact .inl rfl | exact .inr (.inl rfl) | exact .inr (.inr rfl))) e_non) (tw_or1 (t_val (f_isi bt_isi rfl T.n_isinstance (a_cons (e_var (i := 1) rfl (by first | exact .inl rfl | exact .inr (.inl rfl) | exact .inr (.inr rfl))) (a_cons (e_tup (a_cons (e_ty (n := .bool) rfl T.n_bool bt_bool) (a_cons (e_ty (n := .str) rfl T.n_str bt_str) a_nil))) a_nil))))))) (s_cons (s_ret (e_and (e_cmpW (w_eqA hr) (by with_unfolding_all rfl) (e_var (i := 0) rfl (by first | exact .inl rfl | exact .inr (.inl rfl) | exact .inr (.inr rfl))) (e_var (i := 1) rfl (by first | exact .inl rfl | exact .inr (.inl rfl) | exact .inr (.inr rfl)))) (e_and (e_cmpW (w_eqA hr) (by with_unfolding_all rfl) (f_isi bt_isi rfl T.n_isinstance (a_cons (e_var (i := 0) rfl (by first | exact .inl rfl | exact .inr (.inl rfl) | exact .inr (.inr rfl))) (a_cons (e_ty (n := .bool) rfl T.n_bool bt_bool) a_nil))) (f_isi bt_isi rfl T.n_isinstance (a_cons (e_var (i := 1) rfl (by first | exact .inl rfl | exact .inr (.inl rfl) | exact .inr (.inr rfl))) (a_cons (e_ty (n := .bool) rfl T.n_bool bt_bool) a_nil)))) (e_one (e_cmpW (w_eqA hr) (by with_unfolding_all rfl) (e_cmpW w_is (by with_unfolding_all rfl) (e_var (i := 0) rfl (by first | exact .inl rfl | exact .inr (.inl rfl) | exact .inr (.inr rfl))) e_non) (e_cmpW w_is (by with_unfolding_all rfl) (e_var (i := 1) rfl (by first | exact .inl rfl | exact .inr (.inl rfl) | exact .inr (.inr rfl))) e_non))))))
    s_nil) s_nil)
    (s_cons (s_ret (e_and (f_isi bt_isi rfl T.n_isinstance (a_cons (e_var (i := 0) rfl (by first | exact .inl rfl | exact .inr (.inl rfl) | exact .inr (.inr rfl))) (a_cons (e_ty (n := .int) rfl T.n_int bt_int) a_nil))) (e_and (e_not (f_isi bt_isi rfl T.n_isinstance (a_cons (e_var (i := 0) rfl (by first | exact .inl rfl | exact .inr (.inl rfl) | exact .inr (.inr rfl))) (a_cons (e_ty (n := .bool) rfl T.n_bool bt_bool) a_nil)))) (e_one (e_cmpW (w_eqA hr) (by with_unfolding_all rfl) (e_var (i := 0) rfl (by first | exact .inl rfl | exact .inr (.inl rfl) | exact .inr (.inr rfl))) (e_var (i := 1) rfl (by first | exact .inl rfl | exact .inr (.inl rfl) | exact .inr (.inr rfl))))))))
    s_nil)))
theorem ok__law_lists (T : Txt P w K mg a_is_number a_are_numbers_from a_are_places a_is_set_of_places a_is_word a_are_steps a_is_machine a_letters_in a_check_letters a_check_as_many_letters a_state_from a_state_behind a_takes a_first_words a_words_to_states a_numbered a_kinds_of_states a_least a_are_alike a_parting_word_from a_parting_word a__law_same a__law_lists a__law_heard a__law_machines_right a__law_refused_right a__law_lists_right a_law a_NoPlace a_Unfit) (F : Fun K (PySem.Str.ofString "_law_lists") (PySem.Str.ofString "_law_lists") st__law_lists a__law_lists fd__law_lists) (B__law_lists : Binds K fd__law_lists ps__law_lists []) : FnOk P w K mg base (L2.CX P w) 41 a__law_lists fd__law_lists ps__law_lists (spF ⟨w, K, mg⟩ 1 f__law_lists) := by
  have sc := sc__law_lists
  refine fn_recK (m := m__law_lists) rfl 1 (fun j fm Fself => ?_) 40
  refine fn_ok F sc rfl (by decide) fun cdv A outer s H E hr => ?_
  exact (s_cons (s_ret (e_ife (t_val (f_isi bt_isi rfl T.n_isinstance (a_cons (e_var (i := 0) rfl (by first | exact .inl rfl | exact .inr (.inl rfl) | exact .inr (.inr rfl))) (a_cons (e_tup (a_cons (e_ty (n := .list) rfl T.n_list bt_list) (a_cons (e_ty (n := .tuple) rfl T.n_tuple bt_tuple) a_nil))) a_nil)))) (e_lc (own := [((PySem.Str.ofString "own"), 1)]) rfl sc.nd (blkOk_by (by first | rfl | kernel_rfl | with_unfolding_all rfl)) rfl (i_any (e_var (i := 0) rfl (by first | exact .inl rfl | exact .inr (.inl rfl) | exact .inr (.inr rfl)))) (fun s H C cl fp => (g_name (i := 1) sc.nd rfl (by first | exact .inl rfl | exact .inr rfl))) (fun s H C cl fp => ts_nil) (fun s H C cl fp => (e_call Fself hr T.g__law_lists T.k__law_lists B__law_lists tkF (len_cons len_nil) rfl (a_cons (e_var (i := 1) rfl (by first | exact .inl rfl | exact .inr (.inl rfl) | exact .inr (.inr rfl))) a_nil)))) (e_var (i := 0) rfl (by first | exact .inl rfl | exact .inr (.inl rfl) | exact .inr (.inr rfl)))))
    s_nil)
theorem ok__law_heard (T : Txt P w K mg a_is_number a_are_numbers_from a_are_places a_is_set_of_places a_is_word a_are_steps a_is_machine a_letters_in a_check_letters a_check_as_many_letters a_state_from a_state_behind a_takes a_first_words a_words_to_states a_numbered a_kinds_of_states a_least a_are_alike a_parting_word_from a_parting_word a__law_same a__law_lists a__law_heard a__law_machines_right a__law_refused_right a__law_lists_right a_law a_NoPlace a_Unfit) (F : Fun K (PySem.Str.ofString "_law_heard") (PySem.Str.ofString "_law_heard") st__law_heard a__law_heard fd__law_heard) (F_state_behind : FnOk P w K mg base (L2.CX P w) 3 a_state_behind fd_state_behind ps_state_behind (spF ⟨w, K, mg⟩ 2 f_state_behind)) (B_state_behind : Binds K fd_state_behind ps_state_behind []) (F_takes : FnOk P w K mg base (L2.CX P w) 4 a_takes fd_takes ps_takes (spF ⟨w, K, mg⟩ 2 f_takes)) (B_takes : Binds K fd_takes ps_takes []) (F_are_alike : FnOk P w K mg base (L2.CX P w) 6 a_are_alike fd_are_alike ps_are_alike (spF ⟨w, K, mg⟩ 2 f_are_alike)) (B_are_alike : Binds K fd_are_alike ps_are_alike []) (F_parting_word : FnOk P w K mg base (L2.CX P w) 4 a_parting_word fd_parting_word ps_parting_word (spF ⟨w, K, mg⟩ 2 f_parting_word)) (B_parting_word : Binds K fd_parting_word ps_parting_word []) : FnOk P w K mg base (L2.CX P w) 7 a__law_heard fd__law_heard ps__law_heard (spF ⟨w, K, mg⟩ 3 f__law_heard) := by
  have sc := sc__law_heard
  refine fn_ok F sc rfl (by decide) fun cdv A outer s H E hr => ?_
  exact (s_cons (s_try (cs := ["NoPlace", "Unfit"]) (l := [⟨"NoPlace", (some 3), (fun c fs => mRet (mXL (xCons (xC (.str "place")) (xCons (xAt "NoPlace" "place") xNil)) c fs))⟩, ⟨"Unfit", none, (fun c fs => mRet (mXL (xCons (xC (.str "unfit")) xNil) c fs))⟩]) T.ek rfl rfl sc.nd tkD (fun W1 pn xe tk1 po1 => (s_cons (s_if (t_cmpW (w_eqA hr) (by with_unfolding_all rfl) (e_var (i := 0) rfl (by first | exact .inl rfl | exact .inr (.inl rfl) | exact .inr (.inr rfl))) e_int) (s_cons (s_ret (e_call F_state_behind (hr.mono (by first | decide | omega)) T.g_state_behind T.k_state_behind B_state_behind tk1 (len_cons (len_cons len_nil)) rfl (a_cons (e_var (i := 1) rfl (by first | exact .inl rfl | exact .inr (.inl rfl) | exact .inr (.inr rfl))) (a_cons (e_var (i := 2) rfl (by first | exact .inl rfl | exact .inr (.inl rfl) | exact .inr (.inr rfl))) a_nil))))
    s_nil) s_nil)
    (s_cons (s_if (t_cmpW (w_eqA hr) (by with_unfolding_all rfl) (e_var (i := 0) rfl (by first | exact .inl rfl | exact .inr (.inl rfl) | exact .inr (.inr rfl))) e_int) (s_cons (s_ret (e_call F_takes (hr.mono (by first | decide | omega)) T.g_takes T.k_takes B_takes tk1 (len_cons (len_cons len_nil)) rfl (a_cons (e_var (i := 1) rfl (by first | exact .inl rfl | exact .inr (.inl rfl) | exact .inr (.inr rfl))) (a_cons (e_var (i := 2) rfl (by first | exact .inl rfl | exact .inr (.inl rfl) | exact .inr (.inr rfl))) a_nil))))
    s_nil) s_nil)
    (s_cons (s_ret (e_ife (t_cmpW (w_eqA hr) (by with_unfolding_all rfl) (e_var (i := 0) rfl (by first | exact .inl rfl | exact .inr (.inl rfl) | exact .inr (.inr rfl))) e_int) (e_call F_are_alike (hr.mono (by first | decide | omega)) T.g_are_alike T.k_are_alike B_are_alike tk1 (len_cons (len_cons len_nil)) rfl (a_cons (e_var (i := 1) rfl (by first | exact .inl rfl | exact .inr (.inl rfl) | exact .inr (.inr rfl))) (a_cons (e_var (i := 2) rfl (by first | exact .inl rfl | exact .inr (.inl rfl) | exact .inr (.inr rfl))) a_nil))) (e_call F_parting_word (hr.mono (by first | decide | omega)) T.g_parting_word T.k_parting_word B_parting_word tk1 (len_cons (len_cons len_nil)) rfl (a_cons (e_var (i := 1) rfl (by first | exact .inl rfl | exact .inr (.inl rfl) | exact .inr (.inr rfl))) (a_cons (e_var (i := 2) rfl (by first | exact .inl rfl | exact .inr (.inl rfl) | exact .inr (.inr rfl))) a_nil)))))
    s_nil)))) (ClsOk.named (i := 3) (names_of rfl T.g_NoPlace) rfl rfl (fun a oe cls d pn hz hf => (xs_ret (xe_lst (xa_cons x_str (xa_cons (x_attr (j := 3) T.g_NoPlace T.at_NoPlace rfl (by first | exact .inl rfl | exact .inr (.inl rfl) | exact .inr (.inr rfl)) hz hf) xa_nil))))) (ClsOk.bare (names_of rfl T.g_Unfit) (fun a oe cls d pn hz hf => (xs_ret (xe_lst (xa_cons x_str xa_nil)))) ClsOk.nil)))
    s_nil)
theorem ok__law_machines_right (T : Txt P w K mg a_is_number a_are_numbers_from a_are_places a_is_set_of_places a_is_word a_are_steps a_is_machine a_letters_in a_check_letters a_check_as_many_letters a_state_from a_state_behind a_takes a_first_words a_words_to_states a_numbered a_kinds_of_states a_least a_are_alike a_parting_word_from a_parting_word a__law_same a__law_lists a__law_heard a__law_machines_right a__law_refused_right a__law_lists_right a_law a_NoPlace a_Unfit) (F : Fun K (PySem.Str.ofString "_law_machines_right") (PySem.Str.ofString "_law_machines_right") st__law_machines_right a__law_machines_right fd__law_machines_right) (F_takes : FnOk P w K mg base (L2.CX P w) 4 a_takes fd_takes ps_takes (spF ⟨w, K, mg⟩ 2 f_takes)) (B_takes : Binds K fd_takes ps_takes []) (F_state_behind : FnOk P w K mg base (L2.CX P w) 3 a_state_behind fd_state_behind ps_state_behind (spF ⟨w, K, mg⟩ 2 f_state_behind)) (B_state_behind : Binds K fd_state_behind ps_state_behind []) (F_letters_in : FnOk P w K mg base (L2.CX P w) 1 a_letters_in fd_letters_in ps_letters_in (spF ⟨w, K, mg⟩ 1 f_letters_in)) (B_letters_in : Binds K fd_letters_in ps_letters_in []) (F_least : FnOk P w K mg base (L2.CX P w) 5 a_least fd_least ps_least (spF ⟨w, K, mg⟩ 1 f_least)) (B_least : Binds K fd_least ps_least []) (F_are_alike : FnOk P w K mg base (L2.CX P w) 6 a_are_alike fd_are_alike ps_are_alike (spF ⟨w, K, mg⟩ 2 f_are_alike)) (B_are_alike : Binds K fd_are_alike ps_are_alike []) (F_parting_word : FnOk P w K mg base (L2.CX P w) 4 a_parting_word fd_parting_word ps_parting_word (spF ⟨w, K, mg⟩ 2 f_parting_word)) (B_parting_word : Binds K fd_parting_word ps_parting_word []) (F_is_word : FnOk P w K mg base (L2.CX P w) 3 a_is_word fd_is_word ps_is_word (spF ⟨w, K, mg⟩ 1 f_is_word)) (B_is_word : Binds K fd_is_word ps_is_word []) (F__law_same : FnOk P w K mg base (L2.CX P w) 41 a__law_same fd__law_same ps__law_same (spF ⟨w, K, mg⟩ 2 f__law_same)) (B__law_same : Binds K fd__law_same ps__law_same []) : FnOk P w K mg base (L2.CX P w) 42 a__law_machines_right fd__law_machines_right ps__law_machines_right (spF ⟨w, K, mg⟩ 0 f__law_machines_right) := by
  have sc := sc__law_machines_right
  refine fn_ok F sc rfl (by decide) fun cdv A outer s H E hr => ?_
  exact (s_cons (s_asg (e_tup (a_cons (e_tup (a_cons (e_tup (a_cons (e_tup (a_cons e_int a_nil)) (a_cons (e_tup (a_cons e_int a_nil)) a_nil))) (a_cons (e_tup (a_cons e_int a_nil)) a_nil))) (a_cons (e_tup (a_cons (e_tup (a_cons (e_tup (a_cons e_int (a_cons e_int a_nil))) (a_cons (e_tup (a_cons e_int (a_cons e_int a_nil))) (a_cons (e_tup (a_cons e_int (a_cons e_int a_nil))) a_nil)))) (a_cons (e_tup (a_cons e_int a_nil)) a_nil))) (a_cons (e_tup (a_cons (e_tup (a_cons (e_tup (a_cons e_int (a_cons e_int a_nil))) (a_cons (e_tup (a_cons e_int (a_cons e_int a_nil))) a_nil))) (a_cons (e_tup (a_cons e_int a_nil)) a_nil))) a_nil)))) (g_tup rfl (gs_c (g_name (i := 3) sc.nd rfl (by first | exact .inl rfl | exact .inr rfl)) (gs_c (g_name (i := 4) sc.nd rfl (by first | exact .inl rfl | exact .inr rfl)) (gs_c (g_name (i := 5) sc.nd rfl (by first | exact .inl rfl | exact .inr rfl)) gs_nil)))))
    (s_cons (s_asg (e_tup (a_cons (e_tup (a_cons (e_tup (a_cons (e_tup (a_cons e_int a_nil)) (a_cons (e_tup (a_cons e_int a_nil)) (a_cons (e_tup (a_cons e_int a_nil)) (a_cons (e_tup (a_cons e_int a_nil)) a_nil))))) (a_cons (e_tup (a_cons e_int (a_cons e_int a_nil))) a_nil))) (a_cons (e_tup (a_cons (e_tup (a_cons (e_tup (a_cons e_int (a_cons e_int a_nil))) (a_cons (e_tup (a_cons e_int (a_cons e_int a_nil))) a_nil))) (a_cons (e_tup a_nil) a_nil))) a_nil))) (g_tup rfl (gs_c (g_name (i := 6) sc.nd rfl (by first | exact .inl rfl | exact .inr rfl)) (gs_c (g_name (i := 7) sc.nd rfl (by first | exact .inl rfl | exact .inr rfl)) gs_nil))))
    (s_cons (s_set (i := 0) sc.nd rfl (by first | exact .inl rfl | exact .inr rfl) (e_lst (a_cons (e_call F_takes (hr.mono (by first | decide | omega)) T.g_takes T.k_takes B_takes tkD (len_cons (len_cons len_nil)) rfl (a_cons (e_var (i := 3) rfl (by first | exact .inl rfl | exact .inr (.inl rfl) | exact .inr (.inr rfl))) (a_cons (e_tup (a_cons e_int (a_cons e_int (a_cons e_int a_nil)))) a_nil))) (a_cons (e_call F_takes (hr.mono (by first | decide | omega)) T.g_takes T.k_takes B_takes tkD (len_cons (len_cons len_nil)) rfl (a_cons (e_var (i := 3) rfl (by first | exact .inl rfl | exact .inr (.inl rfl) | exact .inr (.inr rfl))) (a_cons (e_tup a_nil) a_nil))) (a_cons (e_call F_state_behind (hr.mono (by first | decide | omega)) T.g_state_behind T.k_state_behind B_state_behind tkD (len_cons (len_cons len_nil)) rfl (a_cons (e_var (i := 4) rfl (by first | exact .inl rfl | exact .inr (.inl rfl) | exact .inr (.inr rfl))) (a_cons (e_tup (a_cons e_int (a_cons e_int a_nil))) a_nil))) (a_cons (e_call F_state_behind (hr.mono (by first | decide | omega)) T.g_state_behind T.k_state_behind B_state_behind tkD (len_cons (len_cons len_nil)) rfl (a_cons (e_var (i := 4) rfl (by first | exact .inl rfl | exact .inr (.inl rfl) | exact .inr (.inr rfl))) (a_cons (e_tup a_nil) a_nil))) (a_cons (e_call F_takes (hr.mono (by first | decide | omega)) T.g_takes T.k_takes B_takes tkD (len_cons (len_cons len_nil)) rfl (a_cons (e_var (i := 4) rfl (by first | exact .inl rfl | exact .inr (.inl rfl) | exact .inr (.inr rfl))) (a_cons (e_tup (a_cons e_int (a_cons e_int a_nil))) a_nil))) (a_cons (e_call F_takes (hr.mono (by first | decide | omega)) T.g_takes T.k_takes B_takes tkD (len_cons (len_cons len_nil)) rfl (a_cons (e_var (i := 5) rfl (by first | exact .inl rfl | exact .inr (.inl rfl) | exact .inr (.inr rfl))) (a_cons (e_tup (a_cons e_int (a_cons e_int a_nil))) a_nil))) (a_cons (e_call F_letters_in (hr.mono (by first | decide | omega)) T.g_letters_in T.k_letters_in B_letters_in tkD (len_cons len_nil) rfl (a_cons (e_var (i := 4) rfl (by first | exact .inl rfl | exact .inr (.inl rfl) | exact .inr (.inr rfl))) a_nil)) a_nil)))))))))
    (s_cons (s_set (i := 0) sc.nd rfl (by first | exact .inl rfl | exact .inr rfl) (b_add (e_var (i := 0) rfl (by first | exact .inl rfl | exact .inr (.inl rfl) | exact .inr (.inr rfl))) (e_lst (a_cons (e_call F_letters_in (hr.mono (by first | decide | omega)) T.g_letters_in T.k_letters_in B_letters_in tkD (len_cons len_nil) rfl (a_cons (e_var (i := 3) rfl (by first | exact .inl rfl | exact .inr (.inl rfl) | exact .inr (.inr rfl))) a_nil)) a_nil))))
    (s_cons (s_set (i := 1) sc.nd rfl (by first | exact .inl rfl | exact .inr rfl) (e_lst (a_cons e_bl (a_cons e_bl (a_cons e_int (a_cons e_int (a_cons e_bl (a_cons e_bl (a_cons e_int (a_cons e_int a_nil))))))))))
    (s_cons (s_set (i := 2) sc.nd rfl (by first | exact .inl rfl | exact .inr rfl) (e_tup (a_cons (e_tup (a_cons (e_tup (a_cons e_int (a_cons e_int a_nil))) (a_cons (e_tup (a_cons e_int (a_cons e_int a_nil))) (a_cons (e_tup (a_cons e_int (a_cons e_int a_nil))) (a_cons (e_tup (a_cons e_int (a_cons e_int a_nil))) a_nil))))) (a_cons (e_tup (a_cons e_int (a_cons e_int a_nil))) a_nil))))
    (s_cons (s_set (i := 0) sc.nd rfl (by first | exact .inl rfl | exact .inr rfl) (b_add (e_var (i := 0) rfl (by first | exact .inl rfl | exact .inr (.inl rfl) | exact .inr (.inr rfl))) (e_lst (a_cons (e_call F_least (hr.mono (by first | decide | omega)) T.g_least T.k_least B_least tkD (len_cons len_nil) rfl (a_cons (e_var (i := 6) rfl (by first | exact .inl rfl | exact .inr (.inl rfl) | exact .inr (.inr rfl))) a_nil)) (a_cons (e_call F_least (hr.mono (by first | decide | omega)) T.g_least T.k_least B_least tkD (len_cons len_nil) rfl (a_cons (e_var (i := 4) rfl (by first | exact .inl rfl | exact .inr (.inl rfl) | exact .inr (.inr rfl))) a_nil)) (a_cons (e_call F_least (hr.mono (by first | decide | omega)) T.g_least T.k_least B_least tkD (len_cons len_nil) rfl (a_cons (e_var (i := 7) rfl (by first | exact .inl rfl | exact .inr (.inl rfl) | exact .inr (.inr rfl))) a_nil)) (a_cons (e_call F_least (hr.mono (by first | decide | omega)) T.g_least T.k_least B_least tkD (len_cons len_nil) rfl (a_cons (e_var (i := 3) rfl (by first | exact .inl rfl | exact .inr (.inl rfl) | exact .inr (.inr rfl))) a_nil)) (a_cons (e_call F_least (hr.mono (by first | decide | omega)) T.g_least T.k_least B_least tkD (len_cons len_nil) rfl (a_cons (e_var (i := 2) rfl (by first | exact .inl rfl | exact .inr (.inl rfl) | exact .inr (.inr rfl))) a_nil)) (a_cons (e_call F_least (hr.mono (by first | decide | omega)) T.g_least T.k_least B_least tkD (len_cons len_nil) rfl (a_cons (e_tup (a_cons (e_tup (a_cons (e_tup (a_cons e_int a_nil)) (a_cons (e_tup (a_cons e_int a_nil)) a_nil))) (a_cons (e_tup (a_cons e_int a_nil)) a_nil))) a_nil)) (a_cons (e_call F_least (hr.mono (by first | decide | omega)) T.g_least T.k_least B_least tkD (len_cons len_nil) rfl (a_cons (e_tup (a_cons (e_tup (a_cons (e_tup (a_cons e_int a_nil)) (a_cons (e_tup (a_cons e_int a_nil)) (a_cons (e_tup (a_cons e_int a_nil)) a_nil)))) (a_cons (e_tup (a_cons e_int (a_cons e_int (a_cons e_int a_nil)))) a_nil))) a_nil)) a_nil))))))))))
    (s_cons (s_set (i := 1) sc.nd rfl (by first | exact .inl rfl | exact .inr rfl) (b_add (e_var (i := 1) rfl (by first | exact .inl rfl | exact .inr (.inl rfl) | exact .inr (.inr rfl))) (e_lst (a_cons (e_var (i := 3) rfl (by first | exact .inl rfl | exact .inr (.inl rfl) | exact .inr (.inr rfl))) (a_cons (e_var (i := 4) rfl (by first | exact .inl rfl | exact .inr (.inl rfl) | exact .inr (.inr rfl))) (a_cons (e_tup (a_cons (e_tup (a_cons (e_tup (a_cons e_int (a_cons e_int a_nil))) a_nil)) (a_cons (e_tup a_nil) a_nil))) (a_cons (e_var (i := 3) rfl (by first | exact .inl rfl | exact .inr (.inl rfl) | exact .inr (.inr rfl))) (a_cons (e_tup (a_cons (e_tup (a_cons (e_tup (a_cons e_int (a_cons e_int a_nil))) (a_cons (e_tup (a_cons e_int (a_cons e_int a_nil))) a_nil))) (a_cons (e_tup (a_cons e_int a_nil)) a_nil))) (a_cons (e_tup (a_cons (e_tup (a_cons (e_tup (a_cons e_int a_nil)) a_nil)) (a_cons (e_tup a_nil) a_nil))) (a_cons (e_tup (a_cons (e_tup (a_cons (e_tup (a_cons e_int a_nil)) a_nil)) (a_cons (e_tup (a_cons e_int a_nil)) a_nil))) a_nil))))))))))
    (s_cons (s_set (i := 0) sc.nd rfl (by first | exact .inl rfl | exact .inr rfl) (b_add (e_var (i := 0) rfl (by first | exact .inl rfl | exact .inr (.inl rfl) | exact .inr (.inr rfl))) (e_lst (a_cons (e_call F_are_alike (hr.mono (by first | decide | omega)) T.g_are_alike T.k_are_alike B_are_alike tkD (len_cons (len_cons len_nil)) rfl (a_cons (e_var (i := 3) rfl (by first | exact .inl rfl | exact .inr (.inl rfl) | exact .inr (.inr rfl))) (a_cons (e_var (i := 6) rfl (by first | exact .inl rfl | exact .inr (.inl rfl) | exact .inr (.inr rfl))) a_nil))) (a_cons (e_call F_are_alike (hr.mono (by first | decide | omega)) T.g_are_alike T.k_are_alike B_are_alike tkD (len_cons (len_cons len_nil)) rfl (a_cons (e_var (i := 4) rfl (by first | exact .inl rfl | exact .inr (.inl rfl) | exact .inr (.inr rfl))) (a_cons (e_var (i := 4) rfl (by first | exact .inl rfl | exact .inr (.inl rfl) | exact .inr (.inr rfl))) a_nil))) (a_cons (e_call F_are_alike (hr.mono (by first | decide | omega)) T.g_are_alike T.k_are_alike B_are_alike tkD (len_cons (len_cons len_nil)) rfl (a_cons (e_var (i := 4) rfl (by first | exact .inl rfl | exact .inr (.inl rfl) | exact .inr (.inr rfl))) (a_cons (e_var (i := 5) rfl (by first | exact .inl rfl | exact .inr (.inl rfl) | exact .inr (.inr rfl))) a_nil))) (a_cons (e_call F_parting_word (hr.mono (by first | decide | omega)) T.g_parting_word T.k_parting_word B_parting_word tkD (len_cons (len_cons len_nil)) rfl (a_cons (e_var (i := 4) rfl (by first | exact .inl rfl | exact .inr (.inl rfl) | exact .inr (.inr rfl))) (a_cons (e_var (i := 5) rfl (by first | exact .inl rfl | exact .inr (.inl rfl) | exact .inr (.inr rfl))) a_nil))) (a_cons (e_call F_parting_word (hr.mono (by first | decide | omega)) T.g_parting_word T.k_parting_word B_parting_word tkD (len_cons (len_cons len_nil)) rfl (a_cons (e_var (i := 3) rfl (by first | exact .inl rfl | exact .inr (.inl rfl) | exact .inr (.inr rfl))) (a_cons (e_var (i := 3) rfl (by first | exact .inl rfl | exact .inr (.inl rfl) | exact .inr (.inr rfl))) a_nil))) (a_cons (e_call F_parting_word (hr.mono (by first | decide | omega)) T.g_parting_word T.k_parting_word B_parting_word tkD (len_cons (len_cons len_nil)) rfl (a_cons (e_var (i := 5) rfl (by first | exact .inl rfl | exact .inr (.inl rfl) | exact .inr (.inr rfl))) (a_cons (e_var (i := 7) rfl (by first | exact .inl rfl | exact .inr (.inl rfl) | exact .inr (.inr rfl))) a_nil))) a_nil)))))))))
    (s_cons (s_set (i := 0) sc.nd rfl (by first | exact .inl rfl | exact .inr rfl) (b_add (e_var (i := 0) rfl (by first | exact .inl rfl | exact .inr (.inl rfl) | exact .inr (.inr rfl))) (e_lst (a_cons (e_call F_parting_word (hr.mono (by first | decide | omega)) T.g_parting_word T.k_parting_word B_parting_word tkD (len_cons (len_cons len_nil)) rfl (a_cons (e_var (i := 6) rfl (by first | exact .inl rfl | exact .inr (.inl rfl) | exact .inr (.inr rfl))) (a_cons (e_tup (a_cons (e_tup (a_cons (e_tup (a_cons e_int a_nil)) (a_cons (e_tup (a_cons e_int a_nil)) (a_cons (e_tup (a_cons e_int a_nil)) (a_cons (e_tup (a_cons e_int a_nil)) a_nil))))) (a_cons (e_tup (a_cons e_int a_nil)) a_nil))) a_nil))) a_nil))))
    (s_cons (s_set (i := 1) sc.nd rfl (by first | exact .inl rfl | exact .inr rfl) (b_add (e_var (i := 1) rfl (by first | exact .inl rfl | exact .inr (.inl rfl) | exact .inr (.inr rfl))) (e_lst (a_cons e_bl (a_cons e_bl (a_cons e_bl (a_cons (e_tup (a_cons e_int (a_cons e_int a_nil))) (a_cons e_non (a_cons (e_tup (a_cons e_int a_nil)) (a_cons (e_tup (a_cons e_int (a_cons e_int (a_cons e_int a_nil)))) a_nil))))))))))
    (s_cons (s_set (i := 0) sc.nd rfl (by first | exact .inl rfl | exact .inr rfl) (b_add (e_var (i := 0) rfl (by first | exact .inl rfl | exact .inr (.inl rfl) | exact .inr (.inr rfl))) (e_lst (a_cons (e_call F_parting_word (hr.mono (by first | decide | omega)) T.g_parting_word T.k_parting_word B_parting_word tkD (len_cons (len_cons len_nil)) rfl (a_cons (e_var (i := 3) rfl (by first | exact .inl rfl | exact .inr (.inl rfl) | exact .inr (.inr rfl))) (a_cons (e_tup (a_cons (e_tup (a_cons (e_tup (a_cons e_int a_nil)) (a_cons (e_tup (a_cons e_int a_nil)) a_nil))) (a_cons (e_tup (a_cons e_int a_nil)) a_nil))) a_nil))) (a_cons (e_call F_is_word (hr.mono (by first | decide | omega)) T.g_is_word T.k_is_word B_is_word tkD (len_cons len_nil) rfl (a_cons (e_tup a_nil) a_nil)) (a_cons (e_call F_is_word (hr.mono (by first | decide | omega)) T.g_is_word T.k_is_word B_is_word tkD (len_cons len_nil) rfl (a_cons (e_tup (a_cons e_int (a_cons e_int a_nil))) a_nil)) a_nil))))))
    (s_cons (s_ret (e_call F__law_same (hr.mono (by first | decide | omega)) T.g__law_same T.k__law_same B__law_same tkD (len_cons (len_cons len_nil)) rfl (a_cons (e_var (i := 0) rfl (by first | exact .inl rfl | exact .inr (.inl rfl) | exact .inr (.inr rfl))) (a_cons (b_add (e_var (i := 1) rfl (by first | exact .inl rfl | exact .inr (.inl rfl) | exact .inr (.inr rfl))) (e_lst (a_cons (e_tup a_nil) (a_cons e_bl (a_cons e_bl a_nil))))) a_nil))))
    s_nil)))))))))))))
theorem ok__law_refused_right (T : Txt P w K mg a_is_number a_are_numbers_from a_are_places a_is_set_of_places a_is_word a_are_steps a_is_machine a_letters_in a_check_letters a_check_as_many_letters a_state_from a_state_behind a_takes a_first_words a_words_to_states a_numbered a_kinds_of_states a_least a_are_alike a_parting_word_from a_parting_word a__law_same a__law_lists a__law_heard a__law_machines_right a__law_refused_right a__law_lists_right a_law a_NoPlace a_Unfit) (F : Fun K (PySem.Str.ofString "_law_refused_right") (PySem.Str.ofString "_law_refused_right") st__law_refused_right a__law_refused_right fd__law_refused_right) (F__law_heard : FnOk P w K mg base (L2.CX P w) 7 a__law_heard fd__law_heard ps__law_heard (spF ⟨w, K, mg⟩ 3 f__law_heard)) (B__law_heard : Binds K fd__law_heard ps__law_heard []) (F_is_word : FnOk P w K mg base (L2.CX P w) 3 a_is_word fd_is_word ps_is_word (spF ⟨w, K, mg⟩ 1 f_is_word)) (B_is_word : Binds K fd_is_word ps_is_word []) (F_is_machine : FnOk P w K mg base (L2.CX P w) 5 a_is_machine fd_is_machine ps_is_machine (spF ⟨w, K, mg⟩ 1 f_is_machine)) (B_is_machine : Binds K fd_is_machine ps_is_machine []) (F__law_same : FnOk P w K mg base (L2.CX P w) 41 a__law_same fd__law_same ps__law_same (spF ⟨w, K, mg⟩ 2 f__law_same)) (B__law_same : Binds K fd__law_same ps__law_same []) : FnOk P w K mg base (L2.CX P w) 42 a__law_refused_right fd__law_refused_right ps__law_refused_right (spF ⟨w, K, mg⟩ 0 f__law_refused_right) := by
  have sc := sc__law_refused_right
  refine fn_ok F sc rfl (by decide) fun cdv A outer s H E hr => ?_
  exact (s_cons (s_asg (e_tup (a_cons (e_tup (a_cons (e_tup (a_cons (e_tup (a_cons e_int a_nil)) (a_cons (e_tup (a_cons e_int a_nil)) a_nil))) (a_cons (e_tup (a_cons e_int a_nil)) a_nil))) (a_cons (e_tup (a_cons (e_tup (a_cons (e_tup (a_cons e_int (a_cons e_int a_nil))) (a_cons (e_tup (a_cons e_int (a_cons e_int a_nil))) (a_cons (e_tup (a_cons e_int (a_cons e_int a_nil))) a_nil)))) (a_cons (e_tup (a_cons e_int a_nil)) a_nil))) a_nil))) (g_tup rfl (gs_c (g_name (i := 4) sc.nd rfl (by first | exact .inl rfl | exact .inr rfl)) (gs_c (g_name (i := 5) sc.nd rfl (by first | exact .inl rfl | exact .inr rfl)) gs_nil))))
    (s_cons (s_set (i := 0) sc.nd rfl (by first | exact .inl rfl | exact .inr rfl) (e_lst (a_cons (e_call F__law_heard (hr.mono (by first | decide | omega)) T.g__law_heard T.k__law_heard B__law_heard tkD (len_cons (len_cons (len_cons len_nil))) rfl (a_cons e_int (a_cons (e_var (i := 4) rfl (by first | exact .inl rfl | exact .inr (.inl rfl) | exact .inr (.inr rfl))) (a_cons (e_tup (a_cons e_int (a_cons e_int a_nil))) a_nil)))) (a_cons (e_call F__law_heard (hr.mono (by first | decide | omega)) T.g__law_heard T.k__law_heard B__law_heard tkD (len_cons (len_cons (len_cons len_nil))) rfl (a_cons e_int (a_cons (e_var (i := 4) rfl (by first | exact .inl rfl | exact .inr (.inl rfl) | exact .inr (.inr rfl))) (a_cons (e_tup (a_cons e_int (a_cons e_int a_nil))) a_nil)))) (a_cons (e_call F__law_heard (hr.mono (by first | decide | omega)) T.g__law_heard T.k__law_heard B__law_heard tkD (len_cons (len_cons (len_cons len_nil))) rfl (a_cons e_int (a_cons (e_var (i := 5) rfl (by first | exact .inl rfl | exact .inr (.inl rfl) | exact .inr (.inr rfl))) (a_cons (e_tup (a_cons e_int (a_cons e_int (a_cons e_int (a_cons e_int a_nil))))) a_nil)))) (a_cons (e_lc (own := [((PySem.Str.ofString "door"), 6)]) rfl sc.nd (blkOk_by (by first | rfl | kernel_rfl | with_unfolding_all rfl)) rfl (i_any (e_tup (a_cons e_int (a_cons e_int a_nil)))) (fun s H C cl fp => (g_name (i := 6) sc.nd rfl (by first | exact .inl rfl | exact .inr rfl))) (fun s H C cl fp => ts_nil) (fun s H C cl fp => (e_call F__law_heard (hr.mono (by first | decide | omega)) T.g__law_heard T.k__law_heard B__law_heard tkF (len_cons (len_cons (len_cons len_nil))) rfl (a_cons (e_var (i := 6) rfl (by first | exact .inl rfl | exact .inr (.inl rfl) | exact .inr (.inr rfl))) (a_cons (e_var (i := 4) rfl (by first | exact .inl rfl | exact .inr (.inl rfl) | exact .inr (.inr rfl))) (a_cons (e_var (i := 5) rfl (by first | exact .inl rfl | exact .inr (.inl rfl) | exact .inr (.inr rfl))) a_nil)))))) a_nil))))))
    (s_cons (s_set (i := 1) sc.nd rfl (by first | exact .inl rfl | exact .inr rfl) (e_lst (a_cons (e_lst (a_cons e_str (a_cons e_int a_nil))) (a_cons (e_lst (a_cons e_str (a_cons e_int a_nil))) (a_cons (e_lst (a_cons e_str (a_cons e_int a_nil))) (a_cons (b_mulW (e_lst (a_cons (e_lst (a_cons e_str a_nil)) a_nil)) e_int) a_nil))))))
    (s_cons (s_expr (e_append (e_var (i := 0) rfl (by first | exact .inl rfl | exact .inr (.inl rfl) | exact .inr (.inr rfl))) (a_cons (e_lc (own := [((PySem.Str.ofString "own"), 7)]) rfl sc.nd (blkOk_by (by first | rfl | kernel_rfl | with_unfolding_all rfl)) rfl (i_any (e_tup (a_cons (e_tup (a_cons e_int a_nil)) (a_cons (e_lst (a_cons e_int a_nil)) (a_cons (e_tup (a_cons e_bl a_nil)) (a_cons (e_tup (a_cons (u_neg e_int) a_nil)) (a_cons e_non (a_cons e_int (a_cons e_str (a_cons (e_tup (a_cons (e_tup (a_cons e_int a_nil)) a_nil)) a_nil)))))))))) (fun s H C cl fp => (g_name (i := 7) sc.nd rfl (by first | exact .inl rfl | exact .inr rfl))) (fun s H C cl fp => ts_nil) (fun s H C cl fp => (e_call F_is_word (hr.mono (by first | decide | omega)) T.g_is_word T.k_is_word B_is_word tkF (len_cons len_nil) rfl (a_cons (e_var (i := 7) rfl (by first | exact .inl rfl | exact .inr (.inl rfl) | exact .inr (.inr rfl))) a_nil)))) a_nil)))
    (s_cons (s_expr (e_append (e_var (i := 1) rfl (by first | exact .inl rfl | exact .inr (.inl rfl) | exact .inr (.inr rfl))) (a_cons (b_mulW (e_lst (a_cons e_bl a_nil)) e_int) a_nil)))
    (s_cons (s_set (i := 2) sc.nd rfl (by first | exact .inl rfl | exact .inr rfl) (e_lst (a_cons (e_var (i := 4) rfl (by first | exact .inl rfl | exact .inr (.inl rfl) | exact .inr (.inr rfl))) (a_cons (e_var (i := 5) rfl (by first | exact .inl rfl | exact .inr (.inl rfl) | exact .inr (.inr rfl))) (a_cons (e_tup (a_cons (e_tup (a_cons (e_tup (a_cons e_int a_nil)) a_nil)) (a_cons (e_tup a_nil) a_nil))) (a_cons (e_tup (a_cons (e_tup (a_cons (e_tup (a_cons e_int (a_cons e_int (a_cons e_int (a_cons e_int a_nil))))) a_nil)) (a_cons (e_tup (a_cons e_int a_nil)) a_nil))) a_nil))))))
    (s_cons (s_set (i := 3) sc.nd rfl (by first | exact .inl rfl | exact .inr rfl) (e_lst (a_cons (e_tup (a_cons (e_tup a_nil) (a_cons (e_tup a_nil) a_nil))) (a_cons (e_tup (a_cons (e_tup (a_cons (e_tup a_nil) a_nil)) (a_cons (e_tup a_nil) a_nil))) (a_cons (e_tup (a_cons (e_tup (a_cons (e_tup (a_cons e_int a_nil)) a_nil)) (a_cons (e_tup a_nil) a_nil))) (a_cons (e_tup (a_cons (e_tup (a_cons (e_tup (a_cons e_int a_nil)) (a_cons (e_tup (a_cons e_int (a_cons e_int a_nil))) a_nil))) (a_cons (e_tup a_nil) a_nil))) (a_cons (e_tup (a_cons (e_tup (a_cons (e_tup (a_cons e_int a_nil)) a_nil)) (a_cons (e_tup (a_cons e_int a_nil)) a_nil))) (a_cons (e_tup (a_cons (e_tup (a_cons (e_tup (a_cons e_int a_nil)) (a_cons (e_tup (a_cons e_int a_nil)) a_nil))) (a_cons (e_tup (a_cons e_int (a_cons e_int a_nil))) a_nil))) (a_cons (e_tup (a_cons (e_tup (a_cons (e_tup (a_cons e_int a_nil)) a_nil)) (a_cons (e_tup (a_cons e_int (a_cons e_int a_nil))) a_nil))) (a_cons (e_tup (a_cons (e_lst (a_cons (e_tup (a_cons e_int a_nil)) a_nil)) (a_cons (e_tup a_nil) a_nil))) (a_cons (e_tup (a_cons (e_tup (a_cons (e_lst (a_cons e_int a_nil)) a_nil)) (a_cons (e_tup a_nil) a_nil))) a_nil)))))))))))
    (s_cons (s_set (i := 3) sc.nd rfl (by first | exact .inl rfl | exact .inr rfl) (b_add (e_var (i := 3) rfl (by first | exact .inl rfl | exact .inr (.inl rfl) | exact .inr (.inr rfl))) (e_lst (a_cons (e_tup (a_cons (e_tup (a_cons (e_tup (a_cons e_int a_nil)) a_nil)) (a_cons (e_lst (a_cons e_int a_nil)) a_nil))) (a_cons (e_tup (a_cons (e_tup (a_cons (e_tup (a_cons e_bl a_nil)) (a_cons (e_tup (a_cons e_int a_nil)) a_nil))) (a_cons (e_tup a_nil) a_nil))) (a_cons (e_tup (a_cons (e_tup (a_cons (e_tup (a_cons e_int a_nil)) a_nil)) (a_cons (e_tup (a_cons e_bl a_nil)) a_nil))) (a_cons e_non (a_cons (e_tup (a_cons (e_tup (a_cons (e_tup (a_cons e_int a_nil)) a_nil)) a_nil)) (a_cons (e_tup (a_cons (e_tup (a_cons e_int a_nil)) (a_cons (e_tup a_nil) a_nil))) a_nil)))))))))
    (s_cons (s_set (i := 0) sc.nd rfl (by first | exact .inl rfl | exact .inr rfl) (b_add (e_var (i := 0) rfl (by first | exact .inl rfl | exact .inr (.inl rfl) | exact .inr (.inr rfl))) (e_lst (a_cons (e_lc (own := [((PySem.Str.ofString "own"), 7)]) rfl sc.nd (blkOk_by (by first | rfl | kernel_rfl | with_unfolding_all rfl)) rfl (i_any (e_var (i := 2) rfl (by first | exact .inl rfl | exact .inr (.inl rfl) | exact .inr (.inr rfl)))) (fun s H C cl fp => (g_name (i := 7) sc.nd rfl (by first | exact .inl rfl | exact .inr rfl))) (fun s H C cl fp => ts_nil) (fun s H C cl fp => (e_call F_is_machine (hr.mono (by first | decide | omega)) T.g_is_machine T.k_is_machine B_is_machine tkF (len_cons len_nil) rfl (a_cons (e_var (i := 7) rfl (by first | exact .inl rfl | exact .inr (.inl rfl) | exact .inr (.inr rfl))) a_nil)))) (a_cons (e_lc (own := [((PySem.Str.ofString "own"), 7)]) rfl sc.nd (blkOk_by (by first | rfl | kernel_rfl | with_unfolding_all rfl)) rfl (i_any (e_var (i := 3) rfl (by first | exact .inl rfl | exact .inr (.inl rfl) | exact .inr (.inr rfl)))) (fun s H C cl fp => (g_name (i := 7) sc.nd rfl (by first | exact .inl rfl | exact .inr rfl))) (fun s H C cl fp => ts_nil) (fun s H C cl fp => (e_call F_is_machine (hr.mono (by first | decide | omega)) T.g_is_machine T.k_is_machine B_is_machine tkF (len_cons len_nil) rfl (a_cons (e_var (i := 7) rfl (by first | exact .inl rfl | exact .inr (.inl rfl) | exact .inr (.inr rfl))) a_nil)))) a_nil)))))
    (s_cons (s_ret (e_call F__law_same (hr.mono (by first | decide | omega)) T.g__law_same T.k__law_same B__law_same tkD (len_cons (len_cons len_nil)) rfl (a_cons (e_var (i := 0) rfl (by first | exact .inl rfl | exact .inr (.inl rfl) | exact .inr (.inr rfl))) (a_cons (b_add (e_var (i := 1) rfl (by first | exact .inl rfl | exact .inr (.inl rfl) | exact .inr (.inr rfl))) (e_lst (a_cons (b_mulW (e_lst (a_cons e_bl a_nil)) e_int) (a_cons (b_mulW (e_lst (a_cons e_bl a_nil)) e_int) a_nil)))) a_nil))))
    s_nil))))))))))
theorem ok__law_lists_right (T : Txt P w K mg a_is_number a_are_numbers_from a_are_places a_is_set_of_places a_is_word a_are_steps a_is_machine a_letters_in a_check_letters a_check_as_many_letters a_state_from a_state_behind a_takes a_first_words a_words_to_states a_numbered a_kinds_of_states a_least a_are_alike a_parting_word_from a_parting_word a__law_same a__law_lists a__law_heard a__law_machines_right a__law_refused_right a__law_lists_right a_law a_NoPlace a_Unfit) (F : Fun K (PySem.Str.ofString "_law_lists_right") (PySem.Str.ofString "_law_lists_right") st__law_lists_right a__law_lists_right fd__law_lists_right) (F__law_lists : FnOk P w K mg base (L2.CX P w) 41 a__law_lists fd__law_lists ps__law_lists (spF ⟨w, K, mg⟩ 1 f__law_lists)) (B__law_lists : Binds K fd__law_lists ps__law_lists []) (F_is_word : FnOk P w K mg base (L2.CX P w) 3 a_is_word fd_is_word ps_is_word (spF ⟨w, K, mg⟩ 1 f_is_word)) (B_is_word : Binds K fd_is_word ps_is_word []) (F_is_machine : FnOk P w K mg base (L2.CX P w) 5 a_is_machine fd_is_machine ps_is_machine (spF ⟨w, K, mg⟩ 1 f_is_machine)) (B_is_machine : Binds K fd_is_machine ps_is_machine []) (F_letters_in : FnOk P w K mg base (L2.CX P w) 1 a_letters_in fd_letters_in ps_letters_in (spF ⟨w, K, mg⟩ 1 f_letters_in)) (B_letters_in : Binds K fd_letters_in ps_letters_in []) (F_state_behind : FnOk P w K mg base (L2.CX P w) 3 a_state_behind fd_state_behind ps_state_behind (spF ⟨w, K, mg⟩ 2 f_state_behind)) (B_state_behind : Binds K fd_state_behind ps_state_behind []) (F_takes : FnOk P w K mg base (L2.CX P w) 4 a_takes fd_takes ps_takes (spF ⟨w, K, mg⟩ 2 f_takes)) (B_takes : Binds K fd_takes ps_takes []) (F_least : FnOk P w K mg base (L2.CX P w) 5 a_least fd_least ps_least (spF ⟨w, K, mg⟩ 1 f_least)) (B_least : Binds K fd_least ps_least []) (F_are_alike : FnOk P w K mg base (L2.CX P w) 6 a_are_alike fd_are_alike ps_are_alike (spF ⟨w, K, mg⟩ 2 f_are_alike)) (B_are_alike : Binds K fd_are_alike ps_are_alike []) (F_parting_word : FnOk P w K mg base (L2.CX P w) 4 a_parting_word fd_parting_word ps_parting_word (spF ⟨w, K, mg⟩ 2 f_parting_word)) (B_parting_word : Binds K fd_parting_word ps_parting_word []) (F__law_same : FnOk P w K mg base (L2.CX P w) 41 a__law_same fd__law_same ps__law_same (spF ⟨w, K, mg⟩ 2 f__law_same)) (B__law_same : Binds K fd__law_same ps__law_same []) (KC_is_word_0_thing : KwC K fd_is_word ps_is_word [(PySem.Str.ofString "thing")] 0 1 [0]) (KC_is_machine_0_thing : KwC K fd_is_machine ps_is_machine [(PySem.Str.ofString "thing")] 0 1 [0]) (KC_letters_in_0_machine : KwC K fd_letters_in ps_letters_in [(PySem.Str.ofString "machine")] 0 1 [0]) (KC_state_behind_0_machine_word : KwC K fd_state_behind ps_state_behind [(PySem.Str.ofString "machine"), (PySem.Str.ofString "word")] 0 2 [0, 1]) (KC_takes_0_machine_word : KwC K fd_takes ps_takes [(PySem.Str.ofString "machine"), (PySem.Str.ofString "word")] 0 2 [0, 1]) (KC_least_0_machine : KwC K fd_least ps_least [(PySem.Str.ofString "machine")] 0 1 [0]) (KC_are_alike_0_one_other : KwC K fd_are_alike ps_are_alike [(PySem.Str.ofString "one"), (PySem.Str.ofString "other")] 0 2 [0, 1]) (KC_parting_word_0_one_other : KwC K fd_parting_word ps_parting_word [(PySem.Str.ofString "one"), (PySem.Str.ofString "other")] 0 2 [0, 1]) : FnOk P w K mg base (L2.CX P w) 42 a__law_lists_right fd__law_lists_right ps__law_lists_right (spF ⟨w, K, mg⟩ 0 f__law_lists_right) := by
  have sc := sc__law_lists_right
  refine fn_ok F sc rfl (by decide) fun cdv A outer s H E hr => ?_
  exact (s_cons (s_set (i := 0) sc.nd rfl (by first | exact .inl rfl | exact .inr rfl) (e_tup (a_cons (e_tup (a_cons (e_tup (a_cons e_int a_nil)) (a_cons (e_tup (a_cons e_int a_nil)) a_nil))) (a_cons (e_tup (a_cons e_int a_nil)) a_nil))))
    (s_cons (s_par (i := 2) (j := 3) rfl sc.nd rfl rfl (by decide) rfl rfl (a_cons (e_call F__law_lists (hr.mono (by first | decide | omega)) T.g__law_lists T.k__law_lists B__law_lists tkD (len_cons len_nil) rfl (a_cons (e_var (i := 0) rfl (by first | exact .inl rfl | exact .inr (.inl rfl) | exact .inr (.inr rfl))) a_nil)) (a_cons (e_tup (a_cons (e_lst (a_cons (e_tup (a_cons e_int a_nil)) (a_cons (e_lst (a_cons e_int a_nil)) a_nil))) (a_cons (e_tup (a_cons e_int a_nil)) a_nil))) a_nil)))
    (s_cons (s_par (i := 4) (j := 5) rfl sc.nd rfl rfl (by decide) rfl rfl (a_cons (e_lst (a_cons (e_kwc0 F_is_word (hr.mono (by first | decide | omega)) T.g_is_word T.k_is_word KC_is_word_0_thing tkD rfl (kk_cons (e_tup (a_cons e_int a_nil)) kk_nil)) (a_cons (e_kwc0 F_is_machine (hr.mono (by first | decide | omega)) T.g_is_machine T.k_is_machine KC_is_machine_0_thing tkD rfl (kk_cons (e_var (i := 0) rfl (by first | exact .inl rfl | exact .inr (.inl rfl) | exact .inr (.inr rfl))) kk_nil)) a_nil))) (a_cons (e_lst (a_cons e_bl (a_cons e_bl a_nil))) a_nil)))
    (s_cons (s_for poD rfl (i_any (e_tup (a_cons (e_var (i := 2) rfl (by first | exact .inl rfl | exact .inr (.inl rfl) | exact .inr (.inr rfl))) (a_cons (e_var (i := 3) rfl (by first | exact .inl rfl | exact .inr (.inl rfl) | exact .inr (.inr rfl))) a_nil)))) (g_name (i := 1) sc.nd rfl (by first | exact .inl rfl | exact .inr rfl)) (s_cons (s_set (i := 4) sc.nd rfl (by first | exact .inl rfl | exact .inr rfl) (b_add (e_var (i := 4) rfl (by first | exact .inl rfl | exact .inr (.inl rfl) | exact .inr (.inr rfl))) (e_lst (a_cons (e_kwc0 F_letters_in (hr.mono (by first | decide | omega)) T.g_letters_in T.k_letters_in KC_letters_in_0_machine tkD rfl (kk_cons (e_var (i := 1) rfl (by first | exact .inl rfl | exact .inr (.inl rfl) | exact .inr (.inr rfl))) kk_nil)) (a_cons (e_kwc0 F_state_behind (hr.mono (by first | decide | omega)) T.g_state_behind T.k_state_behind KC_state_behind_0_machine_word tkD rfl (kk_cons (e_var (i := 1) rfl (by first | exact .inl rfl | exact .inr (.inl rfl) | exact .inr (.inr rfl))) (kk_cons (e_lst (a_cons e_int a_nil)) kk_nil))) (a_cons (e_kwc0 F_takes (hr.mono (by first | decide | omega)) T.g_takes T.k_takes KC_takes_0_machine_word tkD rfl (kk_cons (e_var (i := 1) rfl (by first | exact .inl rfl | exact .inr (.inl rfl) | exact .inr (.inr rfl))) (kk_cons (e_lst (a_cons e_int a_nil)) kk_nil))) (a_cons (e_kwc0 F_least (hr.mono (by first | decide | omega)) T.g_least T.k_least KC_least_0_machine tkD rfl (kk_cons (e_var (i := 1) rfl (by first | exact .inl rfl | exact .inr (.inl rfl) | exact .inr (.inr rfl))) kk_nil)) (a_cons (e_kwc0 F_are_alike (hr.mono (by first | decide | omega)) T.g_are_alike T.k_are_alike KC_are_alike_0_one_other tkD rfl (kk_cons (e_var (i := 1) rfl (by first | exact .inl rfl | exact .inr (.inl rfl) | exact .inr (.inr rfl))) (kk_cons (e_var (i := 0) rfl (by first | exact .inl rfl | exact .inr (.inl rfl) | exact .inr (.inr rfl))) kk_nil))) a_nil))))))))
    (s_cons (s_set (i := 4) sc.nd rfl (by first | exact .inl rfl | exact .inr rfl) (b_add (e_var (i := 4) rfl (by first | exact .inl rfl | exact .inr (.inl rfl) | exact .inr (.inr rfl))) (e_lst (a_cons (e_kwc0 F_parting_word (hr.mono (by first | decide | omega)) T.g_parting_word T.k_parting_word KC_parting_word_0_one_other tkD rfl (kk_cons (e_var (i := 0) rfl (by first | exact .inl rfl | exact .inr (.inl rfl) | exact .inr (.inr rfl))) (kk_cons (e_var (i := 1) rfl (by first | exact .inl rfl | exact .inr (.inl rfl) | exact .inr (.inr rfl))) kk_nil))) a_nil))))
    (s_cons (s_set (i := 5) sc.nd rfl (by first | exact .inl rfl | exact .inr rfl) (b_add (e_var (i := 5) rfl (by first | exact .inl rfl | exact .inr (.inl rfl) | exact .inr (.inr rfl))) (e_lst (a_cons e_int (a_cons e_int (a_cons e_bl (a_cons (e_var (i := 0) rfl (by first | exact .inl rfl | exact .inr (.inl rfl) | exact .inr (.inr rfl))) (a_cons e_bl (a_cons e_non a_nil)))))))))
    s_nil))))
    (s_cons (s_ret (e_call F__law_same (hr.mono (by first | decide | omega)) T.g__law_same T.k__law_same B__law_same tkD (len_cons (len_cons len_nil)) rfl (a_cons (e_var (i := 4) rfl (by first | exact .inl rfl | exact .inr (.inl rfl) | exact .inr (.inr rfl))) (a_cons (e_var (i := 5) rfl (by first | exact .inl rfl | exact .inr (.inl rfl) | exact .inr (.inr rfl))) a_nil))))
    s_nil)))))
theorem ok_law (T : Txt P w K mg a_is_number a_are_numbers_from a_are_places a_is_set_of_places a_is_word a_are_steps a_is_machine a_letters_in a_check_letters a_check_as_many_letters a_state_from a_state_behind a_takes a_first_words a_words_to_states a_numbered a_kinds_of_states a_least a_are_alike a_parting_word_from a_parting_word a__law_same a__law_lists a__law_heard a__law_machines_right a__law_refused_right a__law_lists_right a_law a_NoPlace a_Unfit) (F : Fun K (PySem.Str.ofString "law") (PySem.Str.ofString "law") st_law a_law fd_law) (F__law_machines_right : FnOk P w K mg base (L2.CX P w) 42 a__law_machines_right fd__law_machines_right ps__law_machines_right (spF ⟨w, K, mg⟩ 0 f__law_machines_right)) (B__law_machines_right : Binds K fd__law_machines_right ps__law_machines_right []) (F__law_refused_right : FnOk P w K mg base (L2.CX P w) 42 a__law_refused_right fd__law_refused_right ps__law_refused_right (spF ⟨w, K, mg⟩ 0 f__law_refused_right)) (B__law_refused_right : Binds K fd__law_refused_right ps__law_refused_right []) (F__law_lists_right : FnOk P w K mg base (L2.CX P w) 42 a__law_lists_right fd__law_lists_right ps__law_lists_right (spF ⟨w, K, mg⟩ 0 f__law_lists_right)) (B__law_lists_right : Binds K fd__law_lists_right ps__law_lists_right []) (hz : Tbs.base = []) : FnOk P w K mg base (L2.CX P w) 43 a_law fd_law ps_law (spF ⟨w, K, mg⟩ 1 f_law) := by
  have sc := sc_law
  refine fn_ok F sc rfl (by decide) fun cdv A outer s H E hr => ?_
  exact (s_cons (s_if (t_not (t_val (e_call0 (fn_cl hz F__law_machines_right) (hr.mono (by first | decide | omega)) T.g__law_machines_right T.k__law_machines_right B__law_machines_right tkD rfl))) (s_cons (s_ret e_bl)
    s_nil) s_nil)
    (s_cons (s_set (i := 1) sc.nd rfl (by first | exact .inl rfl | exact .inr rfl) (e_ife (t_cmpW (w_eqA hr) (by with_unfolding_all rfl) (f_len rfl T.n_len (a_cons (e_var (i := 0) rfl (by first | exact .inl rfl | exact .inr (.inl rfl) | exact .inr (.inr rfl))) a_nil)) e_int) e_int (b_mod (f_int bt_int rfl T.n_int (a_cons (f_abs bt_abs rfl T.n_abs (a_cons (x_ix hr (e_var (i := 0) rfl (by first | exact .inl rfl | exact .inr (.inl rfl) | exact .inr (.inr rfl))) e_int) a_nil)) a_nil)) e_int)))
    (s_cons (s_ret (e_ife (t_cmpW (w_eqA hr) (by with_unfolding_all rfl) (e_var (i := 1) rfl (by first | exact .inl rfl | exact .inr (.inl rfl) | exact .inr (.inr rfl))) e_int) (e_call0 (fn_cl hz F__law_refused_right) (hr.mono (by first | decide | omega)) T.g__law_refused_right T.k__law_refused_right B__law_refused_right tkD rfl) (e_call0 (fn_cl hz F__law_lists_right) (hr.mono (by first | decide | omega)) T.g__law_lists_right T.k__law_lists_right B__law_lists_right tkD rfl)))
    s_nil)))
open PySem.W in
theorem top_mk {P : Program} {w : World} {K : PySem.W.Frag} {h : Heap} {mg : Str → Option Value} {a_is_number : Addr} {a_are_numbers_from : Addr} {a_are_places : Addr} {a_is_set_of_places : Addr} {a_is_word : Addr} {a_are_steps : Addr} {a_is_machine : Addr} {a_letters_in : Addr} {a_check_letters : Addr} {a_check_as_many_letters : Addr} {a_state_from : Addr} {a_state_behind : Addr} {a_takes : Addr} {a_first_words : Addr} {a_words_to_states : Addr} {a_numbered : Addr} {a_kinds_of_states : Addr} {a_least : Addr} {a_are_alike : Addr} {a_parting_word_from : Addr} {a_parting_word : Addr} {a__law_same : Addr} {a__law_lists : Addr} {a__law_heard : Addr} {a__law_machines_right : Addr} {a__law_refused_right : Addr} {a__law_lists_right : Addr} {a_law : Addr} {a_NoPlace : Addr} {a_Unfit : Addr} {od_is_number an_is_number : Option Addr} {sl_is_number : Array (Option Value)} {oc_is_number kV_is_number dc_is_number pm_is_number cd_is_number ct_is_number : Value} {od_are_numbers_from an_are_numbers_from : Option Addr} {sl_are_numbers_from : Array (Option Value)} {oc_are_numbers_from kV_are_numbers_from dc_are_numbers_from pm_are_numbers_from cd_are_numbers_from ct_are_numbers_from : Value} {od_are_places an_are_places : Option Addr} {sl_are_places : Array (Option Value)} {oc_are_places kV_are_places dc_are_places pm_are_places cd_are_places ct_are_places : Value} {od_is_set_of_places an_is_set_of_places : Option Addr} {sl_is_set_of_places : Array (Option Value)} {oc_is_set_of_places kV_is_set_of_places dc_is_set_of_places pm_is_set_of_places cd_is_set_of_places ct_is_set_of_places : Value} {od_is_word an_is_word : Option Addr} {sl_is_word : Array (Option Value)} {oc_is_word kV_is_word dc_is_word pm_is_word cd_is_word ct_is_word : Value} {od_are_steps an_are_steps : Option Addr} {sl_are_steps : Array (Option Value)} {oc_are_steps kV_are_steps dc_are_steps pm_are_steps cd_are_steps ct_are_steps : Value} {od_is_machine an_is_machine : Option Addr} {sl_is_machine : Array (Option Value)} {oc_is_machine kV_is_machine dc_is_machine pm_is_machine cd_is_machine ct_is_machine : Value} {od_letters_in an_letters_in : Option Addr} {sl_letters_in : Array (Option Value)} {oc_letters_in kV_letters_in dc_letters_in pm_letters_in cd_letters_in ct_letters_in : Value} {od_check_letters an_check_letters : Option Addr} {sl_check_letters : Array (Option Value)} {oc_check_letters kV_check_letters dc_check_letters pm_check_letters cd_check_letters ct_check_letters : Value} {od_check_as_many_letters an_check_as_many_letters : Option Addr} {sl_check_as_many_letters : Array (Option Value)} {oc_check_as_many_letters kV_check_as_many_letters dc_check_as_many_letters pm_check_as_many_letters cd_check_as_many_letters ct_check_as_many_letters : Value} {od_state_from an_state_from : Option Addr} {sl_state_from : Array (Option Value)} {oc_state_from kV_state_from dc_state_from pm_state_from cd_state_from ct_state_from : Value} {od_state_behind an_state_behind : Option Addr} {sl_state_behind : Array (Option Value)} {oc_state_behind kV_state_behind dc_state_behind pm_state_behind cd_state_behind ct_state_behind : Value} {od_takes an_takes : Option Addr} {sl_takes : Array (Option Value)} {oc_takes kV_takes dc_takes pm_takes cd_takes ct_takes : Value} {od_first_words an_first_words : Option Addr} {sl_first_words : Array (Option Value)} {oc_first_words kV_first_words dc_first_words pm_first_words cd_first_words ct_first_words : Value} {od_words_to_states an_words_to_states : Option Addr} {sl_words_to_states : Array (Option Value)} {oc_words_to_states kV_words_to_states dc_words_to_states pm_words_to_states ct_words_to_states : Value} {od_numbered an_numbered : Option Addr} {sl_numbered : Array (Option Value)} {oc_numbered kV_numbered dc_numbered pm_numbered cd_numbered ct_numbered : Value} {od_kinds_of_states an_kinds_of_states : Option Addr} {sl_kinds_of_states : Array (Option Value)} {oc_kinds_of_states kV_kinds_of_states dc_kinds_of_states pm_kinds_of_states cd_kinds_of_states ct_kinds_of_states : Value} {od_least an_least : Option Addr} {sl_least : Array (Option Value)} {oc_least kV_least dc_least pm_least cd_least ct_least : Value} {od_are_alike an_are_alike : Option Addr} {sl_are_alike : Array (Option Value)} {oc_are_alike kV_are_alike dc_are_alike pm_are_alike cd_are_alike ct_are_alike : Value} {od_parting_word_from an_parting_word_from : Option Addr} {sl_parting_word_from : Array (Option Value)} {oc_parting_word_from kV_parting_word_from dc_parting_word_from pm_parting_word_from ct_parting_word_from : Value} {od_parting_word an_parting_word : Option Addr} {sl_parting_word : Array (Option Value)} {oc_parting_word kV_parting_word dc_parting_word pm_parting_word cd_parting_word ct_parting_word : Value} {od__law_same an__law_same : Option Addr} {sl__law_same : Array (Option Value)} {oc__law_same kV__law_same dc__law_same pm__law_same cd__law_same ct__law_same : Value} {od__law_lists an__law_lists : Option Addr} {sl__law_lists : Array (Option Value)} {oc__law_lists kV__law_lists dc__law_lists pm__law_lists cd__law_lists ct__law_lists : Value} {od__law_heard an__law_heard : Option Addr} {sl__law_heard : Array (Option Value)} {oc__law_heard kV__law_heard dc__law_heard pm__law_heard cd__law_heard ct__law_heard : Value} {od__law_machines_right an__law_machines_right : Option Addr} {sl__law_machines_right : Array (Option Value)} {oc__law_machines_right kV__law_machines_right dc__law_machines_right pm__law_machines_right cd__law_machines_right ct__law_machines_right : Value} {od__law_refused_right an__law_refused_right : Option Addr} {sl__law_refused_right : Array (Option Value)} {oc__law_refused_right kV__law_refused_right dc__law_refused_right pm__law_refused_right cd__law_refused_right ct__law_refused_right : Value} {od__law_lists_right an__law_lists_right : Option Addr} {sl__law_lists_right : Array (Option Value)} {oc__law_lists_right kV__law_lists_right dc__law_lists_right pm__law_lists_right cd__law_lists_right ct__law_lists_right : Value} {od_law an_law : Option Addr} {sl_law : Array (Option Value)} {oc_law kV_law dc_law pm_law cd_law ct_law : Value} {i_NoPlace xN_NoPlace : Addr} {xn_NoPlace xq_NoPlace : Str} {xb_NoPlace xu_NoPlace : List Value} {xs_NoPlace : List Str} {xa_NoPlace : Bool} {xc_NoPlace : Option Bool} {xd_NoPlace od_NoPlace an_NoPlace : Option Addr} {x0_NoPlace x1_NoPlace x2_NoPlace x3_NoPlace x5_NoPlace : Option Value} {sl_NoPlace : Array (Option Value)} {oc_NoPlace dc_NoPlace pm_NoPlace cd_NoPlace ct_NoPlace : Value} {p1_NoPlace p2_NoPlace q1_NoPlace q2_NoPlace q3_NoPlace q4_NoPlace : Pos} {c_words_to_states : Addr} {c_parting_word_from : Addr} (X : K.In h) (G : h.Ns mainGlobals mg)
    (a1_is_number : PySem.W.nsIn K mainGlobals (PySem.Str.ofString "is_number") = some (some (.ref a_is_number)))
    (l1_is_number : K.lookup a_is_number = some ⟨oc_is_number, od_is_number, .func (PySem.W.fnOf (PySem.Str.ofString "is_number") (PySem.Str.ofString "is_number") (defArgs st_is_number) (defBody st_is_number) (defScope st_is_number) .none kV_is_number dc_is_number pm_is_number an_is_number cd_is_number ct_is_number), sl_is_number⟩)
    (c1_is_number : PySem.W.codeIn K cd_is_number (PySem.Str.ofString "is_number") = true)
    (k1_is_number : PySem.W.keepIn K (.ref a_is_number) = true)
    (a1_are_numbers_from : PySem.W.nsIn K mainGlobals (PySem.Str.ofString "are_numbers_from") = some (some (.ref a_are_numbers_from)))
    (l1_are_numbers_from : K.lookup a_are_numbers_from = some ⟨oc_are_numbers_from, od_are_numbers_from, .func (PySem.W.fnOf (PySem.Str.ofString "are_numbers_from") (PySem.Str.ofString "are_numbers_from") (defArgs st_are_numbers_from) (defBody st_are_numbers_from) (defScope st_are_numbers_from) .none kV_are_numbers_from dc_are_numbers_from pm_are_numbers_from an_are_numbers_from cd_are_numbers_from ct_are_numbers_from), sl_are_numbers_from⟩)
    (c1_are_numbers_from : PySem.W.codeIn K cd_are_numbers_from (PySem.Str.ofString "are_numbers_from") = true)
    (k1_are_numbers_from : PySem.W.keepIn K (.ref a_are_numbers_from) = true)
    (a1_are_places : PySem.W.nsIn K mainGlobals (PySem.Str.ofString "are_places") = some (some (.ref a_are_places)))
    (l1_are_places : K.lookup a_are_places = some ⟨oc_are_places, od_are_places, .func (PySem.W.fnOf (PySem.Str.ofString "are_places") (PySem.Str.ofString "are_places") (defArgs st_are_places) (defBody st_are_places) (defScope st_are_places) .none kV_are_places dc_are_places pm_are_places an_are_places cd_are_places ct_are_places), sl_are_places⟩)
    (c1_are_places : PySem.W.codeIn K cd_are_places (PySem.Str.ofString "are_places") = true)
    (k1_are_places : PySem.W.keepIn K (.ref a_are_places) = true)
    (a1_is_set_of_places : PySem.W.nsIn K mainGlobals (PySem.Str.ofString "is_set_of_places") = some (some (.ref a_is_set_of_places)))
    (l1_is_set_of_places : K.lookup a_is_set_of_places = some ⟨oc_is_set_of_places, od_is_set_of_places, .func (PySem.W.fnOf (PySem.Str.ofString "is_set_of_places") (PySem.Str.ofString "is_set_of_places") (defArgs st_is_set_of_places) (defBody st_is_set_of_places) (defScope st_is_set_of_places) .none kV_is_set_of_places dc_is_set_of_places pm_is_set_of_places an_is_set_of_places cd_is_set_of_places ct_is_set_of_places), sl_is_set_of_places⟩)
    (c1_is_set_of_places : PySem.W.codeIn K cd_is_set_of_places (PySem.Str.ofString "is_set_of_places") = true)
    (k1_is_set_of_places : PySem.W.keepIn K (.ref a_is_set_of_places) = true)
    (a1_is_word : PySem.W.nsIn K mainGlobals (PySem.Str.ofString "is_word") = some (some (.ref a_is_word)))
    (l1_is_word : K.lookup a_is_word = some ⟨oc_is_word, od_is_word, .func (PySem.W.fnOf (PySem.Str.ofString "is_word") (PySem.Str.ofString "is_word") (defArgs st_is_word) (defBody st_is_word) (defScope st_is_word) .none kV_is_word dc_is_word pm_is_word an_is_word cd_is_word ct_is_word), sl_is_word⟩)
    (c1_is_word : PySem.W.codeIn K cd_is_word (PySem.Str.ofString "is_word") = true)
    (k1_is_word : PySem.W.keepIn K (.ref a_is_word) = true)
    (a1_are_steps : PySem.W.nsIn K mainGlobals (PySem.Str.ofString "are_steps") = some (some (.ref a_are_steps)))
    (l1_are_steps : K.lookup a_are_steps = some ⟨oc_are_steps, od_are_steps, .func (PySem.W.fnOf (PySem.Str.ofString "are_steps") (PySem.Str.ofString "are_steps") (defArgs st_are_steps) (defBody st_are_steps) (defScope st_are_steps) .none kV_are_steps dc_are_steps pm_are_steps an_are_steps cd_are_steps ct_are_steps), sl_are_steps⟩)
    (c1_are_steps : PySem.W.codeIn K cd_are_steps (PySem.Str.ofString "are_steps") = true)
    (k1_are_steps : PySem.W.keepIn K (.ref a_are_steps) = true)
    (a1_is_machine : PySem.W.nsIn K mainGlobals (PySem.Str.ofString "is_machine") = some (some (.ref a_is_machine)))
    (l1_is_machine : K.lookup a_is_machine = some ⟨oc_is_machine, od_is_machine, .func (PySem.W.fnOf (PySem.Str.ofString "is_machine") (PySem.Str.ofString "is_machine") (defArgs st_is_machine) (defBody st_is_machine) (defScope st_is_machine) .none kV_is_machine dc_is_machine pm_is_machine an_is_machine cd_is_machine ct_is_machine), sl_is_machine⟩)
    (c1_is_machine : PySem.W.codeIn K cd_is_machine (PySem.Str.ofString "is_machine") = true)
    (k1_is_machine : PySem.W.keepIn K (.ref a_is_machine) = true)
    (a1_letters_in : PySem.W.nsIn K mainGlobals (PySem.Str.ofString "letters_in") = some (some (.ref a_letters_in)))
    (l1_letters_in : K.lookup a_letters_in = some ⟨oc_letters_in, od_letters_in, .func (PySem.W.fnOf (PySem.Str.ofString "letters_in") (PySem.Str.ofString "letters_in") (defArgs st_letters_in) (defBody st_letters_in) (defScope st_letters_in) .none kV_letters_in dc_letters_in pm_letters_in an_letters_in cd_letters_in ct_letters_in), sl_letters_in⟩)
    (c1_letters_in : PySem.W.codeIn K cd_letters_in (PySem.Str.ofString "letters_in") = true)
    (k1_letters_in : PySem.W.keepIn K (.ref a_letters_in) = true)
    (a1_check_letters : PySem.W.nsIn K mainGlobals (PySem.Str.ofString "check_letters") = some (some (.ref a_check_letters)))
    (l1_check_letters : K.lookup a_check_letters = some ⟨oc_check_letters, od_check_letters, .func (PySem.W.fnOf (PySem.Str.ofString "check_letters") (PySem.Str.ofString "check_letters") (defArgs st_check_letters) (defBody st_check_letters) (defScope st_check_letters) .none kV_check_letters dc_check_letters pm_check_letters an_check_letters cd_check_letters ct_check_letters), sl_check_letters⟩)
    (c1_check_letters : PySem.W.codeIn K cd_check_letters (PySem.Str.ofString "check_letters") = true)
    (k1_check_letters : PySem.W.keepIn K (.ref a_check_letters) = true)
    (a1_check_as_many_letters : PySem.W.nsIn K mainGlobals (PySem.Str.ofString "check_as_many_letters") = some (some (.ref a_check_as_many_letters)))
    (l1_check_as_many_letters : K.lookup a_check_as_many_letters = some ⟨oc_check_as_many_letters, od_check_as_many_letters, .func (PySem.W.fnOf (PySem.Str.ofString "check_as_many_letters") (PySem.Str.ofString "check_as_many_letters") (defArgs st_check_as_many_letters) (defBody st_check_as_many_letters) (defScope st_check_as_many_letters) .none kV_check_as_many_letters dc_check_as_many_letters pm_check_as_many_letters an_check_as_many_letters cd_check_as_many_letters ct_check_as_many_letters), sl_check_as_many_letters⟩)
    (c1_check_as_many_letters : PySem.W.codeIn K cd_check_as_many_letters (PySem.Str.ofString "check_as_many_letters") = true)
    (k1_check_as_many_letters : PySem.W.keepIn K (.ref a_check_as_many_letters) = true)
    (a1_state_from : PySem.W.nsIn K mainGlobals (PySem.Str.ofString "state_from") = some (some (.ref a_state_from)))
    (l1_state_from : K.lookup a_state_from = some ⟨oc_state_from, od_state_from, .func (PySem.W.fnOf (PySem.Str.ofString "state_from") (PySem.Str.ofString "state_from") (defArgs st_state_from) (defBody st_state_from) (defScope st_state_from) .none kV_state_from dc_state_from pm_state_from an_state_from cd_state_from ct_state_from), sl_state_from⟩)
    (c1_state_from : PySem.W.codeIn K cd_state_from (PySem.Str.ofString "state_from") = true)
    (k1_state_from : PySem.W.keepIn K (.ref a_state_from) = true)
    (a1_state_behind : PySem.W.nsIn K mainGlobals (PySem.Str.ofString "state_behind") = some (some (.ref a_state_behind)))
    (l1_state_behind : K.lookup a_state_behind = some ⟨oc_state_behind, od_state_behind, .func (PySem.W.fnOf (PySem.Str.ofString "state_behind") (PySem.Str.ofString "state_behind") (defArgs st_state_behind) (defBody st_state_behind) (defScope st_state_behind) .none kV_state_behind dc_state_behind pm_state_behind an_state_behind cd_state_behind ct_state_behind), sl_state_behind⟩)
    (c1_state_behind : PySem.W.codeIn K cd_state_behind (PySem.Str.ofString "state_behind") = true)
    (k1_state_behind : PySem.W.keepIn K (.ref a_state_behind) = true)
    (a1_takes : PySem.W.nsIn K mainGlobals (PySem.Str.ofString "takes") = some (some (.ref a_takes)))
    (l1_takes : K.lookup a_takes = some ⟨oc_takes, od_takes, .func (PySem.W.fnOf (PySem.Str.ofString "takes") (PySem.Str.ofString "takes") (defArgs st_takes) (defBody st_takes) (defScope st_takes) .none kV_takes dc_takes pm_takes an_takes cd_takes ct_takes), sl_takes⟩)
    (c1_takes : PySem.W.codeIn K cd_takes (PySem.Str.ofString "takes") = true)
    (k1_takes : PySem.W.keepIn K (.ref a_takes) = true)
    (a1_first_words : PySem.W.nsIn K mainGlobals (PySem.Str.ofString "first_words") = some (some (.ref a_first_words)))
    (l1_first_words : K.lookup a_first_words = some ⟨oc_first_words, od_first_words, .func (PySem.W.fnOf (PySem.Str.ofString "first_words") (PySem.Str.ofString "first_words") (defArgs st_first_words) (defBody st_first_words) (defScope st_first_words) .none kV_first_words dc_first_words pm_first_words an_first_words cd_first_words ct_first_words), sl_first_words⟩)
    (c1_first_words : PySem.W.codeIn K cd_first_words (PySem.Str.ofString "first_words") = true)
    (k1_first_words : PySem.W.keepIn K (.ref a_first_words) = true)
    (a1_words_to_states : PySem.W.nsIn K mainGlobals (PySem.Str.ofString "words_to_states") = some (some (.ref a_words_to_states)))
    (l1_words_to_states : K.lookup a_words_to_states = some ⟨oc_words_to_states, od_words_to_states, .func (PySem.W.fnOf (PySem.Str.ofString "words_to_states") (PySem.Str.ofString "words_to_states") (defArgs st_words_to_states) (defBody st_words_to_states) (defScope st_words_to_states) .none kV_words_to_states dc_words_to_states pm_words_to_states an_words_to_states (.ref c_words_to_states) ct_words_to_states), sl_words_to_states⟩)
    (c1_words_to_states : PySem.W.codeIn K (.ref c_words_to_states) (PySem.Str.ofString "words_to_states") = true)
    (k1_words_to_states : PySem.W.keepIn K (.ref a_words_to_states) = true)
    (a1_numbered : PySem.W.nsIn K mainGlobals (PySem.Str.ofString "numbered") = some (some (.ref a_numbered)))
    (l1_numbered : K.lookup a_numbered = some ⟨oc_numbered, od_numbered, .func (PySem.W.fnOf (PySem.Str.ofString "numbered") (PySem.Str.ofString "numbered") (defArgs st_numbered) (defBody st_numbered) (defScope st_numbered) .none kV_numbered dc_numbered pm_numbered an_numbered cd_numbered ct_numbered), sl_numbered⟩)
    (c1_numbered : PySem.W.codeIn K cd_numbered (PySem.Str.ofString "numbered") = true)
    (k1_numbered : PySem.W.keepIn K (.ref a_numbered) = true)
    (a1_kinds_of_states : PySem.W.nsIn K mainGlobals (PySem.Str.ofString "kinds_of_states") = some (some (.ref a_kinds_of_states)))
    (l1_kinds_of_states : K.lookup a_kinds_of_states = some ⟨oc_kinds_of_states, od_kinds_of_states, .func (PySem.W.fnOf (PySem.Str.ofString "kinds_of_states") (PySem.Str.ofString "kinds_of_states") (defArgs st_kinds_of_states) (defBody st_kinds_of_states) (defScope st_kinds_of_states) .none kV_kinds_of_states dc_kinds_of_states pm_kinds_of_states an_kinds_of_states cd_kinds_of_states ct_kinds_of_states), sl_kinds_of_states⟩)
    (c1_kinds_of_states : PySem.W.codeIn K cd_kinds_of_states (PySem.Str.ofString "kinds_of_states") = true)
    (k1_kinds_of_states : PySem.W.keepIn K (.ref a_kinds_of_states) = true)
    (a1_least : PySem.W.nsIn K mainGlobals (PySem.Str.ofString "least") = some (some (.ref a_least)))
    (l1_least : K.lookup a_least = some ⟨oc_least, od_least, .func (PySem.W.fnOf (PySem.Str.ofString "least") (PySem.Str.ofString "least") (defArgs st_least) (defBody st_least) (defScope st_least) .none kV_least dc_least pm_least an_least cd_least ct_least), sl_least⟩)
    (c1_least : PySem.W.codeIn K cd_least (PySem.Str.ofString "least") = true)
    (k1_least : PySem.W.keepIn K (.ref a_least) = true)
    (a1_are_alike : PySem.W.nsIn K mainGlobals (PySem.Str.ofString "are_alike") = some (some (.ref a_are_alike)))
    (l1_are_alike : K.lookup a_are_alike = some ⟨oc_are_alike, od_are_alike, .func (PySem.W.fnOf (PySem.Str.ofString "are_alike") (PySem.Str.ofString "are_alike") (defArgs st_are_alike) (defBody st_are_alike) (defScope st_are_alike) .none kV_are_alike dc_are_alike pm_are_alike an_are_alike cd_are_alike ct_are_alike), sl_are_alike⟩)
    (c1_are_alike : PySem.W.codeIn K cd_are_alike (PySem.Str.ofString "are_alike") = true)
    (k1_are_alike : PySem.W.keepIn K (.ref a_are_alike) = true)
    (a1_parting_word_from : PySem.W.nsIn K mainGlobals (PySem.Str.ofString "parting_word_from") = some (some (.ref a_parting_word_from)))
    (l1_parting_word_from : K.lookup a_parting_word_from = some ⟨oc_parting_word_from, od_parting_word_from, .func (PySem.W.fnOf (PySem.Str.ofString "parting_word_from") (PySem.Str.ofString "parting_word_from") (defArgs st_parting_word_from) (defBody st_parting_word_from) (defScope st_parting_word_from) .none kV_parting_word_from dc_parting_word_from pm_parting_word_from an_parting_word_from (.ref c_parting_word_from) ct_parting_word_from), sl_parting_word_from⟩)
    (c1_parting_word_from : PySem.W.codeIn K (.ref c_parting_word_from) (PySem.Str.ofString "parting_word_from") = true)
    (k1_parting_word_from : PySem.W.keepIn K (.ref a_parting_word_from) = true)
    (a1_parting_word : PySem.W.nsIn K mainGlobals (PySem.Str.ofString "parting_word") = some (some (.ref a_parting_word)))
    (l1_parting_word : K.lookup a_parting_word = some ⟨oc_parting_word, od_parting_word, .func (PySem.W.fnOf (PySem.Str.ofString "parting_word") (PySem.Str.ofString "parting_word") (defArgs st_parting_word) (defBody st_parting_word) (defScope st_parting_word) .none kV_parting_word dc_parting_word pm_parting_word an_parting_word cd_parting_word ct_parting_word), sl_parting_word⟩)
    (c1_parting_word : PySem.W.codeIn K cd_parting_word (PySem.Str.ofString "parting_word") = true)
    (k1_parting_word : PySem.W.keepIn K (.ref a_parting_word) = true)
    (a1__law_same : PySem.W.nsIn K mainGlobals (PySem.Str.ofString "_law_same") = some (some (.ref a__law_same)))
    (l1__law_same : K.lookup a__law_same = some ⟨oc__law_same, od__law_same, .func (PySem.W.fnOf (PySem.Str.ofString "_law_same") (PySem.Str.ofString "_law_same") (defArgs st__law_same) (defBody st__law_same) (defScope st__law_same) .none kV__law_same dc__law_same pm__law_same an__law_same cd__law_same ct__law_same), sl__law_same⟩)
    (c1__law_same : PySem.W.codeIn K cd__law_same (PySem.Str.ofString "_law_same") = true)
    (k1__law_same : PySem.W.keepIn K (.ref a__law_same) = true)
    (a1__law_lists : PySem.W.nsIn K mainGlobals (PySem.Str.ofString "_law_lists") = some (some (.ref a__law_lists)))
    (l1__law_lists : K.lookup a__law_lists = some ⟨oc__law_lists, od__law_lists, .func (PySem.W.fnOf (PySem.Str.ofString "_law_lists") (PySem.Str.ofString "_law_lists") (defArgs st__law_lists) (defBody st__law_lists) (defScope st__law_lists) .none kV__law_lists dc__law_lists pm__law_lists an__law_lists cd__law_lists ct__law_lists), sl__law_lists⟩)
    (c1__law_lists : PySem.W.codeIn K cd__law_lists (PySem.Str.ofString "_law_lists") = true)
    (k1__law_lists : PySem.W.keepIn K (.ref a__law_lists) = true)
    (a1__law_heard : PySem.W.nsIn K mainGlobals (PySem.Str.ofString "_law_heard") = some (some (.ref a__law_heard)))
    (l1__law_heard : K.lookup a__law_heard = some ⟨oc__law_heard, od__law_heard, .func (PySem.W.fnOf (PySem.Str.ofString "_law_heard") (PySem.Str.ofString "_law_heard") (defArgs st__law_heard) (defBody st__law_heard) (defScope st__law_heard) .none kV__law_heard dc__law_heard pm__law_heard an__law_heard cd__law_heard ct__law_heard), sl__law_heard⟩)
    (c1__law_heard : PySem.W.codeIn K cd__law_heard (PySem.Str.ofString "_law_heard") = true)
    (k1__law_heard : PySem.W.keepIn K (.ref a__law_heard) = true)
    (a1__law_machines_right : PySem.W.nsIn K mainGlobals (PySem.Str.ofString "_law_machines_right") = some (some (.ref a__law_machines_right)))
    (l1__law_machines_right : K.lookup a__law_machines_right = some ⟨oc__law_machines_right, od__law_machines_right, .func (PySem.W.fnOf (PySem.Str.ofString "_law_machines_right") (PySem.Str.ofString "_law_machines_right") (defArgs st__law_machines_right) (defBody st__law_machines_right) (defScope st__law_machines_right) .none kV__law_machines_right dc__law_machines_right pm__law_machines_right an__law_machines_right cd__law_machines_right ct__law_machines_right), sl__law_machines_right⟩)
    (c1__law_machines_right : PySem.W.codeIn K cd__law_machines_right (PySem.Str.ofString "_law_machines_right") = true)
    (k1__law_machines_right : PySem.W.keepIn K (.ref a__law_machines_right) = true)
    (a1__law_refused_right : PySem.W.nsIn K mainGlobals (PySem.Str.ofString "_law_refused_right") = some (some (.ref a__law_refused_right)))
    (l1__law_refused_right : K.lookup a__law_refused_right = some ⟨oc__law_refused_right, od__law_refused_right, .func (PySem.W.fnOf (PySem.Str.ofString "_law_refused_right") (PySem.Str.ofString "_law_refused_right") (defArgs st__law_refused_right) (defBody st__law_refused_right) (defScope st__law_refused_right) .none kV__law_refused_right dc__law_refused_right pm__law_refused_right an__law_refused_right cd__law_refused_right ct__law_refused_right), sl__law_refused_right⟩)
    (c1__law_refused_right : PySem.W.codeIn K cd__law_refused_right (PySem.Str.ofString "_law_refused_right") = true)
    (k1__law_refused_right : PySem.W.keepIn K (.ref a__law_refused_right) = true)
    (a1__law_lists_right : PySem.W.nsIn K mainGlobals (PySem.Str.ofString "_law_lists_right") = some (some (.ref a__law_lists_right)))
    (l1__law_lists_right : K.lookup a__law_lists_right = some ⟨oc__law_lists_right, od__law_lists_right, .func (PySem.W.fnOf (PySem.Str.ofString "_law_lists_right") (PySem.Str.ofString "_law_lists_right") (defArgs st__law_lists_right) (defBody st__law_lists_right) (defScope st__law_lists_right) .none kV__law_lists_right dc__law_lists_right pm__law_lists_right an__law_lists_right cd__law_lists_right ct__law_lists_right), sl__law_lists_right⟩)
    (c1__law_lists_right : PySem.W.codeIn K cd__law_lists_right (PySem.Str.ofString "_law_lists_right") = true)
    (k1__law_lists_right : PySem.W.keepIn K (.ref a__law_lists_right) = true)
    (a1_law : PySem.W.nsIn K mainGlobals (PySem.Str.ofString "law") = some (some (.ref a_law)))
    (l1_law : K.lookup a_law = some ⟨oc_law, od_law, .func (PySem.W.fnOf (PySem.Str.ofString "law") (PySem.Str.ofString "law") (defArgs st_law) (defBody st_law) (defScope st_law) .none kV_law dc_law pm_law an_law cd_law ct_law), sl_law⟩)
    (c1_law : PySem.W.codeIn K cd_law (PySem.Str.ofString "law") = true)
    (k1_law : PySem.W.keepIn K (.ref a_law) = true)
    (z1_abs : PySem.W.nsIn K mainGlobals (PySem.Str.ofString "abs") = some none)
    (z1_all : PySem.W.nsIn K mainGlobals (PySem.Str.ofString "all") = some none)
    (z1_bool : PySem.W.nsIn K mainGlobals (PySem.Str.ofString "bool") = some none)
    (z1_enumerate : PySem.W.nsIn K mainGlobals (PySem.Str.ofString "enumerate") = some none)
    (z1_int : PySem.W.nsIn K mainGlobals (PySem.Str.ofString "int") = some none)
    (z1_isinstance : PySem.W.nsIn K mainGlobals (PySem.Str.ofString "isinstance") = some none)
    (z1_len : PySem.W.nsIn K mainGlobals (PySem.Str.ofString "len") = some none)
    (z1_list : PySem.W.nsIn K mainGlobals (PySem.Str.ofString "list") = some none)
    (z1_str : PySem.W.nsIn K mainGlobals (PySem.Str.ofString "str") = some none)
    (z1_tuple : PySem.W.nsIn K mainGlobals (PySem.Str.ofString "tuple") = some none)
    (z1_zip : PySem.W.nsIn K mainGlobals (PySem.Str.ofString "zip") = some none)
    (a1_NoPlace : PySem.W.nsIn K mainGlobals (PySem.Str.ofString "NoPlace") = some (some (.ref a_NoPlace)))
    (k1_NoPlace : PySem.W.keepIn K (.ref a_NoPlace) = true)
    (b1_NoPlace : PySem.W.subIn K (.ref a_NoPlace) (.type "BaseException") = some true)
    (t1_NoPlace : PySem.W.typeIn K (.ref a_NoPlace) = some (.type "type"))
    (d1_NoPlace : PySem.W.hasDictIn K a_NoPlace = true)
    (s1_NoPlace_NoPlace : PySem.W.subIn K (.ref a_NoPlace) (.ref a_NoPlace) = some true)
    (s1_NoPlace_Unfit : PySem.W.subIn K (.ref a_NoPlace) (.ref a_Unfit) = some false)
    (x1_NoPlace : K.lookup a_NoPlace = some (excClassObj xn_NoPlace xq_NoPlace a_NoPlace xN_NoPlace xb_NoPlace [.type "LookupError", .type "Exception", .type "BaseException", .type "object"] true xs_NoPlace xu_NoPlace xa_NoPlace xc_NoPlace xd_NoPlace x0_NoPlace x1_NoPlace x2_NoPlace x3_NoPlace x5_NoPlace "LookupError.__new__"))
    (sa_NoPlace : PySem.W.findIn K (.ref a_NoPlace) "__setattr__" = some (some (.builtin "object.__setattr__")))
    (ga_NoPlace : PySem.W.findIn K (.ref a_NoPlace) "__getattribute__" = some (some (.builtin "BaseException.__getattribute__")))
    (gg_NoPlace : PySem.W.findIn K (.ref a_NoPlace) "__getattr__" = some none)
    (nb_NoPlace : PySem.W.findIn K (.ref a_NoPlace) "place" = some none)
    (in_NoPlace : PySem.W.findIn K (.ref a_NoPlace) "__init__" = some (some (.ref i_NoPlace)))
    (ti_NoPlace : PySem.W.typeIn K (.ref i_NoPlace) = some (.type "function"))
    (li_NoPlace : K.lookup i_NoPlace = some ⟨oc_NoPlace, od_NoPlace, .func (PySem.W.fnOf "__init__" (PySem.Str.ofString "NoPlace.__init__") (ExPlace.iA p1_NoPlace p2_NoPlace) (ExPlace.iB q1_NoPlace q2_NoPlace q3_NoPlace q4_NoPlace) ExPlace.iS .none .none dc_NoPlace pm_NoPlace an_NoPlace cd_NoPlace ct_NoPlace), sl_NoPlace⟩)
    (ci_NoPlace : PySem.W.codeIn K cd_NoPlace (PySem.Str.ofString "NoPlace.__init__") = true)
    (a1_Unfit : PySem.W.nsIn K mainGlobals (PySem.Str.ofString "Unfit") = some (some (.ref a_Unfit)))
    (k1_Unfit : PySem.W.keepIn K (.ref a_Unfit) = true)
    (b1_Unfit : PySem.W.subIn K (.ref a_Unfit) (.type "BaseException") = some true)
    (t1_Unfit : PySem.W.typeIn K (.ref a_Unfit) = some (.type "type"))
    (d1_Unfit : PySem.W.hasDictIn K a_Unfit = true)
    (s1_Unfit_NoPlace : PySem.W.subIn K (.ref a_Unfit) (.ref a_NoPlace) = some false)
    (s1_Unfit_Unfit : PySem.W.subIn K (.ref a_Unfit) (.ref a_Unfit) = some true)
    (x1_Unfit : PySem.W.excIn K a_Unfit [.type "ValueError", .type "Exception", .type "BaseException", .type "object"] "ValueError.__new__" = true)
    : Txt P w K mg a_is_number a_are_numbers_from a_are_places a_is_set_of_places a_is_word a_are_steps a_is_machine a_letters_in a_check_letters a_check_as_many_letters a_state_from a_state_behind a_takes a_first_words a_words_to_states a_numbered a_kinds_of_states a_least a_are_alike a_parting_word_from a_parting_word a__law_same a__law_lists a__law_heard a__law_machines_right a__law_refused_right a__law_lists_right a_law a_NoPlace a_Unfit where
  g_is_number := PySem.W.mg_of X G a1_is_number
  k_is_number := k1_is_number
  g_are_numbers_from := PySem.W.mg_of X G a1_are_numbers_from
  k_are_numbers_from := k1_are_numbers_from
  g_are_places := PySem.W.mg_of X G a1_are_places
  k_are_places := k1_are_places
  g_is_set_of_places := PySem.W.mg_of X G a1_is_set_of_places
  k_is_set_of_places := k1_is_set_of_places
  g_is_word := PySem.W.mg_of X G a1_is_word
  k_is_word := k1_is_word
  g_are_steps := PySem.W.mg_of X G a1_are_steps
  k_are_steps := k1_are_steps
  g_is_machine := PySem.W.mg_of X G a1_is_machine
  k_is_machine := k1_is_machine
  g_letters_in := PySem.W.mg_of X G a1_letters_in
  k_letters_in := k1_letters_in
  g_check_letters := PySem.W.mg_of X G a1_check_letters
  k_check_letters := k1_check_letters
  g_check_as_many_letters := PySem.W.mg_of X G a1_check_as_many_letters
  k_check_as_many_letters := k1_check_as_many_letters
  g_state_from := PySem.W.mg_of X G a1_state_from
  k_state_from := k1_state_from
  g_state_behind := PySem.W.mg_of X G a1_state_behind
  k_state_behind := k1_state_behind
  g_takes := PySem.W.mg_of X G a1_takes
  k_takes := k1_takes
  g_first_words := PySem.W.mg_of X G a1_first_words
  k_first_words := k1_first_words
  g_words_to_states := PySem.W.mg_of X G a1_words_to_states
  k_words_to_states := k1_words_to_states
  g_numbered := PySem.W.mg_of X G a1_numbered
  k_numbered := k1_numbered
  g_kinds_of_states := PySem.W.mg_of X G a1_kinds_of_states
  k_kinds_of_states := k1_kinds_of_states
  g_least := PySem.W.mg_of X G a1_least
  k_least := k1_least
  g_are_alike := PySem.W.mg_of X G a1_are_alike
  k_are_alike := k1_are_alike
  g_parting_word_from := PySem.W.mg_of X G a1_parting_word_from
  k_parting_word_from := k1_parting_word_from
  g_parting_word := PySem.W.mg_of X G a1_parting_word
  k_parting_word := k1_parting_word
  g__law_same := PySem.W.mg_of X G a1__law_same
  k__law_same := k1__law_same
  g__law_lists := PySem.W.mg_of X G a1__law_lists
  k__law_lists := k1__law_lists
  g__law_heard := PySem.W.mg_of X G a1__law_heard
  k__law_heard := k1__law_heard
  g__law_machines_right := PySem.W.mg_of X G a1__law_machines_right
  k__law_machines_right := k1__law_machines_right
  g__law_refused_right := PySem.W.mg_of X G a1__law_refused_right
  k__law_refused_right := k1__law_refused_right
  g__law_lists_right := PySem.W.mg_of X G a1__law_lists_right
  k__law_lists_right := k1__law_lists_right
  g_law := PySem.W.mg_of X G a1_law
  k_law := k1_law
  n_abs := PySem.W.mg_none_of X G z1_abs
  n_all := PySem.W.mg_none_of X G z1_all
  n_bool := PySem.W.mg_none_of X G z1_bool
  n_enumerate := PySem.W.mg_none_of X G z1_enumerate
  n_int := PySem.W.mg_none_of X G z1_int
  n_isinstance := PySem.W.mg_none_of X G z1_isinstance
  n_len := PySem.W.mg_none_of X G z1_len
  n_list := PySem.W.mg_none_of X G z1_list
  n_str := PySem.W.mg_none_of X G z1_str
  n_tuple := PySem.W.mg_none_of X G z1_tuple
  n_zip := PySem.W.mg_none_of X G z1_zip
  g_NoPlace := PySem.W.mg_of X G a1_NoPlace
  k_NoPlace := k1_NoPlace
  b_NoPlace := b1_NoPlace
  t_NoPlace := t1_NoPlace
  m_NoPlace := ExPlace.mkr (fI := i_NoPlace) (qn := (PySem.Str.ofString "NoPlace.__init__")) ⟨⟨_, _, _, _, _, _, _, _, _, _, _, _, _, _, x1_NoPlace⟩, by unfold PySem.W.excOver PySem.W.clsIn; rw [x1_NoPlace]; simp [excClassObj, PySem.W.excTail], sa_NoPlace, nb_NoPlace, in_NoPlace, ti_NoPlace, ⟨_, _, _, _, _, _, _, _, _, _, _, _, _, _, li_NoPlace, ci_NoPlace⟩⟩
  at_NoPlace := ⟨ga_NoPlace, gg_NoPlace, b1_NoPlace, d1_NoPlace, nb_NoPlace⟩
  g_Unfit := PySem.W.mg_of X G a1_Unfit
  k_Unfit := k1_Unfit
  b_Unfit := b1_Unfit
  t_Unfit := t1_Unfit
  x_Unfit := x1_Unfit
  ek := by
    intro c hc k hk C e
    have g_NoPlace := PySem.W.mg_of X G a1_NoPlace
    have g_Unfit := PySem.W.mg_of X G a1_Unfit
    simp only [List.mem_cons, List.not_mem_nil, or_false] at hc hk
    rcases hc with rfl | rfl <;> rcases hk with rfl | rfl
    · rw [g_NoPlace] at e; cases e; rw [g_NoPlace]; exact PySem.W.exm_ref b1_NoPlace d1_NoPlace t1_NoPlace s1_NoPlace_NoPlace
    · rw [g_NoPlace] at e; cases e; rw [g_Unfit]; exact PySem.W.exm_ref b1_Unfit d1_Unfit t1_Unfit s1_NoPlace_Unfit
    · rw [g_Unfit] at e; cases e; rw [g_NoPlace]; exact PySem.W.exm_ref b1_NoPlace d1_NoPlace t1_NoPlace s1_Unfit_NoPlace
    · rw [g_Unfit] at e; cases e; rw [g_Unfit]; exact PySem.W.exm_ref b1_Unfit d1_Unfit t1_Unfit s1_Unfit_Unfit
end
end Gn

set_option Elab.async false
set_option linter.all false
set_option maxRecDepth 100000
set_option maxHeartbeats 4000000
set_option autoImplicit false
namespace Gn
open PySem PySem.Spec PyProof.Rows L2 Rh
section
variable [Tbs]
theorem tru_m : isTrue (f__law_machines_right [] h0) = true := by kernel_rfl
theorem tru_r : isTrue (f__law_refused_right [] h0) = true := by kernel_rfl
theorem tru_l : isTrue (f__law_lists_right [] h0) = true := by kernel_rfl
theorem law_at (ns : List Int) (h : Hs) (sc : D) (s : IsScr h sc ns) : ∃ k, f_law [sc] h = some (.rt (.bl true) k) := by
  obtain ⟨t, e⟩ := turn_ok (m := 2) (by decide) (ρ := envOf N_law.length [sc]) s rfl
  refine ⟨h, runDef_rt ?_⟩
  unfold m_law
  rw [mSeq_nx (guard_ok tru_m), mSeq_nx (mSet_ok e)]
  refine mSeq_rt (mRet_ok ?_)
  have c := mB_ok (mOp2_ok (mVar_ok (ρ := (envOf N_law.length [sc]).set 1 (some (.int t))) (h := h) (i := 1) rfl) mCon_ok (dEqA_ints h t 0))
  refine (mIf_ok c).trans ?_
  cases PyData.eqv (.int t) (.int 0) with
  | true => exact mCall0_true tru_r
  | false => exact mCall0_true tru_l
theorem law_true (ns : List Int) (hl : ns.length ≤ 63) (hb : ∀ z ∈ ns, Builtin.Int.intBits z ≤ 1048576) : (∃ h, f_law [.scr (ns.map D.int)] h0 = some (.rt (.bl true) h)) ∧ ∃ h, f_law [.box 0] (hL ns) = some (.rt (.bl true) h) :=
  ⟨law_at ns h0 _ (.inl rfl), law_at ns (hL ns) _ (.inr ⟨0, rfl, rfl⟩)⟩
end
section
open PySem.W in
theorem all_mkT {l : PySem.W.OpenLaw} {w : World} {fa : Addr} {K : PySem.W.Frag} {h : Heap} {mg : Str → Option Value} {a_is_number : Addr} {a_are_numbers_from : Addr} {a_are_places : Addr} {a_is_set_of_places : Addr} {a_is_word : Addr} {a_are_steps : Addr} {a_is_machine : Addr} {a_letters_in : Addr} {a_check_letters : Addr} {a_check_as_many_letters : Addr} {a_state_from : Addr} {a_state_behind : Addr} {a_takes : Addr} {a_first_words : Addr} {a_words_to_states : Addr} {a_numbered : Addr} {a_kinds_of_states : Addr} {a_least : Addr} {a_are_alike : Addr} {a_parting_word_from : Addr} {a_parting_word : Addr} {a__law_same : Addr} {a__law_lists : Addr} {a__law_heard : Addr} {a__law_machines_right : Addr} {a__law_refused_right : Addr} {a__law_lists_right : Addr} {a_law : Addr} {a_NoPlace : Addr} {a_Unfit : Addr} {od_is_number an_is_number : Option Addr} {sl_is_number : Array (Option Value)} {oc_is_number kV_is_number dc_is_number pm_is_number cd_is_number ct_is_number : Value} {od_are_numbers_from an_are_numbers_from : Option Addr} {sl_are_numbers_from : Array (Option Value)} {oc_are_numbers_from kV_are_numbers_from dc_are_numbers_from pm_are_numbers_from cd_are_numbers_from ct_are_numbers_from : Value} {od_are_places an_are_places : Option Addr} {sl_are_places : Array (Option Value)} {oc_are_places kV_are_places dc_are_places pm_are_places cd_are_places ct_are_places : Value} {od_is_set_of_places an_is_set_of_places : Option Addr} {sl_is_set_of_places : Array (Option Value)} {oc_is_set_of_places kV_is_set_of_places dc_is_set_of_places pm_is_set_of_places cd_is_set_of_places ct_is_set_of_places : Value} {od_is_word an_is_word : Option Addr} {sl_is_word : Array (Option Value)} {oc_is_word kV_is_word dc_is_word pm_is_word cd_is_word ct_is_word : Value} {od_are_steps an_are_steps : Option Addr} {sl_are_steps : Array (Option Value)} {oc_are_steps kV_are_steps dc_are_steps pm_are_steps cd_are_steps ct_are_steps : Value} {od_is_machine an_is_machine : Option Addr} {sl_is_machine : Array (Option Value)} {oc_is_machine kV_is_machine dc_is_machine pm_is_machine cd_is_machine ct_is_machine : Value} {od_letters_in an_letters_in : Option Addr} {sl_letters_in : Array (Option Value)} {oc_letters_in kV_letters_in dc_letters_in pm_letters_in cd_letters_in ct_letters_in : Value} {od_check_letters an_check_letters : Option Addr} {sl_check_letters : Array (Option Value)} {oc_check_letters kV_check_letters dc_check_letters pm_check_letters cd_check_letters ct_check_letters : Value} {od_check_as_many_letters an_check_as_many_letters : Option Addr} {sl_check_as_many_letters : Array (Option Value)} {oc_check_as_many_letters kV_check_as_many_letters dc_check_as_many_letters pm_check_as_many_letters cd_check_as_many_letters ct_check_as_many_letters : Value} {od_state_from an_state_from : Option Addr} {sl_state_from : Array (Option Value)} {oc_state_from kV_state_from dc_state_from pm_state_from cd_state_from ct_state_from : Value} {od_state_behind an_state_behind : Option Addr} {sl_state_behind : Array (Option Value)} {oc_state_behind kV_state_behind dc_state_behind pm_state_behind cd_state_behind ct_state_behind : Value} {od_takes an_takes : Option Addr} {sl_takes : Array (Option Value)} {oc_takes kV_takes dc_takes pm_takes cd_takes ct_takes : Value} {od_first_words an_first_words : Option Addr} {sl_first_words : Array (Option Value)} {oc_first_words kV_first_words dc_first_words pm_first_words cd_first_words ct_first_words : Value} {od_words_to_states an_words_to_states : Option Addr} {sl_words_to_states : Array (Option Value)} {oc_words_to_states kV_words_to_states dc_words_to_states pm_words_to_states ct_words_to_states : Value} {od_numbered an_numbered : Option Addr} {sl_numbered : Array (Option Value)} {oc_numbered kV_numbered dc_numbered pm_numbered cd_numbered ct_numbered : Value} {od_kinds_of_states an_kinds_of_states : Option Addr} {sl_kinds_of_states : Array (Option Value)} {oc_kinds_of_states kV_kinds_of_states dc_kinds_of_states pm_kinds_of_states cd_kinds_of_states ct_kinds_of_states : Value} {od_least an_least : Option Addr} {sl_least : Array (Option Value)} {oc_least kV_least dc_least pm_least cd_least ct_least : Value} {od_are_alike an_are_alike : Option Addr} {sl_are_alike : Array (Option Value)} {oc_are_alike kV_are_alike dc_are_alike pm_are_alike cd_are_alike ct_are_alike : Value} {od_parting_word_from an_parting_word_from : Option Addr} {sl_parting_word_from : Array (Option Value)} {oc_parting_word_from kV_parting_word_from dc_parting_word_from pm_parting_word_from ct_parting_word_from : Value} {od_parting_word an_parting_word : Option Addr} {sl_parting_word : Array (Option Value)} {oc_parting_word kV_parting_word dc_parting_word pm_parting_word cd_parting_word ct_parting_word : Value} {od__law_same an__law_same : Option Addr} {sl__law_same : Array (Option Value)} {oc__law_same kV__law_same dc__law_same pm__law_same cd__law_same ct__law_same : Value} {od__law_lists an__law_lists : Option Addr} {sl__law_lists : Array (Option Value)} {oc__law_lists kV__law_lists dc__law_lists pm__law_lists cd__law_lists ct__law_lists : Value} {od__law_heard an__law_heard : Option Addr} {sl__law_heard : Array (Option Value)} {oc__law_heard kV__law_heard dc__law_heard pm__law_heard cd__law_heard ct__law_heard : Value} {od__law_machines_right an__law_machines_right : Option Addr} {sl__law_machines_right : Array (Option Value)} {oc__law_machines_right kV__law_machines_right dc__law_machines_right pm__law_machines_right cd__law_machines_right ct__law_machines_right : Value} {od__law_refused_right an__law_refused_right : Option Addr} {sl__law_refused_right : Array (Option Value)} {oc__law_refused_right kV__law_refused_right dc__law_refused_right pm__law_refused_right cd__law_refused_right ct__law_refused_right : Value} {od__law_lists_right an__law_lists_right : Option Addr} {sl__law_lists_right : Array (Option Value)} {oc__law_lists_right kV__law_lists_right dc__law_lists_right pm__law_lists_right cd__law_lists_right ct__law_lists_right : Value} {od_law an_law : Option Addr} {sl_law : Array (Option Value)} {oc_law kV_law dc_law pm_law cd_law ct_law : Value} {i_NoPlace xN_NoPlace : Addr} {xn_NoPlace xq_NoPlace : Str} {xb_NoPlace xu_NoPlace : List Value} {xs_NoPlace : List Str} {xa_NoPlace : Bool} {xc_NoPlace : Option Bool} {xd_NoPlace od_NoPlace an_NoPlace : Option Addr} {x0_NoPlace x1_NoPlace x2_NoPlace x3_NoPlace x5_NoPlace : Option Value} {sl_NoPlace : Array (Option Value)} {oc_NoPlace dc_NoPlace pm_NoPlace cd_NoPlace ct_NoPlace : Value} {p1_NoPlace p2_NoPlace q1_NoPlace q2_NoPlace q3_NoPlace q4_NoPlace : Pos} {c_words_to_states : Addr} {c_parting_word_from : Addr} {P_words_to_states : Addr} {xo_words_to_states : Option Addr} {vs_words_to_states : Array Value} {xs_words_to_states : Array (Option Value)} {P_parting_word_from : Addr} {xo_parting_word_from : Option Addr} {vs_parting_word_from : Array Value} {xs_parting_word_from : Array (Option Value)} (X : K.In h) (G : h.Ns mainGlobals mg) (hfa : mg (PySem.Str.ofString "law") = some (.ref fa))
    (a1_is_number : PySem.W.nsIn K mainGlobals (PySem.Str.ofString "is_number") = some (some (.ref a_is_number)))
    (l1_is_number : K.lookup a_is_number = some ⟨oc_is_number, od_is_number, .func (PySem.W.fnOf (PySem.Str.ofString "is_number") (PySem.Str.ofString "is_number") (defArgs st_is_number) (defBody st_is_number) (defScope st_is_number) .none kV_is_number dc_is_number pm_is_number an_is_number cd_is_number ct_is_number), sl_is_number⟩)
    (c1_is_number : PySem.W.codeIn K cd_is_number (PySem.Str.ofString "is_number") = true)
    (k1_is_number : PySem.W.keepIn K (.ref a_is_number) = true)
    (a1_are_numbers_from : PySem.W.nsIn K mainGlobals (PySem.Str.ofString "are_numbers_from") = some (some (.ref a_are_numbers_from)))
    (l1_are_numbers_from : K.lookup a_are_numbers_from = some ⟨oc_are_numbers_from, od_are_numbers_from, .func (PySem.W.fnOf (PySem.Str.ofString "are_numbers_from") (PySem.Str.ofString "are_numbers_from") (defArgs st_are_numbers_from) (defBody st_are_numbers_from) (defScope st_are_numbers_from) .none kV_are_numbers_from dc_are_numbers_from pm_are_numbers_from an_are_numbers_from cd_are_numbers_from ct_are_numbers_from), sl_are_numbers_from⟩)
    (c1_are_numbers_from : PySem.W.codeIn K cd_are_numbers_from (PySem.Str.ofString "are_numbers_from") = true)
    (k1_are_numbers_from : PySem.W.keepIn K (.ref a_are_numbers_from) = true)
    (a1_are_places : PySem.W.nsIn K mainGlobals (PySem.Str.ofString "are_places") = some (some (.ref a_are_places)))
    (l1_are_places : K.lookup a_are_places = some ⟨oc_are_places, od_are_places, .func (PySem.W.fnOf (PySem.Str.ofString "are_places") (PySem.Str.ofString "are_places") (defArgs st_are_places) (defBody st_are_places) (defScope st_are_places) .none kV_are_places dc_are_places pm_are_places an_are_places cd_are_places ct_are_places), sl_are_places⟩)
    (c1_are_places : PySem.W.codeIn K cd_are_places (PySem.Str.ofString "are_places") = true)
    (k1_are_places : PySem.W.keepIn K (.ref a_are_places) = true)
    (a1_is_set_of_places : PySem.W.nsIn K mainGlobals (PySem.Str.ofString "is_set_of_places") = some (some (.ref a_is_set_of_places)))
    (l1_is_set_of_places : K.lookup a_is_set_of_places = some ⟨oc_is_set_of_places, od_is_set_of_places, .func (PySem.W.fnOf (PySem.Str.ofString "is_set_of_places") (PySem.Str.ofString "is_set_of_places") (defArgs st_is_set_of_places) (defBody st_is_set_of_places) (defScope st_is_set_of_places) .none kV_is_set_of_places dc_is_set_of_places pm_is_set_of_places an_is_set_of_places cd_is_set_of_places ct_is_set_of_places), sl_is_set_of_places⟩)
    (c1_is_set_of_places : PySem.W.codeIn K cd_is_set_of_places (PySem.Str.ofString "is_set_of_places") = true)
    (k1_is_set_of_places : PySem.W.keepIn K (.ref a_is_set_of_places) = true)
    (a1_is_word : PySem.W.nsIn K mainGlobals (PySem.Str.ofString "is_word") = some (some (.ref a_is_word)))
    (l1_is_word : K.lookup a_is_word = some ⟨oc_is_word, od_is_word, .func (PySem.W.fnOf (PySem.Str.ofString "is_word") (PySem.Str.ofString "is_word") (defArgs st_is_word) (defBody st_is_word) (defScope st_is_word) .none kV_is_word dc_is_word pm_is_word an_is_word cd_is_word ct_is_word), sl_is_word⟩)
    (c1_is_word : PySem.W.codeIn K cd_is_word (PySem.Str.ofString "is_word") = true)
    (k1_is_word : PySem.W.keepIn K (.ref a_is_word) = true)
    (a1_are_steps : PySem.W.nsIn K mainGlobals (PySem.Str.ofString "are_steps") = some (some (.ref a_are_steps)))
    (l1_are_steps : K.lookup a_are_steps = some ⟨oc_are_steps, od_are_steps, .func (PySem.W.fnOf (PySem.Str.ofString "are_steps") (PySem.Str.ofString "are_steps") (defArgs st_are_steps) (defBody st_are_steps) (defScope st_are_steps) .none kV_are_steps dc_are_steps pm_are_steps an_are_steps cd_are_steps ct_are_steps), sl_are_steps⟩)
    (c1_are_steps : PySem.W.codeIn K cd_are_steps (PySem.Str.ofString "are_steps") = true)
    (k1_are_steps : PySem.W.keepIn K (.ref a_are_steps) = true)
    (a1_is_machine : PySem.W.nsIn K mainGlobals (PySem.Str.ofString "is_machine") = some (some (.ref a_is_machine)))
    (l1_is_machine : K.lookup a_is_machine = some ⟨oc_is_machine, od_is_machine, .func (PySem.W.fnOf (PySem.Str.ofString "is_machine") (PySem.Str.ofString "is_machine") (defArgs st_is_machine) (defBody st_is_machine) (defScope st_is_machine) .none kV_is_machine dc_is_machine pm_is_machine an_is_machine cd_is_machine ct_is_machine), sl_is_machine⟩)
    (c1_is_machine : PySem.W.codeIn K cd_is_machine (PySem.Str.ofString "is_machine") = true)
    (k1_is_machine : PySem.W.keepIn K (.ref a_is_machine) = true)
    (a1_letters_in : PySem.W.nsIn K mainGlobals (PySem.Str.ofString "letters_in") = some (some (.ref a_letters_in)))
    (l1_letters_in : K.lookup a_letters_in = some ⟨oc_letters_in, od_letters_in, .func (PySem.W.fnOf (PySem.Str.ofString "letters_in") (PySem.Str.ofString "letters_in") (defArgs st_letters_in) (defBody st_letters_in) (defScope st_letters_in) .none kV_letters_in dc_letters_in pm_letters_in an_letters_in cd_letters_in ct_letters_in), sl_letters_in⟩)
    (c1_letters_in : PySem.W.codeIn K cd_letters_in (PySem.Str.ofString "letters_in") = true)
    (k1_letters_in : PySem.W.keepIn K (.ref a_letters_in) = true)
    (a1_check_letters : PySem.W.nsIn K mainGlobals (PySem.Str.ofString "check_letters") = some (some (.ref a_check_letters)))
    (l1_check_letters : K.lookup a_check_letters = some ⟨oc_check_letters, od_check_letters, .func (PySem.W.fnOf (PySem.Str.ofString "check_letters") (PySem.Str.ofString "check_letters") (defArgs st_check_letters) (defBody st_check_letters) (defScope st_check_letters) .none kV_check_letters dc_check_letters pm_check_letters an_check_letters cd_check_letters ct_check_letters), sl_check_letters⟩)
    (c1_check_letters : PySem.W.codeIn K cd_check_letters (PySem.Str.ofString "check_letters") = true)
    (k1_check_letters : PySem.W.keepIn K (.ref a_check_letters) = true)
    (a1_check_as_many_letters : PySem.W.nsIn K mainGlobals (PySem.Str.ofString "check_as_many_letters") = some (some (.ref a_check_as_many_letters)))
    (l1_check_as_many_letters : K.lookup a_check_as_many_letters = some ⟨oc_check_as_many_letters, od_check_as_many_letters, .func (PySem.W.fnOf (PySem.Str.ofString "check_as_many_letters") (PySem.Str.ofString "check_as_many_letters") (defArgs st_check_as_many_letters) (defBody st_check_as_many_letters) (defScope st_check_as_many_letters) .none kV_check_as_many_letters dc_check_as_many_letters pm_check_as_many_letters an_check_as_many_letters cd_check_as_many_letters ct_check_as_many_letters), sl_check_as_many_letters⟩)
    (c1_check_as_many_letters : PySem.W.codeIn K cd_check_as_many_letters (PySem.Str.ofString "check_as_many_letters") = true)
    (k1_check_as_many_letters : PySem.W.keepIn K (.ref a_check_as_many_letters) = true)
    (a1_state_from : PySem.W.nsIn K mainGlobals (PySem.Str.ofString "state_from") = some (some (.ref a_state_from)))
    (l1_state_from : K.lookup a_state_from = some ⟨oc_state_from, od_state_from, .func (PySem.W.fnOf (PySem.Str.ofString "state_from") (PySem.Str.ofString "state_from") (defArgs st_state_from) (defBody st_state_from) (defScope st_state_from) .none kV_state_from dc_state_from pm_state_from an_state_from cd_state_from ct_state_from), sl_state_from⟩)
    (c1_state_from : PySem.W.codeIn K cd_state_from (PySem.Str.ofString "state_from") = true)
    (k1_state_from : PySem.W.keepIn K (.ref a_state_from) = true)
    (a1_state_behind : PySem.W.nsIn K mainGlobals (PySem.Str.ofString "state_behind") = some (some (.ref a_state_behind)))
    (l1_state_behind : K.lookup a_state_behind = some ⟨oc_state_behind, od_state_behind, .func (PySem.W.fnOf (PySem.Str.ofString "state_behind") (PySem.Str.ofString "state_behind") (defArgs st_state_behind) (defBody st_state_behind) (defScope st_state_behind) .none kV_state_behind dc_state_behind pm_state_behind an_state_behind cd_state_behind ct_state_behind), sl_state_behind⟩)
    (c1_state_behind : PySem.W.codeIn K cd_state_behind (PySem.Str.ofString "state_behind") = true)
    (k1_state_behind : PySem.W.keepIn K (.ref a_state_behind) = true)
    (a1_takes : PySem.W.nsIn K mainGlobals (PySem.Str.ofString "takes") = some (some (.ref a_takes)))
    (l1_takes : K.lookup a_takes = some ⟨oc_takes, od_takes, .func (PySem.W.fnOf (PySem.Str.ofString "takes") (PySem.Str.ofString "takes") (defArgs st_takes) (defBody st_takes) (defScope st_takes) .none kV_takes dc_takes pm_takes an_takes cd_takes ct_takes), sl_takes⟩)
    (c1_takes : PySem.W.codeIn K cd_takes (PySem.Str.ofString "takes") = true)
    (k1_takes : PySem.W.keepIn K (.ref a_takes) = true)
    (a1_first_words : PySem.W.nsIn K mainGlobals (PySem.Str.ofString "first_words") = some (some (.ref a_first_words)))
    (l1_first_words : K.lookup a_first_words = some ⟨oc_first_words, od_first_words, .func (PySem.W.fnOf (PySem.Str.ofString "first_words") (PySem.Str.ofString "first_words") (defArgs st_first_words) (defBody st_first_words) (defScope st_first_words) .none kV_first_words dc_first_words pm_first_words an_first_words cd_first_words ct_first_words), sl_first_words⟩)
    (c1_first_words : PySem.W.codeIn K cd_first_words (PySem.Str.ofString "first_words") = true)
    (k1_first_words : PySem.W.keepIn K (.ref a_first_words) = true)
    (a1_words_to_states : PySem.W.nsIn K mainGlobals (PySem.Str.ofString "words_to_states") = some (some (.ref a_words_to_states)))
    (l1_words_to_states : K.lookup a_words_to_states = some ⟨oc_words_to_states, od_words_to_states, .func (PySem.W.fnOf (PySem.Str.ofString "words_to_states") (PySem.Str.ofString "words_to_states") (defArgs st_words_to_states) (defBody st_words_to_states) (defScope st_words_to_states) .none kV_words_to_states dc_words_to_states pm_words_to_states an_words_to_states (.ref c_words_to_states) ct_words_to_states), sl_words_to_states⟩)
    (c1_words_to_states : PySem.W.codeIn K (.ref c_words_to_states) (PySem.Str.ofString "words_to_states") = true)
    (k1_words_to_states : PySem.W.keepIn K (.ref a_words_to_states) = true)
    (a1_numbered : PySem.W.nsIn K mainGlobals (PySem.Str.ofString "numbered") = some (some (.ref a_numbered)))
    (l1_numbered : K.lookup a_numbered = some ⟨oc_numbered, od_numbered, .func (PySem.W.fnOf (PySem.Str.ofString "numbered") (PySem.Str.ofString "numbered") (defArgs st_numbered) (defBody st_numbered) (defScope st_numbered) .none kV_numbered dc_numbered pm_numbered an_numbered cd_numbered ct_numbered), sl_numbered⟩)
    (c1_numbered : PySem.W.codeIn K cd_numbered (PySem.Str.ofString "numbered") = true)
    (k1_numbered : PySem.W.keepIn K (.ref a_numbered) = true)
    (a1_kinds_of_states : PySem.W.nsIn K mainGlobals (PySem.Str.ofString "kinds_of_states") = some (some (.ref a_kinds_of_states)))
    (l1_kinds_of_states : K.lookup a_kinds_of_states = some ⟨oc_kinds_of_states, od_kinds_of_states, .func (PySem.W.fnOf (PySem.Str.ofString "kinds_of_states") (PySem.Str.ofString "kinds_of_states") (defArgs st_kinds_of_states) (defBody st_kinds_of_states) (defScope st_kinds_of_states) .none kV_kinds_of_states dc_kinds_of_states pm_kinds_of_states an_kinds_of_states cd_kinds_of_states ct_kinds_of_states), sl_kinds_of_states⟩)
    (c1_kinds_of_states : PySem.W.codeIn K cd_kinds_of_states (PySem.Str.ofString "kinds_of_states") = true)
    (k1_kinds_of_states : PySem.W.keepIn K (.ref a_kinds_of_states) = true)
    (a1_least : PySem.W.nsIn K mainGlobals (PySem.Str.ofString "least") = some (some (.ref a_least)))
    (l1_least : K.lookup a_least = some ⟨oc_least, od_least, .func (PySem.W.fnOf (PySem.Str.ofString "least") (PySem.Str.ofString "least") (defArgs st_least) (defBody st_least) (defScope st_least) .none kV_least dc_least pm_least an_least cd_least ct_least), sl_least⟩)
    (c1_least : PySem.W.codeIn K cd_least (PySem.Str.ofString "least") = true)
    (k1_least : PySem.W.keepIn K (.ref a_least) = true)
    (a1_are_alike : PySem.W.nsIn K mainGlobals (PySem.Str.ofString "are_alike") = some (some (.ref a_are_alike)))
    (l1_are_alike : K.lookup a_are_alike = some ⟨oc_are_alike, od_are_alike, .func (PySem.W.fnOf (PySem.Str.ofString "are_alike") (PySem.Str.ofString "are_alike") (defArgs st_are_alike) (defBody st_are_alike) (defScope st_are_alike) .none kV_are_alike dc_are_alike pm_are_alike an_are_alike cd_are_alike ct_are_alike), sl_are_alike⟩)
    (c1_are_alike : PySem.W.codeIn K cd_are_alike (PySem.Str.ofString "are_alike") = true)
    (k1_are_alike : PySem.W.keepIn K (.ref a_are_alike) = true)
    (a1_parting_word_from : PySem.W.nsIn K mainGlobals (PySem.Str.ofString "parting_word_from") = some (some (.ref a_parting_word_from)))
    (l1_parting_word_from : K.lookup a_parting_word_from = some ⟨oc_parting_word_from, od_parting_word_from, .func (PySem.W.fnOf (PySem.Str.ofString "parting_word_from") (PySem.Str.ofString "parting_word_from") (defArgs st_parting_word_from) (defBody st_parting_word_from) (defScope st_parting_word_from) .none kV_parting_word_from dc_parting_word_from pm_parting_word_from an_parting_word_from (.ref c_parting_word_from) ct_parting_word_from), sl_parting_word_from⟩)
    (c1_parting_word_from : PySem.W.codeIn K (.ref c_parting_word_from) (PySem.Str.ofString "parting_word_from") = true)
    (k1_parting_word_from : PySem.W.keepIn K (.ref a_parting_word_from) = true)
    (a1_parting_word : PySem.W.nsIn K mainGlobals (PySem.Str.ofString "parting_word") = some (some (.ref a_parting_word)))
    (l1_parting_word : K.lookup a_parting_word = some ⟨oc_parting_word, od_parting_word, .func (PySem.W.fnOf (PySem.Str.ofString "parting_word") (PySem.Str.ofString "parting_word") (defArgs st_parting_word) (defBody st_parting_word) (defScope st_parting_word) .none kV_parting_word dc_parting_word pm_parting_word an_parting_word cd_parting_word ct_parting_word), sl_parting_word⟩)
    (c1_parting_word : PySem.W.codeIn K cd_parting_word (PySem.Str.ofString "parting_word") = true)
    (k1_parting_word : PySem.W.keepIn K (.ref a_parting_word) = true)
    (a1__law_same : PySem.W.nsIn K mainGlobals (PySem.Str.ofString "_law_same") = some (some (.ref a__law_same)))
    (l1__law_same : K.lookup a__law_same = some ⟨oc__law_same, od__law_same, .func (PySem.W.fnOf (PySem.Str.ofString "_law_same") (PySem.Str.ofString "_law_same") (defArgs st__law_same) (defBody st__law_same) (defScope st__law_same) .none kV__law_same dc__law_same pm__law_same an__law_same cd__law_same ct__law_same), sl__law_same⟩)
    (c1__law_same : PySem.W.codeIn K cd__law_same (PySem.Str.ofString "_law_same") = true)
    (k1__law_same : PySem.W.keepIn K (.ref a__law_same) = true)
    (a1__law_lists : PySem.W.nsIn K mainGlobals (PySem.Str.ofString "_law_lists") = some (some (.ref a__law_lists)))
    (l1__law_lists : K.lookup a__law_lists = some ⟨oc__law_lists, od__law_lists, .func (PySem.W.fnOf (PySem.Str.ofString "_law_lists") (PySem.Str.ofString "_law_lists") (defArgs st__law_lists) (defBody st__law_lists) (defScope st__law_lists) .none kV__law_lists dc__law_lists pm__law_lists an__law_lists cd__law_lists ct__law_lists), sl__law_lists⟩)
    (c1__law_lists : PySem.W.codeIn K cd__law_lists (PySem.Str.ofString "_law_lists") = true)
    (k1__law_lists : PySem.W.keepIn K (.ref a__law_lists) = true)
    (a1__law_heard : PySem.W.nsIn K mainGlobals (PySem.Str.ofString "_law_heard") = some (some (.ref a__law_heard)))
    (l1__law_heard : K.lookup a__law_heard = some ⟨oc__law_heard, od__law_heard, .func (PySem.W.fnOf (PySem.Str.ofString "_law_heard") (PySem.Str.ofString "_law_heard") (defArgs st__law_heard) (defBody st__law_heard) (defScope st__law_heard) .none kV__law_heard dc__law_heard pm__law_heard an__law_heard cd__law_heard ct__law_heard), sl__law_heard⟩)
    (c1__law_heard : PySem.W.codeIn K cd__law_heard (PySem.Str.ofString "_law_heard") = true)
    (k1__law_heard : PySem.W.keepIn K (.ref a__law_heard) = true)
    (a1__law_machines_right : PySem.W.nsIn K mainGlobals (PySem.Str.ofString "_law_machines_right") = some (some (.ref a__law_machines_right)))
    (l1__law_machines_right : K.lookup a__law_machines_right = some ⟨oc__law_machines_right, od__law_machines_right, .func (PySem.W.fnOf (PySem.Str.ofString "_law_machines_right") (PySem.Str.ofString "_law_machines_right") (defArgs st__law_machines_right) (defBody st__law_machines_right) (defScope st__law_machines_right) .none kV__law_machines_right dc__law_machines_right pm__law_machines_right an__law_machines_right cd__law_machines_right ct__law_machines_right), sl__law_machines_right⟩)
    (c1__law_machines_right : PySem.W.codeIn K cd__law_machines_right (PySem.Str.ofString "_law_machines_right") = true)
    (k1__law_machines_right : PySem.W.keepIn K (.ref a__law_machines_right) = true)
    (a1__law_refused_right : PySem.W.nsIn K mainGlobals (PySem.Str.ofString "_law_refused_right") = some (some (.ref a__law_refused_right)))
    (l1__law_refused_right : K.lookup a__law_refused_right = some ⟨oc__law_refused_right, od__law_refused_right, .func (PySem.W.fnOf (PySem.Str.ofString "_law_refused_right") (PySem.Str.ofString "_law_refused_right") (defArgs st__law_refused_right) (defBody st__law_refused_right) (defScope st__law_refused_right) .none kV__law_refused_right dc__law_refused_right pm__law_refused_right an__law_refused_right cd__law_refused_right ct__law_refused_right), sl__law_refused_right⟩)
    (c1__law_refused_right : PySem.W.codeIn K cd__law_refused_right (PySem.Str.ofString "_law_refused_right") = true)
    (k1__law_refused_right : PySem.W.keepIn K (.ref a__law_refused_right) = true)
    (a1__law_lists_right : PySem.W.nsIn K mainGlobals (PySem.Str.ofString "_law_lists_right") = some (some (.ref a__law_lists_right)))
    (l1__law_lists_right : K.lookup a__law_lists_right = some ⟨oc__law_lists_right, od__law_lists_right, .func (PySem.W.fnOf (PySem.Str.ofString "_law_lists_right") (PySem.Str.ofString "_law_lists_right") (defArgs st__law_lists_right) (defBody st__law_lists_right) (defScope st__law_lists_right) .none kV__law_lists_right dc__law_lists_right pm__law_lists_right an__law_lists_right cd__law_lists_right ct__law_lists_right), sl__law_lists_right⟩)
    (c1__law_lists_right : PySem.W.codeIn K cd__law_lists_right (PySem.Str.ofString "_law_lists_right") = true)
    (k1__law_lists_right : PySem.W.keepIn K (.ref a__law_lists_right) = true)
    (a1_law : PySem.W.nsIn K mainGlobals (PySem.Str.ofString "law") = some (some (.ref a_law)))
    (l1_law : K.lookup a_law = some ⟨oc_law, od_law, .func (PySem.W.fnOf (PySem.Str.ofString "law") (PySem.Str.ofString "law") (defArgs st_law) (defBody st_law) (defScope st_law) .none kV_law dc_law pm_law an_law cd_law ct_law), sl_law⟩)
    (c1_law : PySem.W.codeIn K cd_law (PySem.Str.ofString "law") = true)
    (k1_law : PySem.W.keepIn K (.ref a_law) = true)
    (z1_abs : PySem.W.nsIn K mainGlobals (PySem.Str.ofString "abs") = some none)
    (z1_all : PySem.W.nsIn K mainGlobals (PySem.Str.ofString "all") = some none)
    (z1_bool : PySem.W.nsIn K mainGlobals (PySem.Str.ofString "bool") = some none)
    (z1_enumerate : PySem.W.nsIn K mainGlobals (PySem.Str.ofString "enumerate") = some none)
    (z1_int : PySem.W.nsIn K mainGlobals (PySem.Str.ofString "int") = some none)
    (z1_isinstance : PySem.W.nsIn K mainGlobals (PySem.Str.ofString "isinstance") = some none)
    (z1_len : PySem.W.nsIn K mainGlobals (PySem.Str.ofString "len") = some none)
    (z1_list : PySem.W.nsIn K mainGlobals (PySem.Str.ofString "list") = some none)
    (z1_str : PySem.W.nsIn K mainGlobals (PySem.Str.ofString "str") = some none)
    (z1_tuple : PySem.W.nsIn K mainGlobals (PySem.Str.ofString "tuple") = some none)
    (z1_zip : PySem.W.nsIn K mainGlobals (PySem.Str.ofString "zip") = some none)
    (a1_NoPlace : PySem.W.nsIn K mainGlobals (PySem.Str.ofString "NoPlace") = some (some (.ref a_NoPlace)))
    (k1_NoPlace : PySem.W.keepIn K (.ref a_NoPlace) = true)
    (b1_NoPlace : PySem.W.subIn K (.ref a_NoPlace) (.type "BaseException") = some true)
    (t1_NoPlace : PySem.W.typeIn K (.ref a_NoPlace) = some (.type "type"))
    (d1_NoPlace : PySem.W.hasDictIn K a_NoPlace = true)
    (s1_NoPlace_NoPlace : PySem.W.subIn K (.ref a_NoPlace) (.ref a_NoPlace) = some true)
    (s1_NoPlace_Unfit : PySem.W.subIn K (.ref a_NoPlace) (.ref a_Unfit) = some false)
    (x1_NoPlace : K.lookup a_NoPlace = some (excClassObj xn_NoPlace xq_NoPlace a_NoPlace xN_NoPlace xb_NoPlace [.type "LookupError", .type "Exception", .type "BaseException", .type "object"] true xs_NoPlace xu_NoPlace xa_NoPlace xc_NoPlace xd_NoPlace x0_NoPlace x1_NoPlace x2_NoPlace x3_NoPlace x5_NoPlace "LookupError.__new__"))
    (sa_NoPlace : PySem.W.findIn K (.ref a_NoPlace) "__setattr__" = some (some (.builtin "object.__setattr__")))
    (ga_NoPlace : PySem.W.findIn K (.ref a_NoPlace) "__getattribute__" = some (some (.builtin "BaseException.__getattribute__")))
    (gg_NoPlace : PySem.W.findIn K (.ref a_NoPlace) "__getattr__" = some none)
    (nb_NoPlace : PySem.W.findIn K (.ref a_NoPlace) "place" = some none)
    (in_NoPlace : PySem.W.findIn K (.ref a_NoPlace) "__init__" = some (some (.ref i_NoPlace)))
    (ti_NoPlace : PySem.W.typeIn K (.ref i_NoPlace) = some (.type "function"))
    (li_NoPlace : K.lookup i_NoPlace = some ⟨oc_NoPlace, od_NoPlace, .func (PySem.W.fnOf "__init__" (PySem.Str.ofString "NoPlace.__init__") (ExPlace.iA p1_NoPlace p2_NoPlace) (ExPlace.iB q1_NoPlace q2_NoPlace q3_NoPlace q4_NoPlace) ExPlace.iS .none .none dc_NoPlace pm_NoPlace an_NoPlace cd_NoPlace ct_NoPlace), sl_NoPlace⟩)
    (ci_NoPlace : PySem.W.codeIn K cd_NoPlace (PySem.Str.ofString "NoPlace.__init__") = true)
    (a1_Unfit : PySem.W.nsIn K mainGlobals (PySem.Str.ofString "Unfit") = some (some (.ref a_Unfit)))
    (k1_Unfit : PySem.W.keepIn K (.ref a_Unfit) = true)
    (b1_Unfit : PySem.W.subIn K (.ref a_Unfit) (.type "BaseException") = some true)
    (t1_Unfit : PySem.W.typeIn K (.ref a_Unfit) = some (.type "type"))
    (d1_Unfit : PySem.W.hasDictIn K a_Unfit = true)
    (s1_Unfit_NoPlace : PySem.W.subIn K (.ref a_Unfit) (.ref a_NoPlace) = some false)
    (s1_Unfit_Unfit : PySem.W.subIn K (.ref a_Unfit) (.ref a_Unfit) = some true)
    (x1_Unfit : PySem.W.excIn K a_Unfit [.type "ValueError", .type "Exception", .type "BaseException", .type "object"] "ValueError.__new__" = true)
    (lc_words_to_states : K.lookup c_words_to_states = some ⟨.type "code", xo_words_to_states, .fields vs_words_to_states, xs_words_to_states⟩)
    (ve_words_to_states : (vs_words_to_states[11]? : Option Value) = some (.ref P_words_to_states))
    (hd_words_to_states : PySem.W.codeHdIn K c_words_to_states P_words_to_states = true)
    (np_words_to_states : K.lookup P_words_to_states = none)
    (hp_words_to_states : h.get? P_words_to_states = some { cls := .none, data := .fields #[] })
    (lc_parting_word_from : K.lookup c_parting_word_from = some ⟨.type "code", xo_parting_word_from, .fields vs_parting_word_from, xs_parting_word_from⟩)
    (ve_parting_word_from : (vs_parting_word_from[11]? : Option Value) = some (.ref P_parting_word_from))
    (hd_parting_word_from : PySem.W.codeHdIn K c_parting_word_from P_parting_word_from = true)
    (np_parting_word_from : K.lookup P_parting_word_from = none)
    (hp_parting_word_from : h.get? P_parting_word_from = some { cls := .none, data := .fields #[] })
    (ne_words_to_states_parting_word_from : P_words_to_states ≠ P_parting_word_from)
    : LamX.LawAtS l w K (L2.CX l.prog w) 43 63 "script" mg fa h := by
  letI : Tbs := ⟨[(P_words_to_states, lamQ (PySem.Str.ofString "words_to_states")), (P_parting_word_from, lamQ (PySem.Str.ofString "parting_word_from"))], none, [], []⟩
  have hz : Tbs.base = [] := rfl
  have T := top_mk (P := l.prog) (w := w) X G a1_is_number l1_is_number c1_is_number k1_is_number a1_are_numbers_from l1_are_numbers_from c1_are_numbers_from k1_are_numbers_from a1_are_places l1_are_places c1_are_places k1_are_places a1_is_set_of_places l1_is_set_of_places c1_is_set_of_places k1_is_set_of_places a1_is_word l1_is_word c1_is_word k1_is_word a1_are_steps l1_are_steps c1_are_steps k1_are_steps a1_is_machine l1_is_machine c1_is_machine k1_is_machine a1_letters_in l1_letters_in c1_letters_in k1_letters_in a1_check_letters l1_check_letters c1_check_letters k1_check_letters a1_check_as_many_letters l1_check_as_many_letters c1_check_as_many_letters k1_check_as_many_letters a1_state_from l1_state_from c1_state_from k1_state_from a1_state_behind l1_state_behind c1_state_behind k1_state_behind a1_takes l1_takes c1_takes k1_takes a1_first_words l1_first_words c1_first_words k1_first_words a1_words_to_states l1_words_to_states c1_words_to_states k1_words_to_states a1_numbered l1_numbered c1_numbered k1_numbered a1_kinds_of_states l1_kinds_of_states c1_kinds_of_states k1_kinds_of_states a1_least l1_least c1_least k1_least a1_are_alike l1_are_alike c1_are_alike k1_are_alike a1_parting_word_from l1_parting_word_from c1_parting_word_from k1_parting_word_from a1_parting_word l1_parting_word c1_parting_word k1_parting_word a1__law_same l1__law_same c1__law_same k1__law_same a1__law_lists l1__law_lists c1__law_lists k1__law_lists a1__law_heard l1__law_heard c1__law_heard k1__law_heard a1__law_machines_right l1__law_machines_right c1__law_machines_right k1__law_machines_right a1__law_refused_right l1__law_refused_right c1__law_refused_right k1__law_refused_right a1__law_lists_right l1__law_lists_right c1__law_lists_right k1__law_lists_right a1_law l1_law c1_law k1_law z1_abs z1_all z1_bool z1_enumerate z1_int z1_isinstance z1_len z1_list z1_str z1_tuple z1_zip a1_NoPlace k1_NoPlace b1_NoPlace t1_NoPlace d1_NoPlace s1_NoPlace_NoPlace s1_NoPlace_Unfit x1_NoPlace sa_NoPlace ga_NoPlace gg_NoPlace nb_NoPlace in_NoPlace ti_NoPlace li_NoPlace ci_NoPlace a1_Unfit k1_Unfit b1_Unfit t1_Unfit d1_Unfit s1_Unfit_NoPlace s1_Unfit_Unfit x1_Unfit
  have ef := T.g_law
  rw [hfa] at ef
  cases ef
  refine ⟨PySem.W.fnOf (PySem.Str.ofString "law") (PySem.Str.ofString "law") (defArgs st_law) (defBody st_law) (defScope st_law) .none kV_law dc_law pm_law an_law cd_law ct_law, [(c_words_to_states, P_words_to_states), (c_parting_word_from, P_parting_word_from)], spLaw K,
    (by intro p hp; have hp : p ∈ [(c_words_to_states, P_words_to_states), (c_parting_word_from, P_parting_word_from)] := hp; simp only [List.mem_cons, List.not_mem_nil, or_false] at hp; rcases hp with rfl | rfl <;> first | exact hp_words_to_states | exact hp_parting_word_from),
    (by intro p hp; have hp : p ∈ [(c_words_to_states, P_words_to_states), (c_parting_word_from, P_parting_word_from)] := hp; simp only [List.mem_cons, List.not_mem_nil, or_false] at hp; rcases hp with rfl | rfl <;> first | exact np_words_to_states | exact np_parting_word_from),
    (by intro p hp; have hp : p ∈ [(c_words_to_states, P_words_to_states), (c_parting_word_from, P_parting_word_from)] := hp; simp only [List.mem_cons, List.not_mem_nil, or_false] at hp; rcases hp with rfl | rfl <;> first | exact PySem.W.codeHd_of_K X hd_words_to_states | exact PySem.W.codeHd_of_K X hd_parting_word_from),
    fun s v => .of_eq ?_, fun H a ns hl hb hO hS => ⟨a, ns, rfl, hl, hb, ⟨(by intro p hp; have hp : p ∈ [(P_words_to_states, lamQ (PySem.Str.ofString "words_to_states")), (P_parting_word_from, lamQ (PySem.Str.ofString "parting_word_from"))] := hp; simp only [List.mem_cons, List.not_mem_nil, or_false] at hp; rcases hp with rfl | rfl <;> first | exact LamX.TabS.nil (hO (c_words_to_states, P_words_to_states) (by simp)) | exact LamX.TabS.nil (hO (c_parting_word_from, P_parting_word_from) (by simp))), fun p hp => nomatch hp⟩, hS, fun _ => rfl⟩, fun base hK hG TB => ?_⟩
  rotate_left
  have F_is_number := fun_mk (K := K) (st := st_is_number) l1_is_number c1_is_number k1_is_number
  have F_are_numbers_from := fun_mk (K := K) (st := st_are_numbers_from) l1_are_numbers_from c1_are_numbers_from k1_are_numbers_from
  have F_are_places := fun_mk (K := K) (st := st_are_places) l1_are_places c1_are_places k1_are_places
  have F_is_set_of_places := fun_mk (K := K) (st := st_is_set_of_places) l1_is_set_of_places c1_is_set_of_places k1_is_set_of_places
  have F_is_word := fun_mk (K := K) (st := st_is_word) l1_is_word c1_is_word k1_is_word
  have F_are_steps := fun_mk (K := K) (st := st_are_steps) l1_are_steps c1_are_steps k1_are_steps
  have F_is_machine := fun_mk (K := K) (st := st_is_machine) l1_is_machine c1_is_machine k1_is_machine
  have F_letters_in := fun_mk (K := K) (st := st_letters_in) l1_letters_in c1_letters_in k1_letters_in
  have F_check_letters := fun_mk (K := K) (st := st_check_letters) l1_check_letters c1_check_letters k1_check_letters
  have F_check_as_many_letters := fun_mk (K := K) (st := st_check_as_many_letters) l1_check_as_many_letters c1_check_as_many_letters k1_check_as_many_letters
  have F_state_from := fun_mk (K := K) (st := st_state_from) l1_state_from c1_state_from k1_state_from
  have F_state_behind := fun_mk (K := K) (st := st_state_behind) l1_state_behind c1_state_behind k1_state_behind
  have F_takes := fun_mk (K := K) (st := st_takes) l1_takes c1_takes k1_takes
  have F_first_words := fun_mk (K := K) (st := st_first_words) l1_first_words c1_first_words k1_first_words
  have F_words_to_states := fun_mk (K := K) (st := st_words_to_states) l1_words_to_states c1_words_to_states k1_words_to_states
  have F_numbered := fun_mk (K := K) (st := st_numbered) l1_numbered c1_numbered k1_numbered
  have F_kinds_of_states := fun_mk (K := K) (st := st_kinds_of_states) l1_kinds_of_states c1_kinds_of_states k1_kinds_of_states
  have F_least := fun_mk (K := K) (st := st_least) l1_least c1_least k1_least
  have F_are_alike := fun_mk (K := K) (st := st_are_alike) l1_are_alike c1_are_alike k1_are_alike
  have F_parting_word_from := fun_mk (K := K) (st := st_parting_word_from) l1_parting_word_from c1_parting_word_from k1_parting_word_from
  have F_parting_word := fun_mk (K := K) (st := st_parting_word) l1_parting_word c1_parting_word k1_parting_word
  have F__law_same := fun_mk (K := K) (st := st__law_same) l1__law_same c1__law_same k1__law_same
  have F__law_lists := fun_mk (K := K) (st := st__law_lists) l1__law_lists c1__law_lists k1__law_lists
  have F__law_heard := fun_mk (K := K) (st := st__law_heard) l1__law_heard c1__law_heard k1__law_heard
  have F__law_machines_right := fun_mk (K := K) (st := st__law_machines_right) l1__law_machines_right c1__law_machines_right k1__law_machines_right
  have F__law_refused_right := fun_mk (K := K) (st := st__law_refused_right) l1__law_refused_right c1__law_refused_right k1__law_refused_right
  have F__law_lists_right := fun_mk (K := K) (st := st__law_lists_right) l1__law_lists_right c1__law_lists_right k1__law_lists_right
  have F_law := fun_mk (K := K) (st := st_law) l1_law c1_law k1_law
  have B_is_number := F_is_number.binds (ps := ps_is_number) fun _ _ _ _ _ _ us hl => match us, hl with | [_], _ => by first | rfl | with_unfolding_all rfl
  have B_are_numbers_from := F_are_numbers_from.binds (ps := ps_are_numbers_from) fun _ _ _ _ _ _ us hl => match us, hl with | [_, _], _ => by first | rfl | with_unfolding_all rfl
  have B_are_places := F_are_places.binds (ps := ps_are_places) fun _ _ _ _ _ _ us hl => match us, hl with | [_, _], _ => by first | rfl | with_unfolding_all rfl
  have B_is_set_of_places := F_is_set_of_places.binds (ps := ps_is_set_of_places) fun _ _ _ _ _ _ us hl => match us, hl with | [_, _], _ => by first | rfl | with_unfolding_all rfl
  have B_is_word := F_is_word.binds (ps := ps_is_word) fun _ _ _ _ _ _ us hl => match us, hl with | [_], _ => by first | rfl | with_unfolding_all rfl
  have B_are_steps := F_are_steps.binds (ps := ps_are_steps) fun _ _ _ _ _ _ us hl => match us, hl with | [_], _ => by first | rfl | with_unfolding_all rfl
  have B_is_machine := F_is_machine.binds (ps := ps_is_machine) fun _ _ _ _ _ _ us hl => match us, hl with | [_], _ => by first | rfl | with_unfolding_all rfl
  have B_letters_in := F_letters_in.binds (ps := ps_letters_in) fun _ _ _ _ _ _ us hl => match us, hl with | [_], _ => by first | rfl | with_unfolding_all rfl
  have B_check_letters := F_check_letters.binds (ps := ps_check_letters) fun _ _ _ _ _ _ us hl => match us, hl with | [_, _], _ => by first | rfl | with_unfolding_all rfl
  have B_check_as_many_letters := F_check_as_many_letters.binds (ps := ps_check_as_many_letters) fun _ _ _ _ _ _ us hl => match us, hl with | [_, _], _ => by first | rfl | with_unfolding_all rfl
  have B_state_from := F_state_from.binds (ps := ps_state_from) fun _ _ _ _ _ _ us hl => match us, hl with | [_, _, _], _ => by first | rfl | with_unfolding_all rfl
  have B_state_behind := F_state_behind.binds (ps := ps_state_behind) fun _ _ _ _ _ _ us hl => match us, hl with | [_, _], _ => by first | rfl | with_unfolding_all rfl
  have B_takes := F_takes.binds (ps := ps_takes) fun _ _ _ _ _ _ us hl => match us, hl with | [_, _], _ => by first | rfl | with_unfolding_all rfl
  have B_first_words := F_first_words.binds (ps := ps_first_words) fun _ _ _ _ _ _ us hl => match us, hl with | [_, _, _], _ => by first | rfl | with_unfolding_all rfl
  have B_words_to_states := F_words_to_states.binds (ps := ps_words_to_states) fun _ _ _ _ _ _ us hl => match us, hl with | [_], _ => by first | rfl | with_unfolding_all rfl
  have B_numbered := F_numbered.binds (ps := ps_numbered) fun _ _ _ _ _ _ us hl => match us, hl with | [_], _ => by first | rfl | with_unfolding_all rfl
  have B_kinds_of_states := F_kinds_of_states.binds (ps := ps_kinds_of_states) fun _ _ _ _ _ _ us hl => match us, hl with | [_], _ => by first | rfl | with_unfolding_all rfl
  have B_least := F_least.binds (ps := ps_least) fun _ _ _ _ _ _ us hl => match us, hl with | [_], _ => by first | rfl | with_unfolding_all rfl
  have B_are_alike := F_are_alike.binds (ps := ps_are_alike) fun _ _ _ _ _ _ us hl => match us, hl with | [_, _], _ => by first | rfl | with_unfolding_all rfl
  have B_parting_word_from := F_parting_word_from.binds (ps := ps_parting_word_from) fun _ _ _ _ _ _ us hl => match us, hl with | [_, _, _, _], _ => by first | rfl | with_unfolding_all rfl
  have B_parting_word := F_parting_word.binds (ps := ps_parting_word) fun _ _ _ _ _ _ us hl => match us, hl with | [_, _], _ => by first | rfl | with_unfolding_all rfl
  have B__law_same := F__law_same.binds (ps := ps__law_same) fun _ _ _ _ _ _ us hl => match us, hl with | [_, _], _ => by first | rfl | with_unfolding_all rfl
  have B__law_lists := F__law_lists.binds (ps := ps__law_lists) fun _ _ _ _ _ _ us hl => match us, hl with | [_], _ => by first | rfl | with_unfolding_all rfl
  have B__law_heard := F__law_heard.binds (ps := ps__law_heard) fun _ _ _ _ _ _ us hl => match us, hl with | [_, _, _], _ => by first | rfl | with_unfolding_all rfl
  have B__law_machines_right := F__law_machines_right.binds (ps := ps__law_machines_right) fun _ _ _ _ _ _ us hl => match us, hl with | [], _ => by first | rfl | with_unfolding_all rfl
  have B__law_refused_right := F__law_refused_right.binds (ps := ps__law_refused_right) fun _ _ _ _ _ _ us hl => match us, hl with | [], _ => by first | rfl | with_unfolding_all rfl
  have B__law_lists_right := F__law_lists_right.binds (ps := ps__law_lists_right) fun _ _ _ _ _ _ us hl => match us, hl with | [], _ => by first | rfl | with_unfolding_all rfl
  have B_law := F_law.binds (ps := ps_law) fun _ _ _ _ _ _ us hl => match us, hl with | [_], _ => by first | rfl | with_unfolding_all rfl
  have KC_is_word_0_thing : KwC K _ ps_is_word [(PySem.Str.ofString "thing")] 0 1 [0] := kwc_of F_is_word (by decide) fun _ _ _ _ _ _ us ws h1 h2 => match us, ws, h1, h2 with | [], [_], _, _ => by first | rfl | with_unfolding_all rfl
  have KC_is_machine_0_thing : KwC K _ ps_is_machine [(PySem.Str.ofString "thing")] 0 1 [0] := kwc_of F_is_machine (by decide) fun _ _ _ _ _ _ us ws h1 h2 => match us, ws, h1, h2 with | [], [_], _, _ => by first | rfl | with_unfolding_all rfl
  have KC_letters_in_0_machine : KwC K _ ps_letters_in [(PySem.Str.ofString "machine")] 0 1 [0] := kwc_of F_letters_in (by decide) fun _ _ _ _ _ _ us ws h1 h2 => match us, ws, h1, h2 with | [], [_], _, _ => by first | rfl | with_unfolding_all rfl
  have KC_state_behind_0_machine_word : KwC K _ ps_state_behind [(PySem.Str.ofString "machine"), (PySem.Str.ofString "word")] 0 2 [0, 1] := kwc_of F_state_behind (by decide) fun _ _ _ _ _ _ us ws h1 h2 => match us, ws, h1, h2 with | [], [_, _], _, _ => by first | rfl | with_unfolding_all rfl
  have KC_takes_0_machine_word : KwC K _ ps_takes [(PySem.Str.ofString "machine"), (PySem.Str.ofString "word")] 0 2 [0, 1] := kwc_of F_takes (by decide) fun _ _ _ _ _ _ us ws h1 h2 => match us, ws, h1, h2 with | [], [_, _], _, _ => by first | rfl | with_unfolding_all rfl
  have KC_least_0_machine : KwC K _ ps_least [(PySem.Str.ofString "machine")] 0 1 [0] := kwc_of F_least (by decide) fun _ _ _ _ _ _ us ws h1 h2 => match us, ws, h1, h2 with | [], [_], _, _ => by first | rfl | with_unfolding_all rfl
  have KC_are_alike_0_one_other : KwC K _ ps_are_alike [(PySem.Str.ofString "one"), (PySem.Str.ofString "other")] 0 2 [0, 1] := kwc_of F_are_alike (by decide) fun _ _ _ _ _ _ us ws h1 h2 => match us, ws, h1, h2 with | [], [_, _], _, _ => by first | rfl | with_unfolding_all rfl
  have KC_parting_word_0_one_other : KwC K _ ps_parting_word [(PySem.Str.ofString "one"), (PySem.Str.ofString "other")] 0 2 [0, 1] := kwc_of F_parting_word (by decide) fun _ _ _ _ _ _ us ws h1 h2 => match us, ws, h1, h2 with | [], [_, _], _, _ => by first | rfl | with_unfolding_all rfl
  have G_is_number := ok_is_number (P := l.prog) (w := w) (base := base) T F_is_number
  have G_are_numbers_from := ok_are_numbers_from (P := l.prog) (w := w) (base := base) T F_are_numbers_from G_is_number B_is_number
  have G_are_places := ok_are_places (P := l.prog) (w := w) (base := base) T F_are_places G_are_numbers_from B_are_numbers_from
  have G_is_set_of_places := ok_is_set_of_places (P := l.prog) (w := w) (base := base) T F_is_set_of_places G_are_places B_are_places
  have G_is_word := ok_is_word (P := l.prog) (w := w) (base := base) T F_is_word G_are_numbers_from B_are_numbers_from
  have G_are_steps := ok_are_steps (P := l.prog) (w := w) (base := base) T F_are_steps G_are_places B_are_places
  have G_is_machine := ok_is_machine (P := l.prog) (w := w) (base := base) T F_is_machine G_are_steps B_are_steps G_is_set_of_places B_is_set_of_places
  have G_letters_in := ok_letters_in (P := l.prog) (w := w) (base := base) T F_letters_in
  have G_check_letters := ok_check_letters (P := l.prog) (w := w) (base := base) T F_check_letters G_letters_in B_letters_in
  have G_check_as_many_letters := ok_check_as_many_letters (P := l.prog) (w := w) (base := base) T F_check_as_many_letters G_letters_in B_letters_in
  have G_state_from := ok_state_from (P := l.prog) (w := w) (base := base) T F_state_from
  have G_state_behind := ok_state_behind (P := l.prog) (w := w) (base := base) T F_state_behind G_check_letters B_check_letters G_state_from B_state_from
  have G_takes := ok_takes (P := l.prog) (w := w) (base := base) T F_takes G_state_behind B_state_behind
  have G_words_to_states := ok_words_to_states (P := l.prog) (w := w) (base := base) T F_words_to_states F_first_words B_first_words rfl (TB (c_words_to_states, P_words_to_states) (by simp)) (by show (P_words_to_states, lamQ (PySem.Str.ofString "words_to_states")) ∈ [(P_words_to_states, lamQ (PySem.Str.ofString "words_to_states")), (P_parting_word_from, lamQ (PySem.Str.ofString "parting_word_from"))]; simp) (fun p hp e => by have hp : p ∈ [(P_words_to_states, lamQ (PySem.Str.ofString "words_to_states")), (P_parting_word_from, lamQ (PySem.Str.ofString "parting_word_from"))] := hp; simp only [List.mem_cons, List.not_mem_nil, or_false] at hp; rcases hp with rfl | rfl <;> first | (exfalso; first | exact absurd e (by assumption) | exact absurd e.symm (by assumption)) | rfl)
  have G_numbered := ok_numbered (P := l.prog) (w := w) (base := base) T F_numbered
  have G_kinds_of_states := ok_kinds_of_states (P := l.prog) (w := w) (base := base) T F_kinds_of_states G_words_to_states B_words_to_states G_numbered B_numbered
  have G_least := ok_least (P := l.prog) (w := w) (base := base) T F_least G_kinds_of_states B_kinds_of_states
  have G_are_alike := ok_are_alike (P := l.prog) (w := w) (base := base) T F_are_alike G_check_as_many_letters B_check_as_many_letters G_least B_least
  have G_parting_word_from := ok_parting_word_from (P := l.prog) (w := w) (base := base) T F_parting_word_from F_first_words B_first_words rfl (TB (c_parting_word_from, P_parting_word_from) (by simp)) (by show (P_parting_word_from, lamQ (PySem.Str.ofString "parting_word_from")) ∈ [(P_words_to_states, lamQ (PySem.Str.ofString "words_to_states")), (P_parting_word_from, lamQ (PySem.Str.ofString "parting_word_from"))]; simp) (fun p hp e => by have hp : p ∈ [(P_words_to_states, lamQ (PySem.Str.ofString "words_to_states")), (P_parting_word_from, lamQ (PySem.Str.ofString "parting_word_from"))] := hp; simp only [List.mem_cons, List.not_mem_nil, or_false] at hp; rcases hp with rfl | rfl <;> first | (exfalso; first | exact absurd e (by assumption) | exact absurd e.symm (by assumption)) | rfl)
  have G_parting_word := ok_parting_word (P := l.prog) (w := w) (base := base) T F_parting_word G_check_as_many_letters B_check_as_many_letters G_parting_word_from B_parting_word_from
  have G__law_same := ok__law_same (P := l.prog) (w := w) (base := base) T F__law_same B__law_same
  have G__law_lists := ok__law_lists (P := l.prog) (w := w) (base := base) T F__law_lists B__law_lists
  have G__law_heard := ok__law_heard (P := l.prog) (w := w) (base := base) T F__law_heard G_state_behind B_state_behind G_takes B_takes G_are_alike B_are_alike G_parting_word B_parting_word
  have G__law_machines_right := ok__law_machines_right (P := l.prog) (w := w) (base := base) T F__law_machines_right G_takes B_takes G_state_behind B_state_behind G_letters_in B_letters_in G_least B_least G_are_alike B_are_alike G_parting_word B_parting_word G_is_word B_is_word G__law_same B__law_same
  have G__law_refused_right := ok__law_refused_right (P := l.prog) (w := w) (base := base) T F__law_refused_right G__law_heard B__law_heard G_is_word B_is_word G_is_machine B_is_machine G__law_same B__law_same
  have G__law_lists_right := ok__law_lists_right (P := l.prog) (w := w) (base := base) T F__law_lists_right G__law_lists B__law_lists G_is_word B_is_word G_is_machine B_is_machine G_letters_in B_letters_in G_state_behind B_state_behind G_takes B_takes G_least B_least G_are_alike B_are_alike G_parting_word B_parting_word G__law_same B__law_same KC_is_word_0_thing KC_is_machine_0_thing KC_letters_in_0_machine KC_state_behind_0_machine_word KC_takes_0_machine_word KC_least_0_machine KC_are_alike_0_one_other KC_parting_word_0_one_other
  have G_law := ok_law (P := l.prog) (w := w) (base := base) T F_law G__law_machines_right B__law_machines_right G__law_refused_right B__law_refused_right G__law_lists_right B__law_lists_right hz
  exact law_ok hz G_law law_true
  first | rfl | with_unfolding_all rfl
end
end Gn
open PySem PySem.W PyProof.Rows
set_option maxRecDepth 100000 in
set_option maxHeartbeats 0 in
theorem PySem.Challenge.cw_bothroads_k01_words_and_machines_by_hand_holds : PySem.Challenge.rw_bothroads_k01_words_and_machines_by_hand.Holds := by
  w_on; o_law; k_head; (case hw => w_witness2)
  k_fill
  refine LamX.walk_ofTs (l := PySem.Challenge.rw_bothroads_k01_words_and_machines_by_hand) (n := 63) (k := 43) (x := "script") (CX := fun w => L2.CX PySem.Challenge.pw_bothroads_k01_words_and_machines_by_hand w) rfl (by decide) rfl ⟨rfl, by decide, by decide⟩ (fun w h Y => by first | exact PySem.W.kIn_of Y | exact PySem.W.km_in_of Y) ?F (fun _ _ _ _ _ h => @Rh.cx_false ⟨[], none, [], []⟩ _ _ _ _ _ _ _ h)
  case F =>
    intro w mg fa h Y KX G hmg
    refine' Gn.all_mkT (l := PySem.Challenge.rw_bothroads_k01_words_and_machines_by_hand) (fa := fa) KX G hmg ?a1_is_number ?l1_is_number ?c1_is_number ?k1_is_number ?a1_are_numbers_from ?l1_are_numbers_from ?c1_are_numbers_from ?k1_are_numbers_from ?a1_are_places ?l1_are_places ?c1_are_places ?k1_are_places ?a1_is_set_of_places ?l1_is_set_of_places ?c1_is_set_of_places ?k1_is_set_of_places ?a1_is_word ?l1_is_word ?c1_is_word ?k1_is_word ?a1_are_steps ?l1_are_steps ?c1_are_steps ?k1_are_steps ?a1_is_machine ?l1_is_machine ?c1_is_machine ?k1_is_machine ?a1_letters_in ?l1_letters_in ?c1_letters_in ?k1_letters_in ?a1_check_letters ?l1_check_letters ?c1_check_letters ?k1_check_letters ?a1_check_as_many_letters ?l1_check_as_many_letters ?c1_check_as_many_letters ?k1_check_as_many_letters ?a1_state_from ?l1_state_from ?c1_state_from ?k1_state_from ?a1_state_behind ?l1_state_behind ?c1_state_behind ?k1_state_behind ?a1_takes ?l1_takes ?c1_takes ?k1_takes ?a1_first_words ?l1_first_words ?c1_first_words ?k1_first_words ?a1_words_to_states ?l1_words_to_states ?c1_words_to_states ?k1_words_to_states ?a1_numbered ?l1_numbered ?c1_numbered ?k1_numbered ?a1_kinds_of_states ?l1_kinds_of_states ?c1_kinds_of_states ?k1_kinds_of_states ?a1_least ?l1_least ?c1_least ?k1_least ?a1_are_alike ?l1_are_alike ?c1_are_alike ?k1_are_alike ?a1_parting_word_from ?l1_parting_word_from ?c1_parting_word_from ?k1_parting_word_from ?a1_parting_word ?l1_parting_word ?c1_parting_word ?k1_parting_word ?a1__law_same ?l1__law_same ?c1__law_same ?k1__law_same ?a1__law_lists ?l1__law_lists ?c1__law_lists ?k1__law_lists ?a1__law_heard ?l1__law_heard ?c1__law_heard ?k1__law_heard ?a1__law_machines_right ?l1__law_machines_right ?c1__law_machines_right ?k1__law_machines_right ?a1__law_refused_right ?l1__law_refused_right ?c1__law_refused_right ?k1__law_refused_right ?a1__law_lists_right ?l1__law_lists_right ?c1__law_lists_right ?k1__law_lists_right ?a1_law ?l1_law ?c1_law ?k1_law ?z1_abs ?z1_all ?z1_bool ?z1_enumerate ?z1_int ?z1_isinstance ?z1_len ?z1_list ?z1_str ?z1_tuple ?z1_zip ?a1_NoPlace ?k1_NoPlace ?b1_NoPlace ?t1_NoPlace ?d1_NoPlace ?s1_NoPlace_NoPlace ?s1_NoPlace_Unfit ?x1_NoPlace ?sa_NoPlace ?ga_NoPlace ?gg_NoPlace ?nb_NoPlace ?in_NoPlace ?ti_NoPlace ?li_NoPlace ?ci_NoPlace ?a1_Unfit ?k1_Unfit ?b1_Unfit ?t1_Unfit ?d1_Unfit ?s1_Unfit_NoPlace ?s1_Unfit_Unfit ?x1_Unfit ?lc_words_to_states ?ve_words_to_states ?hd_words_to_states ?np_words_to_states ?hp_words_to_states ?lc_parting_word_from ?ve_parting_word_from ?hd_parting_word_from ?np_parting_word_from ?hp_parting_word_from ?ne_words_to_states_parting_word_from
    (case a1_is_number => k_is)
    (case a1_are_numbers_from => k_is)
    (case a1_are_places => k_is)
    (case a1_is_set_of_places => k_is)
    (case a1_is_word => k_is)
    (case a1_are_steps => k_is)
    (case a1_is_machine => k_is)
    (case a1_letters_in => k_is)
    (case a1_check_letters => k_is)
    (case a1_check_as_many_letters => k_is)
    (case a1_state_from => k_is)
    (case a1_state_behind => k_is)
    (case a1_takes => k_is)
    (case a1_first_words => k_is)
    (case a1_words_to_states => k_is)
    (case a1_numbered => k_is)
    (case a1_kinds_of_states => k_is)
    (case a1_least => k_is)
    (case a1_are_alike => k_is)
    (case a1_parting_word_from => k_is)
    (case a1_parting_word => k_is)
    (case a1__law_same => k_is)
    (case a1__law_lists => k_is)
    (case a1__law_heard => k_is)
    (case a1__law_machines_right => k_is)
    (case a1__law_refused_right => k_is)
    (case a1__law_lists_right => k_is)
    (case a1_law => k_is)
    (case a1_NoPlace => k_is)
    (case a1_Unfit => k_is)
    (case l1_is_number => k_is)
    (case l1_are_numbers_from => k_is)
    (case l1_are_places => k_is)
    (case l1_is_set_of_places => k_is)
    (case l1_is_word => k_is)
    (case l1_are_steps => k_is)
    (case l1_is_machine => k_is)
    (case l1_letters_in => k_is)
    (case l1_check_letters => k_is)
    (case l1_check_as_many_letters => k_is)
    (case l1_state_from => k_is)
    (case l1_state_behind => k_is)
    (case l1_takes => k_is)
    (case l1_first_words => k_is)
    (case l1_words_to_states => k_is)
    (case l1_numbered => k_is)
    (case l1_kinds_of_states => k_is)
    (case l1_least => k_is)
    (case l1_are_alike => k_is)
    (case l1_parting_word_from => k_is)
    (case l1_parting_word => k_is)
    (case l1__law_same => k_is)
    (case l1__law_lists => k_is)
    (case l1__law_heard => k_is)
    (case l1__law_machines_right => k_is)
    (case l1__law_refused_right => k_is)
    (case l1__law_lists_right => k_is)
    (case l1_law => k_is)
    (case in_NoPlace => k_is)
    (case c1_is_number => k_is)
    (case k1_is_number => k_is)
    (case c1_are_numbers_from => k_is)
    (case k1_are_numbers_from => k_is)
    (case c1_are_places => k_is)
    (case k1_are_places => k_is)
    (case c1_is_set_of_places => k_is)
    (case k1_is_set_of_places => k_is)
    (case c1_is_word => k_is)
    (case k1_is_word => k_is)
    (case c1_are_steps => k_is)
    (case k1_are_steps => k_is)
    (case c1_is_machine => k_is)
    (case k1_is_machine => k_is)
    (case c1_letters_in => k_is)
    (case k1_letters_in => k_is)
    (case c1_check_letters => k_is)
    (case k1_check_letters => k_is)
    (case c1_check_as_many_letters => k_is)
    (case k1_check_as_many_letters => k_is)
    (case c1_state_from => k_is)
    (case k1_state_from => k_is)
    (case c1_state_behind => k_is)
    (case k1_state_behind => k_is)
    (case c1_takes => k_is)
    (case k1_takes => k_is)
    (case c1_first_words => k_is)
    (case k1_first_words => k_is)
    (case c1_words_to_states => k_is)
    (case k1_words_to_states => k_is)
    (case c1_numbered => k_is)
    (case k1_numbered => k_is)
    (case c1_kinds_of_states => k_is)
    (case k1_kinds_of_states => k_is)
    (case c1_least => k_is)
    (case k1_least => k_is)
    (case c1_are_alike => k_is)
    (case k1_are_alike => k_is)
    (case c1_parting_word_from => k_is)
    (case k1_parting_word_from => k_is)
    (case c1_parting_word => k_is)
    (case k1_parting_word => k_is)
    (case c1__law_same => k_is)
    (case k1__law_same => k_is)
    (case c1__law_lists => k_is)
    (case k1__law_lists => k_is)
    (case c1__law_heard => k_is)
    (case k1__law_heard => k_is)
    (case c1__law_machines_right => k_is)
    (case k1__law_machines_right => k_is)
    (case c1__law_refused_right => k_is)
    (case k1__law_refused_right => k_is)
    (case c1__law_lists_right => k_is)
    (case k1__law_lists_right => k_is)
    (case c1_law => k_is)
    (case k1_law => k_is)
    (case z1_abs => k_is)
    (case z1_all => k_is)
    (case z1_bool => k_is)
    (case z1_enumerate => k_is)
    (case z1_int => k_is)
    (case z1_isinstance => k_is)
    (case z1_len => k_is)
    (case z1_list => k_is)
    (case z1_str => k_is)
    (case z1_tuple => k_is)
    (case z1_zip => k_is)
    (case k1_NoPlace => k_is)
    (case b1_NoPlace => k_is)
    (case t1_NoPlace => k_is)
    (case d1_NoPlace => k_is)
    (case s1_NoPlace_NoPlace => k_is)
    (case s1_NoPlace_Unfit => k_is)
    (case x1_NoPlace => k_is)
    (case sa_NoPlace => k_is)
    (case ga_NoPlace => k_is)
    (case gg_NoPlace => k_is)
    (case nb_NoPlace => k_is)
    (case ti_NoPlace => k_is)
    (case li_NoPlace => k_is)
    (case ci_NoPlace => k_is)
    (case k1_Unfit => k_is)
    (case b1_Unfit => k_is)
    (case t1_Unfit => k_is)
    (case d1_Unfit => k_is)
    (case s1_Unfit_NoPlace => k_is)
    (case s1_Unfit_Unfit => k_is)
    (case x1_Unfit => k_exc)
    (case lc_words_to_states => k_is)
    (case ve_words_to_states => rfl)
    (case hd_words_to_states => first | k_is | rfl | decide +kernel)
    (case np_words_to_states => first | k_is | rfl | decide +kernel)
    (case hp_words_to_states => exact PySem.W.km_tabs_of Y _ (by first | decide | simp))
    (case lc_parting_word_from => k_is)
    (case ve_parting_word_from => rfl)
    (case hd_parting_word_from => first | k_is | rfl | decide +kernel)
    (case np_parting_word_from => first | k_is | rfl | decide +kernel)
    (case hp_parting_word_from => exact PySem.W.km_tabs_of Y _ (by first | decide | simp))
    (case ne_words_to_states_parting_word_from => decide)
end
