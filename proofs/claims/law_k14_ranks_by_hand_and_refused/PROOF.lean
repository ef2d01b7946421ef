import PyProof.Rows.All
import Wide.All
import OpenK.AllK
import Wide.FinOn
import PySem.Challenge.RW_bothroads_k14_ranks_by_hand_and_refused
import HandS.ForMost
import HandS.ForExc
import HandS.TryMany
import HandS.CallSlots
import KE.KDictKeyed
import KE.KDictCopyH
import HandS.Flow
import HandS.TupAny
import HandS.TupMul
import HandS.IsInst
import HandS.Deep
import HandS.WideBits
import PyProof.P3In
import HandS.Words
import HandS.Iter
import HandS.Conv
import KE.GoesZip
import KE.GoesEnum
import KE.GoesEnumKw
import HandS.NoneIn
import HandS.DictComp
import KE.KExcInit
import KE.KExcIs
import HandS.ExcIs
import HandS.List
import HandS.SortInts
import HandS.Style
import HandS.TupSets
import HandS.Wide
import HandS.EndBits
import HandS.More
set_option Elab.async false
set_option linter.all false
set_option maxRecDepth 100000
set_option autoImplicit false
namespace Rh
open PySem PySem.Spec PyProof.Rows L2

/-! ### data: values are trees over numbered boxes; boxes (what can change) stand in a table -/
inductive Ty where | int | bool | str | tuple | list | dict | none
  deriving DecidableEq
def Ty.name : Ty → String
  | .int => "int" | .bool => "bool" | .str => "str" | .tuple => "tuple" | .list => "list" | .dict => "dict" | .none => "NoneType"
/-- values; `gl x` is what the module's name x holds -/
inductive D where
  | non | bl (b : Bool) | int (i : Int) | str (x : Str)
  | tup (ds : List D) | box (n : Nat) | ty (n : Ty) | scr (ds : List D) | gl (x : Str)
/-- what stands in a box -/
inductive O where
  | lst (ds : List D)
  | dct (nks : List NestedKey) (ks vs : List D)
  | lam (q : Nat) (cs : List D)
  | exo (c : Str) (fs : List (Str × D))

/-! a table by binary places -/
inductive Tr (α : Type) where
  | nil
  | node (v : Option α) (l r : Tr α)
def Tr.get {α : Type} : Tr α → Nat → Option α
  | .nil, _ => none
  | .node v l r, i => match Nat.beq i 0 with
    | true => v
    | false => match Nat.beq (i % 2) 1 with
      | true => l.get (i / 2)
      | false => r.get (i / 2 - 1)
def Tr.put {α : Type} (a : α) : Nat → Tr α → Nat → Option (Tr α)
  | 0, _, _ => none
  | f + 1, .nil, i => match Nat.beq i 0 with
    | true => some (.node (some a) .nil .nil)
    | false => match Nat.beq (i % 2) 1 with
      | true => match Tr.put a f .nil (i / 2) with
        | some t => some (.node none t .nil)
        | none => none
      | false => match Tr.put a f .nil (i / 2 - 1) with
        | some t => some (.node none .nil t)
        | none => none
  | f + 1, .node v l r, i => match Nat.beq i 0 with
    | true => some (.node (some a) l r)
    | false => match Nat.beq (i % 2) 1 with
      | true => match Tr.put a f l (i / 2) with
        | some t => some (.node v t r)
        | none => none
      | false => match Tr.put a f r (i / 2 - 1) with
        | some t => some (.node v l t)
        | none => none
theorem beq_dec (i j : Nat) : Nat.beq i j = decide (i = j) := by
  by_cases h : i = j
  · subst h; simp [Nat.beq_refl]
  · rw [decide_eq_false h]; exact Bool.eq_false_iff.mpr fun q => h (Nat.eq_of_beq_eq_true q)
theorem Tr.get_node {α : Type} (v : Option α) (l r : Tr α) (i : Nat) : (Tr.node v l r).get i = if i = 0 then v else if i % 2 = 1 then l.get (i / 2) else r.get (i / 2 - 1) := by
  show (match Nat.beq i 0 with | true => v | false => match Nat.beq (i % 2) 1 with | true => l.get (i / 2) | false => r.get (i / 2 - 1)) = _
  rw [beq_dec, beq_dec]
  by_cases h : i = 0
  · simp [h]
  · by_cases q : i % 2 = 1 <;> simp [h, q]
theorem Tr.get_nil {α : Type} (i : Nat) : (Tr.nil : Tr α).get i = none := rfl
theorem Tr.put_get {α : Type} {a : α} : ∀ {f : Nat} {t t' : Tr α} {i : Nat}, Tr.put a f t i = some t' → ∀ j, t'.get j = if j = i then some a else t.get j
  | 0, _, _, _, h, _ => by cases h
  | f + 1, .nil, t', i, h, j => by
    unfold Tr.put at h
    rw [beq_dec, beq_dec] at h
    by_cases h0 : i = 0
    · subst h0
      simp at h; subst h
      rw [Tr.get_node, Tr.get_nil, Tr.get_nil]
      by_cases hj : j = 0 <;> simp [hj, Tr.get_nil]
    · by_cases h1 : i % 2 = 1
      · simp only [h0, h1, decide_false, decide_true] at h
        cases e : Tr.put a f .nil (i / 2) with
        | none => rw [e] at h; cases h
        | some u =>
          rw [e] at h; cases h
          rw [Tr.get_node, Tr.put_get e, Tr.get_nil]
          by_cases hj : j = 0
          · subst hj; simp [Tr.get_nil, Ne.symm h0]
          · by_cases hp : j % 2 = 1
            · simp only [hj, hp, if_true, if_false]
              by_cases q : j / 2 = i / 2
              · have : j = i := by omega
                simp [this]
              · have : j ≠ i := fun z => q (by rw [z])
                simp [q, this, Tr.get_nil]
            · have : j ≠ i := fun z => hp (by rw [z]; exact h1)
              simp [hj, hp, this, Tr.get_nil]
      · simp only [h0, h1, decide_false] at h
        cases e : Tr.put a f .nil (i / 2 - 1) with
        | none => rw [e] at h; cases h
        | some u =>
          rw [e] at h; cases h
          rw [Tr.get_node, Tr.put_get e, Tr.get_nil]
          by_cases hj : j = 0
          · subst hj; simp [Tr.get_nil, Ne.symm h0]
          · by_cases hp : j % 2 = 1
            · have : j ≠ i := fun z => h1 (by rw [← z]; exact hp)
              simp [hj, hp, this, Tr.get_nil]
            · simp only [hj, hp, if_false]
              by_cases q : j / 2 - 1 = i / 2 - 1
              · have : j = i := by omega
                simp [this]
              · have : j ≠ i := fun z => q (by rw [z])
                simp [q, this, Tr.get_nil]
  | f + 1, .node v l r, t', i, h, j => by
    unfold Tr.put at h
    rw [beq_dec, beq_dec] at h
    by_cases h0 : i = 0
    · subst h0
      simp at h; subst h
      rw [Tr.get_node, Tr.get_node]
      by_cases hj : j = 0 <;> simp [hj]
    · by_cases h1 : i % 2 = 1
      · simp only [h0, h1, decide_false, decide_true] at h
        cases e : Tr.put a f l (i / 2) with
        | none => rw [e] at h; cases h
        | some u =>
          rw [e] at h; cases h
          rw [Tr.get_node, Tr.put_get e, Tr.get_node]
          by_cases hj : j = 0
          · subst hj; simp [Ne.symm h0]
          · by_cases hp : j % 2 = 1
            · simp only [hj, hp, if_true, if_false]
              by_cases q : j / 2 = i / 2
              · have : j = i := by omega
                simp [this]
              · have : j ≠ i := fun z => q (by rw [z])
                simp [q, this, Tr.get_nil]
            · have : j ≠ i := fun z => hp (by rw [z]; exact h1)
              simp [hj, hp, this]
      · simp only [h0, h1, decide_false] at h
        cases e : Tr.put a f r (i / 2 - 1) with
        | none => rw [e] at h; cases h
        | some u =>
          rw [e] at h; cases h
          rw [Tr.get_node, Tr.put_get e, Tr.get_node]
          by_cases hj : j = 0
          · subst hj; simp [Ne.symm h0]
          · by_cases hp : j % 2 = 1
            · have : j ≠ i := fun z => h1 (by rw [← z]; exact hp)
              simp [hj, hp, this]
            · simp only [hj, hp, if_false]
              by_cases q : j / 2 - 1 = i / 2 - 1
              · have : j = i := by omega
                simp [this]
              · have : j ≠ i := fun z => q (by rw [z])
                simp [q, this, Tr.get_nil]
/-- all boxes -/
structure Hs where
  n : Nat
  t : Tr O
  /-- boxes that are walked: not to be changed -/
  lk : List Nat
def Hs.get (h : Hs) (i : Nat) : Option O := h.t.get i
def Hs.set (h : Hs) (i : Nat) (o : O) : Option Hs := match h.lk.all fun j => !Nat.beq j i with
  | false => none
  | true => match Tr.put o 40 h.t i with
    | some t => some ⟨h.n, t, h.lk⟩
    | none => none
def Hs.new (h : Hs) (o : O) : Option Hs := match Tr.put o 40 h.t h.n with
  | some t => some ⟨h.n + 1, t, h.lk⟩
  | none => none
theorem Hs.set_ok {h h' : Hs} {i : Nat} {o : O} (e : h.set i o = some h') : i ∉ h.lk ∧ h'.lk = h.lk ∧ h'.n = h.n ∧ ∀ j, h'.get j = if j = i then some o else h.get j := by
  unfold Hs.set at e
  split at e
  · cases e
  · rename_i hl
    split at e
    · rename_i t q
      cases e
      refine ⟨fun m => ?_, rfl, rfl, Tr.put_get q⟩
      have := List.all_eq_true.mp hl i m
      rw [Nat.beq_refl] at this
      cases this
    · cases e
theorem Hs.new_lk {h h' : Hs} {o : O} (e : h.new o = some h') : h'.lk = h.lk := by
  unfold Hs.new at e; split at e <;> cases e; rfl
theorem Hs.new_n {h h' : Hs} {o : O} (e : h.new o = some h') : h'.n = h.n + 1 := by
  unfold Hs.new at e; split at e <;> cases e; rfl
theorem Hs.new_get {h h' : Hs} {o : O} (e : h.new o = some h') (j : Nat) : h'.get j = if j = h.n then some o else h.get j := by
  unfold Hs.new at e
  split at e
  · rename_i t q; cases e; exact Tr.put_get q j
  · cases e

/-! ### keys -/
mutual
def keyD : D → Option NestedKey
  | .non => some .none
  | .bl b => some (.num (if b = true then 1 else 0))
  | .int i => some (.num i)
  | .str x => some (.text x)
  | .tup ds => (keysD ds).map .tup
  | .box _ => none
  | .gl _ => none
  | .ty _ => none
  | .scr _ => none
def keysD : List D → Option (List NestedKey)
  | [] => some []
  | d :: ds => match keyD d, keysD ds with
    | some k, some ks => some (k :: ks)
    | _, _ => none
end
/-- a dict's raw object: entries with the keys' kinds -/
def DicO (w : World) (a : Addr) (es : Nat × List (NestedKey × V × V)) : HO := .ext fun h => (a == sysModules) = false ∧ es.2.length ≤ sizeLine ∧ ∃ (o : Obj) (ents : Array DictEntry), h.get? a = some o ∧ o.ExactDict ∧ o.data = .dict ents es.1 ∧
  Paired (fun (e : NestedKey × V × V) (d : DictEntry) => d.hash = e.1.hash w ∧ RelV e.2.1 d.key ∧ RelV e.2.2 d.val) es.2 ents.toList ∧ (es.2.map (·.1)).Nodup

/-- a tuple: tracked, or of the written part -/
def TupAt (K : PySem.W.Frag) (H : Hp) (a : Addr) (vs : List V) : Prop := H a = some (.tup vs) ∨
    ∃ (o : Obj) (its : Array Value) (n : Nat), K.lookup a = some o ∧ o.cls = .type "tuple" ∧ o.data = .seq its n ∧ its.size ≤ sizeLine ∧ Vals vs its.toList
theorem TupAt.sq {K : PySem.W.Frag} {H : Hp} {a : Addr} {vs : List V} (h : TupAt K H a vs) : SqT K H a vs := by
  rcases h with h | h
  · exact .inl (.inl h)
  · exact .inr h
/-- the script's list: kept by the law's head, never changed -/
def ScrAt (K : PySem.W.Frag) (H : Hp) (a : Addr) (vs : List V) : Prop := (∃ o, H a = some (.frz o (.lst vs))) ∨
    ∃ (o : Obj) (its : Array Value) (n : Nat), K.lookup a = some o ∧ o.cls = .type "list" ∧ o.dict = none ∧ o.data = .seq its n ∧ its.size ≤ sizeLine ∧ Vals vs its.toList
theorem ScrAt.sqL {K : PySem.W.Frag} {H : Hp} {a : Addr} {vs : List V} (h : ScrAt K H a vs) : SqL K H a vs := by
  rcases h with h | h
  · exact .inl (.inr h)
  · exact .inr h
/-- the surroundings that values are read in -/
structure Ct where
  w : World
  K : PySem.W.Frag
  mg : Str → Option Value
abbrev Mu := List Addr
section
variable (C : Ct) (μ : Mu) (H : Hp)
mutual
def RepV : D → V → Prop
  | .non, v => v = .non
  | .bl b, v => v = .bl b
  | .int i, v => v = .int i
  | .str x, v => v = .str x
  | .tup ds, v => ∃ a vs, v = .ref a ∧ TupAt C.K H a vs ∧ RepL ds vs
  | .scr ds, v => ∃ a vs, v = .ref a ∧ ScrAt C.K H a vs ∧ RepL ds vs
  | .box n, v => ∃ a, v = .ref a ∧ μ[n]? = some a
  | .gl x, v => ∃ a, v = .ref a ∧ C.mg x = some (.ref a)
  | .ty n, v => v = .ty n.name
def RepL : List D → List V → Prop
  | [], vs => vs = []
  | d :: ds, vs => ∃ v r, vs = v :: r ∧ RepV d v ∧ RepL ds r
end
/-- a box's content at its address -/
def ObR (a : Addr) : O → Prop
  | .lst ds => ∃ vs, H a = some (.lst vs) ∧ RepL C μ H ds vs
  | .dct nks ks vs => ∃ es, H a = some (DicO C.w a es) ∧ es.2.map (·.1) = nks ∧ keysD ks = some nks ∧ RepL C μ H ks (es.2.map (·.2.1)) ∧ RepL C μ H vs (es.2.map (·.2.2))
  | .lam _ _ => False
  | .exo _ _ => False
structure HR (L : List Nat) (μ : Mu) (H : Hp) (h : Hs) : Prop where
  lk : h.lk = L
  len : μ.length = h.n
  nd : μ.Nodup
  ob : ∀ (i : Nat) (a : Addr), μ[i]? = some a → ∃ o, h.get i = some o ∧ ObR C μ H a o
end
/-- from one heap to a later one: boxes are only added; what is no box stays -/
structure Go (L : List Nat) (μ : Mu) (H : Hp) (μ' : Mu) (H' : Hp) : Prop where
  lk : ∀ i ∈ L, ∀ a, μ[i]? = some a → H' a = H a
  keep : ∀ a o, H a = some o → a ∉ μ → H' a = some o
  dom : ∀ a, H' a = none → H a = none
  ext : ∃ r, μ' = μ ++ r
  new : ∀ a, a ∈ μ' → a ∈ μ ∨ H a = none
section
variable {C : Ct} {L : List Nat} {μ μ' μ1 μ2 : Mu} {H H' H1 H2 : Hp} {h h' h1 h2 : Hs}
theorem Go.at_ (g : Go L μ H μ' H') {i : Nat} {a : Addr} (e : μ[i]? = some a) : μ'[i]? = some a := by
  obtain ⟨r, rfl⟩ := g.ext
  rw [List.getElem?_append_left (List.getElem?_eq_some_iff.mp e).1]; exact e
theorem Go.refl : Go L μ H μ H := ⟨fun _ _ _ _ => rfl, fun _ _ e _ => e, fun _ e => e, ⟨[], (List.append_nil _).symm⟩, fun _ m => .inl m⟩
theorem Go.trans (g : Go L μ H μ1 H1) (g2 : Go L μ1 H1 μ2 H2) : Go L μ H μ2 H2 := by
  refine ⟨fun i m a e => (g2.lk i m a (g.at_ e)).trans (g.lk i m a e), fun a o e n => ?_, fun a e => g.dom a (g2.dom a e), ?_, fun a m => ?_⟩
  · refine g2.keep a o (g.keep a o e n) fun m => ?_
    rcases g.new a m with q | q
    · exact n q
    · rw [e] at q; cases q
  · obtain ⟨r, rfl⟩ := g.ext
    obtain ⟨r2, rfl⟩ := g2.ext
    exact ⟨r ++ r2, by rw [List.append_assoc]⟩
  · rcases g2.new a m with q | q
    · exact g.new a q
    · exact .inr (g.dom a q)
theorem Go.mem (g : Go L μ H μ' H') {a : Addr} (e : a ∈ μ) : a ∈ μ' := by
  obtain ⟨r, rfl⟩ := g.ext
  exact List.mem_append_left _ e
theorem HR.mut (r : HR C L μ H h) {a : Addr} (m : a ∈ μ) : ∃ o, H a = some o ∧ Mut (some o) := by
  obtain ⟨i, e⟩ := List.mem_iff_getElem?.mp m
  obtain ⟨o, _, q⟩ := r.ob i a e
  cases o with
  | lst ds => obtain ⟨vs, e, _⟩ := q; exact ⟨_, e, True.intro⟩
  | dct nks ks vs => obtain ⟨es, e, _⟩ := q; exact ⟨_, e, True.intro⟩
  | lam _ _ => exact q.elim
  | exo _ _ => exact q.elim
theorem HR.some_at (r : HR C L μ H h) {i : Nat} {a : Addr} (e : μ[i]? = some a) : ∃ u, H a = some u := let ⟨o, q, _⟩ := r.mut (List.mem_of_getElem? e); ⟨o, q⟩
/-- new objects alone -/
theorem Go.same (r : HR C L μ H h) (s : Same H H') (d : ∀ a, H' a = none → H a = none) : Go L μ H μ H' := ⟨fun i _ a e => by obtain ⟨u, q⟩ := r.some_at e; rw [q, s _ _ q], fun a o e _ => s _ _ e, d, ⟨[], (List.append_nil _).symm⟩, fun _ m => .inl m⟩
theorem HR.not_mem (r : HR C L μ H h) {a : Addr} {o : HO} (e : H a = some o) (nm : ¬ Mut (some o)) : a ∉ μ := fun m => by
  obtain ⟨u, e2, q⟩ := r.mut m
  rw [e] at e2; cases e2
  exact nm q
/-- what is immutable stays -/
structure Stay (μ : Mu) (H : Hp) (μ' : Mu) (H' : Hp) : Prop where
  b : ∀ (i : Nat) (a : Addr), μ[i]? = some a → μ'[i]? = some a
  t : ∀ a xs, H a = some (.tup xs) → H' a = some (.tup xs)
  f : ∀ a o u, H a = some (.frz o u) → H' a = some (.frz o u)
theorem Stay.refl : Stay μ H μ H := ⟨fun _ _ e => e, fun _ _ e => e, fun _ _ _ e => e⟩
theorem Stay.trans (s : Stay μ H μ1 H1) (s2 : Stay μ1 H1 μ2 H2) : Stay μ H μ2 H2 := ⟨fun i a e => s2.b i a (s.b i a e), fun a xs e => s2.t a xs (s.t a xs e), fun a o u e => s2.f a o u (s.f a o u e)⟩
theorem Go.stay (r : HR C L μ H h) (g : Go L μ H μ' H') : Stay μ H μ' H' :=
  ⟨fun i a e => g.at_ e, fun a xs e => g.keep a _ e (r.not_mem e fun q => q), fun a o u e => g.keep a _ e (r.not_mem e fun q => q)⟩
theorem Same.stay (s : Same H H') : Stay μ H μ H' := ⟨fun _ _ e => e, fun a xs e => s _ _ e, fun a o u e => s _ _ e⟩
theorem Stay.tupAt {K : PySem.W.Frag} (s : Stay μ H μ' H') {a : Addr} {vs : List V} (h : TupAt K H a vs) : TupAt K H' a vs := by
  rcases h with h | h
  · exact .inl (s.t _ _ h)
  · exact .inr h
theorem Stay.scr {K : PySem.W.Frag} (s : Stay μ H μ' H') {a : Addr} {vs : List V} (h : ScrAt K H a vs) : ScrAt K H' a vs := by
  rcases h with ⟨o, h⟩ | h
  · exact .inl ⟨o, s.f _ _ _ h⟩
  · exact .inr h
mutual
theorem RepV.stay (s : Stay μ H μ' H') : ∀ (d : D) (v : V), RepV C μ H d v → RepV C μ' H' d v
  | .non, _, h => h
  | .bl _, _, h => h
  | .int _, _, h => h
  | .str _, _, h => h
  | .gl _, _, h => h
  | .ty _, _, h => h
  | .tup ds, _, ⟨a, vs, e, q, r⟩ => ⟨a, vs, e, s.tupAt q, RepL.stay s ds vs r⟩
  | .scr ds, _, ⟨a, vs, e, q, r⟩ => ⟨a, vs, e, s.scr q, RepL.stay s ds vs r⟩
  | .box n, _, ⟨a, e, q⟩ => ⟨a, e, s.b _ _ q⟩
theorem RepL.stay (s : Stay μ H μ' H') : ∀ (ds : List D) (vs : List V), RepL C μ H ds vs → RepL C μ' H' ds vs
  | [], _, h => h
  | d :: ds, _, ⟨v, r, e, h1, h2⟩ => ⟨v, r, e, RepV.stay s d v h1, RepL.stay s ds r h2⟩
end
theorem RepV.go {d : D} {v : V} (q : RepV C μ H d v) (r : HR C L μ H h) (g : Go L μ H μ' H') : RepV C μ' H' d v := q.stay (g.stay r)
theorem RepL.go {d : List D} {v : List V} (q : RepL C μ H d v) (r : HR C L μ H h) (g : Go L μ H μ' H') : RepL C μ' H' d v := q.stay (g.stay r)
theorem RepL.length : ∀ {ds : List D} {vs : List V}, RepL C μ H ds vs → vs.length = ds.length
  | [], _, h => by rw [show _ = [] from h]; rfl
  | d :: ds, _, ⟨v, r, e, h1, h2⟩ => by rw [e, List.length_cons, List.length_cons, RepL.length h2]
theorem RepL.get : ∀ {ds : List D} {vs : List V} {i : Nat} {d : D}, RepL C μ H ds vs → ds[i]? = some d → ∃ v, vs[i]? = some v ∧ RepV C μ H d v
  | [], _, _, _, _, e => by simp at e
  | d :: ds, _, 0, _, ⟨v, r, e, h1, h2⟩, q => by simp at q; subst q; subst e; exact ⟨v, rfl, h1⟩
  | d :: ds, _, i + 1, _, ⟨v, r, e, h1, h2⟩, q => by
    subst e
    obtain ⟨u, a, b⟩ := RepL.get (i := i) h2 (by simpa using q)
    exact ⟨u, by simpa using a, b⟩
theorem RepL.append : ∀ {ds es : List D} {vs us : List V}, RepL C μ H ds vs → RepL C μ H es us → RepL C μ H (ds ++ es) (vs ++ us)
  | [], _, _, _, h, g => by rw [show _ = [] from h]; exact g
  | d :: ds, _, _, _, ⟨v, r, e, h1, h2⟩, g => by subst e; exact ⟨v, _, rfl, h1, RepL.append h2 g⟩
theorem RepL.set : ∀ {ds : List D} {vs : List V} {d : D} {v : V} (i : Nat), RepL C μ H ds vs → RepV C μ H d v → RepL C μ H (ds.set i d) (vs.set i v)
  | [], _, _, _, _, h, _ => by rw [show _ = [] from h]; rfl
  | d :: ds, _, _, _, 0, ⟨v, r, e, h1, h2⟩, g => by subst e; exact ⟨_, _, rfl, g, h2⟩
  | d :: ds, _, _, _, i + 1, ⟨v, r, e, h1, h2⟩, g => by subst e; exact ⟨v, _, rfl, h1, RepL.set i h2 g⟩
theorem RepL.drop : ∀ {ds : List D} {vs : List V} (i : Nat), RepL C μ H ds vs → RepL C μ H (ds.drop i) (vs.drop i)
  | _, _, 0, h => h
  | [], _, i + 1, h => by rw [show _ = [] from h]; rfl
  | d :: ds, _, i + 1, ⟨v, r, e, h1, h2⟩ => by subst e; exact RepL.drop i h2
theorem RepL.take : ∀ {ds : List D} {vs : List V} (i : Nat), RepL C μ H ds vs → RepL C μ H (ds.take i) (vs.take i)
  | _, _, 0, h => rfl
  | [], _, i + 1, h => by rw [show _ = [] from h]; rfl
  | d :: ds, _, i + 1, ⟨v, r, e, h1, h2⟩ => by subst e; exact ⟨v, _, rfl, h1, RepL.take i h2⟩
theorem RepL.eraseIdx : ∀ {ds : List D} {vs : List V} (i : Nat), RepL C μ H ds vs → RepL C μ H (ds.eraseIdx i) (vs.eraseIdx i)
  | [], _, _, h => by rw [show _ = [] from h]; rfl
  | d :: ds, _, 0, ⟨v, r, e, h1, h2⟩ => by subst e; exact h2
  | d :: ds, _, i + 1, ⟨v, r, e, h1, h2⟩ => by subst e; exact ⟨v, _, rfl, h1, RepL.eraseIdx i h2⟩
theorem RepL.nil_iff {ds : List D} {vs : List V} (h : RepL C μ H ds vs) : vs = [] ↔ ds = [] := by
  cases ds with
  | nil => exact ⟨fun _ => rfl, fun _ => h⟩
  | cons d ds => obtain ⟨v, r, rfl, _⟩ := h; exact ⟨fun e => (nomatch e), fun e => (nomatch e)⟩
theorem RepL.rev : ∀ {ds : List D} {vs : List V}, RepL C μ H ds vs → RepL C μ H ds.reverse vs.reverse
  | [], _, h => by rw [show _ = [] from h]; rfl
  | d :: ds, _, ⟨v, r, e, h1, h2⟩ => by
    subst e
    rw [List.reverse_cons, List.reverse_cons]
    exact (RepL.rev h2).append ⟨v, [], rfl, h1, rfl⟩
theorem ObR.stay {a : Addr} {o : O} (s : Stay μ H μ' H') (q : ObR C μ H a o) (e : H' a = H a) : ObR C μ' H' a o := by
  cases o with
  | lst ds => obtain ⟨vs, e1, r⟩ := q; exact ⟨vs, e.trans e1, r.stay s⟩
  | dct nks ks vs => obtain ⟨es, e1, k1, k2, r1, r2⟩ := q; exact ⟨es, e.trans e1, k1, k2, r1.stay s, r2.stay s⟩
  | lam _ _ => exact q.elim
  | exo _ _ => exact q.elim
theorem ObR.there {a : Addr} {o : O} (q : ObR C μ H a o) : ∃ u, H a = some u ∧ Mut (some u) := by
  cases o with
  | lst ds => obtain ⟨vs, e, _⟩ := q; exact ⟨_, e, True.intro⟩
  | dct nks ks vs => obtain ⟨es, e, _⟩ := q; exact ⟨_, e, True.intro⟩
  | lam _ _ => exact q.elim
  | exo _ _ => exact q.elim
/-- new objects alone, none of them a box -/
theorem HR.same (r : HR C L μ H h) (s : Same H H') : HR C L μ H' h :=
  ⟨r.lk, r.len, r.nd, fun i a e => let ⟨o, e1, q⟩ := r.ob i a e; ⟨o, e1, q.stay (Same.stay s) (by obtain ⟨u, e2, _⟩ := q.there; rw [e2, s _ _ e2])⟩⟩
/-- a new box -/
theorem HR.new {a : Addr} {o : O} (r : HR C L μ H h) (s : Same H H') (d : ∀ b, H' b = none → H b = none) (ha : H a = none) (q : ObR C (μ ++ [a]) H' a o) (e : h.new o = some h') : HR C L (μ ++ [a]) H' h' ∧ Go L μ H (μ ++ [a]) H' := by
  have na : a ∉ μ := fun m => by obtain ⟨u, e2, _⟩ := r.mut m; rw [ha] at e2; cases e2
  have st : Stay μ H (μ ++ [a]) H' := ⟨fun i b e => by rw [List.getElem?_append_left (List.getElem?_eq_some_iff.mp e).1]; exact e, fun _ _ e => s _ _ e, fun _ _ _ e => s _ _ e⟩
  refine ⟨⟨(Hs.new_lk e).trans r.lk, by rw [List.length_append, r.len, Hs.new_n e]; rfl, ?_, fun i b eb => ?_⟩, fun i _ b eb => by obtain ⟨u, q⟩ := r.some_at eb; rw [q, s _ _ q], fun b u eb _ => s _ _ eb, d, ⟨[a], rfl⟩, fun b m => ?_⟩
  · rw [List.nodup_append]
    exact ⟨r.nd, by simp, fun x hx y hy => by rw [List.mem_singleton] at hy; subst hy; exact fun z => na (z ▸ hx)⟩
  · rw [Hs.new_get e]
    by_cases hi : i = h.n
    · subst hi
      rw [if_pos rfl]
      rw [← r.len, List.getElem?_append_right (Nat.le_refl _)] at eb
      simp at eb; subst eb
      exact ⟨o, rfl, q⟩
    · rw [if_neg hi]
      have hl := (List.getElem?_eq_some_iff.mp eb).1
      rw [List.length_append, List.length_singleton, r.len] at hl
      rw [List.getElem?_append_left (by rw [r.len]; omega)] at eb
      obtain ⟨u, e1, q1⟩ := r.ob i b eb
      exact ⟨u, e1, q1.stay st (by obtain ⟨y, e2, _⟩ := q1.there; rw [e2, s _ _ e2])⟩
  · rcases List.mem_append.mp m with m | m
    · exact .inl m
    · rw [List.mem_singleton] at m; subst m; exact .inr ha
/-- a box changed -/
theorem HR.set {a : Addr} {o : O} {i : Nat} (r : HR C L μ H h) (ha : μ[i]? = some a) (hb : ∀ b, b ≠ a → H' b = H b) (hs : ∃ u, H' a = some u) (q : ObR C μ H' a o) (e : h.set i o = some h') : HR C L μ H' h' ∧ Go L μ H μ H' := by
  have ma : a ∈ μ := List.mem_of_getElem? ha
  have st : Stay μ H μ H' := ⟨fun _ _ e => e, fun b xs e => by rw [hb b fun z => r.not_mem e (fun q => q) (z ▸ ma)]; exact e, fun b u v e => by rw [hb b fun z => r.not_mem e (fun q => q) (z ▸ ma)]; exact e⟩
  obtain ⟨nl, el, en, eg⟩ := Hs.set_ok e
  have na : ∀ j b, μ[j]? = some b → j ≠ i → b ≠ a := fun j b eb hj z => by
    subst z
    exact hj ((List.getElem?_inj (List.getElem?_eq_some_iff.mp eb).1 r.nd).mp (eb.trans ha.symm))
  refine ⟨⟨el.trans r.lk, by rw [r.len, en], r.nd, fun j b eb => ?_⟩, fun j m b eb => hb b (na j b eb fun z => nl (by rw [r.lk]; exact z ▸ m)), fun b u eb nb => by rw [hb b fun z => nb (z ▸ ma)]; exact eb, fun b eb => ?_, ⟨[], (List.append_nil _).symm⟩, fun _ m => .inl m⟩
  · rw [eg]
    by_cases hj : j = i
    · subst hj
      rw [if_pos rfl]
      rw [ha] at eb; cases eb
      exact ⟨o, rfl, q⟩
    · rw [if_neg hj]
      have nb : b ≠ a := na j b eb hj
      obtain ⟨u, e1, q1⟩ := r.ob j b eb
      exact ⟨u, e1, q1.stay st (hb b nb)⟩
  · by_cases z : b = a
    · subst z; obtain ⟨u, e2⟩ := hs; rw [e2] at eb; cases eb
    · rw [← hb b z]; exact eb
end

/-! ### the frame -/
abbrev En := List (Option D)
structure Rel (C : Ct) (L : List Nat) (ρ : En) (σ : L2.St) (μ : Mu) (H : Hp) (h : Hs) : Prop where
  len : ρ.length = σ.length
  val : ∀ (i : Nat) (d : D), ρ[i]? = some (some d) → ∃ v, σ[i]? = some (some v) ∧ RepV C μ H d v
  hr : HR C L μ H h
section
variable {C : Ct} {L : List Nat} {ρ : En} {σ : L2.St} {μ μ' : Mu} {H H' : Hp} {h h' : Hs}
theorem Rel.go (r : Rel C L ρ σ μ H h) (g : Go L μ H μ' H') (r' : HR C L μ' H' h') : Rel C L ρ σ μ' H' h' :=
  ⟨r.len, fun i d e => let ⟨v, a, b⟩ := r.val i d e; ⟨v, a, b.go r.hr g⟩, r'⟩
theorem Rel.set (r : Rel C L ρ σ μ H h) {i : Nat} {d : D} {x : V} (q : RepV C μ H d x) : Rel C L (ρ.set i (some d)) (σ.set i (some x)) μ H h := by
  refine ⟨by rw [List.length_set, List.length_set]; exact r.len, fun j e ej => ?_, r.hr⟩
  by_cases hj : i = j
  · subst hj
    have hl : i < ρ.length := by
      have := (List.getElem?_eq_some_iff.mp ej).1
      rwa [List.length_set] at this
    rw [List.getElem?_set_self hl] at ej; cases ej
    exact ⟨x, List.getElem?_set_self (r.len ▸ hl), q⟩
  · rw [List.getElem?_set_ne hj] at ej ⊢
    exact r.val j e ej
end
end Rh

set_option Elab.async false
set_option linter.all false
set_option maxRecDepth 100000
set_option autoImplicit false
namespace Rh
open PySem PySem.Spec PyProof.Rows L2

abbrev ctX (X : Cx) : Ct := ⟨X.w, X.K, X.mg⟩
inductive R (α : Type) where
  | ok (a : α) (h : Hs)
  | ex (c : Str) (fs : List (Str × D)) (h : Hs)
abbrev M (α : Type) := En → Hs → Option (R α)
def mPure {α : Type} (a : α) : M α := fun _ h => some (.ok a h)
def mBind {α β : Type} (m : M α) (g : α → M β) : M β := fun ρ h => match m ρ h with
  | none => none
  | some (.ok a h1) => g a ρ h1
  | some (.ex c fs h1) => some (.ex c fs h1)
/-- an exception -/
def RepX (C : Ct) (μ : Mu) (H : Hp) (c : Str) (fs : List (Str × D)) (cls : Value) (d : Option Addr) : Prop :=
  (∃ a, C.mg c = some (.ref a) ∧ cls = .ref a) ∧ match fs with
    | [] => d = none
    | fs => ∃ dx vs, d = some dx ∧ H dx = some (.xd vs) ∧ vs.map (·.1) = fs.map (·.1) ∧ RepL C μ H (fs.map (·.2)) (vs.map (·.2))
section
variable (X : Cx) (W : WX)
def Sat {α : Type} (L : List Nat) (σ : L2.St) (μ : Mu) (H : Hp) (o : Option (R α)) (P : α → Hs → Mu → Hp → Prop) : Prop := match o with
  | none => False
  | some (.ok a h') => ∀ μ' H', Go L μ H μ' H' → HR (ctX X) L μ' H' h' → P a h' μ' H'
  | some (.ex c fs h') => ∀ cls d μ' H', Go L μ H μ' H' → HR (ctX X) L μ' H' h' → RepX (ctX X) μ' H' c fs cls d → W cls d σ H'
/-- a mirror's reading, from some frame and boxes -/
def rdG {α : Type} (m : M α) (σ : L2.St) (H : Hp) (P : En → List Nat → α → Hs → Mu → Hp → Prop) : Prop := ∃ ρ L μ h, Rel (ctX X) L ρ σ μ H h ∧ Sat X W L σ μ H (m ρ h) (P ρ L)
def rd (m : M D) : TE := fun σ H Q => rdG X W m σ H fun _ _ d _ μ' H' => ∀ x, RepV (ctX X) μ' H' d x → Q x H'
def rdA (m : M (List D)) : TA := fun σ H Q => rdG X W m σ H fun _ _ ds _ μ' H' => ∀ xs, RepL (ctX X) μ' H' ds xs → Q xs H'
def rdT (m : M Bool) : TT := fun σ H Q => rdG X W m σ H fun _ _ b _ _ H' => Q b H'
end
section
variable {X : Cx} {W : WX} {L : List Nat} {ρ : En} {σ : L2.St} {H H' H1 H2 : Hp} {μ μ' μ1 μ2 : Mu} {h h' h1 h2 : Hs}
theorem Sat.none {α : Type} {P : α → Hs → Mu → Hp → Prop} (q : Sat X W L σ μ H none P) {C : Prop} : C := False.elim q
/-- sequence, the later part in a later state -/
theorem Sat.bind {α β : Type} {m : M α} {g : α → M β} {P : β → Hs → Mu → Hp → Prop} (r : Rel (ctX X) L ρ σ μ H h) (q : Sat X W L σ μ H (mBind m g ρ h) P) :
    Sat X W L σ μ H (m ρ h) fun a h1 μ1 H1 => Go L μ H μ1 H1 ∧ Rel (ctX X) L ρ σ μ1 H1 h1 ∧ Sat X W L σ μ1 H1 (g a ρ h1) P := by
  unfold mBind at q
  cases e : m ρ h with
  | none => rw [e] at q; exact q.none
  | some o =>
    rw [e] at q
    cases o with
    | ex c fs ρ1 => exact q
    | ok a h1 =>
      intro μ1 H1 g1 r1
      have q : Sat X W L σ μ H (g a ρ h1) P := q
      refine ⟨g1, r.go g1 r1, ?_⟩
      cases e2 : g a ρ h1 with
      | none => rw [e2] at q; exact q.none
      | some o =>
        rw [e2] at q
        cases o with
        | ok b h2 => exact fun μ2 H2 g2 r2 => q μ2 H2 (g1.trans g2) r2
        | ex c fs h2 => exact fun cls d μ2 H2 g2 r2 x => q cls d μ2 H2 (g1.trans g2) r2 x
theorem Sat.imp {α : Type} {o : Option (R α)} {P P' : α → Hs → Mu → Hp → Prop} (q : Sat X W L σ μ H o P) (k : ∀ a h' μ' H', Go L μ H μ' H' → HR (ctX X) L μ' H' h' → P a h' μ' H' → P' a h' μ' H') : Sat X W L σ μ H o P' := by
  cases o with
  | none => exact q.none
  | some o =>
    cases o with
    | ok a h1 => exact fun μ1 H1 g r => k _ _ _ _ g r (q μ1 H1 g r)
    | ex c fs ρ1 => exact q
theorem Sat.start {α : Type} {o : Option (R α)} {P : α → Hs → Mu → Hp → Prop} (q : Sat X W L σ μ H o P) (g : Go L μ H μ1 H1) : Sat X W L σ μ1 H1 o P := by
  cases o with
  | none => exact q.none
  | some o =>
    cases o with
    | ok a h1 => exact fun μ2 H2 g2 r => q μ2 H2 (g.trans g2) r
    | ex c fs h1 => exact fun cls d μ2 H2 g2 r x => q cls d μ2 H2 (g.trans g2) r x
theorem rdG_bind {α β : Type} {m : M α} {g : α → M β} {P : En → List Nat → β → Hs → Mu → Hp → Prop} (q : rdG X W (mBind m g) σ H P) :
    rdG X W m σ H fun ρ L a h1 μ1 H1 => Rel (ctX X) L ρ σ μ1 H1 h1 ∧ Sat X W L σ μ1 H1 (g a ρ h1) (P ρ L) := by
  obtain ⟨ρ, L, μ, h, rel, q⟩ := q
  exact ⟨ρ, L, μ, h, rel, (q.bind rel).imp fun a h1 μ1 H1 _ _ p => p.2⟩
theorem rdG_imp {α : Type} {m : M α} {P P' : En → List Nat → α → Hs → Mu → Hp → Prop} (q : rdG X W m σ H P) (k : ∀ ρ L a h' μ' H', P ρ L a h' μ' H' → P' ρ L a h' μ' H') : rdG X W m σ H P' := by
  obtain ⟨ρ, L, μ, h, rel, q⟩ := q
  exact ⟨ρ, L, μ, h, rel, q.imp fun a h1 μ1 H1 _ _ p => k _ _ _ _ _ _ p⟩
theorem rdG_pure {α : Type} {a : α} {P : En → List Nat → α → Hs → Mu → Hp → Prop} (q : rdG X W (mPure a) σ H P) : ∃ ρ L μ h, Rel (ctX X) L ρ σ μ H h ∧ P ρ L a h μ H := by
  obtain ⟨ρ, L, μ, h, rel, q⟩ := q
  exact ⟨ρ, L, μ, h, rel, q μ H .refl rel.hr⟩
end

/-! ### values from values -/
/-- a value, or what a new box holds -/
inductive Nv where | v (d : D) | n (o : O)
def Nv.lift (n : Nv) (h : Hs) : Option (R D) := match n with
  | .v d => some (.ok d h)
  | .n o => match h.new o with
    | some h' => some (.ok (.box h.n) h')
    | none => none
def RepN (C : Ct) (μ : Mu) (H H' : Hp) (n : Nv) (x : V) : Prop := match n with
  | .v d => RepV C μ H' d x
  | .n o => ∃ a, x = .ref a ∧ H a = none ∧ ∀ r, ObR C (μ ++ r) H' a o
/-- what is wanted of a value rule: new objects alone -/
abbrev Want (C : Ct) (μ : Mu) (H : Hp) (n : Nv) (Q : VK) : Prop := ∀ x H', Same H H' → (∀ a, H' a = none → H a = none) → RepN C μ H H' n x → Q x H'
def Cov2 (C : Ct) (r : R2) (f : Hs → D → D → Option Nv) : Prop := ∀ (H : Hp) (L : List Nat) (μ : Mu) (h : Hs) (x y : V) (d e : D) (n : Nv) (Q : VK), HR C L μ H h → RepV C μ H d x → RepV C μ H e y → f h d e = some n → Want C μ H n Q → r x y H Q
def Cov1 (C : Ct) (r : V → Hp → VK → Prop) (f : Hs → D → Option Nv) : Prop := ∀ (H : Hp) (L : List Nat) (μ : Mu) (h : Hs) (x : V) (d : D) (n : Nv) (Q : VK), HR C L μ H h → RepV C μ H d x → f h d = some n → Want C μ H n Q → r x H Q
def CovA (C : Ct) (r : List V → Hp → VK → Prop) (f : Hs → List D → Option Nv) : Prop := ∀ (H : Hp) (L : List Nat) (μ : Mu) (h : Hs) (xs : List V) (ds : List D) (n : Nv) (Q : VK), HR C L μ H h → RepL C μ H ds xs → f h ds = some n → Want C μ H n Q → r xs H Q
def lift (h : Hs) (o : Option Nv) : Option (R D) := match o with
  | none => none
  | some n => n.lift h
def mOp2 (f : Hs → D → D → Option Nv) (a b : M D) : M D := mBind a fun x => mBind b fun y => fun _ h => lift h (f h x y)
def mOp1 (f : Hs → D → Option Nv) (a : M D) : M D := mBind a fun x => fun _ h => lift h (f h x)
def mOpA (f : Hs → List D → Option Nv) (a : M (List D)) : M D := mBind a fun xs => fun _ h => lift h (f h xs)
section
variable {X : Cx} {W : WX} {L : List Nat} {ρ : En} {σ : L2.St} {H H' H1 H2 : Hp} {μ μ' μ1 μ2 : Mu} {h h' h1 h2 : Hs} {Q : VK}
/-- the end of a value rule -/
theorem Sat.lift {n : Option Nv} (r : HR (ctX X) L μ H h) (q : Sat X W L σ μ H (lift h n) fun d h' μ' H' => ∀ x, RepV (ctX X) μ' H' d x → Q x H') : ∃ m, n = some m ∧ Want (ctX X) μ H m Q := by
  cases n with
  | none => exact q.none
  | some m =>
    refine ⟨m, rfl, fun x H' s dm rn => ?_⟩
    cases m with
    | v d => exact q μ H' (.same r s dm) (r.same s) x rn
    | n o =>
      obtain ⟨a, rfl, ha, ob⟩ := rn
      have q : Sat X W L σ μ H ((Nv.n o).lift h) fun d h' μ' H' => ∀ x, RepV (ctX X) μ' H' d x → Q x H' := q
      unfold Nv.lift at q
      cases e : h.new o with
      | none => simp only [e] at q; exact q.none
      | some h' =>
        simp only [e] at q
        obtain ⟨r', g⟩ := r.new s dm ha (ob [a]) e
        refine q _ H' g r' (.ref a) ⟨a, rfl, ?_⟩
        rw [← r.len, List.getElem?_append_right (Nat.le_refl _)]
        simp
theorem rd_op2 {r : R2} {f : Hs → D → D → Option Nv} {a b : M D} (c : Cov2 (ctX X) r f) (q : rd X W (mOp2 f a b) σ H Q) : tOp r (rd X W a) (rd X W b) σ H Q := by
  obtain ⟨ρ, L, μ, h, rel, q⟩ := q
  refine ⟨ρ, L, μ, h, rel, (q.bind rel).imp fun x h1 μ1 H1 g1 _ ⟨_, rel1, q1⟩ vx rx => ⟨ρ, L, μ1, h1, rel1, (q1.bind rel1).imp fun y h2 μ2 H2 g2 _ ⟨_, rel2, q2⟩ vy ry => ?_⟩⟩
  obtain ⟨n, en, want⟩ := Sat.lift rel2.hr q2
  exact c _ _ _ _ _ _ _ _ _ _ rel2.hr (rx.go rel1.hr g2) ry en want
theorem rd_op1 {r : V → Hp → VK → Prop} {f : Hs → D → Option Nv} {a : M D} (c : Cov1 (ctX X) r f) (q : rd X W (mOp1 f a) σ H Q) : tUn r (rd X W a) σ H Q := by
  obtain ⟨ρ, L, μ, h, rel, q⟩ := q
  refine ⟨ρ, L, μ, h, rel, (q.bind rel).imp fun x h1 μ1 H1 g1 _ ⟨_, rel1, q1⟩ vx rx => ?_⟩
  obtain ⟨n, en, want⟩ := Sat.lift rel1.hr q1
  exact c _ _ _ _ _ _ _ _ rel1.hr rx en want
theorem rd_opA {r : List V → Hp → VK → Prop} {f : Hs → List D → Option Nv} {a : M (List D)} (c : CovA (ctX X) r f) (q : rd X W (mOpA f a) σ H Q) : tCB r (rdA X W a) σ H Q := by
  obtain ⟨ρ, L, μ, h, rel, q⟩ := q
  refine ⟨ρ, L, μ, h, rel, (q.bind rel).imp fun x h1 μ1 H1 g1 _ ⟨_, rel1, q1⟩ vx rx => ?_⟩
  obtain ⟨n, en, want⟩ := Sat.lift rel1.hr q1
  exact c _ _ _ _ _ _ _ _ rel1.hr rx en want

/-! ### expressions -/
theorem pe_imp {e : Expr} {t t' : TE} (p : PE X e t) (h : ∀ σ H Q, t' σ H Q → t σ H Q) : PE X e t' := ⟨fun pins s σ H Q I q => p.run pins s σ H Q I (h _ _ _ q)⟩
theorem pt_imp {e : Expr} {t t' : TT} (p : PT X e t) (h : ∀ σ H Q, t' σ H Q → t σ H Q) : PT X e t' := ⟨fun pins s σ H Q I q => p.run pins s σ H Q I (h _ _ _ q)⟩
theorem pw_imp {e : Expr} {t t' : TT} (p : PW X e t) (h : ∀ σ H Q, t' σ H Q → t σ H Q) : PW X e t' := ⟨fun wh pins s σ H Q I q => p.run wh pins s σ H Q I (h _ _ _ q)⟩
theorem pa_imp {e : List Expr} {t t' : TA} (p : PA X e t) (h : ∀ σ H Q, t' σ H Q → t σ H Q) : PA X e t' := ⟨fun pos pins s σ H Q I q => p.run pos pins s σ H Q I (h _ _ _ q)⟩
theorem ps_imp {e : Stmt} {t t' : TS} (p : PS X e t) (h : ∀ D σ H, t' D σ H → t D σ H) : PS X e t' := ⟨fun pins s σ H D I q => p.run pins s σ H D I (h _ _ _ q)⟩
theorem pss_imp {e : List Stmt} {t t' : TS} (p : PSs X e t) (h : ∀ D σ H, t' D σ H → t D σ H) : PSs X e t' := ⟨fun pins s σ H D I q => p.run pins s σ H D I (h _ _ _ q)⟩
theorem pi_imp {tg e : Expr} {t t' : TI} (p : PI X tg e t) (h : ∀ σ H Q, t' σ H Q → t σ H Q) : PI X tg e t' := ⟨fun pins s σ H Q I q => p.run pins s σ H Q I (h _ _ _ q)⟩
theorem pg_imp {e : Expr} {t t' : TG} (p : PG X e t) (h : ∀ v σ H Q, t' v σ H Q → t v σ H Q) : PG X e t' := ⟨fun pins s σ H v u Q I r q => p.run pins s σ H v u Q I r (h _ _ _ _ q)⟩
theorem pgs_imp {e : List Expr} {t t' : TGs} (p : PGs X e t) (h : ∀ v σ H Q, t' v σ H Q → t v σ H Q) : PGs X e t' := ⟨fun pins s σ H v u Q I r q => p.run pins s σ H v u Q I r (h _ _ _ _ q)⟩

def mVar (i : Nat) : M D := fun ρ h => match ρ[i]? with
  | some (some d) => some (.ok d h)
  | _ => none
def mCon (d : D) : M D := mPure d
theorem e_var {i : Nat} {x : Str} {pos : Pos} (hN : X.N[i]? = some x) (hv : Vis X.env.scope x) (hd : (x == ("__debug__" : Str)) = false := by decide) (hcd : (x == ("__classdict__" : Str)) = false := by decide) : PE X (.Name x pos) (rd X W (mVar i)) := by
  refine pe_imp (pe_var hN hv hd hcd) fun σ H Q ⟨ρ, L, μ, h, rel, q⟩ => ?_
  unfold mVar at q
  cases e : ρ[i]? with
  | none => rw [e] at q; exact q.none
  | some o =>
    cases o with
    | none => rw [e] at q; exact q.none
    | some d =>
      rw [e] at q
      obtain ⟨y, e1, ry⟩ := rel.val i d e
      exact ⟨y, e1, q μ H .refl rel.hr y ry⟩
theorem rd_con {d : D} {v : V} (hv : ∀ μ H, RepV (ctX X) μ H d v) (q : rd X W (mCon d) σ H Q) : Q v H := by
  obtain ⟨ρ, L, μ, h, rel, q⟩ := rdG_pure q
  exact q v (hv _ _)
theorem e_int {i : Int} {j} {pos : Pos} : PE X (.Constant (.int i) j pos) (rd X W (mCon (.int i))) := pe_imp pe_int fun _ _ _ q => rd_con (d := .int i) (fun _ _ => rfl) q
theorem e_bl {b : Bool} {j} {pos : Pos} : PE X (.Constant (.bool b) j pos) (rd X W (mCon (.bl b))) := pe_imp pe_bl fun _ _ _ q => rd_con (d := .bl b) (fun _ _ => rfl) q
theorem e_non {j} {pos : Pos} : PE X (.Constant .none j pos) (rd X W (mCon .non)) := pe_imp pe_non fun _ _ _ q => rd_con (d := .non) (fun _ _ => rfl) q
theorem e_str {x : Str} {j} {pos : Pos} : PE X (.Constant (.str x) j pos) (rd X W (mCon (.str x))) := pe_imp pe_str fun _ _ _ q => rd_con (d := .str x) (fun _ _ => rfl) q
theorem e_ty {x : Str} {n : Ty} {pos : Pos} (hg : Gl X x) (hm : X.mg x = none) (hv : bootBuiltins x = some (.type n.name)) (hn : x ≠ "__name__" := by decide) (hd : (x == ("__debug__" : Str)) = false := by decide) : PE X (.Name x pos) (rd X W (mCon (.ty n))) :=
  pe_imp (pe_bltn (v := .ty n.name) hg hm hv rfl hn hd) fun _ _ _ q => rd_con (d := .ty n) (fun _ _ => rfl) q
theorem e_bin {op : Operator} {r : R2} {f : Hs → D → D → Option Nv} {a b : Expr} {ma mb : M D} {pos : Pos} (ho : OpR X (binaryOp op) r) (c : Cov2 (ctX X) r f) (ha : PE X a (rd X W ma)) (hb : PE X b (rd X W mb)) : PE X (.BinOp a op b pos) (rd X W (mOp2 f ma mb)) :=
  pe_imp (pe_op ho ha hb) fun _ _ _ q => rd_op2 c q
theorem e_cmp {op : CmpOp} {r : R2} {f : Hs → D → D → Option Nv} {a b : Expr} {ma mb : M D} {pos : Pos} (ho : OpR X (compareOp op) r) (c : Cov2 (ctX X) r f) (hm : behindInMarks op b = false) (ha : PE X a (rd X W ma)) (hb : PE X b (rd X W mb)) : PE X (.Compare a [op] [b] pos) (rd X W (mOp2 f ma mb)) :=
  pe_imp (pe_cmpR ho ha hb hm) fun _ _ _ q => rd_op2 c q
theorem e_un {op : UnaryOp} {r : V → Hp → VK → Prop} {f : Hs → D → Option Nv} {a : Expr} {ma : M D} {pos : Pos} (ho : UnR X (unaryOp op) r) (c : Cov1 (ctX X) r f) (ha : PE X a (rd X W ma)) : PE X (.UnaryOp op a pos) (rd X W (mOp1 f ma)) :=
  pe_imp (pe_un ho ha) fun _ _ _ q => rd_op1 c q
theorem e_ix {r : R2} {f : Hs → D → D → Option Nv} {a b : Expr} {ma mb : M D} {pos : Pos} (ho : IxR X r) (c : Cov2 (ctX X) r f) (ha : PE X a (rd X W ma)) (hb : PE X b (rd X W mb)) (hs : PlainIx b := by exact fun _ _ => rfl) : PE X (.Subscript a b pos) (rd X W (mOp2 f ma mb)) :=
  pe_imp (pe_ix ho ha hb hs) fun _ _ _ q => rd_op2 c q

/-! argument lists, displays -/
def mNil : M (List D) := mPure []
def mCons (a : M D) (r : M (List D)) : M (List D) := mBind a fun x => mBind r fun xs => mPure (x :: xs)
theorem a_nil : PA X [] (rdA X W mNil) := pa_imp pa_nil fun σ H Q q => let ⟨_, _, _, _, _, k⟩ := rdG_pure q; k [] rfl
theorem rd_cons {m : M D} {ms : M (List D)} {Q : List V → Hp → Prop} (q : rdA X W (mCons m ms) σ H Q) : rd X W m σ H fun x H1 => rdA X W ms σ H1 fun xs H2 => Q (x :: xs) H2 := by
  obtain ⟨ρ, L, μ, h, rel, q⟩ := q
  refine ⟨ρ, L, μ, h, rel, (q.bind rel).imp fun x h1 μ1 H1 g1 _ ⟨_, rel1, q1⟩ vx rx => ⟨ρ, L, μ1, h1, rel1, (q1.bind rel1).imp fun y h2 μ2 H2 g2 _ ⟨_, rel2, q2⟩ vy ry => ?_⟩⟩
  exact q2 μ2 H2 .refl rel2.hr (vx :: vy) ⟨vx, vy, rfl, rx.go rel1.hr g2, ry⟩
theorem a_cons {e : Expr} {es : List Expr} {m : M D} {ms : M (List D)} (ha : PE X e (rd X W m)) (hr : PA X es (rdA X W ms)) (hs : starEach (e :: es) X.env = (false, eval e X.env) :: starEach es X.env := by rfl) : PA X (e :: es) (rdA X W (mCons m ms)) :=
  pa_imp (pa_cons ha hr hs) fun σ H Q q => rd_cons q
theorem small6 {n : Nat} (h : n ≤ 1000000) : n ≤ sizeLine := by rw [sizeLine_eq]; omega
theorem small6' {n : Nat} (h : n < 1000000) : n < sizeLine := by rw [sizeLine_eq]; omega
theorem same_new {p : Addr} {o : HO} (h : H p = none) : Same H (upd H p o) ∧ ∀ a, upd H p o a = none → H a = none := by
  refine ⟨fun b x e => by rw [upd_ne (ne_of_none e h)]; exact e, fun a e => ?_⟩
  unfold upd at e
  split at e
  · cases e
  · exact e
theorem Want.old {C : Ct} {d : D} {x : V} (k : Want C μ H (.v d) Q) (r : RepV C μ H d x) : Q x H := k x H (fun _ _ e => e) (fun _ e => e) r
theorem Want.tup {C : Ct} {ds : List D} {vs : List V} {p : Addr} (k : Want C μ H (.v (.tup ds)) Q) (r : RepL C μ H ds vs) (hp : H p = none) : Q (.ref p) (upd H p (.tup vs)) := by
  obtain ⟨s, dm⟩ := same_new (o := .tup vs) hp
  exact k _ _ s dm ⟨p, vs, rfl, .inl upd_same, r.stay (Same.stay s)⟩
theorem stay_more {r : Mu} (s : Same H H') : Stay μ H (μ ++ r) H' := ⟨fun i a e => by rw [List.getElem?_append_left (List.getElem?_eq_some_iff.mp e).1]; exact e, fun a xs e => s _ _ e, fun a o u e => s _ _ e⟩
theorem Want.lst {C : Ct} {ds : List D} {vs : List V} {p : Addr} (k : Want C μ H (.n (.lst ds)) Q) (r : RepL C μ H ds vs) (hp : H p = none) : Q (.ref p) (upd H p (.lst vs)) := by
  obtain ⟨s, dm⟩ := same_new (o := .lst vs) hp
  exact k _ _ s dm ⟨p, rfl, hp, fun m => ⟨vs, upd_same, r.stay (stay_more s)⟩⟩
def mDisp (f : List D → Nv) (ms : M (List D)) : M D := mBind ms fun ds => fun _ h => if ds.length ≤ 1000000 then (f ds).lift h else none
theorem rd_disp {f : List D → Nv} {ms : M (List D)} {ts : List V → Hp → Prop} (q : rd X W (mDisp f ms) σ H Q)
    (k : ∀ ds vs μ1 H1, ds.length ≤ 1000000 → RepL (ctX X) μ1 H1 ds vs → Want (ctX X) μ1 H1 (f ds) Q → ts vs H1) : rdA X W ms σ H ts := by
  obtain ⟨ρ, L, μ, h, rel, q⟩ := q
  refine ⟨ρ, L, μ, h, rel, (q.bind rel).imp fun ds h1 μ1 H1 g1 _ ⟨_, rel1, q1⟩ vs rs => ?_⟩
  split at q1
  · rename_i hl
    obtain ⟨m, em, want⟩ := Sat.lift (n := some (f ds)) rel1.hr q1
    cases em
    exact k ds vs μ1 H1 hl rs want
  · exact q1.none
def mTup (ms : M (List D)) : M D := mDisp (fun ds => .v (.tup ds)) ms
def mLst (ms : M (List D)) : M D := mDisp (fun ds => .n (.lst ds)) ms
theorem e_tup {es : List Expr} {ms : M (List D)} {x1} {pos : Pos} (ha : PA X es (rdA X W ms)) : PE X (.Tuple es x1 pos) (rd X W (mTup ms)) :=
  pe_imp (pe_tup ha) fun σ H Q q => rd_disp q fun ds vs μ1 H1 hl rl want => ⟨by rw [rl.length]; exact small6 hl, fun p hp => want.tup rl hp⟩
theorem e_lst {es : List Expr} {ms : M (List D)} {pos : Pos} (ha : PA X es (rdA X W ms)) : PE X (.List es pos) (rd X W (mLst ms)) :=
  pe_imp (pe_lst ha) fun σ H Q q => rd_disp q fun ds vs μ1 H1 hl rl want => ⟨by rw [rl.length]; exact small6 hl, fun p hp => want.lst rl hp⟩
end
end Rh

set_option Elab.async false
set_option linter.all false
set_option maxRecDepth 100000
set_option maxHeartbeats 2000000
set_option autoImplicit false
namespace Rh
open PySem PySem.Spec PyProof.Rows L2

/-! ### boxes read -/
section
variable {C : Ct} {L : List Nat} {μ : Mu} {H : Hp} {h : Hs}
theorem HR.box (r : HR C L μ H h) {n : Nat} {x : V} (q : RepV C μ H (.box n) x) : ∃ a o, x = .ref a ∧ μ[n]? = some a ∧ h.get n = some o ∧ ObR C μ H a o := by
  obtain ⟨a, e, m⟩ := q
  obtain ⟨o, e1, e2⟩ := r.ob n a m
  exact ⟨a, o, e, m, e1, e2⟩
theorem HR.lst (r : HR C L μ H h) {n : Nat} {x : V} {ds : List D} (q : RepV C μ H (.box n) x) (e : h.get n = some (.lst ds)) : ∃ a vs, x = .ref a ∧ μ[n]? = some a ∧ H a = some (.lst vs) ∧ RepL C μ H ds vs := by
  obtain ⟨a, o, e1, m, e2, ob⟩ := r.box q
  rw [e] at e2; cases e2
  obtain ⟨vs, e3, rl⟩ := ob
  exact ⟨a, vs, e1, m, e3, rl⟩
theorem HR.dct (r : HR C L μ H h) {n : Nat} {x : V} {nks : List NestedKey} {ks vs : List D} (q : RepV C μ H (.box n) x) (e : h.get n = some (.dct nks ks vs)) :
    ∃ a es, x = .ref a ∧ μ[n]? = some a ∧ H a = some (DicO C.w a es) ∧ es.2.map (·.1) = nks ∧ keysD ks = some nks ∧ RepL C μ H ks (es.2.map (·.2.1)) ∧ RepL C μ H vs (es.2.map (·.2.2)) := by
  obtain ⟨a, o, e1, m, e2, ob⟩ := r.box q
  rw [e] at e2; cases e2
  obtain ⟨es, e3, k⟩ := ob
  exact ⟨a, es, e1, m, e3, k⟩
/-- a list's items, be it a box or the script -/
def lstD (h : Hs) : D → Option (List D)
  | .box n => match h.get n with
    | some (.lst ds) => some ds
    | _ => none
  | .scr ds => some ds
  | _ => none
theorem lstD_ok (r : HR C L μ H h) {d : D} {x : V} {ds : List D} (q : RepV C μ H d x) (e : lstD h d = some ds) : ∃ a vs, x = .ref a ∧ SqL C.K H a vs ∧ RepL C μ H ds vs := by
  unfold lstD at e
  split at e
  · rename_i n
    split at e
    · rename_i es e1
      cases e
      obtain ⟨a, vs, e2, _, e3, rl⟩ := r.lst q e1
      exact ⟨a, vs, e2, .inl (.inl e3), rl⟩
    · cases e
  · cases e
    obtain ⟨a, vs, e2, t, rl⟩ := (show RepV C μ H (.scr _) x from q)
    exact ⟨a, vs, e2, t.sqL, rl⟩
  · cases e
/-- what is a sequence -/
def seqD (h : Hs) (d : D) : Option (List D) := match d with
  | .tup ds => some ds
  | d => lstD h d
theorem seqD_ok (r : HR C L μ H h) {d : D} {x : V} {ds : List D} (q : RepV C μ H d x) (e : seqD h d = some ds) : ∃ p vs, x = .ref p ∧ (SqL C.K H p vs ∨ SqT C.K H p vs) ∧ RepL C μ H ds vs := by
  cases d with
  | tup es =>
    cases e
    obtain ⟨a, vs, rfl, t, q⟩ := (show RepV C μ H (.tup ds) x from q)
    exact ⟨a, vs, rfl, .inr t.sq, q⟩
  | _ => obtain ⟨a, vs, e1, e2, e3⟩ := lstD_ok r q e; exact ⟨a, vs, e1, .inl e2, e3⟩
end
/-! ### covers -/
section
variable {C : Ct} {L : List Nat}
theorem Cov2.or {r r' : R2} {f g : Hs → D → D → Option Nv} (c : Cov2 C r f) (c' : Cov2 C r' g) : Cov2 C (fun x y H Q => r x y H Q ∨ r' x y H Q) fun h d e => match f h d e with | some n => some n | none => g h d e := by
  intro H L μ h x y d e n Q hr r1 r2 hf want
  cases e1 : f h d e with
  | some m => simp only [e1] at hf; cases hf; exact .inl (c H L μ h x y d e _ Q hr r1 r2 e1 want)
  | none => simp only [e1] at hf; exact .inr (c' H L μ h x y d e _ Q hr r1 r2 hf want)
theorem CovA.or {r r' : List V → Hp → VK → Prop} {f g : Hs → List D → Option Nv} (c : CovA C r f) (c' : CovA C r' g) : CovA C (fun x H Q => r x H Q ∨ r' x H Q) fun h d => match f h d with | some n => some n | none => g h d := by
  intro H L μ h x d n Q hr r1 hf want
  cases e1 : f h d with
  | some m => simp only [e1] at hf; cases hf; exact .inl (c H L μ h x d _ Q hr r1 e1 want)
  | none => simp only [e1] at hf; exact .inr (c' H L μ h x d _ Q hr r1 hf want)
def flat0 : D → Option V
  | .non => some .non
  | .bl b => some (.bl b)
  | .int i => some (.int i)
  | .str x => some (.str x)
  | _ => none
theorem flat0_rep {μ : Mu} {H : Hp} {d : D} {v : V} (h : flat0 d = some v) : RepV C μ H d v := by
  cases d <;> simp only [flat0] at h <;> first | (cases h; done) | (cases h; rfl)
def dIntC (c : Int → Int → Bool) (g : Int → Int → D) (_ : Hs) (d e : D) : Option Nv := match d, e with
  | .int i, .int j => if c i j = true then some (.v (g i j)) else none
  | _, _ => none
theorem dIntC_some {c : Int → Int → Bool} {g : Int → Int → D} {h : Hs} {d e : D} {n : Nv} (q : dIntC c g h d e = some n) : ∃ i j, d = .int i ∧ e = .int j ∧ c i j = true ∧ n = .v (g i j) := by
  unfold dIntC at q
  split at q
  · split at q
    · exact ⟨_, _, rfl, rfl, by assumption, (Option.some.inj q).symm⟩
    · cases q
  · cases q
def dInt (g : Int → Int → D) : Hs → D → D → Option Nv := dIntC (fun _ _ => true) g
theorem cov_rI0 {gv : Int → Int → V} {g : Int → Int → D} (hg : ∀ i j, flat0 (g i j) = some (gv i j)) : Cov2 C (rI0 gv) (dInt g) := by
  intro H L μ h x y d e n Q hr r1 r2 hf want
  obtain ⟨i, j, rfl, rfl, _, rfl⟩ := dIntC_some hf
  exact ⟨i, j, r1, r2, want.old (flat0_rep (hg i j))⟩
theorem cov_rI {P : Int → Int → Prop} {c : Int → Int → Bool} {gv : Int → Int → V} {g : Int → Int → D} (hc : ∀ i j, c i j = true → P i j) (hg : ∀ i j, flat0 (g i j) = some (gv i j)) : Cov2 C (rI P gv) (dIntC c g) := by
  intro H L μ h x y d e n Q hr r1 r2 hf want
  obtain ⟨i, j, rfl, rfl, k, rfl⟩ := dIntC_some hf
  exact ⟨i, j, r1, r2, hc i j k, want.old (flat0_rep (hg i j))⟩
/-! tuples, lists -/
def dCatT (_ : Hs) (d e : D) : Option Nv := match d, e with
  | .tup a, .tup b => if a.length + b.length ≤ 1000000 then some (.v (.tup (a ++ b))) else none
  | _, _ => none
def dCatL (h : Hs) (d e : D) : Option Nv := match d, e with
  | .box n, .box m => (match h.get n, h.get m with
    | some (.lst a), some (.lst b) => if a.length + b.length ≤ 1000000 then some (.n (.lst (a ++ b))) else none
    | _, _ => none)
  | _, _ => none
theorem cov_catT : Cov2 C (rCatA C.K) dCatT := by
  intro H L μ h x y d e n Q hr r1 r2 hf want
  unfold dCatT at hf
  split at hf
  · rename_i a b
    split at hf
    · rename_i hl
      cases hf
      obtain ⟨p, vs, rfl, t1, q1⟩ := (show RepV C μ H (.tup a) x from r1)
      obtain ⟨p2, us, rfl, t2, q2⟩ := (show RepV C μ H (.tup b) y from r2)
      have l1 := q1.length
      have l2 := q2.length
      refine ⟨p, p2, vs, us, rfl, rfl, t1.sq, t2.sq, small6 (by omega), fun h => ?_, fun _ h => ?_, fun _ _ q hq => want.tup (q1.append q2) hq⟩
      · subst h
        have : a = [] := List.eq_nil_of_length_eq_zero l1.symm
        subst this
        exact want.old ⟨p2, us, rfl, t2, q2⟩
      · subst h
        have : b = [] := List.eq_nil_of_length_eq_zero l2.symm
        subst this
        rw [List.append_nil] at want
        exact want.old ⟨p, vs, rfl, t1, q1⟩
    · cases hf
  · cases hf
theorem cov_catL : Cov2 C rCat dCatL := by
  intro H L μ h x y d e n Q hr r1 r2 hf want
  unfold dCatL at hf
  split at hf
  · split at hf
    · rename_i a b e1 e2
      split at hf
      · rename_i hl
        cases hf
        obtain ⟨p, vs, rfl, _, t1, q1⟩ := hr.lst r1 e1
        obtain ⟨p2, us, rfl, _, t2, q2⟩ := hr.lst r2 e2
        have l1 := q1.length
        have l2 := q2.length
        exact ⟨p, p2, vs, us, rfl, rfl, t1, t2, small6 (by omega), fun q hq => want.lst (q1.append q2) hq⟩
      · cases hf
    · cases hf
  · cases hf
theorem RepL.rep {μ : Mu} {H : Hp} {ds : List D} {vs : List V} (h : RepL C μ H ds vs) : ∀ k : Nat, RepL C μ H (List.replicate k ds).flatten (List.replicate k vs).flatten
  | 0 => rfl
  | k + 1 => by
    rw [List.replicate_succ, List.replicate_succ, List.flatten_cons, List.flatten_cons]
    exact h.append (RepL.rep h k)
def dRepL (h : Hs) (d e : D) : Option Nv := match d, e with
  | .box n, .int k => (match h.get n with
    | some (.lst a) => if -1000000 ≤ k ∧ k ≤ 1000000 ∧ a.length * k.toNat ≤ 1000000 then some (.n (.lst (List.replicate k.toNat a).flatten)) else none
    | _ => none)
  | _, _ => none
theorem cov_repL : Cov2 C rRep dRepL := by
  intro H L μ h x y d e n Q hr r1 r2 hf want
  unfold dRepL at hf
  split at hf
  · split at hf
    · rename_i a e1
      split at hf
      · rename_i hl
        cases hf
        obtain ⟨p, vs, rfl, _, t1, q1⟩ := hr.lst r1 e1
        have l1 := q1.length
        exact ⟨p, _, vs, rfl, r2, t1, by omega, by omega, by rw [l1]; exact small6 hl.2.2, fun q hq => want.lst (q1.rep _) hq⟩
      · cases hf
    · cases hf
  · cases hf
/-! items -/
theorem RepL.atI {μ : Mu} {H : Hp} {ds : List D} {vs : List V} {i : Int} {d : D} (q : RepL C μ H ds vs) (e : L2.atI ds i = some d) : ∃ v, L2.atI vs i = some v ∧ RepV C μ H d v := by
  unfold L2.atI at e ⊢
  rw [q.length]
  cases e2 : ixN ds.length i with
  | none => rw [e2] at e; cases e
  | some j => rw [e2] at e; exact q.get e
def dIxT (_ : Hs) (d e : D) : Option Nv := match d, e with
  | .tup a, .int i => (atI a i).map .v
  | _, _ => none
def dIxL (h : Hs) (d e : D) : Option Nv := match lstD h d, e with
  | some a, .int i => (atI a i).map .v
  | _, _ => none
theorem cov_ixT : Cov2 C (rIxT C.K) dIxT := by
  intro H L μ h x y d e n Q hr r1 r2 hf want
  unfold dIxT at hf
  split at hf
  · rename_i a i
    obtain ⟨c, e1, rfl⟩ := Option.map_eq_some_iff.mp hf
    obtain ⟨p, vs, rfl, t1, q1⟩ := (show RepV C μ H (.tup a) x from r1)
    obtain ⟨v, e2, rv⟩ := q1.atI e1
    exact ⟨p, vs, i, v, rfl, r2, t1.sq, e2, want.old rv⟩
  · cases hf
theorem cov_ixL : Cov2 C (rIxL C.K) dIxL := by
  intro H L μ h x y d e n Q hr r1 r2 hf want
  unfold dIxL at hf
  split at hf
  · rename_i a i ea
    obtain ⟨c, e1, rfl⟩ := Option.map_eq_some_iff.mp hf
    obtain ⟨p, vs, rfl, t1, q1⟩ := lstD_ok hr r1 ea
    obtain ⟨v, e2, rv⟩ := q1.atI e1
    exact ⟨p, vs, i, v, rfl, r2, t1, e2, want.old rv⟩
  · cases hf
/-! == -/
def mapO {α β : Type} (f : α → Option β) : List α → Option (List β)
  | [] => some []
  | d :: ds => match f d with
    | some p => match mapO f ds with
      | some ps => some (p :: ps)
      | none => none
    | none => none
def toPy (h : Hs) : Nat → D → Option PyData
  | 0, _ => none
  | n + 1, d => match d with
    | .non => some .none
    | .bl b => some (.bool b)
    | .int i => some (.int i)
    | .str x => some (.str x)
    | .tup ds => match mapO (toPy h n) ds with
      | some ps => some (.tuple ps)
      | none => none
    | .box i => match h.get i with
      | some (.lst ds) => match mapO (toPy h n) ds with
        | some ps => some (.list ps)
        | none => none
      | _ => none
    | _ => none
theorem mapO_dp {μ : Mu} {H : Hp} {f : D → Option PyData} (hf : ∀ d x p, RepV C μ H d x → f d = some p → Dp C.K H x p) : ∀ {ds : List D} {vs : List V} {ps : List PyData}, RepL C μ H ds vs → mapO f ds = some ps → DpAll C.K H vs ps
  | [], _, _, r, h => by cases h; rw [show _ = [] from r]; exact .nil
  | d :: ds, _, _, ⟨v, rr, e, h1, h2⟩, h => by
    subst e
    unfold mapO at h
    cases e1 : f d with
    | none => rw [e1] at h; cases h
    | some p =>
      cases e2 : mapO f ds with
      | none => simp only [e1, e2] at h; cases h
      | some ps =>
        simp only [e1, e2] at h; cases h
        exact .cons (hf d v p h1 e1) (mapO_dp hf h2 e2)
theorem toPy_dp {μ : Mu} {H : Hp} {h : Hs} (hr : HR C L μ H h) : ∀ (n : Nat) (d : D) (x : V) (p : PyData), RepV C μ H d x → toPy h n d = some p → Dp C.K H x p
  | 0, _, _, _, _, e => by cases e
  | n + 1, d, x, p, r, e => by
    unfold toPy at e
    cases d with
    | non => cases e; rw [show _ = V.non from r]; exact .non
    | bl b => cases e; rw [show _ = V.bl b from r]; exact .bl b
    | int i => cases e; rw [show _ = V.int i from r]; exact .int i
    | str y => cases e; rw [show _ = V.str y from r]; exact .str y
    | tup ds =>
      obtain ⟨a, vs, rfl, t, q⟩ := r
      dsimp only at e
      cases e1 : mapO (toPy h n) ds with
      | none => rw [e1] at e; cases e
      | some ps => rw [e1] at e; cases e; exact .tup t.sq (mapO_dp (toPy_dp hr n) q e1)
    | box i =>
      dsimp only at e
      split at e
      · rename_i ds e0
        obtain ⟨a, vs, rfl, _, t, q⟩ := hr.lst r e0
        cases e1 : mapO (toPy h n) ds with
        | none => rw [e1] at e; cases e
        | some ps => rw [e1] at e; cases e; exact .lst (.inl (.inl t)) (mapO_dp (toPy_dp hr n) q e1)
      · cases e
    | ty n => cases e
    | scr ds => cases e
    | gl x => cases e
def dEq (neg : Bool) (h : Hs) (d e : D) : Option Nv := match toPy h 40 d, toPy h 40 e with
  | some p, some q => if SeqAt.shaped p = true ∧ SeqAt.shaped q = true then some (.v (.bl (if neg = true then !PyData.eqv p q else PyData.eqv p q))) else none
  | _, _ => none
theorem dEq_some {neg : Bool} {h : Hs} {d e : D} {n : Nv} (k : dEq neg h d e = some n) : ∃ p q, toPy h 40 d = some p ∧ toPy h 40 e = some q ∧ SeqAt.shaped p = true ∧ SeqAt.shaped q = true ∧ n = .v (.bl (if neg = true then !PyData.eqv p q else PyData.eqv p q)) := by
  unfold dEq at k
  split at k
  · split at k
    · rename_i hs
      exact ⟨_, _, by assumption, by assumption, hs.1, hs.2, (Option.some.inj k).symm⟩
    · cases k
  · cases k
theorem cov_eq : Cov2 C (rEqD C.K) (dEq false) := by
  intro H L μ h x y d e n Q hr r1 r2 hf want
  obtain ⟨p, q, e1, e2, s1, s2, rfl⟩ := dEq_some hf
  exact ⟨p, q, toPy_dp hr _ _ _ _ r1 e1, toPy_dp hr _ _ _ _ r2 e2, s1, s2, want.old rfl⟩
theorem cov_ne : Cov2 C (rNeD C.K) (dEq true) := by
  intro H L μ h x y d e n Q hr r1 r2 hf want
  obtain ⟨p, q, e1, e2, s1, s2, rfl⟩ := dEq_some hf
  exact ⟨p, q, toPy_dp hr _ _ _ _ r1 e1, toPy_dp hr _ _ _ _ r2 e2, s1, s2, want.old rfl⟩
/-! x in seq, x not in seq, x is None -/
def rInQ (K : PySem.W.Frag) (neg : Bool) : R2 := fun x y H Q => ∃ d ds, Dp K H x d ∧ ((Dp K H y (.list ds) ∧ SeqAt.shaped (.list ds) = true) ∨ (Dp K H y (.tuple ds) ∧ SeqAt.shaped (.tuple ds) = true)) ∧ SeqAt.shaped d = true ∧
  Q (.bl (if neg = true then !ds.any fun z => PyData.eqv z d else ds.any fun z => PyData.eqv z d)) H
def dInQ (neg : Bool) (h : Hs) (d e : D) : Option Nv := match toPy h 40 d, toPy h 40 e with
  | some p, some q => if SeqAt.shaped p = true ∧ SeqAt.shaped q = true then (match q with
    | .list ds => some (.v (.bl (if neg = true then !ds.any fun z => PyData.eqv z p else ds.any fun z => PyData.eqv z p)))
    | .tuple ds => some (.v (.bl (if neg = true then !ds.any fun z => PyData.eqv z p else ds.any fun z => PyData.eqv z p)))
    | _ => none) else none
  | _, _ => none
theorem cov_inQ {neg : Bool} : Cov2 C (rInQ C.K neg) (dInQ neg) := by
  intro H L μ h x y d e n Q hr r1 r2 hf want
  unfold dInQ at hf
  split at hf
  · rename_i p q e1 e2
    split at hf
    · rename_i hs
      split at hf
      · cases hf
        exact ⟨p, _, toPy_dp hr _ _ _ _ r1 e1, .inl ⟨toPy_dp hr _ _ _ _ r2 e2, hs.2⟩, hs.1, want.old rfl⟩
      · cases hf
        exact ⟨p, _, toPy_dp hr _ _ _ _ r1 e1, .inr ⟨toPy_dp hr _ _ _ _ r2 e2, hs.2⟩, hs.1, want.old rfl⟩
      · cases hf
    · cases hf
  · cases hf
abbrev rIs0 : R2 := fun x y H Q => y = .non ∧ Q (.bl (decide (x = .non))) H
abbrev rIs1 : R2 := fun x y H Q => y = .non ∧ Q (.bl (!decide (x = .non))) H
def isNon : D → Bool
  | .non => true
  | _ => false
theorem isNon_ok {μ : Mu} {H : Hp} {d : D} {x : V} (r : RepV C μ H d x) : decide (x = .non) = isNon d := by
  cases d with
  | non => cases (show x = .non from r); rfl
  | bl b => cases (show x = .bl b from r); rfl
  | int i => cases (show x = .int i from r); rfl
  | str i => cases (show x = .str i from r); rfl
  | ty i => cases (show x = .ty i.name from r); rfl
  | gl i => obtain ⟨a, rfl, _⟩ := r; rfl
  | tup ds => obtain ⟨a, vs, rfl, _⟩ := r; rfl
  | scr ds => obtain ⟨a, vs, rfl, _⟩ := r; rfl
  | box n => obtain ⟨a, rfl, _⟩ := r; rfl
def dIs (neg : Bool) (_ : Hs) (d e : D) : Option Nv := match e with
  | .non => some (.v (.bl (if neg = true then !isNon d else isNon d)))
  | _ => none
theorem cov_is : Cov2 C rIs0 (dIs false) := by
  intro H L μ h x y d e n Q hr r1 r2 hf want
  unfold dIs at hf
  split at hf
  · cases hf
    refine ⟨r2, ?_⟩
    rw [isNon_ok r1]
    exact want.old rfl
  · cases hf
theorem cov_isnot : Cov2 C rIs1 (dIs true) := by
  intro H L μ h x y d e n Q hr r1 r2 hf want
  unfold dIs at hf
  split at hf
  · cases hf
    refine ⟨r2, ?_⟩
    rw [isNon_ok r1]
    exact want.old rfl
  · cases hf
/-! ### built-ins by values -/
theorem RepL.one {μ : Mu} {H : Hp} {d : D} {xs : List V} (h : RepL C μ H [d] xs) : ∃ x, xs = [x] ∧ RepV C μ H d x := by
  obtain ⟨x, r, rfl, h1, h2⟩ := h
  rw [show r = [] from h2]
  exact ⟨x, rfl, h1⟩
theorem RepL.two {μ : Mu} {H : Hp} {d e : D} {xs : List V} (h : RepL C μ H [d, e] xs) : ∃ x y, xs = [x, y] ∧ RepV C μ H d x ∧ RepV C μ H e y := by
  obtain ⟨x, r, rfl, h1, h2⟩ := h
  obtain ⟨y, rfl, h3⟩ := RepL.one h2
  exact ⟨x, y, rfl, h1, h3⟩
def dLen (h : Hs) : List D → Option Nv
  | [d] => (seqD h d).map fun ds => .v (.int ds.length)
  | _ => none
theorem cov_len : CovA C (fun xs H Q => ∃ p ys, xs = [.ref p] ∧ (SqL C.K H p ys ∨ SqT C.K H p ys) ∧ Q (.int ys.length) H) dLen := by
  intro H L μ h xs ds n Q hr r1 hf want
  unfold dLen at hf
  split at hf
  · obtain ⟨es, e1, rfl⟩ := Option.map_eq_some_iff.mp hf
    obtain ⟨x, rfl, q⟩ := r1.one
    obtain ⟨p, vs, rfl, t, q⟩ := seqD_ok hr q e1
    refine ⟨p, vs, rfl, t, ?_⟩
    rw [q.length]
    exact want.old rfl
  · cases hf
def dList (h : Hs) : List D → Option Nv
  | [d] => (seqD h d).map fun ds => .n (.lst ds)
  | _ => none
theorem cov_list : CovA C (fun xs H Q => ∃ p ys, xs = [.ref p] ∧ (SqL C.K H p ys ∨ SqT C.K H p ys) ∧ ∀ l, H l = none → Q (.ref l) (upd H l (.lst ys))) dList := by
  intro H L μ h xs ds n Q hr r1 hf want
  unfold dList at hf
  split at hf
  · obtain ⟨es, e1, rfl⟩ := Option.map_eq_some_iff.mp hf
    obtain ⟨x, rfl, q⟩ := r1.one
    obtain ⟨p, vs, rfl, t, q⟩ := seqD_ok hr q e1
    exact ⟨p, vs, rfl, t, fun l hl => want.lst q hl⟩
  · cases hf
def dTuple (h : Hs) : List D → Option Nv
  | [d] => (seqD h d).map fun ds => .v (.tup ds)
  | _ => none
theorem cov_tuple : CovA C (fun xs H Q => ∃ p ys, xs = [.ref p] ∧ ((SqL C.K H p ys ∧ ∀ l, H l = none → Q (.ref l) (upd H l (.tup ys))) ∨ (SqT C.K H p ys ∧ Q (.ref p) H))) dTuple := by
  intro H L μ h xs ds n Q hr r1 hf want
  unfold dTuple at hf
  split at hf
  · rename_i d
    obtain ⟨es, e1, rfl⟩ := Option.map_eq_some_iff.mp hf
    obtain ⟨x, rfl, q⟩ := r1.one
    cases d with
    | tup ds =>
      obtain ⟨a, vs, rfl, t, q⟩ := (show RepV C μ H (.tup ds) x from q)
      cases e1
      exact ⟨a, vs, rfl, .inr ⟨t.sq, want.old ⟨a, vs, rfl, t, q⟩⟩⟩
    | _ => obtain ⟨a, vs, rfl, t, q⟩ := lstD_ok hr q e1; exact ⟨a, vs, rfl, .inl ⟨t, fun l hl => want.tup q hl⟩⟩
  · cases hf
def dInt1 (_ : Hs) : List D → Option Nv
  | [.int i] => some (.v (.int i))
  | [.bl b] => some (.v (.int (if b then 1 else 0)))
  | _ => none
theorem cov_int : CovA C (fun xs H Q => (∃ i, xs = [.int i] ∧ Q (.int i) H) ∨ ∃ k, xs = [.bl k] ∧ Q (.int (if k then 1 else 0)) H) dInt1 := by
  intro H L μ h xs ds n Q hr r1 hf want
  unfold dInt1 at hf
  split at hf
  · cases hf
    obtain ⟨x, rfl, q⟩ := r1.one
    cases (show x = V.int _ from q)
    exact .inl ⟨_, rfl, want.old rfl⟩
  · cases hf
    obtain ⟨x, rfl, q⟩ := r1.one
    cases (show x = V.bl _ from q)
    exact .inr ⟨_, rfl, want.old rfl⟩
  · cases hf
def dAbs (_ : Hs) : List D → Option Nv
  | [.int i] => some (.v (.int (if i < 0 then -i else i)))
  | _ => none
theorem cov_abs : CovA C (fun xs H Q => ∃ i, xs = [.int i] ∧ Q (.int (if i < 0 then -i else i)) H) dAbs := by
  intro H L μ h xs ds n Q hr r1 hf want
  unfold dAbs at hf
  split at hf
  · cases hf
    obtain ⟨x, rfl, q⟩ := r1.one
    cases (show x = V.int _ from q)
    exact ⟨_, rfl, want.old rfl⟩
  · cases hf
def boolsD : List D → Option (List Bool)
  | [] => some []
  | .bl b :: ds => (boolsD ds).map (b :: ·)
  | _ => none
theorem boolsD_ok {μ : Mu} {H : Hp} : ∀ {ds : List D} {bs : List Bool} {vs : List V}, RepL C μ H ds vs → boolsD ds = some bs → vs = bs.map V.bl
  | [], _, _, h, e => by cases e; exact h
  | d :: ds, bs, _, ⟨v, r, rfl, h1, h2⟩, e => by
    cases d with
    | bl b =>
      obtain ⟨cs, e1, rfl⟩ := Option.map_eq_some_iff.mp (show (boolsD ds).map (b :: ·) = some bs from e)
      rw [boolsD_ok h2 e1, show v = V.bl b from h1]
      rfl
    | _ => cases e
def boxBs (h : Hs) : List D → Option (List Bool)
  | [.box n] => match h.get n with
    | some (.lst ds) => boolsD ds
    | _ => none
  | _ => none
theorem boxBs_ok {μ : Mu} {H : Hp} {h : Hs} (hr : HR C L μ H h) {ds : List D} {xs : List V} {bs : List Bool} (r : RepL C μ H ds xs) (e : boxBs h ds = some bs) : ∃ a, xs = [.ref a] ∧ SqL C.K H a (bs.map V.bl) := by
  unfold boxBs at e
  split at e
  · split at e
    · rename_i e1
      obtain ⟨x, rfl, q⟩ := r.one
      obtain ⟨a, vs, rfl, _, t, q⟩ := hr.lst q e1
      rw [boolsD_ok q e] at t
      exact ⟨a, rfl, .inl (.inl t)⟩
    · cases e
  · cases e
def dAll (h : Hs) (ds : List D) : Option Nv := (boxBs h ds).map fun bs => .v (.bl (bs.all id))
theorem cov_all : CovA C (rAll C.K) dAll := by
  intro H L μ h xs ds n Q hr r1 hf want
  obtain ⟨bs, e1, rfl⟩ := Option.map_eq_some_iff.mp hf
  obtain ⟨a, rfl, t⟩ := boxBs_ok hr r1 e1
  exact ⟨a, bs, rfl, t, want.old rfl⟩
def dAny (h : Hs) (ds : List D) : Option Nv := (boxBs h ds).map fun bs => .v (.bl (bs.any id))
theorem cov_any : CovA C (rAny C.K) dAny := by
  intro H L μ h xs ds n Q hr r1 hf want
  obtain ⟨bs, e1, rfl⟩ := Option.map_eq_some_iff.mp hf
  obtain ⟨a, rfl, t⟩ := boxBs_ok hr r1 e1
  exact ⟨a, bs, rfl, t, want.old rfl⟩
/-! isinstance -/
def tyD (h : Hs) : D → Option Ty
  | .non => some .none
  | .bl _ => some .bool
  | .int _ => some .int
  | .str _ => some .str
  | .tup _ => some .tuple
  | .box n => match h.get n with
    | some (.lst _) => some .list
    | _ => none
  | _ => none
theorem tyD_ok {μ : Mu} {H : Hp} {h : Hs} (hr : HR C L μ H h) {d : D} {t : Ty} {x : V} (q : RepV C μ H d x) (e : tyD h d = some t) : TyX C.K H x (.type t.name) := by
  cases d with
  | non => cases e; rw [show x = V.non from q]; exact .base .non
  | bl b => cases e; rw [show x = V.bl b from q]; exact .base (.bl b)
  | int b => cases e; rw [show x = V.int b from q]; exact .base (.int b)
  | str b => cases e; rw [show x = V.str b from q]; exact .base (.str b)
  | tup ds =>
    cases e
    obtain ⟨a, vs, rfl, t, q⟩ := q
    rcases t with t | ⟨o, its, n, t, c, _⟩
    · exact .base (.tup t)
    · exact .kTuple t c
  | box n =>
    unfold tyD at e
    dsimp only at e
    split at e
    · rename_i e1
      cases e
      obtain ⟨a, vs, rfl, _, t, q⟩ := hr.lst q e1
      exact .base (.lst t)
    · cases e
  | _ => cases e
def subTy (a b : Ty) : Bool := decide (a = b) || (decide (a = .bool) && decide (b = .int))
theorem subTy_kit (a b : Ty) (hb : b ≠ .none) : kitB a.name b.name = some (subTy a b) := by
  cases b <;> first | exact absurd rfl hb | (cases a <;> decide +kernel)
def tysD : List D → Option (List Ty)
  | [] => some []
  | .ty t :: ds => if t = .none then none else (tysD ds).map (t :: ·)
  | _ => none
theorem tysD_ok {μ : Mu} {H : Hp} : ∀ {ds : List D} {ts : List Ty} {vs : List V}, RepL C μ H ds vs → tysD ds = some ts → Paired ClsV vs (ts.map fun t => Value.type t.name) ∧ ∀ t ∈ ts, t ≠ Ty.none
  | [], _, _, h, e => by cases e; rw [show _ = [] from h]; exact ⟨.nil, fun _ h => nomatch h⟩
  | d :: ds, ts, _, ⟨v, r, rfl, h1, h2⟩, e => by
    cases d with
    | ty t =>
      have e : (if t = Ty.none then none else (tysD ds).map (t :: ·)) = some ts := e
      split at e
      · cases e
      · rename_i hn
        obtain ⟨cs, e1, rfl⟩ := Option.map_eq_some_iff.mp e
        obtain ⟨p1, p2⟩ := tysD_ok h2 e1
        rw [show v = V.ty t.name from h1]
        exact ⟨.cons (.ty _) p1, fun t' ht => (List.mem_cons.mp ht).elim (fun q => by rw [q]; exact hn) (p2 t')⟩
    | _ => cases e
theorem kitAny_tys {K : PySem.W.Frag} {t : Ty} : ∀ {ts : List Ty}, (∀ b ∈ ts, b ≠ Ty.none) → PySem.W.kitAny K (.type t.name) (ts.map fun t => Value.type t.name) = some (ts.any (subTy t))
  | [], _ => rfl
  | b :: ts, h => by
    have ih := kitAny_tys (K := K) (t := t) (ts := ts) fun c hc => h c (List.mem_cons_of_mem _ hc)
    have k1 : PySem.W.kitOne K (.type t.name) (.type b.name) = some (subTy t b) := kit_ty (subTy_kit t b (h b List.mem_cons_self))
    rw [List.map_cons, List.any_cons]
    exact kitAny_cons k1 (fun e => by rw [e, Bool.false_or]; exact ih) fun e => by rw [e, Bool.true_or]
def dIsi (h : Hs) : List D → Option Nv
  | [d, .ty t] => if t = .none then none else (tyD h d).map fun a => .v (.bl (subTy a t))
  | [d, .tup ts] => match tyD h d, tysD ts with
    | some a, some ts => some (.v (.bl (ts.any (subTy a))))
    | _, _ => none
  | _ => none
theorem cov_isi : CovA C (fun xs H Q => rIsi C.K xs H Q ∨ (rIsiT C.K xs H Q ∨ rIsiK C.K xs H Q)) dIsi := by
  intro H L μ h xs ds n Q hr r1 hf want
  unfold dIsi at hf
  split at hf
  · split at hf
    · cases hf
    · rename_i hn
      obtain ⟨a, e1, rfl⟩ := Option.map_eq_some_iff.mp hf
      obtain ⟨x, y, rfl, h1, h2⟩ := r1.two
      cases (show y = V.ty _ from h2)
      exact .inl ⟨x, _, _, _, _, rfl, .ty _, tyD_ok hr h1 e1, kit_ty (subTy_kit a _ hn), want.old rfl⟩
  · split at hf
    · rename_i e1 e2
      cases hf
      obtain ⟨x, y, rfl, h1, h2⟩ := r1.two
      obtain ⟨p, vs, rfl, t, q⟩ := (show RepV C μ H (.tup _) y from h2)
      obtain ⟨q1, q2⟩ := tysD_ok q e2
      rcases t with t | ⟨⟨oc, od, dt, sl⟩, its, n, t, c, hd, _, hv⟩
      · exact .inr (.inl ⟨x, p, vs, _, _, _, rfl, t, q1, tyD_ok hr h1 e1, kitAny_tys q2, want.old rfl⟩)
      · simp only at c hd
        subst c hd
        have e3 := ClsV.all q1 hv
        refine .inr (.inr ⟨x, p, od, its.toList, n, sl, _, _, rfl, ?_, tyD_ok hr h1 e1, ?_, want.old rfl⟩)
        · simpa using t
        · rw [e3]; exact kitAny_tys q2
    · cases hf
  · cases hf
end
end Rh

set_option Elab.async false
set_option linter.all false
set_option maxRecDepth 100000
set_option autoImplicit false
namespace Rh
open PySem PySem.Spec PyProof.Rows L2

/-! ### tests -/
def truthD (h : Hs) : D → Option Bool
  | .non => some false
  | .bl b => some b
  | .int i => some (i != 0)
  | .tup ds => some (!ds.isEmpty)
  | .scr ds => some (!ds.isEmpty)
  | .box n => match h.get n with
    | some (.lst ds) => some (!ds.isEmpty)
    | _ => none
  | _ => none
def mTruth (m : M D) : M Bool := mBind m fun d => fun _ h => match truthD h d with
  | some k => some (.ok k h)
  | none => none
/-- of an expression whose value is a bool -/
def mB (m : M D) : M Bool := mBind m fun d => fun _ h => match d with
  | .bl k => some (.ok k h)
  | _ => none
section
variable {X : Cx} {W : WX} {L : List Nat} {ρ : En} {σ : L2.St} {H H' H1 H2 : Hp} {μ μ' μ1 μ2 : Mu} {h h' h1 h2 : Hs} {Q : VK} {QB : Bool → Hp → Prop}
theorem RepL.isEmpty {C : Ct} {ds : List D} {vs : List V} (h : RepL C μ H ds vs) : (!ds.isEmpty) = !vs.isEmpty := by
  cases ds with
  | nil => rw [show vs = [] from h]; rfl
  | cons d ds => obtain ⟨v, r, rfl, _⟩ := h; rfl
theorem truthD_ok {C : Ct} (hr : HR C L μ H h) {d : D} {x : V} {k : Bool} (q : RepV C μ H d x) (e : truthD h d = some k) : TruV C.K x H k := by
  cases d with
  | non => cases e; rw [show x = V.non from q]; exact rfl
  | bl b => have q : x = V.bl b := q; cases e; rw [q]; exact rfl
  | int i => cases e; rw [show x = V.int i from q]; exact rfl
  | tup ds =>
    cases e
    obtain ⟨a, vs, rfl, t, q⟩ := q
    exact .inr (.inl ⟨vs, t.sq, q.isEmpty⟩)
  | scr ds =>
    cases e
    obtain ⟨a, vs, rfl, t, q⟩ := lstD_ok hr (d := .scr ds) q rfl
    exact .inl ⟨vs, t, q.isEmpty⟩
  | box n =>
    unfold truthD at e
    dsimp only at e
    split at e
    · rename_i e1
      cases e
      obtain ⟨a, vs, rfl, _, t, q⟩ := hr.lst q e1
      exact .inl ⟨vs, .inl (.inl t), q.isEmpty⟩
    · cases e
  | _ => cases e
theorem rd_truth {m : M D} (q : rdT X W (mTruth m) σ H QB) : rd X W m σ H fun x H' => ∃ k, TruV X.K x H' k ∧ QB k H' := by
  refine rdG_imp (rdG_bind q) fun ρ L d h1 μ1 H1 ⟨rel1, q1⟩ x rx => ?_
  cases e2 : truthD h1 d with
  | none => simp only [e2] at q1; exact q1.none
  | some k =>
    simp only [e2] at q1
    exact ⟨k, truthD_ok rel1.hr rx e2, q1 μ1 H1 .refl rel1.hr⟩
theorem rd_mB {m : M D} (q : rdT X W (mB m) σ H QB) : rd X W m σ H fun x H' => ∃ k, x = .bl k ∧ QB k H' := by
  refine rdG_imp (rdG_bind q) fun ρ L d h1 μ1 H1 ⟨rel1, q1⟩ x rx => ?_
  cases d with
  | bl k => exact ⟨k, rx, q1 μ1 H1 .refl rel1.hr⟩
  | _ => exact q1.none
theorem t_val {e : Expr} {m : M D} (ha : PE X e (rd X W m)) (he : ∀ whole, isTrue e X.env whole = (do let v ← whole; standAt e.pos; holding [v] (truthy v)) := by intro _; rfl) : PT X e (rdT X W (mTruth m)) :=
  pt_imp (pt_truth ha he) fun _ _ _ h => rd_truth h
theorem t_cmp {op : CmpOp} {r : R2} {f : Hs → D → D → Option Nv} {a b : Expr} {ma mb : M D} {pos : Pos} (ho : OpR X (compareOp op) r) (c : Cov2 (ctX X) r f) (hm : behindInMarks op b = false) (ha : PE X a (rd X W ma)) (hb : PE X b (rd X W mb)) : PT X (.Compare a [op] [b] pos) (rdT X W (mB (mOp2 f ma mb))) :=
  pt_imp (pt_cmpR ho ha hb hm) fun _ _ _ h => rd_op2 c (rd_mB h)
def mAnd (a b : M Bool) : M Bool := mBind a fun c => if c = true then b else mPure false
def mOr (a b : M Bool) : M Bool := mBind a fun c => if c = true then mPure true else b
def mNot (a : M Bool) : M Bool := mBind a fun c => mPure (!c)
theorem tw_and1 {a : Expr} {ma : M Bool} {pos : Pos} (ha : PT X a (rdT X W ma)) : PW X (.BoolOp .And [a] pos) (rdT X W ma) := pw_and1 ha
theorem tw_or1 {a : Expr} {ma : M Bool} {pos : Pos} (ha : PT X a (rdT X W ma)) : PW X (.BoolOp .Or [a] pos) (rdT X W ma) := pw_or1 ha
theorem tw_and {a b : Expr} {rest : List Expr} {ma mb : M Bool} {pos : Pos} (ha : PT X a (rdT X W ma)) (hb : PW X (.BoolOp .And (b :: rest) pos) (rdT X W mb)) : PW X (.BoolOp .And (a :: b :: rest) pos) (rdT X W (mAnd ma mb)) := by
  refine pw_imp (pw_and ha hb) fun σ H Q q => rdG_imp (rdG_bind q) fun ρ L c h1 μ1 H1 ⟨rel1, q1⟩ => ?_
  cases c with
  | true => exact ⟨ρ, L, μ1, h1, rel1, q1⟩
  | false => exact q1 μ1 H1 .refl rel1.hr
theorem tw_or {a b : Expr} {rest : List Expr} {ma mb : M Bool} {pos : Pos} (ha : PT X a (rdT X W ma)) (hb : PW X (.BoolOp .Or (b :: rest) pos) (rdT X W mb)) : PW X (.BoolOp .Or (a :: b :: rest) pos) (rdT X W (mOr ma mb)) := by
  refine pw_imp (pw_or ha hb) fun σ H Q q => rdG_imp (rdG_bind q) fun ρ L c h1 μ1 H1 ⟨rel1, q1⟩ => ?_
  cases c with
  | false => exact ⟨ρ, L, μ1, h1, rel1, q1⟩
  | true => exact q1 μ1 H1 .refl rel1.hr
theorem t_not {a : Expr} {ma : M Bool} {pos : Pos} (ha : PT X a (rdT X W ma)) : PT X (.UnaryOp .Not a pos) (rdT X W (mNot ma)) :=
  pt_imp (pt_not ha) fun σ H Q q => rdG_imp (rdG_bind q) fun ρ L c h1 μ1 H1 ⟨rel1, q1⟩ => q1 μ1 H1 .refl rel1.hr
theorem t_pw {e : Expr} {t : TT} (h : PW X e t) : PT X e t := ⟨fun pins s σ H Q I q => h.run _ pins s σ H Q I q⟩
/-! as values -/
def mOrV (a b : M D) : M D := mBind a fun x => fun ρ h => match truthD h x with
  | some true => some (.ok x h)
  | some false => b ρ h
  | none => none
def mAndV (a b : M D) : M D := mBind a fun x => fun ρ h => match truthD h x with
  | some true => b ρ h
  | some false => some (.ok x h)
  | none => none
def mNotV (a : M D) : M D := mBind a fun x => fun _ h => match truthD h x with
  | some k => some (.ok (.bl (!k)) h)
  | none => none
theorem e_or {a b : Expr} {rest : List Expr} {ma mb : M D} {pos : Pos} (ha : PE X a (rd X W ma)) (hb : PE X (.BoolOp .Or (b :: rest) pos) (rd X W mb)) : PE X (.BoolOp .Or (a :: b :: rest) pos) (rd X W (mOrV ma mb)) := by
  refine pe_imp (pe_orT ha hb) fun σ H Q q => rdG_imp (rdG_bind q) fun ρ L x h1 μ1 H1 ⟨rel1, q1⟩ vx rx => ?_
  cases e2 : truthD h1 x with
  | none => simp only [e2] at q1; exact q1.none
  | some k =>
    refine ⟨k, truthD_ok rel1.hr rx e2, ?_⟩
    cases k with
    | true => simp only [e2] at q1; exact q1 μ1 H1 .refl rel1.hr vx rx
    | false => simp only [e2] at q1; exact ⟨ρ, L, μ1, h1, rel1, q1⟩
theorem e_and {a b : Expr} {rest : List Expr} {ma mb : M D} {pos : Pos} (ha : PE X a (rd X W ma)) (hb : PE X (.BoolOp .And (b :: rest) pos) (rd X W mb)) : PE X (.BoolOp .And (a :: b :: rest) pos) (rd X W (mAndV ma mb)) := by
  refine pe_imp (pe_andT ha hb) fun σ H Q q => rdG_imp (rdG_bind q) fun ρ L x h1 μ1 H1 ⟨rel1, q1⟩ vx rx => ?_
  cases e2 : truthD h1 x with
  | none => simp only [e2] at q1; exact q1.none
  | some k =>
    refine ⟨k, truthD_ok rel1.hr rx e2, ?_⟩
    cases k with
    | false => simp only [e2] at q1; exact q1 μ1 H1 .refl rel1.hr vx rx
    | true => simp only [e2] at q1; exact ⟨ρ, L, μ1, h1, rel1, q1⟩
theorem e_one {a : Expr} {op} {ma : M D} {pos : Pos} (ha : PE X a (rd X W ma)) : PE X (.BoolOp op [a] pos) (rd X W ma) := pe_one ha
theorem e_not {a : Expr} {ma : M D} {pos : Pos} (ha : PE X a (rd X W ma)) : PE X (.UnaryOp .Not a pos) (rd X W (mNotV ma)) := by
  refine pe_imp (pe_notT ha) fun σ H Q q => rdG_imp (rdG_bind q) fun ρ L x h1 μ1 H1 ⟨rel1, q1⟩ vx rx => ?_
  cases e2 : truthD h1 x with
  | none => simp only [e2] at q1; exact q1.none
  | some k =>
    simp only [e2] at q1
    exact ⟨k, truthD_ok rel1.hr rx e2, q1 μ1 H1 .refl rel1.hr _ rfl⟩
def mIf (c : M Bool) (a b : M D) : M D := mBind c fun k => if k = true then a else b
theorem e_ife {c a b : Expr} {mc : M Bool} {ma mb : M D} {pos : Pos} (hc : PT X c (rdT X W mc)) (ha : PE X a (rd X W ma)) (hb : PE X b (rd X W mb)) : PE X (.IfExp c a b pos) (rd X W (mIf mc ma mb)) := by
  refine pe_imp (pe_ifExp hc ha hb) fun σ H Q q => rdG_imp (rdG_bind q) fun ρ L k h1 μ1 H1 ⟨rel1, q1⟩ => ?_
  cases k with
  | true => exact ⟨ρ, L, μ1, h1, rel1, q1⟩
  | false => exact ⟨ρ, L, μ1, h1, rel1, q1⟩
/-! chains -/
def mChain (f g : Hs → D → D → Option Nv) (a b c : M D) : M D := mBind a fun x => mBind b fun y => fun ρ h => match f h x y with
  | some (.v (.bl true)) => mBind c (fun z => fun _ h3 => lift h3 (g h3 y z)) ρ h
  | some (.v (.bl false)) => some (.ok (.bl false) h)
  | _ => none
theorem rd_chain {r r' : R2} {f g : Hs → D → D → Option Nv} {a b c : M D} (cf : Cov2 (ctX X) r f) (cg : Cov2 (ctX X) r' g) (q : rd X W (mChain f g a b c) σ H Q) : tChain r r' (rd X W a) (rd X W b) (rd X W c) σ H Q := by
  obtain ⟨ρ, L, μ, h, rel, q⟩ := q
  refine ⟨ρ, L, μ, h, rel, (q.bind rel).imp fun x h1 μ1 H1 g1 _ ⟨_, rel1, q1⟩ vx rx => ⟨ρ, L, μ1, h1, rel1, (q1.bind rel1).imp fun y h2 μ2 H2 g2 _ ⟨_, rel2, q2⟩ vy ry => ?_⟩⟩
  cases e3 : f h2 x y with
  | none => simp only [e3] at q2; exact q2.none
  | some n =>
    refine cf _ _ _ _ _ _ _ _ _ _ rel2.hr (rx.go rel1.hr g2) ry e3 fun z H3 sm dm rz => ?_
    cases n with
    | n o => simp only [e3] at q2; exact q2.none
    | v nd =>
      cases nd with
      | bl k =>
        cases (show z = V.bl k from rz)
        refine ⟨k, rfl, ?_⟩
        have g3 : Go L μ2 H2 μ2 H3 := .same rel2.hr sm dm
        have rel3 := rel2.go g3 (rel2.hr.same sm)
        cases k with
        | false =>
          simp only [e3] at q2
          rw [if_neg Bool.false_ne_true]
          exact q2 μ2 H3 g3 rel3.hr _ rfl
        | true =>
          simp only [e3] at q2
          rw [if_pos rfl]
          have q3 := q2.start g3
          refine ⟨ρ, L, μ2, h2, rel3, (q3.bind rel3).imp fun z h4 μ4 H4 g4 _ ⟨_, rel4, q4⟩ vz rz => ?_⟩
          obtain ⟨n, en, want⟩ := Sat.lift rel4.hr q4
          exact cg _ _ _ _ _ _ _ _ _ _ rel4.hr ((ry.go rel2.hr g3).go rel3.hr g4) rz en want
      | _ => simp only [e3] at q2; exact q2.none
theorem e_chain {op op' : CmpOp} {r r' : R2} {f g : Hs → D → D → Option Nv} {a b c : Expr} {ma mb mc : M D} {pos : Pos} (ho : OpR X (compareOp op) r) (ho' : OpR X (compareOp op') r') (cf : Cov2 (ctX X) r f) (cg : Cov2 (ctX X) r' g)
    (ha : PE X a (rd X W ma)) (hb : PE X b (rd X W mb)) (hc : PE X c (rd X W mc)) (hm : lastMarks [op, op'] [b, c] = false := by with_unfolding_all rfl) : PE X (.Compare a [op, op'] [b, c] pos) (rd X W (mChain f g ma mb mc)) :=
  pe_imp (pe_chain ho ho' ha hb hc hm) fun _ _ _ h => rd_chain cf cg h
theorem t_chain {op op' : CmpOp} {r r' : R2} {f g : Hs → D → D → Option Nv} {a b c : Expr} {ma mb mc : M D} {pos : Pos} (ho : OpR X (compareOp op) r) (ho' : OpR X (compareOp op') r') (cf : Cov2 (ctX X) r f) (cg : Cov2 (ctX X) r' g)
    (ha : PE X a (rd X W ma)) (hb : PE X b (rd X W mb)) (hc : PE X c (rd X W mc)) (hm : lastMarks [op, op'] [b, c] = false := by with_unfolding_all rfl) : PT X (.Compare a [op, op'] [b, c] pos) (rdT X W (mB (mChain f g ma mb mc))) :=
  pt_imp (pt_chain ho ho' ha hb hc hm) fun _ _ _ h => rd_chain cf cg (rd_mB h)
/-! built-ins by name -/
theorem e_callB {x : Str} {id : String} {r : List V → Hp → VK → Prop} {f : Hs → List D → Option Nv} {p pos : Pos} {e : Expr} {es : List Expr} {ms : M (List D)} (hc : CallR X (.builtin id) r) (c : CovA (ctX X) r f) (hv : bootBuiltins x = some (.builtin id)) (hg : Gl X x) (hm : X.mg x = none)
    (ha : PA X (e :: es) (rdA X W ms)) (hn : x ≠ "__name__" := by decide) (hdb : (x == ("__debug__" : Str)) = false := by decide) (he : starEach (e :: es) X.env = (false, eval e X.env) :: starEach es X.env := by rfl) (hpl : (backTo pos (starEach es X.env)).any (·.1) = false := by rfl) :
    PE X (.Call (.Name x p) (e :: es) [] pos) (rd X W (mOpA f ms)) := pe_imp (pe_callB hc hg hm hv ha hn hdb he hpl) fun _ _ _ h => rd_opA c h
theorem e_callTy {x : Str} {T : String} {r : List V → Hp → VK → Prop} {f : Hs → List D → Option Nv} {p pos : Pos} {e : Expr} {es : List Expr} {ms : M (List D)} (hc : CallR X (.type T) r) (c : CovA (ctX X) r f) (hv : bootBuiltins x = some (.type T)) (hg : Gl X x) (hm : X.mg x = none)
    (ha : PA X (e :: es) (rdA X W ms)) (hn : x ≠ "__name__" := by decide) (hdb : (x == ("__debug__" : Str)) = false := by decide) (he : starEach (e :: es) X.env = (false, eval e X.env) :: starEach es X.env := by rfl) (hpl : (backTo pos (starEach es X.env)).any (·.1) = false := by rfl) :
    PE X (.Call (.Name x p) (e :: es) [] pos) (rd X W (mOpA f ms)) := pe_imp (pe_callTy hc hg hm hv ha hn hdb he hpl) fun _ _ _ h => rd_opA c h
end

/-! ### statements -/
inductive RS where
  | nx (ρ : En) (h : Hs) | rt (d : D) (h : Hs) | bk (ρ : En) (h : Hs) | ct (ρ : En) (h : Hs)
  | ex (c : Str) (fs : List (Str × D)) (ρ : En) (h : Hs)
abbrev MS := En → Hs → Option RS
def SatS (X : Cx) (W : WX) (D : Ends) (L : List Nat) (μ : Mu) (H : Hp) (o : Option RS) : Prop := match o with
  | none => False
  | some (.nx ρ' h') => ∀ σ' μ' H', Go L μ H μ' H' → Rel (ctX X) L ρ' σ' μ' H' h' → D.nx σ' H'
  | some (.bk ρ' h') => ∀ σ' μ' H', Go L μ H μ' H' → Rel (ctX X) L ρ' σ' μ' H' h' → D.bk σ' H'
  | some (.ct ρ' h') => ∀ σ' μ' H', Go L μ H μ' H' → Rel (ctX X) L ρ' σ' μ' H' h' → D.ct σ' H'
  | some (.rt d h') => ∀ μ' H' x, Go L μ H μ' H' → HR (ctX X) L μ' H' h' → RepV (ctX X) μ' H' d x → D.rt x H'
  | some (.ex c fs ρ' h') => ∀ cls d σ' μ' H', Go L μ H μ' H' → Rel (ctX X) L ρ' σ' μ' H' h' → RepX (ctX X) μ' H' c fs cls d → W cls d σ' H'
def rdS (X : Cx) (W : WX) (m : MS) : TS := fun D σ H => ∃ ρ L μ h, Rel (ctX X) L ρ σ μ H h ∧ SatS X W D L μ H (m ρ h)
def mNx : MS := fun ρ h => some (.nx ρ h)
def mSeq (a b : MS) : MS := fun ρ h => match a ρ h with
  | some (.nx ρ1 h1) => b ρ1 h1
  | o => o
/-- an expression ahead of a statement's end -/
def mDo {α : Type} (m : M α) (g : α → MS) : MS := fun ρ h => match m ρ h with
  | none => none
  | some (.ok a h1) => g a ρ h1
  | some (.ex c fs h1) => some (.ex c fs ρ h1)
section
variable {X : Cx} {W : WX} {L : List Nat} {D0 : Ends} {ρ ρ' : En} {σ σ' : L2.St} {H H' H1 : Hp} {μ μ' μ1 : Mu} {h h' h1 : Hs}
theorem SatS.none {C : Prop} (h : SatS X W D0 L μ H none) : C := False.elim h
theorem SatS.start {o : Option RS} (q : SatS X W D0 L μ H o) (g : Go L μ H μ1 H1) : SatS X W D0 L μ1 H1 o := by
  cases o with
  | none => exact q.none
  | some o =>
    cases o with
    | nx ρ2 => exact fun s2 m2 H2 g2 r => q s2 m2 H2 (g.trans g2) r
    | bk ρ2 => exact fun s2 m2 H2 g2 r => q s2 m2 H2 (g.trans g2) r
    | ct ρ2 => exact fun s2 m2 H2 g2 r => q s2 m2 H2 (g.trans g2) r
    | rt n ρ2 => exact fun m2 H2 x g2 r rr => q m2 H2 x (g.trans g2) r rr
    | ex c fs ρ2 => exact fun cls d s2 m2 H2 g2 r => q cls d s2 m2 H2 (g.trans g2) r
theorem SatS.bind {α : Type} {m : M α} {g : α → MS} (r : Rel (ctX X) L ρ σ μ H h) (q : SatS X W D0 L μ H (mDo m g ρ h)) : Sat X W L σ μ H (m ρ h) fun a h1 μ1 H1 => Rel (ctX X) L ρ σ μ1 H1 h1 ∧ SatS X W D0 L μ1 H1 (g a ρ h1) := by
  unfold mDo at q
  cases e : m ρ h with
  | none => rw [e] at q; exact q.none
  | some o =>
    rw [e] at q
    cases o with
    | ex c fs h1 => exact fun cls d m1 H1 g1 r1 x => q cls d σ m1 H1 g1 (r.go g1 r1) x
    | ok a h1 => exact fun m1 H1 g1 r1 => ⟨r.go g1 r1, SatS.start (show SatS X W D0 L μ H (g a ρ h1) from q) g1⟩
/-- an expression's mirror ahead of a statement's end -/
theorem rdS_bind {α : Type} {m : M α} {g : α → MS} (q : rdS X W (mDo m g) D0 σ H) : rdG X W m σ H fun ρ L a h1 μ1 H1 => Rel (ctX X) L ρ σ μ1 H1 h1 ∧ SatS X W D0 L μ1 H1 (g a ρ h1) := by
  obtain ⟨ρ, L, μ, h, rel, q⟩ := q
  exact ⟨ρ, L, μ, h, rel, q.bind rel⟩
theorem s_nil : PSs X [] (rdS X W mNx) := pss_imp pss_nil fun D σ H ⟨ρ, L, μ, h, rel, q⟩ => q σ μ H .refl rel
theorem s_pass {pos : Pos} : PS X (.Pass pos) (rdS X W mNx) := ps_imp ps_pass fun D σ H ⟨ρ, L, μ, h, rel, q⟩ => q σ μ H .refl rel
def mBk : MS := fun ρ h => some (.bk ρ h)
def mCt : MS := fun ρ h => some (.ct ρ h)
theorem s_break {pos : Pos} : PS X (.Break pos) (rdS X W mBk) := ps_imp ps_break fun D σ H ⟨ρ, L, μ, h, rel, q⟩ => q σ μ H .refl rel
theorem s_continue {pos : Pos} : PS X (.Continue pos) (rdS X W mCt) := ps_imp ps_continue fun D σ H ⟨ρ, L, μ, h, rel, q⟩ => q σ μ H .refl rel
theorem s_cons {s : Stmt} {ss : List Stmt} {m ms : MS} (h1 : PS X s (rdS X W m)) (h2 : PSs X ss (rdS X W ms)) : PSs X (s :: ss) (rdS X W (mSeq m ms)) := by
  refine pss_imp (pss_cons h1 h2) fun D σ H ⟨ρ, L, μ, h, rel, q⟩ => ⟨ρ, L, μ, h, rel, ?_⟩
  unfold mSeq at q
  cases e : m ρ h with
  | none => rw [e] at q; exact q.none
  | some o =>
    rw [e] at q
    cases o with
    | nx ρ1 h1 => exact fun σ1 m1 H1 g r => ⟨ρ1, L, m1, h1, r, SatS.start (show SatS X W D L μ H (ms ρ1 h1) from q) g⟩
    | bk ρ1 => exact q
    | ct ρ1 => exact q
    | rt n ρ1 => exact q
    | ex c fs ρ1 => exact q
def mExpr (m : M D) : MS := mDo m fun _ => mNx
theorem s_expr {e : Expr} {m : M D} {pos : Pos} (he : PE X e (rd X W m)) (hs : swapsWith e none pos.line X.env = pure false := by rfl) : PS X (.Expr e pos) (rdS X W (mExpr m)) :=
  ps_imp (ps_expr he hs) fun D σ H q => rdG_imp (rdS_bind q) fun ρ L d h1 μ1 H1 ⟨rel1, q1⟩ x rx => q1 σ μ1 H1 .refl rel1
def mRet (m : M D) : MS := mDo m fun d => fun _ h => some (.rt d h)
theorem s_ret {e : Expr} {m : M D} {pos : Pos} (he : PE X e (rd X W m)) : PS X (.Return (some e) pos) (rdS X W (mRet m)) :=
  ps_imp (ps_ret he) fun D σ H q => rdG_imp (rdS_bind q) fun ρ L d h1 μ1 H1 ⟨rel1, q1⟩ x rx => q1 μ1 H1 x .refl rel1.hr rx
def mRetN : MS := fun _ h => some (.rt .non h)
theorem s_retN {pos : Pos} : PS X (.Return none pos) (rdS X W mRetN) := ps_imp ps_retN fun D σ H ⟨ρ, L, μ, h, rel, q⟩ => q μ H .non .refl rel.hr rfl
def mIfS (c : M Bool) (a b : MS) : MS := mDo c fun k => if k = true then a else b
theorem s_if {c : Expr} {as bs : List Stmt} {mc : M Bool} {ma mb : MS} {pos : Pos} (hc : PT X c (rdT X W mc)) (ha : PSs X as (rdS X W ma)) (hb : PSs X bs (rdS X W mb)) : PS X (.If c as bs pos) (rdS X W (mIfS mc ma mb)) := by
  refine ps_imp (ps_if hc ha hb) fun D σ H q => rdG_imp (rdS_bind q) fun ρ L k h1 μ1 H1 ⟨rel1, q1⟩ => ?_
  cases k with
  | true => exact ⟨ρ, L, μ1, h1, rel1, q1⟩
  | false => exact ⟨ρ, L, μ1, h1, rel1, q1⟩
/-! storing a name -/
def mSet (i : Nat) (m : M D) : MS := mDo m fun d => fun ρ h => some (.nx (ρ.set i (some d)) h)
theorem s_set {i : Nat} {x : Str} {e : Expr} {m : M D} {pos pos' : Pos} (hN : X.N.Nodup) (hi : X.N[i]? = some x) (hx : Loc X.env.scope x) (he : PE X e (rd X W m)) (hs : swapsWith e (some (.Name x pos')) pos.line X.env = pure false := by rfl)
    (hf : X.fn x = true ∨ X.env.scope.names.lookup x = some .local := by first | exact .inl rfl | exact .inr rfl | assumption) : PS X (.Assign [.Name x pos'] e pos) (rdS X W (mSet i m)) :=
  ps_imp (ps_set hN hi hx he hs hf) fun D σ H q => rdG_imp (rdS_bind q) fun ρ L d h1 μ1 H1 ⟨rel1, q1⟩ y ry => q1 _ μ1 H1 .refl (rel1.set ry)
end
end Rh

set_option Elab.async false
set_option linter.all false
set_option maxRecDepth 100000
set_option maxHeartbeats 2000000
set_option autoImplicit false
namespace Rh
open PySem PySem.Spec PyProof.Rows L2

/-! ### calls of own defs -/
inductive FR where
  | rt (d : D) (h : Hs)
  | ex (c : Str) (fs : List (Str × D)) (h : Hs)
def envOf (n : Nat) (as : List D) : En := as.map some ++ List.replicate (n - as.length) none
/-- a def's mirror from its body's -/
def runDef (n : Nat) (body : MS) (as : List D) (h : Hs) : Option FR := match body (envOf n as) h with
  | some (.nx _ h) => some (.rt .non h)
  | some (.rt r h) => some (.rt r h)
  | some (.ex c fs _ h) => some (.ex c fs h)
  | _ => none
abbrev FM := List D → Hs → Option FR
/-- what a def promises: its mirror -/
def spF (C : Ct) (np : Nat) (f : FM) : Sp := fun vs H Q E => ∃ L μ h as, vs.length = np ∧ RepL C μ H as vs ∧ HR C L μ H h ∧ match f as h with
  | none => False
  | some (.rt d h') => ∀ x μ' H', Go L μ H μ' H' → HR C L μ' H' h' → RepV C μ' H' d x → Q x H'
  | some (.ex c fs h') => ∀ cls dd μ' H', Go L μ H μ' H' → HR C L μ' H' h' → RepX C μ' H' c fs cls dd → E cls dd H'
def mCall (f : FM) (ms : M (List D)) : M D := mBind ms fun as => fun _ h => match f as h with
  | none => none
  | some (.rt d h') => some (.ok d h')
  | some (.ex c fs h') => some (.ex c fs h')
section
variable {X : Cx} {W : WX} {σ : L2.St} {H : Hp} {Q : VK}
theorem passes_at (tk : Takes X W) : ∀ σ, PassesAt (CX X.prog X.w) X σ (fun cls d H' => W cls d σ H') := fun σ pins H s e s' I c => tk e s' (XE.of_call I (fun cls d H' h => h) c)
abbrev LenM (ms : M (List D)) (n : Nat) : Prop := ∀ ρ h bs h1, ms ρ h = some (.ok bs h1) → bs.length = n
theorem len_nil : LenM mNil 0 := fun ρ h bs ρ1 e => by cases e; rfl
theorem len_cons {m : M D} {ms : M (List D)} {n : Nat} (q : LenM ms n) : LenM (mCons m ms) (n + 1) := fun ρ h bs h1 e => by
  unfold mCons mBind at e
  split at e
  · cases e
  · rename_i x h2 _
    dsimp only at e
    split at e
    · cases e
    · rename_i xs h3 e2
      cases e
      rw [List.length_cons, q _ _ _ _ e2]
    · cases e
  · cases e
/-- what the callee asks -/
theorem sp_of {f : FM} {np : Nat} {as : List D} {vs : List V} {L : List Nat} {μ : Mu} {h : Hs} (hl : as.length = np) (hr : HR (ctX X) L μ H h) (rl : RepL (ctX X) μ H as vs)
    (q : Sat X W L σ μ H (match f as h with | none => none | some (.rt d h') => some (R.ok d h') | some (.ex c fs h') => some (.ex c fs h')) fun d h' μ' H' => ∀ x, RepV (ctX X) μ' H' d x → Q x H') :
    spF (ctX X) np f vs H Q (fun cls d H' => W cls d σ H') := by
  refine ⟨L, μ, h, as, rl.length.trans hl, rl, hr, ?_⟩
  cases e : f as h with
  | none => rw [e] at q; exact q.none
  | some o =>
    rw [e] at q
    cases o with
    | rt d h' => exact fun x μ' H' g r rv => q μ' H' g r x rv
    | ex c fs h' => exact fun cls dd μ' H' g r rx => q cls dd μ' H' g r rx
theorem rd_call {f : FM} {np : Nat} {ms : M (List D)} (hlen : LenM ms np) (q : rd X W (mCall f ms) σ H Q) :
    tCallSD (spF (ctX X) np f) [] (fun σ cls d H' => W cls d σ H') (rdA X W ms) σ H Q := by
  obtain ⟨ρ, L, μ, h, rel, q⟩ := q
  refine ⟨ρ, L, μ, h, rel, ?_⟩
  have q2 := q.bind rel
  cases em : ms ρ h with
  | none => rw [em] at q2; exact q2.none
  | some o =>
    rw [em] at q2
    cases o with
    | ex c fs h1 => exact q2
    | ok as h1 =>
      intro μ1 H1 g1 r1 vs rs
      obtain ⟨_, rel1, q3⟩ := q2 μ1 H1 g1 r1
      rw [List.append_nil]
      exact sp_of (hlen ρ h as h1 em) rel1.hr rs q3
variable {k : Nat} {f : Addr} {fd : FuncData} {ps N : List Str} {np : Nat} {fm : FM} {x : Str} {p pos : Pos} {e : Expr} {es : List Expr} {ms : M (List D)}
theorem e_call (F : FnOk X.prog X.w X.K X.mg X.base (L2.CX X.prog X.w) k f fd ps (spF (ctX X) np fm)) (hr : Room k X.A) (hm : X.mg x = some (.ref f)) (hk : PySem.W.keepIn X.K (.ref f) = true) (hb : Binds X.K fd ps []) (tk : Takes X W) (hlen : LenM ms np) (hg : Gl X x)
    (ha : PA X (e :: es) (rdA X W ms)) (hdb : (x == ("__debug__" : Str)) = false := by decide) (he : starEach (e :: es) X.env = (false, eval e X.env) :: starEach es X.env := by rfl) (hpl : (backTo pos (starEach es X.env)).any (·.1) = false := by rfl) :
    PE X (.Call (.Name x p) (e :: es) [] pos) (rd X W (mCall fm ms)) :=
  pe_imp (pe_callSD F hr hg hm hk hb .nil (passes_at tk) ha hdb he hpl) fun _ _ _ h => rd_call hlen h
theorem e_call0 (F : FnOk X.prog X.w X.K X.mg X.base (L2.CX X.prog X.w) k f fd ps (spF (ctX X) 0 fm)) (hr : Room k X.A) (hm : X.mg x = some (.ref f)) (hk : PySem.W.keepIn X.K (.ref f) = true) (hb : Binds X.K fd ps []) (tk : Takes X W) (hg : Gl X x)
    (hdb : (x == ("__debug__" : Str)) = false := by decide) : PE X (.Call (.Name x p) [] [] pos) (rd X W (mCall fm mNil)) := by
  refine ⟨fun pins s σ H Q I q => ?_⟩
  refine wpAny_Call_Name_kw (ld_glob I hg hm ?_ hdb)
  obtain ⟨ρ, L, μ, h, rel, q⟩ := q
  exact PySem.W.callWith_K0 I.kIn hk (run_fnSD (us := []) (E := fun σ cls d H' => W cls d σ H') F hr hb .nil (passes_at tk σ) I .nil (sp_of (as := []) rfl rel.hr rfl q))
end
/-! ### a def -/
/-- the context of a def's body -/
abbrev cxD (P : Program) (w : World) (K : PySem.W.Frag) (mg : Str → Option Value) (base : Heap) (N : List Str) (qual : Str) (st : Stmt) (f : Addr) (cdv : Value) (A : Around) (outer : List PySem.Env) (s : Shared) (H : Hp) (E : XK) : Cx :=
  cxOf (L2.CX P w) P w K mg base N qual (defScope st) f cdv A outer s H E
abbrev wD (E : XK) : WX := fun cls d _ H => E cls d H
theorem tkD {P : Program} {w : World} {K : PySem.W.Frag} {mg : Str → Option Value} {base : Heap} {N : List Str} {qual : Str} {st : Stmt} {f : Addr} {cdv : Value} {A : Around} {outer : List PySem.Env} {s : Shared} {H : Hp} {E : XK} : Takes (cxD P w K mg base N qual st f cdv A outer s H E) (wD E) := takes_of rfl rfl rfl rfl
theorem poD {P : Program} {w : World} {K : PySem.W.Frag} {mg : Str → Option Value} {base : Heap} {N : List Str} {qual : Str} {st : Stmt} {f : Addr} {cdv : Value} {A : Around} {outer : List PySem.Env} {s : Shared} {H : Hp} {E : XK} :
    PassesOwn (model (cxD P w K mg base N qual st f cdv A outer s H E).prog (cxD P w K mg base N qual st f cdv A outer s H E).w) (cxD P w K mg base N qual st f cdv A outer s H E).A (cxD P w K mg base N qual st f cdv A outer s H E).env (cxD P w K mg base N qual st f cdv A outer s H E).xe := passes_of rfl
theorem env_rel {C : Ct} {L : List Nat} {μ : Mu} {H : Hp} {h : Hs} {N : List Str} {as : List D} {vs : List V} (rl : RepL C μ H as vs) (hr : HR C L μ H h) (hN : vs.length ≤ N.length) : Rel C L (envOf N.length as) (start N vs) μ H h := by
  have hl := rl.length
  refine ⟨?_, fun i d e => ?_, hr⟩
  · unfold envOf L2.start
    rw [List.length_append, List.length_append, List.length_map, List.length_map, List.length_replicate, List.length_replicate]
    omega
  · unfold envOf at e
    by_cases hi : i < as.length
    · rw [List.getElem?_append_left (by simpa using hi), List.getElem?_map] at e
      obtain ⟨d', e1, e2⟩ := Option.map_eq_some_iff.mp e
      cases e2
      obtain ⟨v, e3, rv⟩ := rl.get e1
      refine ⟨v, ?_, rv⟩
      unfold L2.start
      rw [List.getElem?_append_left (by rw [List.length_map]; omega), List.getElem?_map, e3]
      rfl
    · rw [List.getElem?_append_right (by simpa using Nat.le_of_not_lt hi), List.getElem?_replicate] at e
      split at e <;> cases e
theorem fn_ok {P : Program} {w : World} {K : PySem.W.Frag} {mg : Str → Option Value} {base : Heap} {x qual : Str} {st : Stmt} {f : Addr} {fd : FuncData} {N ps : List Str} {k np : Nat} {mb : MS} (F : Fun K x qual st f fd) (S : FnScope N ps (defScope st)) (hp : ps.length = np) (hN : np ≤ N.length)
    (hbody : ∀ (cdv : Value) (A : Around) (outer : List PySem.Env) (s : Shared) (H : Hp) (E : XK), Room k (A.deeper (envOfC qual (defScope st) s.heap.objs.size f cdv)) →
      PSs (cxD P w K mg base N qual st f cdv A outer s H E) (defBody st) (rdS (cxD P w K mg base N qual st f cdv A outer s H E) (wD E) mb)) :
    FnOk P w K mg base (L2.CX P w) (k + 1) f fd ps (spF ⟨w, K, mg⟩ np (runDef N.length mb)) := by
  refine F.okX S (fun vs H Q E ⟨L, μ, h, as, hv, _⟩ => hv.trans hp.symm) fun cdv A outer s H vs Q E hr ⟨L, μ, h, as, hv, rl, r, q⟩ => ⟨_, hbody cdv A outer s H E hr, _, L, μ, h, env_rel rl r (by omega), ?_⟩
  unfold runDef at q
  cases e : mb (envOf N.length as) h with
  | none => simp only [e] at q
  | some o =>
    cases o with
    | nx ρ h' => simp only [e] at q; exact fun σ' μ' H' g r => q .non μ' H' g r.hr rfl
    | rt n ρ => simp only [e] at q; exact fun μ' H' x g r rr => q x μ' H' g r rr
    | ex c fs ρ h' => simp only [e] at q; exact fun cls d σ' μ' H' g r rx => q cls d μ' H' g r.hr rx
    | bk ρ => simp only [e] at q
    | ct ρ => simp only [e] at q
end Rh

set_option Elab.async false
set_option linter.all false
set_option maxRecDepth 100000
set_option maxHeartbeats 2000000
set_option autoImplicit false
namespace Rh
open PySem PySem.Spec PyProof.Rows L2
/-! ### dicts, at the heap -/
abbrev Ent := NestedKey × Value × Value
def idxK (ks : List NestedKey) (k : NestedKey) : Option Nat := ks.findIdx? fun x => decide (x = k)
structure RawD (w : World) (h : Heap) (a : Addr) (ep : Nat) (rs : List Ent) : Prop where
  sys : (a == sysModules) = false
  sz : rs.length ≤ sizeLine
  at_ : ∃ o, h.get? a = some o ∧ o.ExactDict ∧ o.data = .dict (rs.map fun e => (⟨e.1.hash w, e.2.1, e.2.2⟩ : DictEntry)).toArray ep
  nd : (rs.map (·.1)).Nodup
def KL (rs : List Ent) : Prop := ∀ r ∈ rs, ∃ l : Leaf, l.key = r.1 ∧ Leaf.isOf l r.2.1 = true
def KT (h : Heap) (rs : List Ent) : Prop := ∀ r ∈ rs, ∃ b, r.2.1 = .ref b ∧ NestedIs h r.1 (.ref b) ∧ r.1.depth ≤ 8
def putR (rs : List Ent) (k : NestedKey) (ku vu : Value) : List Ent := match idxK (rs.map (·.1)) k with
  | some i => rs.modify i fun r => (r.1, r.2.1, vu)
  | none => rs ++ [(k, ku, vu)]
def getR (rs : List Ent) (k : NestedKey) : Option Value := (idxK (rs.map (·.1)) k).bind fun i => (rs[i]?).map (·.2.2)
def toLeaf : NestedKey → Leaf
  | .none => .none
  | .num i => .num i
  | .text x => .text x
  | .tup _ => .none
theorem toLeaf_key : ∀ l : Leaf, toLeaf l.key = l
  | .none => rfl
  | .num _ => rfl
  | .text _ => rfl
theorem key_toLeaf {rs : List Ent} (hk : KL rs) {r : Ent} (h : r ∈ rs) : (toLeaf r.1).key = r.1 ∧ Leaf.isOf (toLeaf r.1) r.2.1 = true := by
  obtain ⟨l, e, i⟩ := hk r h
  rw [← e, toLeaf_key]
  exact ⟨rfl, i⟩
def adr : Value → Addr
  | .ref a => a
  | _ => default
def lv (r : Ent) : Leaf × Value := (toLeaf r.1, r.2.2)
def tv (r : Ent) : NestedKey × Addr × Value := (r.1, adr r.2.1, r.2.2)
theorem idx_lv {rs : List Ent} (hk : KL rs) (l : Leaf) : (rs.map lv).findIdx? (fun kv => decide (kv.1 = l)) = idxK (rs.map (·.1)) l.key := by
  unfold idxK
  rw [List.findIdx?_map, List.findIdx?_map]
  induction rs with
  | nil => rfl
  | cons r rs ih =>
    have h1 := key_toLeaf hk (List.mem_cons_self ..)
    have e : decide ((lv r).1 = l) = decide (r.1 = l.key) := by
      by_cases q : (lv r).1 = l
      · rw [decide_eq_true q]
        have q2 : r.1 = l.key := by rw [← q]; exact h1.1.symm
        rw [decide_eq_true q2]
      · rw [decide_eq_false q]
        have q2 : ¬ r.1 = l.key := fun z => q (by show toLeaf r.1 = l; rw [z, toLeaf_key])
        rw [decide_eq_false q2]
    rw [List.findIdx?_cons, List.findIdx?_cons, ih fun r h => hk r (List.mem_cons_of_mem _ h)]
    show (if decide ((lv r).1 = l) = true then _ else _) = (if decide (r.1 = l.key) = true then _ else _)
    rw [e]
theorem find_idx {α : Type} (p : α → Bool) : ∀ xs : List α, xs.find? p = (xs.findIdx? p).bind fun i => xs[i]?
  | [] => rfl
  | x :: xs => by
    rw [List.find?_cons, List.findIdx?_cons]
    cases h : p x with
    | true => rfl
    | false =>
      simp only [Bool.false_eq_true, if_false]
      rw [find_idx p xs]
      cases xs.findIdx? p <;> rfl
theorem at_lv {rs : List Ent} (hk : KL rs) (l : Leaf) : valueAt (rs.map lv) l = getR rs l.key := by
  unfold valueAt getR
  rw [find_idx, idx_lv hk]
  cases idxK (rs.map (·.1)) l.key with
  | none => rfl
  | some i =>
    show ((rs.map lv)[i]?).map _ = (rs[i]?).map _
    rw [List.getElem?_map]
    cases rs[i]? <;> rfl
theorem at_tv {rs : List Ent} (k : NestedKey) : (atKey (rs.map tv) k).map (·.2) = getR rs k := by
  have e : (rs.map tv).findIdx? (fun x => decide (x.1 = k)) = idxK (rs.map (·.1)) k := by
    unfold idxK
    rw [List.findIdx?_map, List.findIdx?_map]
    rfl
  unfold atKey getR
  rw [find_idx, e]
  cases idxK (rs.map (·.1)) k with
  | none => rfl
  | some i =>
    show (((rs.map tv)[i]?).map _).map _ = (rs[i]?).map _
    rw [List.getElem?_map]
    cases rs[i]? <;> rfl
section
variable {P : Program} {w : World} {h : Heap} {a : Addr} {ep : Nat} {rs : List Ent}
theorem RawD.leaf (x : RawD w h a ep rs) (hk : KL rs) : h.DictOf (leafKind P w) a (rs.map lv) := by
  obtain ⟨o, ho, hc, hd⟩ := x.at_
  refine ⟨o, _, ep, ho, hc, hd, fun e he => ?_, ?_, ?_⟩
  · obtain ⟨r, hr, rfl⟩ := List.mem_map.mp (List.mem_toArray.mp he)
    obtain ⟨h1, h2⟩ := key_toLeaf hk hr
    exact ⟨toLeaf r.1, h2, by show NestedKey.hash w r.1 = NestedKey.hash w (toLeaf r.1).key; rw [h1]⟩
  · have : ∀ l : List Ent, KL l → Pairs (leafKind P w) (l.map fun e => (⟨e.1.hash w, e.2.1, e.2.2⟩ : DictEntry)) (l.map lv) := fun l => by
      induction l with
      | nil => exact fun _ => .nil
      | cons r l ih => exact fun q => .cons (key_toLeaf q (List.mem_cons_self ..)).2 rfl (ih fun r h => q r (List.mem_cons_of_mem _ h))
    exact this rs hk
  · have nd := x.nd
    have : ∀ l : List Ent, KL l → (l.map (·.1)).Nodup → ((l.map lv).map (·.1)).Nodup := fun l => by
      induction l with
      | nil => exact fun _ _ => .nil
      | cons r l ih =>
        intro q n
        rw [List.map_cons, List.nodup_cons] at n
        rw [List.map_cons, List.map_cons, List.nodup_cons]
        refine ⟨fun hm => n.1 ?_, ih (fun r h => q r (List.mem_cons_of_mem _ h)) n.2⟩
        obtain ⟨p, hp, e⟩ := List.mem_map.mp hm
        obtain ⟨r2, hr2, rfl⟩ := List.mem_map.mp hp
        refine List.mem_map.mpr ⟨r2, hr2, ?_⟩
        have e : toLeaf r2.1 = toLeaf r.1 := e
        rw [← (key_toLeaf q (List.mem_cons_of_mem _ hr2)).1, ← (key_toLeaf q (List.mem_cons_self ..)).1, e]
    exact this rs hk nd
theorem RawD.heap (x : RawD w h a ep rs) (hk : KT h rs) : h.DictOfH (nestedKind P w) a (rs.map tv) := by
  obtain ⟨o, ho, hc, hd⟩ := x.at_
  refine ⟨o, _, ep, ho, hc, hd, ?_, fun y hy => ?_, ?_⟩
  · show rs.map _ = (rs.map tv).map _
    rw [List.map_map]
    refine List.map_congr_left fun r hr => ?_
    obtain ⟨b, e, _⟩ := hk r hr
    show (⟨r.1.hash w, r.2.1, r.2.2⟩ : DictEntry) = ⟨r.1.hash w, .ref (adr r.2.1), r.2.2⟩
    rw [e]
    rfl
  · obtain ⟨r, hr, rfl⟩ := List.mem_map.mp hy
    obtain ⟨b, e, n, dp⟩ := hk r hr
    show NestedIs h r.1 (.ref (adr r.2.1)) ∧ r.1.depth ≤ 8
    rw [e]
    exact ⟨n, dp⟩
  · rw [List.map_map]
    exact x.nd
end
section
variable {P : Program} {w : World} {A : Around} {E : Value → Shared → Prop} {s : Shared} {a : Addr} {ep : Nat} {rs : List Ent} {k : NestedKey} {ku : Value}
/-- a key to look up: simple, or a tuple -/
def KeyFor (h : Heap) (rs : List Ent) (k : NestedKey) (ku : Value) : Prop := (KL rs ∧ ∃ l : Leaf, l.key = k ∧ Leaf.isOf l ku = true) ∨ (KT h rs ∧ ∃ b, ku = .ref b ∧ NestedIs h k (.ref b) ∧ k.depth ≤ 8)
theorem raw_get {v : Value} {Q : Value → Shared → Prop} (hu : A.in1.units + 8 < cLine) (x : RawD w s.heap a ep rs) (hk : KeyFor s.heap rs k ku) (hv : getR rs k = some v) (hq : ∀ tk, Q v { s with toks := tk }) :
    wpAny (model P w) A (getItem (.ref a) ku) Q E s := by
  rcases hk with ⟨kl, l, rfl, hl⟩ | ⟨kt, b, rfl, hb, dp⟩
  · exact wpAny_getItem_of (knd := leafKind P w) hl (x.leaf kl).mapOf (by rw [at_lv kl]; exact hv) (hq _)
  · rw [← at_tv] at hv
    obtain ⟨p, hp, rfl⟩ := Option.map_eq_some_iff.mp hv
    exact wpAny_getItem_heap (knd := nestedKind P w) hu ⟨hb, dp⟩ (x.heap kt) hp (hq _)
theorem raw_in {Q : Value → Shared → Prop} (hu : A.in1.units + 8 < cLine) (x : RawD w s.heap a ep rs) (hk : KeyFor s.heap rs k ku) (hq : ∀ tk, Q (.bool (getR rs k).isSome) { s with toks := tk }) :
    wpAny (model P w) A (compareOp .In ku (.ref a)) Q E s := by
  rcases hk with ⟨kl, l, rfl, hl⟩ | ⟨kt, b, rfl, hb, dp⟩
  · refine wpAny_in_of (knd := leafKind P w) hl x.sys (x.leaf kl).mapOf ?_
    rw [at_lv kl]
    exact hq _
  · refine wpAny_in_heap (knd := nestedKind P w) hu ⟨hb, dp⟩ x.sys (x.heap kt) ?_
    rw [← Option.isSome_map (f := (·.2)), at_tv]
    exact hq _
end
theorem put_some {rs : List Ent} {k : NestedKey} {ku vu : Value} {i : Nat} (h : idxK (rs.map (·.1)) k = some i) : putR rs k ku vu = rs.modify i fun r => (r.1, r.2.1, vu) := by
  unfold putR
  rw [h]
theorem put_none {rs : List Ent} {k : NestedKey} {ku vu : Value} (h : idxK (rs.map (·.1)) k = none) : putR rs k ku vu = rs ++ [(k, ku, vu)] := by
  unfold putR
  rw [h]
theorem modify_map {α β : Type} (f : α → β) (g : α → α) (g' : β → β) (h : ∀ a, f (g a) = g' (f a)) : ∀ (xs : List α) (i : Nat), (xs.modify i g).map f = (xs.map f).modify i g'
  | [], i => by simp
  | x :: xs, 0 => by simp [h]
  | x :: xs, i + 1 => by simp [modify_map f g g' h xs i]
theorem put_keys {rs : List Ent} {k : NestedKey} {ku vu : Value} : (putR rs k ku vu).map (·.1) = match idxK (rs.map (·.1)) k with
  | some _ => rs.map (·.1)
  | none => rs.map (·.1) ++ [k] := by
  cases e : idxK (rs.map (·.1)) k with
  | some i =>
    rw [put_some e, modify_map (fun r : Ent => r.1) (fun r => (r.1, r.2.1, vu)) id fun a => rfl]
    simp
  | none => rw [put_none e, List.map_append]; rfl
theorem put_nodup {rs : List Ent} {k : NestedKey} {ku vu : Value} (nd : (rs.map (·.1)).Nodup) : ((putR rs k ku vu).map (·.1)).Nodup := by
  rw [put_keys]
  cases e : idxK (rs.map (·.1)) k with
  | some i => exact nd
  | none =>
    show (rs.map (·.1) ++ [k]).Nodup
    rw [List.nodup_append]
    refine ⟨nd, by simp, fun x hx y hy => ?_⟩
    have ey : y = k := by simpa using hy
    subst ey
    intro exy
    subst exy
    have := List.findIdx?_eq_none_iff.mp e x hx
    simp at this
theorem put_len {rs : List Ent} {k : NestedKey} {ku vu : Value} : (putR rs k ku vu).length ≤ rs.length + 1 := by
  cases e : idxK (rs.map (·.1)) k with
  | some i => rw [put_some e, List.length_modify]; omega
  | none => rw [put_none e, List.length_append]; simp
end Rh

set_option Elab.async false
set_option linter.all false
set_option maxRecDepth 100000
set_option maxHeartbeats 2000000
set_option autoImplicit false
namespace Rh
open PySem PySem.Spec PyProof.Rows L2
section
variable {P : Program} {w : World} {A : Around} {E : Value → Shared → Prop} {s : Shared} {a : Addr} {ep : Nat} {rs : List Ent} {k : NestedKey} {ku : Value}
theorem modify_toArray {α : Type} (l : List α) (i : Nat) (f : α → α) : l.toArray.modify i f = (l.modify i f).toArray := by simp
def ent (w : World) (e : Ent) : DictEntry := ⟨e.1.hash w, e.2.1, e.2.2⟩
theorem idx_arr {rs : List Ent} (hk : KL rs) (l : Leaf) : ((rs.map (ent w)).toArray.findIdx? fun e => (leafKind P w).is l e.key) = idxK (rs.map (·.1)) l.key := by
  rw [List.findIdx?_toArray, List.findIdx?_map]
  unfold idxK
  rw [List.findIdx?_map]
  induction rs with
  | nil => rfl
  | cons r rs ih =>
    obtain ⟨h1, h2⟩ := key_toLeaf hk (List.mem_cons_self ..)
    have e : (leafKind P w).is l r.2.1 = decide (r.1 = l.key) := by
      rw [KeyKind.is_eq_decide (knd := leafKind P w) h2 l]
      by_cases q : l = toLeaf r.1
      · rw [decide_eq_true q, decide_eq_true (show r.1 = l.key by rw [q]; exact h1.symm)]
      · rw [decide_eq_false q, decide_eq_false (fun z => q (by rw [z, toLeaf_key]))]
    rw [List.findIdx?_cons, List.findIdx?_cons, ih fun r h => hk r (List.mem_cons_of_mem _ h)]
    show (if (leafKind P w).is l r.2.1 = true then _ else _) = (if decide (r.1 = l.key) = true then _ else _)
    rw [e]
theorem raw_set_leaf {l : Leaf} {vu : Value} {Q : Unit → Shared → Prop} (x : RawD w s.heap a ep rs) (kl : KL rs) (hl : Leaf.isOf l ku = true) (hz : rs.length < sizeLine)
    (hQ : ∀ h' ep' tk, RawD w h' a ep' (putR rs l.key ku vu) → Heap.SameBut a s.heap h' → Q () { s with heap := h', toks := tk }) : wpAny (model P w) A (setItem (.ref a) ku vu) Q E s := by
  have D := x.leaf (P := P) kl
  have hT := D.typeIs
  obtain ⟨_, _, _, _, _, _, hko, _, _⟩ := id D
  obtain ⟨o, ho, hc, hd⟩ := x.at_
  have hko : KeysOf (leafKind P w) (rs.map (ent w)).toArray := fun e he => by
    obtain ⟨r, hr, rfl⟩ := List.mem_map.mp (List.mem_toArray.mp he)
    obtain ⟨h1, h2⟩ := key_toLeaf kl hr
    exact ⟨toLeaf r.1, h2, by show NestedKey.hash w r.1 = NestedKey.hash w (toLeaf r.1).key; rw [h1]⟩
  have hkey : (leafKind P w).is l ku = true := hl
  have nd2 := put_nodup (k := l.key) (ku := ku) (vu := vu) x.nd
  have sz2 : (putR rs l.key ku vu).length ≤ sizeLine := Nat.le_trans put_len hz
  unfold setItem
  try with_reducible refine wpAny_holding ?_
  refine wpAny_bind (wpAny_sequenceKey hT (by decide) ?_)
  refine wpAny_bind (wpAny_callSpecial?_slot (name := Str.ofString "__setitem__") hT slot_dict_setitem
    (wpAny_call_entry slot_dict_setitem hT entry_dict_setitem ?_ (args_dict_setitem _ _ _)))
  show wpAny _ _ (Builtin.Dict.notOrdered "__setitem__" ⟨[.ref a, ku, vu], []⟩ >>= _) _ _ s
  refine wpAny_bind (wpAny_notOrdered_dict hT ?_)
  show wpAny _ _ (dictSet a ku vu >>= _) _ _ s
  refine wpAny_bind ?_
  unfold dictSet
  try with_reducible refine wpAny_holding ?_
  refine wpAny_bind ((leafKind P w).pyHash hkey ?_)
  unfold dictSetHashed
  try with_reducible refine wpAny_holding ?_
  refine wpAny_bind (wpAny_dictFind_of (s := { s with toks := s.toks + 1 }) hkey ho hd hko ?_)
  have hidx := idx_arr (P := P) (w := w) kl l
  cases hi : idxK (rs.map (·.1)) l.key with
  | some i =>
    have hi2 : ((rs.map fun e => (⟨e.1.hash w, e.2.1, e.2.2⟩ : DictEntry)).toArray.findIdx? fun e => (leafKind P w).is l e.key) = some i := hidx.trans hi
    rw [hi2]
    refine wpAny_bind (wpAny_rule (wpAny_bind (wpAny_updateDict (s := { s with toks := s.toks + 1 }) ho hd (wpAny_point (wpAny_pure ⟨.none, rfl, wpAny_pure (hQ _ ep _ ⟨x.sys, sz2, ⟨_, Heap.get?_update_self _ ho (Obj.isFreed_of_dict (Obj.data_mapDict hd _)),
      hc.mapDict _, ?_⟩, nd2⟩ (Heap.SameBut.update ..))⟩)))))
    rw [Obj.data_mapDict hd _, put_some hi, modify_map (fun e : Ent => (⟨e.1.hash w, e.2.1, e.2.2⟩ : DictEntry)) (fun r => (r.1, r.2.1, vu)) (fun e => { e with val := vu }) fun _ => rfl]
    simp
  | none =>
    have hi2 : ((rs.map fun e => (⟨e.1.hash w, e.2.1, e.2.2⟩ : DictEntry)).toArray.findIdx? fun e => (leafKind P w).is l e.key) = none := hidx.trans hi
    rw [hi2]
    refine wpAny_bind (wpAny_rule (wpAny_updateDictKeys (hz := by simp; exact Nat.le_of_lt hz) (s := { s with toks := s.toks + 1 }) ho hd (wpAny_pure ⟨.none, rfl, wpAny_pure (hQ _ (ep + 1) _ ⟨x.sys, sz2, ⟨_, Heap.get?_update_self _ ho (Obj.isFreed_of_dict (Obj.data_mapDictKeys hd _)),
      hc.mapDictKeys _, ?_⟩, nd2⟩ (Heap.SameBut.update ..))⟩)))
    rw [Obj.data_mapDictKeys hd _, put_none hi, List.map_append]
    simp
    rfl
theorem put_tv (rs : List Ent) (nd : (rs.map (·.1)).Nodup) {k : NestedKey} {b : Addr} {vu : Value} : storedH (rs.map tv) k b vu = (putR rs k (.ref b) vu).map tv := by
  have e : (rs.map tv).findIdx? (fun x => decide (x.1 = k)) = idxK (rs.map (·.1)) k := by
    unfold idxK
    rw [List.findIdx?_map, List.findIdx?_map]
    rfl
  cases hi : idxK (rs.map (·.1)) k with
  | none =>
    have h0 : atKey (rs.map tv) k = none := by
      unfold atKey
      rw [find_idx, e, hi]
      rfl
    rw [storedH_new h0, put_none hi, List.map_append]
    rfl
  | some i =>
    obtain ⟨hlt, hp, _⟩ := List.findIdx?_eq_some_iff_getElem.mp (e.trans hi)
    have h0 : ∃ p, atKey (rs.map tv) k = some p := by
      unfold atKey
      rw [find_idx, e, hi]
      show ∃ p, ((rs.map tv)[i]?).map _ = some p
      rw [List.getElem?_eq_getElem hlt]
      exact ⟨_, rfl⟩
    obtain ⟨p, h0⟩ := h0
    rw [storedH_old h0, put_some hi, modify_map tv (fun r => (r.1, r.2.1, vu)) (fun y => (y.1, y.2.1, vu)) fun _ => rfl]
    have nd2 : ((rs.map tv).map (·.1)).Nodup := by rw [List.map_map]; exact nd
    have hj : (rs.map tv)[i]? = some (k, ((rs.map tv)[i]).2) := by
      rw [List.getElem?_eq_getElem hlt]
      have hk : (rs.map tv)[i].1 = k := of_decide_eq_true hp
      rw [← hk]
    have := modify_map_putAt (id : NestedKey × Addr × Value → NestedKey × Addr × Value) (fun y => (y.1, y.2.1, vu)) k vu (fun _ _ => rfl) nd2 hj
    rw [List.map_id, List.map_id] at this
    exact this.symm
theorem put_mem {rs : List Ent} {k : NestedKey} {ku vu : Value} {r : Ent} (h : r ∈ putR rs k ku vu) : (∃ r0 ∈ rs, r.1 = r0.1 ∧ r.2.1 = r0.2.1) ∨ (r.1 = k ∧ r.2.1 = ku) := by
  cases hi : idxK (rs.map (·.1)) k with
  | none =>
    rw [put_none hi] at h
    rcases List.mem_append.mp h with h | h
    · exact .inl ⟨r, h, rfl, rfl⟩
    · have e : r = (k, ku, vu) := by simpa using h
      subst e
      exact .inr ⟨rfl, rfl⟩
  | some i =>
    rw [put_some hi] at h
    obtain ⟨j, hj, rfl⟩ := List.mem_iff_getElem.mp h
    rw [List.length_modify] at hj
    refine .inl ⟨rs[j], List.getElem_mem hj, ?_⟩
    rw [List.getElem_modify]
    split <;> exact ⟨rfl, rfl⟩
theorem raw_set_heap {b : Addr} {vu : Value} {Q : Unit → Shared → Prop} (hu : A.in1.units + 8 < cLine) (x : RawD w s.heap a ep rs) (kt : KT s.heap rs) (hb : NestedIs s.heap k (.ref b)) (dp : k.depth ≤ 8) (hz : rs.length < sizeLine)
    (hQ : ∀ h' ep' tk, RawD w h' a ep' (putR rs k (.ref b) vu) → Heap.SameBut a s.heap h' → Q () { s with heap := h', toks := tk }) : wpAny (model P w) A (setItem (.ref a) (.ref b) vu) Q E s := by
  have H := x.heap (P := P) kt
  refine wpAny_setItem_heap (knd := nestedKind P w) (hsz := by rw [List.length_map]; exact Nat.le_of_lt hz) hu ⟨hb, dp⟩ H fun h' hm hs => ?_
  rw [put_tv rs x.nd] at hm
  obtain ⟨o, es, ep', ho, hc, hd, he, hi, hn⟩ := hm
  refine hQ h' ep' _ ⟨x.sys, Nat.le_trans put_len hz, ⟨o, ho, hc, ?_⟩, put_nodup x.nd⟩ hs
  rw [hd]
  have e2 : es = ((putR rs k (.ref b) vu).map fun e => (⟨e.1.hash w, e.2.1, e.2.2⟩ : DictEntry)).toArray := by
    rw [← Array.toList_inj, he, List.map_map]
    show _ = List.map _ _
    refine List.map_congr_left fun r hr => ?_
    show (⟨r.1.hash w, .ref (adr r.2.1), r.2.2⟩ : DictEntry) = ⟨r.1.hash w, r.2.1, r.2.2⟩
    have e3 : ∃ c, r.2.1 = .ref c := by
      rcases put_mem hr with ⟨r0, h0, e1, e2⟩ | ⟨e1, e2⟩
      · obtain ⟨c, ec, _⟩ := kt r0 h0
        exact ⟨c, e2.trans ec⟩
      · exact ⟨b, e2⟩
    obtain ⟨c, ec⟩ := e3
    rw [ec]
    rfl
  rw [e2]
theorem raw_set {vu : Value} {Q : Unit → Shared → Prop} (hu : A.in1.units + 8 < cLine) (x : RawD w s.heap a ep rs) (hk : KeyFor s.heap rs k ku) (hz : rs.length < sizeLine)
    (hQ : ∀ h' ep' tk, RawD w h' a ep' (putR rs k ku vu) → Heap.SameBut a s.heap h' → Q () { s with heap := h', toks := tk }) : wpAny (model P w) A (setItem (.ref a) ku vu) Q E s := by
  rcases hk with ⟨kl, l, rfl, hl⟩ | ⟨kt, b, rfl, hb, dp⟩
  · exact raw_set_leaf x kl hl hz hQ
  · exact raw_set_heap hu x kt hb dp hz hQ
end
end Rh

set_option Elab.async false
set_option linter.all false
set_option maxRecDepth 100000
set_option maxHeartbeats 2000000
set_option autoImplicit false
namespace Rh
open PySem PySem.Spec PyProof.Rows L2
/-! ### dicts, in the hand layer -/
def leafK : NestedKey → Bool
  | .tup _ => false
  | _ => true
def okK (ks : List NestedKey) (k : NestedKey) : Bool := (leafK k && ks.all leafK) || (!leafK k && decide (k.depth ≤ 8) && ks.all fun x => !leafK x && decide (x.depth ≤ 8))
def idxD (nks : List NestedKey) (kd : D) : Option (Option Nat) := match keyD kd with
  | some nk => if okK nks nk = true then some (idxK nks nk) else none
  | none => none
theorem idxD_some {nks : List NestedKey} {kd : D} {o : Option Nat} (h : idxD nks kd = some o) : ∃ nk, keyD kd = some nk := by
  unfold idxD at h
  cases e : keyD kd with
  | none => rw [e] at h; cases h
  | some nk => exact ⟨nk, rfl⟩
section
variable {X : Cx} {pins : List (Addr × Obj)} {σ : L2.St} {H : Hp} {μ : Mu} {s : Shared}
mutual
theorem nested_of (I : L2.Inv X pins σ H s) : ∀ (d : D) (x : V) (k : NestedKey) (u : Value), RepV (ctX X) μ H d x → keyD d = some k → RelV x u → NestedIs s.heap k u
  | .non, x, k, u, r, e, ru => by cases e; cases (show x = .non from r); cases ru; exact .none
  | .bl b, x, k, u, r, e, ru => by cases e; cases (show x = .bl b from r); cases ru; exact .bool rfl
  | .int i, x, k, u, r, e, ru => by cases e; cases (show x = .int i from r); obtain ⟨t, rfl⟩ := ru; exact .int _ _
  | .str i, x, k, u, r, e, ru => by cases e; cases (show x = .str i from r); obtain ⟨t, rfl⟩ := ru; exact .text _ _
  | .tup ds, x, k, u, ⟨a, vs, ex, t, q⟩, e, ru => by
    subst ex
    cases ru
    obtain ⟨ks, e1, rfl⟩ := Option.map_eq_some_iff.mp (show (keysD ds).map NestedKey.tup = some k from e)
    obtain ⟨its, rv, ⟨o, ho, hc, n, hd⟩, hz⟩ := I.tuple t.sq
    exact .tup ho hc hd (by simpa using nesteds_of I ds vs ks its q e1 rv)
  | .box _, _, _, _, _, e, _ => nomatch e
  | .gl _, _, _, _, _, e, _ => nomatch e
  | .ty _, _, _, _, _, e, _ => nomatch e
  | .scr _, _, _, _, _, e, _ => nomatch e
theorem nesteds_of (I : L2.Inv X pins σ H s) : ∀ (ds : List D) (xs : List V) (ks : List NestedKey) (us : List Value), RepL (ctX X) μ H ds xs → keysD ds = some ks → Vals xs us → NestedAll s.heap ks us
  | [], xs, ks, us, r, e, ru => by cases e; rw [show xs = [] from r] at ru; cases ru; exact .nil
  | d :: ds, xs, ks, us, ⟨v, rr, ex, h1, h2⟩, e, ru => by
    subst ex
    have e : (match keyD d, keysD ds with
      | some k, some ks => some (k :: ks)
      | _, _ => none) = some ks := e
    cases e1 : keyD d with
    | none => rw [e1] at e; cases e
    | some k0 =>
      cases e2 : keysD ds with
      | none => rw [e1, e2] at e; cases e
      | some ks0 =>
        rw [e1, e2] at e; cases e
        cases ru with
        | cons ra rb => exact .cons (nested_of I d v k0 _ h1 e1 ra) (nesteds_of I ds rr ks0 _ h2 e2 rb)
end
theorem leaf_of {h : Heap} {k : NestedKey} {u : Value} (n : NestedIs h k u) (l : leafK k = true) : ∃ lf : Leaf, lf.key = k ∧ Leaf.isOf lf u = true := by
  cases n with
  | none => exact ⟨.none, rfl, rfl⟩
  | bool e => exact ⟨.num _, rfl, decide_eq_true e.symm⟩
  | int i t => exact ⟨.num i, rfl, decide_eq_true rfl⟩
  | text x t => exact ⟨.text x, rfl, by show Value.isStrOf x (.str x t) = true; simp [Value.isStrOf]⟩
  | tup _ _ _ _ => cases l
theorem tup_of {h : Heap} {k : NestedKey} {u : Value} (n : NestedIs h k u) (l : leafK k = false) : ∃ b, u = .ref b := by
  cases n with
  | tup _ _ _ _ => exact ⟨_, rfl⟩
  | _ => cases l
/-- the entries as they stand -/
def EntR (e : NestedKey × V × V) (r : Ent) : Prop := r.1 = e.1 ∧ RelV e.2.1 r.2.1 ∧ RelV e.2.2 r.2.2
theorem paired_keys {es : List (NestedKey × V × V)} {rs : List Ent} (p : Paired EntR es rs) : rs.map (·.1) = es.map (·.1) := by
  induction p with
  | nil => rfl
  | cons h _ ih => rw [List.map_cons, List.map_cons, ih, h.1]
theorem raw_of {w : World} {h : Heap} {a : Addr} {es : List (NestedKey × V × V)} : ∀ {ents : List DictEntry}, Paired (fun (e : NestedKey × V × V) (d : DictEntry) => d.hash = e.1.hash w ∧ RelV e.2.1 d.key ∧ RelV e.2.2 d.val) es ents →
    ∃ rs : List Ent, ents = rs.map (fun e => (⟨e.1.hash w, e.2.1, e.2.2⟩ : DictEntry)) ∧ Paired EntR es rs := fun {ents} p => by
  induction p with
  | nil => exact ⟨[], rfl, .nil⟩
  | @cons e d es ds h _ ih =>
    obtain ⟨rs, e1, p1⟩ := ih
    refine ⟨(e.1, d.key, d.val) :: rs, ?_, .cons ⟨rfl, h.2.1, h.2.2⟩ p1⟩
    rw [List.map_cons, ← e1]
    obtain ⟨h1, h2, h3⟩ := d
    have q := h.1
    dsimp only at q
    rw [q]
theorem dict_raw (I : L2.Inv X pins σ H s) {a : Addr} {es : Nat × List (NestedKey × V × V)} (e : H a = some (DicO X.w a es)) : ∃ rs, RawD X.w s.heap a es.1 rs ∧ Paired EntR es.2 rs := by
  have x : ObjOk X.prog X.w H s.heap a (.ext fun h => (a == sysModules) = false ∧ es.2.length ≤ sizeLine ∧ ∃ (o : Obj) (ents : Array DictEntry), h.get? a = some o ∧ o.ExactDict ∧ o.data = .dict ents es.1 ∧
    Paired (fun (e : NestedKey × V × V) (d : DictEntry) => d.hash = e.1.hash X.w ∧ RelV e.2.1 d.key ∧ RelV e.2.2 d.val) es.2 ents.toList ∧ (es.2.map (·.1)).Nodup) := I.hok a _ e
  obtain ⟨⟨h1, h2, o, ents, ho, hc, hd, hp, nd⟩, _⟩ := x
  obtain ⟨rs, e1, p⟩ := raw_of (h := s.heap) (a := a) hp
  refine ⟨rs, ⟨h1, by rw [← Paired.length p]; exact h2, ⟨o, ho, hc, by rw [hd, ← e1]⟩, by rw [paired_keys p]; exact nd⟩, p⟩
theorem dict_ok {P : Program} {w : World} {h : Heap} {a : Addr} {ep : Nat} {rs : List Ent} {es : List (NestedKey × V × V)} (x : RawD w h a ep rs) (p : Paired EntR es rs) : ObjOk P w H h a (DicO w a (ep, es)) := by
  obtain ⟨o, ho, hc, hd⟩ := x.at_
  refine ⟨⟨x.sys, by rw [Paired.length p]; exact x.sz, o, _, ho, hc, hd, ?_, by rw [← paired_keys p]; exact x.nd⟩, ⟨o, ho⟩, fun h1 h2 ⟨q1, q2, o, ents, ho, r⟩ k => ⟨q1, q2, o, ents, k o ho, r⟩⟩
  clear ho hd x
  induction p with
  | nil => exact .nil
  | cons h _ ih => exact .cons ⟨congrArg (NestedKey.hash w) h.1, h.2.1, h.2.2⟩ ih
theorem key_for (I : L2.Inv X pins σ H s) {nks : List NestedKey} {ks : List D} {kd : D} {es : List (NestedKey × V × V)} {rs : List Ent} {kx : V} {ku : Value} {o : Option Nat} (hn : es.map (·.1) = nks) (hk : keysD ks = some nks) (rk : RepL (ctX X) μ H ks (es.map (·.2.1))) (p : Paired EntR es rs)
    (rx : RepV (ctX X) μ H kd kx) (ru : RelV kx ku) (e : idxD nks kd = some o) : ∃ nk, keyD kd = some nk ∧ KeyFor s.heap rs nk ku ∧ idxK (rs.map (·.1)) nk = o := by
  subst hn
  unfold idxD at e
  cases ek : keyD kd with
  | none => rw [ek] at e; cases e
  | some nk =>
    rw [ek] at e
    dsimp only at e
    split at e
    · rename_i ok
      cases e
      have n1 := nested_of I kd kx nk ku rx ek ru
      have vs : Vals (es.map (·.2.1)) (rs.map (·.2.1)) := by
        clear hk rk ok
        induction p with
        | nil => exact .nil
        | cons h _ ih => exact .cons h.2.1 ih
      have n2 := nesteds_of I ks _ _ _ rk hk vs
      have each : ∀ r ∈ rs, NestedIs s.heap r.1 r.2.1 := by
        rw [← paired_keys p] at n2
        clear vs rk hk ok p
        induction rs with
        | nil => exact fun _ h => nomatch h
        | cons r rs ih =>
          cases n2 with
          | cons q1 q2 =>
            intro r' hr
            rcases List.mem_cons.mp hr with rfl | hr
            · exact q1
            · exact ih q2 r' hr
      refine ⟨nk, rfl, ?_, by rw [paired_keys p]⟩
      rw [← paired_keys p] at ok
      unfold okK at ok
      rcases Bool.or_eq_true _ _ |>.mp ok with ok | ok
      · obtain ⟨l1, l2⟩ := Bool.and_eq_true _ _ |>.mp ok
        exact .inl ⟨fun r hr => leaf_of (each r hr) (List.all_eq_true.mp l2 r.1 (List.mem_map.mpr ⟨r, hr, rfl⟩)), leaf_of n1 l1⟩
      · obtain ⟨l1, l3⟩ := Bool.and_eq_true _ _ |>.mp ok
        obtain ⟨l1, l2⟩ := Bool.and_eq_true _ _ |>.mp l1
        have l1 : leafK nk = false := by simpa using l1
        refine .inr ⟨fun r hr => ?_, ?_⟩
        · have q := List.all_eq_true.mp l3 r.1 (List.mem_map.mpr ⟨r, hr, rfl⟩)
          obtain ⟨q1, q2⟩ := Bool.and_eq_true _ _ |>.mp q
          have n := each r hr
          obtain ⟨b, eb⟩ := tup_of n (by simpa using q1)
          rw [eb] at n
          exact ⟨b, eb, n, of_decide_eq_true q2⟩
        · obtain ⟨b, eb⟩ := tup_of n1 l1
          rw [eb] at n1
          exact ⟨b, eb, n1, of_decide_eq_true l2⟩
    · cases e
end
end Rh

set_option Elab.async false
set_option linter.all false
set_option maxRecDepth 100000
set_option maxHeartbeats 2000000
set_option autoImplicit false
namespace Rh
open PySem PySem.Spec PyProof.Rows L2
def rIxD (C : Ct) : R2 := fun x y H Q => ∃ (μ : Mu) (a : Addr) (nks : List NestedKey) (ks vs : List D) (kd : D) (i : Nat) (dv : D), x = .ref a ∧ ObR C μ H a (.dct nks ks vs) ∧ RepV C μ H kd y ∧ idxD nks kd = some (some i) ∧ vs[i]? = some dv ∧ ∀ v, RepV C μ H dv v → Q v H
def rInD' (C : Ct) (neg : Bool) : R2 := fun x y H Q => ∃ (μ : Mu) (a : Addr) (nks : List NestedKey) (ks vs : List D) (kd : D) (o : Option Nat), y = .ref a ∧ ObR C μ H a (.dct nks ks vs) ∧ RepV C μ H kd x ∧ idxD nks kd = some o ∧ Q (.bl (if neg = true then !o.isSome else o.isSome)) H
/-- len(d) -/
def rLenD (C : Ct) : List V → Hp → VK → Prop := fun xs H Q => ∃ (μ : Mu) (a : Addr) (nks : List NestedKey) (ks vs : List D), xs = [.ref a] ∧ ObR C μ H a (.dct nks ks vs) ∧ Q (.int ks.length) H
theorem getR_at {rs : List Ent} {es : List (NestedKey × V × V)} {k : NestedKey} {i : Nat} {e : NestedKey × V × V} (p : Paired EntR es rs) (h : idxK (rs.map (·.1)) k = some i) (he : es[i]? = some e) : ∃ u, getR rs k = some u ∧ RelV e.2.2 u := by
  unfold getR
  rw [h]
  show ∃ u, (rs[i]?).map (·.2.2) = some u ∧ _
  clear h
  induction p generalizing i with
  | nil => cases he
  | @cons e0 r es rs h0 _ ih =>
    cases i with
    | zero => cases he; exact ⟨_, rfl, h0.2.2⟩
    | succ i => exact ih he
section
variable {X : Cx}
theorem ix_dct (hu : X.A.units + 65 < cLine) : IxR X (rIxD (ctX X)) := by
  intro value slice pins s σ H x y v u Q I rx ry h hs
  obtain ⟨μ, a, nks, ks, vs, kd, i, dv, rfl, ⟨es, ea, en, ek, rk, rv⟩, ry', ei, ev, q⟩ := h
  cases rx
  obtain ⟨rs, x, p⟩ := dict_raw I ea
  obtain ⟨nk, e1, kf, hi⟩ := key_for I en ek rk p ry' ry ei
  obtain ⟨vv, e2, rvv⟩ := rv.get ev
  rw [List.getElem?_map] at e2
  obtain ⟨ent, e3, rfl⟩ := Option.map_eq_some_iff.mp e2
  obtain ⟨u2, hg, ru2⟩ := getR_at p hi e3
  have hT : s.TypeIs (.ref a) "dict" := by
    obtain ⟨o, ho, hc, _⟩ := x.at_
    exact ⟨o, ho, hc.1⟩
  refine subscriptTail_builtinR (x := u2) hT slot_dict_getitem.lookup ?_ hs
  exact raw_get (by show X.A.units + 1 + 8 < cLine; omega) x kf hg fun tk => ⟨rfl, ⟨_, H, I.tok _, ru2, q _ rvv⟩⟩
theorem op_inDct (hu : X.A.units + 65 < cLine) : OpR X (compareOp .In) (rInD' (ctX X) false) := by
  intro pins s σ H x y v u Q I rx ry h
  obtain ⟨μ, a, nks, ks, vs, kd, o, rfl, ⟨es, ea, en, ek, rk, rv⟩, rx', ei, q⟩ := h
  cases ry
  obtain ⟨rs, x, p⟩ := dict_raw I ea
  obtain ⟨nk, e1, kf, hi⟩ := key_for I en ek rk p rx' rx ei
  refine raw_in (by show X.A.units + 1 + 8 < cLine; omega) x kf fun tk => ⟨.bl _, H, I.tok _, ?_, q⟩
  show Value.bool (getR rs nk).isSome = Value.bool o.isSome
  congr 1
  unfold getR
  rw [hi]
  cases o with
  | none => rfl
  | some i =>
    have hlt : i < rs.length := by
      obtain ⟨h1, _⟩ := List.findIdx?_eq_some_iff_getElem.mp hi
      simpa using h1
    show ((rs[i]?).map _).isSome = true
    rw [List.getElem?_eq_getElem hlt]
    rfl
theorem getR_some {rs : List Ent} {nk : NestedKey} {o : Option Nat} (hi : idxK (rs.map (·.1)) nk = o) : (getR rs nk).isSome = o.isSome := by
  unfold getR
  rw [hi]
  cases o with
  | none => rfl
  | some i =>
    have hlt : i < rs.length := by
      obtain ⟨h1, _⟩ := List.findIdx?_eq_some_iff_getElem.mp hi
      simpa using h1
    show ((rs[i]?).map _).isSome = true
    rw [List.getElem?_eq_getElem hlt]
    rfl
theorem raw_notIn {P : Program} {w : World} {A : Around} {E : Value → Shared → Prop} {s : Shared} {a : Addr} {ep : Nat} {rs : List Ent} {k : NestedKey} {ku : Value} {Q : Value → Shared → Prop} (hu : A.in1.units + 8 < cLine) (x : RawD w s.heap a ep rs) (hk : KeyFor s.heap rs k ku) (hq : ∀ tk, Q (.bool (!(getR rs k).isSome)) { s with toks := tk }) :
    wpAny (model P w) A (compareOp .NotIn ku (.ref a)) Q E s := by
  rcases hk with ⟨kl, l, rfl, hl⟩ | ⟨kt, b, rfl, hb, dp⟩
  · refine wpAny_notIn_of (knd := leafKind P w) hl x.sys (x.leaf kl).mapOf ?_
    rw [at_lv kl]
    exact hq _
  · refine wpAny_notIn_heap (knd := nestedKind P w) hu ⟨hb, dp⟩ x.sys (x.heap kt) ?_
    rw [← Option.isSome_map (f := (·.2)), at_tv]
    exact hq _
theorem op_notInDct (hu : X.A.units + 65 < cLine) : OpR X (compareOp .NotIn) (rInD' (ctX X) true) := by
  intro pins s σ H x y v u Q I rx ry h
  obtain ⟨μ, a, nks, ks, vs, kd, o, rfl, ⟨es, ea, en, ek, rk, rv⟩, rx', ei, q⟩ := h
  cases ry
  obtain ⟨rs, x, p⟩ := dict_raw I ea
  obtain ⟨nk, e1, kf, hi⟩ := key_for I en ek rk p rx' rx ei
  refine raw_notIn (by show X.A.units + 1 + 8 < cLine; omega) x kf fun tk => ⟨.bl _, H, I.tok _, ?_, q⟩
  show Value.bool (!(getR rs nk).isSome) = Value.bool (!o.isSome)
  rw [getR_some hi]
theorem call_lenD : CallR X (.builtin "len") (rLenD (ctX X)) := by
  intro pins s σ H xs us Q I r h
  obtain ⟨μ, a, nks, ks, vs, rfl, ⟨es, ea, en, ek, rk, rv⟩, q⟩ := h
  obtain ⟨u, rfl, rx⟩ := vals1 r
  cases rx
  obtain ⟨rs, x, p⟩ := dict_raw I ea
  obtain ⟨o, ho, hc, hd⟩ := x.at_
  have hl : rs.length = ks.length := by
    rw [← Paired.length p, ← rk.length, List.length_map]
  have hn := line63
  have hz := x.sz
  refine call_len_slot (n := (ks.length : Int)) (show s.TypeIs (.ref a) "dict" from ⟨o, ho, hc.1⟩) F.slot_dict_len (fun Q' hq => call_len_raw x.sys ⟨o, ho, hc, hd⟩ ?_) (by omega) (by omega) ⟨.int ks.length, H, I.tok _, ⟨_, rfl⟩, q⟩
  rw [List.size_toArray, List.length_map, hl]
  exact hq
theorem CallR.or {f : Value} {r1 r2 : List V → Hp → VK → Prop} (h1 : CallR X f r1) (h2 : CallR X f r2) : CallR X f (fun xs H Q => r1 xs H Q ∨ r2 xs H Q) := fun pins s σ H xs us Q I r h => by
  rcases h with h | h
  · exact h1 pins s σ H xs us Q I r h
  · exact h2 pins s σ H xs us Q I r h
theorem OpR.or' {f : Value → Value → Sem Value} {r1 r2 : R2} (h1 : OpR X f r1) (h2 : OpR X f r2) : OpR X f (fun x y H Q => r1 x y H Q ∨ r2 x y H Q) := fun pins s σ H x y v u Q I rx ry h => by
  rcases h with h | h
  · exact h1 pins s σ H x y v u Q I rx ry h
  · exact h2 pins s σ H x y v u Q I rx ry h
theorem IxR.or' {r1 r2 : R2} (h1 : IxR X r1) (h2 : IxR X r2) : IxR X (fun x y H Q => r1 x y H Q ∨ r2 x y H Q) := fun va sl pins s σ H x y v u Q I rx ry h hs => by
  rcases h with h | h
  · exact h1 va sl pins s σ H x y v u Q I rx ry h hs
  · exact h2 va sl pins s σ H x y v u Q I rx ry h hs
end
/-! covers -/
section
variable {C : Ct} {L : List Nat}
theorem HR.dctO {μ : Mu} {H : Hp} {h : Hs} (r : HR C L μ H h) {n : Nat} {x : V} {nks : List NestedKey} {ks vs : List D} (q : RepV C μ H (.box n) x) (e : h.get n = some (.dct nks ks vs)) : ∃ a, x = .ref a ∧ μ[n]? = some a ∧ ObR C μ H a (.dct nks ks vs) := by
  obtain ⟨a, o, e1, m, e2, ob⟩ := r.box q
  rw [e] at e2; cases e2
  exact ⟨a, e1, m, ob⟩
def dIxD (h : Hs) (d e : D) : Option Nv := match d with
  | .box n => (match h.get n with
    | some (.dct nks _ vs) => (match idxD nks e with
      | some (some i) => (vs[i]?).map .v
      | _ => none)
    | _ => none)
  | _ => none
theorem cov_ixD : Cov2 C (rIxD C) dIxD := by
  intro H L μ h x y d e n Q hr r1 r2 hf want
  unfold dIxD at hf
  split at hf
  · split at hf
    · rename_i e0
      split at hf
      · rename_i i ei
        obtain ⟨dv, ev, rfl⟩ := Option.map_eq_some_iff.mp hf
        obtain ⟨a, rfl, _, ob⟩ := hr.dctO r1 e0
        exact ⟨μ, a, _, _, _, e, i, dv, rfl, ob, r2, ei, ev, fun v rv => want.old rv⟩
      · cases hf
    · cases hf
  · cases hf
def dInD (neg : Bool) (h : Hs) (d e : D) : Option Nv := match e with
  | .box n => (match h.get n with
    | some (.dct nks _ _) => (match idxD nks d with
      | some o => some (.v (.bl (if neg = true then !o.isSome else o.isSome)))
      | none => none)
    | _ => none)
  | _ => none
theorem cov_inD {neg : Bool} : Cov2 C (rInD' C neg) (dInD neg) := by
  intro H L μ h x y d e n Q hr r1 r2 hf want
  unfold dInD at hf
  split at hf
  · split at hf
    · rename_i e0
      split at hf
      · rename_i o ei
        cases hf
        obtain ⟨a, rfl, _, ob⟩ := hr.dctO r2 e0
        exact ⟨μ, a, _, _, _, d, o, rfl, ob, r1, ei, want.old rfl⟩
      · cases hf
    · cases hf
  · cases hf
def dLenD (h : Hs) (ds : List D) : Option Nv := match ds with
  | [.box n] => (match h.get n with
    | some (.dct _ ks _) => some (.v (.int ks.length))
    | _ => none)
  | _ => none
theorem cov_lenD : CovA C (rLenD C) dLenD := by
  intro H L μ h xs ds n Q hr r hf want
  unfold dLenD at hf
  split at hf
  · split at hf
    · rename_i e0
      cases hf
      obtain ⟨x, rfl, h1⟩ := r.one
      obtain ⟨a, rfl, _, ob⟩ := hr.dctO h1 e0
      exact ⟨μ, a, _, _, _, rfl, ob, want.old rfl⟩
    · cases hf
  · cases hf
end
/-! ### {} , d[k] = v -/
abbrev EV := NestedKey × V × V
def putV (es : List EV) (o : Option Nat) (nk : NestedKey) (kx v : V) : List EV := match o with
  | some j => es.modify j fun e => (e.1, e.2.1, v)
  | none => es ++ [(nk, kx, v)]
theorem paired_modify {α β : Type} {R : α → β → Prop} {f : α → α} {g : β → β} (h : ∀ a b, R a b → R (f a) (g b)) : ∀ {xs : List α} {ys : List β} (i : Nat), Paired R xs ys → Paired R (xs.modify i f) (ys.modify i g)
  | _, _, i, .nil => by simpa using Paired.nil
  | _, _, 0, .cons a t => by simpa using Paired.cons (h _ _ a) t
  | _, _, i + 1, .cons a t => by simpa using Paired.cons a (paired_modify h i t)
theorem paired_snoc {α β : Type} {R : α → β → Prop} {a : α} {b : β} (h : R a b) : ∀ {xs : List α} {ys : List β}, Paired R xs ys → Paired R (xs ++ [a]) (ys ++ [b])
  | _, _, .nil => .cons h .nil
  | _, _, .cons q t => .cons q (paired_snoc h t)
theorem put_paired {es : List EV} {rs : List Ent} {nk : NestedKey} {o : Option Nat} {kx v : V} {ku vu : Value} (p : Paired EntR es rs) (hi : idxK (rs.map (·.1)) nk = o) (rk : RelV kx ku) (rv : RelV v vu) : Paired EntR (putV es o nk kx v) (putR rs nk ku vu) := by
  cases o with
  | none => rw [put_none hi]; exact paired_snoc ⟨rfl, rk, rv⟩ p
  | some i => rw [put_some hi]; exact paired_modify (fun a b q => ⟨q.1, q.2.1, rv⟩) i p
theorem modify_const {α : Type} (v : α) : ∀ (xs : List α) (i : Nat), xs.modify i (fun _ => v) = xs.set i v
  | [], i => by simp
  | x :: xs, 0 => by simp
  | x :: xs, i + 1 => by simp [modify_const v xs i]
/-- d[k] = v, at the heap: the entries behind it -/
def tSetD (C : Ct) : V → V → V → Hp → (Hp → Prop) → Prop := fun o i v H Q => ∃ (μ : Mu) (a : Addr) (es : Nat × List EV) (nks : List NestedKey) (ks : List D) (kd : D) (nk : NestedKey) (op : Option Nat), o = .ref a ∧ H a = some (DicO C.w a es) ∧ es.2.map (·.1) = nks ∧ keysD ks = some nks ∧ RepL C μ H ks (es.2.map (·.2.1)) ∧
  RepV C μ H kd i ∧ keyD kd = some nk ∧ idxD nks kd = some op ∧ ks.length < 1000000 ∧ ∀ ep', Q (upd H a (DicO C.w a (ep', putV es.2 op nk i v)))
section
variable {X : Cx}
theorem set_dct (hu : X.A.units + 65 < cLine) : PSet X (tSetD (ctX X)) := by
  intro pins s σ H o i v ov iv u Q I ro ri rv h
  obtain ⟨μ, a, es, nks, ks, kd, nk, op, rfl, ea, en, ek, rk, rx, ekd, ei, hl, q⟩ := h
  cases ro
  obtain ⟨rs, x, p⟩ := dict_raw I ea
  obtain ⟨nk', e1, kf, hi⟩ := key_for I en ek rk p rx ri ei
  rw [ekd] at e1; cases e1
  have hlen : rs.length = ks.length := by
    rw [← Paired.length p, ← rk.length, List.length_map]
  refine raw_set (by show X.A.units + 1 + 8 < cLine; omega) x kf (by rw [hlen, sizeLine_eq]; omega) fun h' ep' tk x' sb => ?_
  obtain ⟨o', ho', _⟩ := x'.at_
  exact ⟨_, I.write (t' := tk) (x := a) (e := a) (by rw [ea]; exact True.intro) (.inl rfl) (fun b ob hb e => (sb.2 b hb).trans e) ⟨o', ho'⟩ (dict_ok x' (put_paired p hi ri rv)), q ep'⟩
theorem PSet.or' {t1 t2 : TSet} (h1 : PSet X t1) (h2 : PSet X t2) : PSet X (fun o i v H Q => t1 o i v H Q ∨ t2 o i v H Q) := fun pins s σ H o i v ov iv u Q I ro ri rv h => by
  rcases h with h | h
  · exact h1 pins s σ H o i v ov iv u Q I ro ri rv h
  · exact h2 pins s σ H o i v ov iv u Q I ro ri rv h
theorem dict0_ok {P : Program} {w : World} {H : Hp} (h : Heap) (hb : sysModules < h.objs.size) : ObjOk P w H (h.push { cls := .type "dict", data := .dict #[] }) h.objs.size (DicO w h.objs.size (0, [])) :=
  dict_ok (rs := []) ⟨beq_eq_false_iff_ne.mpr (Ne.symm (Nat.ne_of_lt hb)), Nat.zero_le _, ⟨_, Heap.get?_push_size _ rfl, ⟨rfl, rfl, rfl⟩, rfl⟩, .nil⟩ .nil
theorem pe_dict0 {pos : Pos} : PE X (.Dict [] [] pos) (fun _ H Q => ∀ p, H p = none → Q (.ref p) (upd H p (DicO X.w p (0, [])))) := ⟨fun pins s σ H Q I h =>
  wpAny_Dict_empty ⟨.ref s.heap.objs.size, _, I.laid (a := s.heap.objs.size) (o := DicO X.w s.heap.objs.size (0, [])) (t' := s.toks) (fun _ _ q => Heap.get?_push_of_some _ q) (Nat.le_refl _) (dict0_ok s.heap I.big), rfl, h _ (I.hok.fresh (Nat.le_refl _))⟩⟩
end
end Rh

set_option Elab.async false
set_option linter.all false
set_option maxRecDepth 100000
set_option maxHeartbeats 2000000
set_option autoImplicit false
namespace Rh
open PySem PySem.Spec PyProof.Rows L2
/-! ### a dict walked -/
def Itq (w : World) (a : Addr) (es : Nat × List EV) : It := ⟨fun i H => H a = some (DicO w a es) ∧ i < es.2.length, fun i H x H' => H' = H ∧ ∃ e, es.2[i]? = some e ∧ x = e.2.1, fun i H => H a = some (DicO w a es) ∧ es.2.length ≤ i⟩
theorem paired_get {es : List EV} {rs : List Ent} {i : Nat} {r : Ent} (p : Paired EntR es rs) (e : rs[i]? = some r) : ∃ x, es[i]? = some x ∧ EntR x r := by
  induction p generalizing i with
  | nil => simp at e
  | cons h _ ih =>
    cases i with
    | zero => simp at e; subst e; exact ⟨_, rfl, h⟩
    | succ i => exact ih (by simpa using e)
theorem turn_dct {P : Program} {w : World} {K : PySem.W.Frag} {tg : Expr} (it a : Addr) (es : Nat × List EV) : Turn P w K tg (Itq w a es) [it] it (fun i h => h.IsKeyIter it a i es.2.length es.1) where
  mem := by simp
  obj := fun i h st b hb => by
    have e : b = it := by simpa using hb
    subst e
    obtain ⟨oi, e, c, dd⟩ := st
    exact ⟨oi, e, fun v z => by rw [dd] at z; cases z⟩
  keep := fun i h h' st k => st.at fun oi e => k it (by simp) oi e
  item := by
    intro X hP hw hK hc i pins s σ H E I hf st hg
    subst hP hw hK
    obtain ⟨hd, hi⟩ := hg
    obtain ⟨f0, f1, f2, f3, f4, f5⟩ := hf it (by simp)
    obtain ⟨rs, x, p⟩ := dict_raw I hd
    obtain ⟨o, ho, hx, hdt⟩ := x.at_
    have hl := Paired.length p
    have hr : i < rs.length := by omega
    obtain ⟨e, he, q1, q2, q3⟩ := paired_get p (List.getElem?_eq_getElem hr)
    have hsz : (rs.map fun e => (⟨e.1.hash X.w, e.2.1, e.2.2⟩ : DictEntry)).toArray.size = es.2.length := by simp [hl]
    refine next_key_item (en := ⟨rs[i].1.hash X.w, rs[i].2.1, rs[i].2.2⟩) st ho hdt hsz (by simp [List.getElem?_eq_getElem hr]) fun h' st' sb => ?_
    have I1 : L2.Inv X pins σ H { s with heap := h' } := I.turned (t' := s.toks) (fun b ob hb e => (sb.2 b hb).trans e) f0 f1 f3 f4 f5
    obtain ⟨oi, e1, c, dd⟩ := id st'
    exact ⟨rs[i].2.1, rfl, go_of (s := { s with heap := h' }) e1 c dd (by decide) ⟨e.2.1, H, I1, q2, ⟨rfl, e, he, rfl⟩, st', fun b hb => (hf b hb).1⟩⟩
  done := by
    intro X hP hw hK hc i pins s σ H E I hf st hg
    subst hP hw hK
    obtain ⟨hd, hi⟩ := hg
    obtain ⟨f0, f1, f2, f3, f4, f5⟩ := hf it (by simp)
    obtain ⟨rs, x, p⟩ := dict_raw I hd
    obtain ⟨o, ho, hx, hdt⟩ := x.at_
    have hl := Paired.length p
    have hsz : (rs.map fun e => (⟨e.1.hash X.w, e.2.1, e.2.2⟩ : DictEntry)).toArray.size = es.2.length := by simp [hl]
    exact next_key_end (I.ok.hd hc) st ho hdt hsz hi fun h' eb => ⟨rfl, I.turned (t' := s.toks) (fun b ob hb e => eb b ob hb e) f0 f1 f3 f4 f5⟩
  self := fun A i s Q E st h => wpAny_pyIter_keyiter st h
def iSeqD (w : World) (K : PySem.W.Frag) (tl : TE) : TI := fun σ H R => tl σ H fun x H1 => ∃ a, x = .ref a ∧ (((∃ xs, SqL K H1 a xs) ∧ R (Itl K a) H1) ∨ ((∃ xs, SqT K H1 a xs) ∧ R (Itt K a) H1) ∨ ∃ es, H1 a = some (DicO w a es) ∧ R (Itq w a es) H1)
section
variable {X : Cx} {W : WX} {tg : Expr}
theorem pi_seqD {l : Expr} {tl : TE} (hl : PE X l tl) : PI X tg l (iSeqD X.w X.K tl) := by
  refine ⟨fun pins s σ H R I h => ?_⟩
  refine thn (hl.run pins s σ H _ I h) fun v s1 ⟨x, H1, I1, r1, q1⟩ => ?_
  obtain ⟨a, e, q⟩ := q1
  subst e
  cases r1
  rcases q with ⟨⟨xs, hq⟩, q⟩ | ⟨⟨xs, hq⟩, q⟩ | ⟨es, hd, q⟩
  · obtain ⟨its, rv, p, hz⟩ := I1.list hq
    exact wpAny_pyIter_list p.isList (pi_one (tk := s1.toks) I1 _ (turn_list a _) ⟨_, Heap.get?_push_size _ rfl, rfl, rfl⟩ q)
  · obtain ⟨its, rv, p, hz⟩ := I1.tuple hq
    exact wpAny_pyIter_tuple (show s1.heap.IsTuple a its.toArray from p) (pi_one (tk := s1.toks) I1 _ (turn_tuple a _) ⟨_, Heap.get?_push_size _ rfl, rfl, rfl⟩ q)
  · obtain ⟨rs, x, p⟩ := dict_raw I1 hd
    obtain ⟨o, ho, hx, hdt⟩ := x.at_
    have hl := Paired.length p
    refine iter_keys x.sys ho hx hdt (pi_one (tk := s1.toks) I1 _ (turn_dct _ a es) ⟨_, Heap.get?_push_size _ rfl, rfl, ?_⟩ q)
    rw [hl]
    simp
end
section
variable {X : Cx}
/-! list(d) -/
def rListD (w : World) (K : PySem.W.Frag) : List V → Hp → VK → Prop := fun xs H Q => ∃ (a : Addr) (es : Nat × List EV), xs = [.ref a] ∧ H a = some (DicO w a es) ∧ ∀ p, H p = none → Q (.ref p) (upd H p (.lst (es.2.map (·.2.1))))
theorem call_listD (hc : X.calm = true) : CallR X (.type "list") (rListD X.w X.K) := by
  intro pins s σ H xs us Q I r h
  obtain ⟨a, es, rfl, ea, q⟩ := h
  obtain ⟨u, rfl, rx⟩ := vals1 r
  cases rx
  obtain ⟨rs, x, p⟩ := dict_raw I ea
  obtain ⟨o, ho, hx, hdt⟩ := x.at_
  have hl := Paired.length p
  have hz := x.sz
  refine PySem.W.kdl_call (PySem.KdlSrc.rawDict (es := (rs.map fun e => (⟨e.1.hash X.w, e.2.1, e.2.2⟩ : DictEntry)).toArray) (ep := es.1) x.sys) (I.ok.hd hc) ⟨o, ho, hx, hdt⟩ (by simpa using hz) fun h' tk acc' c' hkeep hS hacc => ?_
  refine ⟨.ref s.heap.objs.size, upd H s.heap.objs.size (.lst (es.2.map (·.2.1))), I.laid hkeep (Nat.le_refl _) (show ObjOk X.prog X.w _ _ _ (.lst (es.2.map (·.2.1))) from ⟨?_, acc'.toList, c', ?_, ?_⟩), rfl, q _ (I.hok.fresh (Nat.le_refl _))⟩
  · rw [List.length_map, hl]; exact hz
  · have el : acc'.toList.length = acc'.size := by simp
    refine vals_of_at (by rw [List.length_map, el, hacc.1, hl]; simp) fun j y w h1 h2 => ?_
    obtain ⟨hj, ew⟩ := hacc.2 j w (by rw [← Array.getElem?_toList]; exact h2)
    subst ew
    rw [List.getElem?_map] at h1
    obtain ⟨e, he, rfl⟩ := Option.map_eq_some_iff.mp h1
    have hj2 : j < rs.length := by simpa using hj
    obtain ⟨e', he', q1, q2, q3⟩ := paired_get p (List.getElem?_eq_getElem hj2)
    rw [he] at he'; cases he'
    simpa using q2
  · rw [Array.toArray_toList]; exact hS
end

/-! ### stores -/
def putD (h : Hs) (c k d : D) : Option Hs := match c with
  | .box n => match h.get n with
    | some (.lst ds) => (match k with
      | .int j => (match ixN ds.length j with
        | some i => h.set n (.lst (ds.set i d))
        | none => none)
      | _ => none)
    | some (.dct nks ks vs) => (match idxD nks k with
      | some (some j) => if ks.length < 1000000 then h.set n (.dct nks ks (vs.set j d)) else none
      | some none => (match keyD k with
        | some nk => if ks.length < 1000000 then h.set n (.dct (nks ++ [nk]) (ks ++ [k]) (vs ++ [d])) else none
        | none => none)
      | none => none)
    | _ => none
  | _ => none
theorem keysD_snoc : ∀ {ks : List D} {kd : D} {nks : List NestedKey} {nk : NestedKey}, keysD ks = some nks → keyD kd = some nk → keysD (ks ++ [kd]) = some (nks ++ [nk])
  | [], kd, nks, nk, h1, h2 => by
    cases h1
    show (match keyD kd, keysD [] with
      | some k, some ks => some (k :: ks)
      | _, _ => none) = _
    rw [h2]
    rfl
  | d :: ks, kd, nks, nk, h1, h2 => by
    have h1 : (match keyD d, keysD ks with
      | some k, some ks => some (k :: ks)
      | _, _ => none) = some nks := h1
    show (match keyD d, keysD (ks ++ [kd]) with
      | some k, some ks => some (k :: ks)
      | _, _ => none) = _
    cases e1 : keyD d with
    | none => rw [e1] at h1; cases h1
    | some k0 =>
      cases e2 : keysD ks with
      | none => rw [e1, e2] at h1; cases h1
      | some ks0 =>
        rw [e1, e2] at h1; cases h1
        rw [keysD_snoc e2 h2]
        rfl
theorem stay_upd {C : Ct} {L : List Nat} {μ : Mu} {H : Hp} {h : Hs} (r : HR C L μ H h) {a : Addr} {n : Nat} (m : μ[n]? = some a) (o : HO) : Stay μ H μ (upd H a o) := by
  have ma : a ∈ μ := List.mem_of_getElem? m
  exact ⟨fun _ _ e => e, fun b xs e => by rw [upd_ne (fun z => by subst z; exact r.not_mem e (fun q => q) ma)]; exact e, fun b u v e => by rw [upd_ne (fun z => by subst z; exact r.not_mem e (fun q => q) ma)]; exact e⟩
/-- a box changed, at the heap -/
theorem HR.upd {C : Ct} {L : List Nat} {μ : Mu} {H : Hp} {h h' : Hs} {n : Nat} {a : Addr} {o : O} {ho : HO} (r : HR C L μ H h) (m : μ[n]? = some a) (q : ObR C μ (upd H a ho) a o) (e : h.set n o = some h') : HR C L μ (upd H a ho) h' ∧ Go L μ H μ (upd H a ho) :=
  r.set m (fun b hb => upd_ne hb) ⟨_, upd_same⟩ q e
theorem put_ok {C : Ct} {L : List Nat} {μ : Mu} {H : Hp} {h h' : Hs} {c k d : D} {x i v : V} {Q : Hp → Prop} (r : HR C L μ H h) (rc : RepV C μ H c x) (rk : RepV C μ H k i) (rd : RepV C μ H d v) (e : putD h c k d = some h')
    (q : ∀ μ' H', Go L μ H μ' H' → HR C L μ' H' h' → Q H') : rSetL x i v H Q ∨ tSetD C x i v H Q := by
  unfold putD at e
  split at e
  · rename_i n
    split at e
    · rename_i ds e0
      split at e
      · rename_i j
        split at e
        · rename_i ix ei
          obtain ⟨a, vs, rfl, m, t, rl⟩ := r.lst rc e0
          cases (show i = V.int j from rk)
          refine .inl ⟨a, vs, j, ix, rfl, rfl, t, by rw [rl.length]; exact ei, ?_⟩
          have st := stay_upd r m (.lst (vs.set ix v))
          obtain ⟨r', g⟩ := r.upd (ho := .lst (vs.set ix v)) (o := .lst (ds.set ix d)) m ⟨_, upd_same, (rl.stay st).set ix (rd.stay st)⟩ e
          exact q _ _ g r'
        · cases e
      · cases e
    · rename_i nks ks vs e0
      obtain ⟨a, es, rfl, m, t, en, ek, r1, r2⟩ := r.dct rc e0
      split at e
      · rename_i j ej
        split at e
        · rename_i hl
          obtain ⟨nk, enk⟩ := idxD_some ej
          refine .inr ⟨μ, a, es, nks, ks, k, nk, some j, rfl, t, en, ek, r1, rk, enk, ej, hl, fun ep' => ?_⟩
          have st := stay_upd r m (DicO C.w a (ep', putV es.2 (some j) nk i v))
          have ob : ObR C μ (L2.upd H a (DicO C.w a (ep', putV es.2 (some j) nk i v))) a (.dct nks ks (vs.set j d)) := by
            refine ⟨(ep', putV es.2 (some j) nk i v), upd_same, ?_, ek, ?_, ?_⟩
            · show (es.2.modify j _).map (·.1) = nks
              rw [modify_map (fun r : EV => r.1) (fun e => (e.1, e.2.1, v)) id (fun _ => rfl), en]
              simp
            · show RepL C μ _ ks ((es.2.modify j _).map (·.2.1))
              rw [modify_map (fun r : EV => r.2.1) (fun e => (e.1, e.2.1, v)) id (fun _ => rfl)]
              simpa using r1.stay st
            · show RepL C μ _ (vs.set j d) ((es.2.modify j _).map (·.2.2))
              rw [modify_map (fun r : EV => r.2.2) (fun e => (e.1, e.2.1, v)) (fun _ => v) (fun _ => rfl), modify_const]
              exact (r2.stay st).set j (rd.stay st)
          obtain ⟨r', g⟩ := r.upd m ob e
          exact q _ _ g r'
        · cases e
      · rename_i ej
        split at e
        · rename_i nk enk
          split at e
          · rename_i hl
            refine .inr ⟨μ, a, es, nks, ks, k, nk, none, rfl, t, en, ek, r1, rk, enk, ej, hl, fun ep' => ?_⟩
            have st := stay_upd r m (DicO C.w a (ep', putV es.2 none nk i v))
            have ob : ObR C μ (L2.upd H a (DicO C.w a (ep', putV es.2 none nk i v))) a (.dct (nks ++ [nk]) (ks ++ [k]) (vs ++ [d])) := by
              refine ⟨(ep', putV es.2 none nk i v), upd_same, ?_, keysD_snoc ek enk, ?_, ?_⟩
              · show (es.2 ++ [(nk, i, v)]).map (·.1) = nks ++ [nk]
                rw [List.map_append, en]
                rfl
              · show RepL C μ _ (ks ++ [k]) ((es.2 ++ [(nk, i, v)]).map (·.2.1))
                rw [List.map_append]
                exact (r1.stay st).append ⟨i, [], rfl, rk.stay st, rfl⟩
              · show RepL C μ _ (vs ++ [d]) ((es.2 ++ [(nk, i, v)]).map (·.2.2))
                rw [List.map_append]
                exact (r2.stay st).append ⟨v, [], rfl, rd.stay st, rfl⟩
            obtain ⟨r', g⟩ := r.upd m ob e
            exact q _ _ g r'
          · cases e
        · cases e
      · cases e
    · cases e
  · cases e
section
variable {X : Cx}
def mDict0 : M D := fun _ h => (Nv.n (.dct [] [] [])).lift h
theorem e_dict0 {W : WX} {pos : Pos} : PE X (.Dict [] [] pos) (rd X W mDict0) := pe_imp pe_dict0 fun σ H Q ⟨ρ, L, μ, h, rel, q⟩ p hp => by
  obtain ⟨m, em, want⟩ := Sat.lift (n := some (.n (.dct [] [] []))) rel.hr q
  cases em
  obtain ⟨s1, s2⟩ := same_new (o := DicO X.w p (0, [])) hp
  exact want _ _ s1 s2 ⟨p, rfl, hp, fun m => ⟨(0, []), upd_same, rfl, rfl, rfl, rfl⟩⟩
end
section
variable {C : Ct}
def dListD (h : Hs) : List D → Option Nv
  | [.box n] => match h.get n with
    | some (.dct _ ks _) => some (.n (.lst ks))
    | _ => none
  | _ => none
theorem cov_listD : CovA C (rListD C.w C.K) dListD := by
  intro H L μ h xs ds n Q hr r1 hf want
  unfold dListD at hf
  split at hf
  · split at hf
    · rename_i e0
      cases hf
      obtain ⟨x, rfl, h1⟩ := r1.one
      obtain ⟨a, es, rfl, m, e, en, ek, rk, rv⟩ := hr.dct h1 e0
      exact ⟨a, es, rfl, e, fun p hp => want.lst rk hp⟩
    · cases hf
  · cases hf
end
end Rh

set_option Elab.async false
set_option linter.all false
set_option maxRecDepth 100000
set_option maxHeartbeats 2000000
set_option autoImplicit false
namespace Rh
open PySem PySem.Spec PyProof.Rows L2
/-! ### zip and enumerate over lists and tuples -/
def ItAt (t : Bool) (h : Heap) (it l : Addr) (i : Nat) : Prop := match t with
  | true => h.IsTupleIter it l i
  | false => h.IsListIter it l i
def HpB (t : Bool) (h : Heap) (l : Addr) (xs : Array Value) : Prop := match t with
  | true => h.IsTuple l xs
  | false => h.IsList l xs
def SqB (K : PySem.W.Frag) (t : Bool) (H : Hp) (l : Addr) (xs : List V) : Prop := match t with
  | true => SqT K H l xs
  | false => SqL K H l xs
def obB (t : Bool) (l : Addr) : Obj := match t with
  | true => { cls := .type "tuple_iterator", data := .fields #[.ref l, .int 0 0] }
  | false => { cls := .type "list_iterator", data := .fields #[.ref l, .int 0 0] }
theorem drawsB {prog : Program} {w : World} {A : Around} (hh : A.handled = none) (t : Bool) (it l : Addr) (hne : l ≠ it) (items : Array Value) :
    Draws prog w A it [it, l] items.size (fun i v => items[i]? = some v) (fun i h => ItAt t h it l i ∧ HpB t h l items) := by
  cases t
  · exact Draws.list hh it l hne items
  · exact Draws.tuple hh it l hne items
theorem beginsB (t : Bool) (l : Addr) (items : Array Value) : Begins (.ref l) (obB t l) fun h => HpB t h l items := by
  cases t
  · exact begins_list l items
  · exact begins_tuple l items
theorem itAt_new {t : Bool} {h : Heap} {it l : Addr} (e : h.get? it = some (obB t l)) : ItAt t h it l 0 := by
  cases t
  · exact ⟨_, e, rfl, rfl⟩
  · exact ⟨_, e, rfl, rfl⟩
theorem itAt_keep {t : Bool} {h h' : Heap} {it l : Addr} {i : Nat} (x : ItAt t h it l i) (k : ∀ o, h.get? it = some o → h'.get? it = some o) : ItAt t h' it l i := by
  cases t
  · exact Heap.IsListIter.at x k
  · exact Heap.IsTupleIter.at x k
theorem itAt_obj {t : Bool} {h : Heap} {it l : Addr} {i : Nat} (x : ItAt t h it l i) : ∃ o, h.get? it = some o ∧ ∀ v, o.data ≠ .cell v := by
  cases t
  · obtain ⟨o, e, _, d⟩ := x; exact ⟨o, e, fun v q => by rw [d] at q; cases q⟩
  · obtain ⟨o, e, _, d⟩ := x; exact ⟨o, e, fun v q => by rw [d] at q; cases q⟩
section
variable {X : Cx} {pins : List (Addr × Obj)} {σ : L2.St} {H : Hp} {s : Shared} {t : Bool} {a : Addr} {xs ys : List V}
theorem sqB_ok (I : L2.Inv X pins σ H s) (h : SqB X.K t H a xs) : ∃ its : List Value, Vals xs its ∧ HpB t s.heap a its.toArray ∧ xs.length ≤ sizeLine := by
  cases t
  · obtain ⟨its, r, p, z⟩ := I.list h
    exact ⟨its, r, p.isList, z⟩
  · obtain ⟨its, r, p, z⟩ := I.tuple h
    exact ⟨its, r, p, z⟩
theorem sqB_inj (I : L2.Inv X pins σ H s) (h : SqB X.K t H a xs) (h' : SqB X.K t H a ys) : xs = ys := by
  cases t
  · exact I.list_inj h h'
  · exact I.tuple_inj h h'
theorem hpB_lt {h : Heap} {items : Array Value} (x : HpB t h a items) : a < h.objs.size := by
  cases t
  · obtain ⟨o, e, _⟩ := x; exact Heap.lt_size e
  · obtain ⟨o, e, _⟩ := x; exact Heap.lt_size e
end
/-- what stands at a and at b at each turn, the items in new pairs -/
def ItzB (K : PySem.W.Frag) (t1 : Bool) (a : Addr) (t2 : Bool) (b : Addr) : It :=
  ⟨fun i H => ∃ (xs ys : List V) (x y : V), SqB K t1 H a xs ∧ SqB K t2 H b ys ∧ xs[i]? = some x ∧ ys[i]? = some y,
    fun i H v H' => ∃ T x y, v = .ref T ∧ H T = none ∧ H' = upd H T (.tup [x, y]) ∧ (∀ xs, SqB K t1 H a xs → xs[i]? = some x) ∧ ∀ ys, SqB K t2 H b ys → ys[i]? = some y,
    fun i H => ∃ xs ys : List V, SqB K t1 H a xs ∧ SqB K t2 H b ys ∧ i ≤ xs.length ∧ i ≤ ys.length ∧ (i = xs.length ∨ i = ys.length)⟩
theorem turn_zipB {P : Program} {w : World} {K : PySem.W.Frag} {elts : List Expr} {kk : Nat} {tpos : Pos} {t1 t2 : Bool} {a b z TI TO i1 i2 : Addr} (D : ZipSep2 z TI TO i1 i2 [i1, a] [i2, b]) (ai1 : a ≠ i1) (bi2 : b ≠ i2) :
    Turn P w K (.Tuple elts kk tpos) (ItzB K t1 a t2 b) [z, TI, TO, i1, i2] z (fun i h => IsZip h z TI TO .none ∧ IsTupOf2 h TI (.ref i1) (.ref i2) ∧ (∃ x y, IsTupOf2 h TO x y) ∧ ItAt t1 h i1 a i ∧ ItAt t2 h i2 b i) where
  mem := by simp
  obj := fun i h st c hc => by
    obtain ⟨hz, hTI, ⟨x, y, hTO⟩, h1, h2⟩ := st
    have e' : c = z ∨ c = TI ∨ c = TO ∨ c = i1 ∨ c = i2 := by simpa using hc
    rcases e' with q | q | q | q | q
    · rw [q]; exact ⟨_, hz, fun v q => nomatch q⟩
    · rw [q]; exact ⟨_, hTI, fun v q => nomatch q⟩
    · rw [q]; exact ⟨_, hTO, fun v q => nomatch q⟩
    · rw [q]; exact itAt_obj h1
    · rw [q]; exact itAt_obj h2
  keep := fun i h h' st k => by
    obtain ⟨hz, hTI, ⟨x, y, hTO⟩, h1, h2⟩ := st
    exact ⟨k z (by simp) _ hz, k TI (by simp) _ hTI, ⟨x, y, k TO (by simp) _ hTO⟩, itAt_keep h1 fun o q => k i1 (by simp) o q, itAt_keep h2 fun o q => k i2 (by simp) o q⟩
  item := by
    intro X hP hw hK hc i pins s σ H E I hf st hg
    subst hP hw hK
    obtain ⟨hz, hTI, ⟨x0, y0, hTO⟩, h1, h2⟩ := st
    obtain ⟨xs, ys, x, y, hqx, hqy, hx, hy⟩ := hg
    obtain ⟨its, rv, p, _⟩ := sqB_ok I hqx
    obtain ⟨its2, rv2, p2, _⟩ := sqB_ok I hqy
    obtain ⟨u, hu, ru⟩ := rv.get hx
    obtain ⟨u2, hu2, ru2⟩ := rv2.get hy
    have hzl : z < s.heap.objs.size := Heap.lt_size hz
    have hh : X.A.in1.handled = none := I.ok.hd hc
    have lt1 : i < its.toArray.size := by
      have := (List.getElem?_eq_some_iff.mp hu).1
      simpa using this
    have lt2 : i < its2.toArray.size := by
      have := (List.getElem?_eq_some_iff.mp hu2).1
      simpa using this
    refine wpAny_pyNext_zipD2_item D (drawsB (prog := X.prog) (w := X.w) (A := X.A.in1) hh t1 i1 a ai1 its.toArray) (drawsB (prog := X.prog) (w := X.w) (A := X.A.in1) hh t2 i2 b bi2 its2.toArray) hz hTI hTO ⟨h1, p⟩ ⟨h2, p2⟩ lt1 lt2 fun v1 v2 h' tk e1 e2 z' TO' st1 st2 hT hsz hk => ?_
    have e1 : v1 = u := by simpa [hu] using e1.symm
    have e2 : v2 = u2 := by simpa [hu2] using e2.symm
    subst e1 e2
    refine ⟨_, rfl, wpAny_letOwnedTupleGo_zip (s := { s with heap := h', toks := tk }) z' fun h'' z'' sb => ?_⟩
    have hT2 : h''.get? s.heap.objs.size = some { cls := .type "tuple", data := .seq #[v1, v2] } := (sb.2 _ (Nat.ne_of_gt hzl)).trans hT
    have new : ObjOk X.prog X.w (upd H s.heap.objs.size (.tup [x, y])) h'' s.heap.objs.size (.tup [x, y]) :=
      ⟨by show 2 ≤ sizeLine; decide, [v1, v2], .cons ru (.cons ru2 .nil), ⟨_, hT2, rfl, _, rfl⟩⟩
    have I1 : L2.Inv X pins σ (upd H s.heap.objs.size (.tup [x, y])) { s with heap := h'', toks := tk } :=
      I.turnedNew (t' := tk) (ch := [z, TI, TO, i1, i2]) (fun c o hb q => (sb.2 c (fun q' => hb (by simp [q']))).trans (hk c o (fun q' => hb (by simp [q'])) (fun q' => hb (by simp [q'])) (fun q' => hb (by simp [q'])) (fun q' => hb (by simp [q'])) q)) hf (Nat.le_refl _) new
    refine ⟨.ref s.heap.objs.size, _, I1, rfl, ⟨_, x, y, rfl, I.hok.fresh (Nat.le_refl _), rfl, fun l hl => by rw [sqB_inj I hl hqx]; exact hx, fun l hl => by rw [sqB_inj I hl hqy]; exact hy⟩, ⟨z'', ?_, ⟨v1, v2, ?_⟩, ?_, ?_⟩, fun c hcm => ?_⟩
    · exact (sb.2 _ D.TIz).trans (hk _ _ D.TIz D.TITO D.TIi1 D.TIi2 hTI)
    · exact (sb.2 _ D.TOz).trans TO'
    · exact itAt_keep st1.1 fun o q => (sb.2 _ (Ne.symm D.zi1)).trans q
    · exact itAt_keep st2.1 fun o q => (sb.2 _ (Ne.symm D.zi2)).trans q
    · have hlt : c < s.heap.objs.size := by
        have e' : c = z ∨ c = TI ∨ c = TO ∨ c = i1 ∨ c = i2 := by simpa using hcm
        rcases e' with q | q | q | q | q
        · rw [q]; exact hzl
        · rw [q]; exact Heap.lt_size hTI
        · rw [q]; exact Heap.lt_size hTO
        · rw [q]; obtain ⟨_, e1, _⟩ := itAt_obj h1; exact Heap.lt_size e1
        · rw [q]; obtain ⟨_, e2, _⟩ := itAt_obj h2; exact Heap.lt_size e2
      rw [upd_ne (Nat.ne_of_lt hlt)]
      exact (hf c hcm).1
  done := by
    intro X hP hw hK hc i pins s σ H E I hf st hg
    subst hP hw hK
    obtain ⟨hz, hTI, ⟨x0, y0, hTO⟩, h1, h2⟩ := st
    obtain ⟨xs, ys, hqx, hqy, le1, le2, hend⟩ := hg
    obtain ⟨its, rv, p, _⟩ := sqB_ok I hqx
    obtain ⟨its2, rv2, p2, _⟩ := sqB_ok I hqy
    have hh : X.A.in1.handled = none := I.ok.hd hc
    have l1 : its.toArray.size = xs.length := by rw [List.size_toArray]; exact rv.length.symm
    have l2 : its2.toArray.size = ys.length := by rw [List.size_toArray]; exact rv2.length.symm
    refine wpAny_pyNext_zipD2_end D (drawsB (prog := X.prog) (w := X.w) (A := X.A.in1) hh t1 i1 a ai1 its.toArray) (drawsB (prog := X.prog) (w := X.w) (A := X.A.in1) hh t2 i2 b bi2 its2.toArray) hz hTI hTO ⟨h1, p⟩ ⟨h2, p2⟩ (by omega) (by omega) (by omega) fun h' tk hk => ⟨rfl, I.turnedL (t' := tk) (ch := [z, TI, TO, i1, i2]) (fun c o hb q =>
      hk c o (fun q' => hb (by simp [q'])) (fun q' => hb (by simp [q'])) (fun q' => hb (by simp [q'])) (fun q' => hb (by simp [q'])) q) hf⟩
  self := fun A i s Q E st h => wpAny_pyIter_zip st.1 h
def iZipB (K : PySem.W.Frag) (ta : TA) : TI := fun σ H R => ta σ H fun vs H1 => ∃ t1 a t2 b xs ys, vs = [.ref a, .ref b] ∧ SqB K t1 H1 a xs ∧ SqB K t2 H1 b ys ∧ R (ItzB K t1 a t2 b) H1
theorem pi_zipB {X : Cx} {e e2 : Expr} {ta : TA} {p pos tpos : Pos} {elts : List Expr} {kk : Nat} (hg : Gl X "zip") (hm : X.mg "zip" = none) (ha : PA X [e, e2] ta)
    (hs : starEach [e, e2] X.env = (false, eval e X.env) :: starEach [e2] X.env := by rfl) (hpl : (backTo pos (starEach [e2] X.env)).any (·.1) = false := by rfl) :
    PI X (.Tuple elts kk tpos) (.Call (.Name "zip" p) [e, e2] [] pos) (iZipB X.K ta) := by
  refine ⟨fun pins s σ H R I h => ?_⟩
  refine Call_ (ld_blt I hg hm PyProof.Rows.boot_zip (PyProof.Rows.callWith_type1 (thn (ha.run pos pins s σ H _ I h) fun us s1 ⟨vs, H1, I1, r1, q1⟩ => ?_) hs hpl))
  obtain ⟨t1, a, t2, b, xs, ys, ex, hqx, hqy, q⟩ := q1
  subst ex
  cases r1 with
  | cons r rr =>
    cases rr with
    | cons r' rr =>
      cases rr
      cases r
      cases r'
      have fresh5 : ∀ c, c ∈ [s1.heap.objs.size + 4, s1.heap.objs.size + 2, s1.heap.objs.size + 3, s1.heap.objs.size, s1.heap.objs.size + 1] → FpOk X pins H1 c := fun c hcm => by
        have e' : c = s1.heap.objs.size + 4 ∨ c = s1.heap.objs.size + 2 ∨ c = s1.heap.objs.size + 3 ∨ c = s1.heap.objs.size ∨ c = s1.heap.objs.size + 1 := by simpa using hcm
        have hle : s1.heap.objs.size ≤ c := by
          rcases e' with z | z | z | z | z
          · rw [z]; exact Nat.le_add_right _ _
          · rw [z]; exact Nat.le_add_right _ _
          · rw [z]; exact Nat.le_add_right _ _
          · rw [z]; exact Nat.le_refl _
          · rw [z]; exact Nat.le_add_right _ _
        exact I1.fpOk hle (I1.hok.fresh hle)
      obtain ⟨its, rv, p1, _⟩ := sqB_ok I1 hqx
      obtain ⟨its2, rv2, p2, _⟩ := sqB_ok I1 hqy
      have la := hpB_lt p1
      have lb := hpB_lt p2
      refine zip_begins2 (beginsB t1 a its.toArray) (beginsB t2 b its2.toArray) p1 p2 fun h' hz hTI hTO h1 h2 hsz hk => wpAny_pyIter_zip hz ?_
      have I2 : L2.Inv X pins σ H1 { s1 with heap := h' } := I1.kept (t' := s1.toks) hk
      have D : ZipSep2 (s1.heap.objs.size + 4) (s1.heap.objs.size + 2) (s1.heap.objs.size + 3) s1.heap.objs.size (s1.heap.objs.size + 1) (s1.heap.objs.size :: [a]) ((s1.heap.objs.size + 1) :: [b]) :=
        zip_sep2 (fun c hc => by rw [List.mem_singleton.mp hc]; exact la) (fun c hc => by rw [List.mem_singleton.mp hc]; exact lb)
      exact ⟨s1.heap.objs.size + 4, [s1.heap.objs.size + 4, s1.heap.objs.size + 2, s1.heap.objs.size + 3, s1.heap.objs.size, s1.heap.objs.size + 1], _, _, H1, rfl, I2, turn_zipB D (Nat.ne_of_lt la) (Nat.ne_of_lt (Nat.lt_succ_of_lt lb)), ⟨hz, hTI, ⟨_, _, hTO⟩, itAt_new h1, itAt_new h2⟩, fresh5, q⟩
end Rh

set_option Elab.async false
set_option linter.all false
set_option maxRecDepth 100000
set_option maxHeartbeats 2000000
set_option autoImplicit false
namespace Rh
open PySem PySem.Spec PyProof.Rows L2
/-! ### enumerate -/
def ItnB (K : PySem.W.Frag) (t : Bool) (a : Addr) (c : Int) : It :=
  ⟨fun i H => ∃ (xs : List V) (x : V), SqB K t H a xs ∧ xs[i]? = some x,
    fun i H v H' => ∃ T x, v = .ref T ∧ H T = none ∧ H' = upd H T (.tup [.int (c + (i : Nat)), x]) ∧ ∀ xs, SqB K t H a xs → xs[i]? = some x,
    fun i H => ∃ xs : List V, SqB K t H a xs ∧ i = xs.length⟩
theorem turn_enumB {P : Program} {w : World} {K : PySem.W.Frag} {elts : List Expr} {kk : Nat} {tpos : Pos} {t : Bool} {a e it : Addr} {c : Int} (hne : e ≠ it) (ea : e ≠ a) (ai : a ≠ it) :
    Turn P w K (.Tuple elts kk tpos) (ItnB K t a c) [e, it] e (fun i h => (∃ old, IsEnum h e it (c + (i : Nat)) old) ∧ ItAt t h it a i) where
  mem := by simp
  obj := fun i h st b hb => by
    obtain ⟨⟨old, he⟩, hi⟩ := st
    have e' : b = e ∨ b = it := by simpa using hb
    rcases e' with z | z
    · rw [z]; exact ⟨_, he, fun v q => nomatch q⟩
    · rw [z]; exact itAt_obj hi
  keep := fun i h h' st k => let ⟨⟨old, he⟩, hi⟩ := st; ⟨⟨old, k e (by simp) _ he⟩, itAt_keep hi fun o q => k it (by simp) o q⟩
  item := by
    intro X hP hw hK hc i pins s σ H E I hf st hg
    subst hP hw hK
    obtain ⟨⟨old, he⟩, hit⟩ := st
    obtain ⟨xs, x, hq, hx⟩ := hg
    obtain ⟨its, rv, p, hz⟩ := sqB_ok I hq
    obtain ⟨u, hu, ru⟩ := rv.get hx
    have hel : e < s.heap.objs.size := Heap.lt_size he
    have hil : it < s.heap.objs.size := by obtain ⟨_, q, _⟩ := itAt_obj hit; exact Heap.lt_size q
    have hh : X.A.in1.handled = none := I.ok.hd hc
    have lt1 : i < its.toArray.size := by
      have := (List.getElem?_eq_some_iff.mp hu).1
      simpa using this
    refine wpAny_pyNext_enum_itemC (drawsB (prog := X.prog) (w := X.w) (A := X.A.in1) hh t it a ai its.toArray) he ⟨hit, p⟩ lt1 hne (by simp [hne, ea]) fun v h' tk ev ho st' hT hsz hk => ?_
    have ev : v = u := by simpa [hu] using ev.symm
    subst ev
    refine ⟨_, rfl, wpAny_letOwnedTupleGo_enum (s := { s with heap := h', toks := tk + 1 }) ho fun h'' he' sb => ?_⟩
    have hT2 : h''.get? s.heap.objs.size = some { cls := .type "tuple", data := .seq #[.int (c + (i : Nat)) tk, v] } := (sb.2 _ (Nat.ne_of_gt hel)).trans hT
    have new : ObjOk X.prog X.w (upd H s.heap.objs.size (.tup [.int (c + (i : Nat)), x])) h'' s.heap.objs.size (.tup [.int (c + (i : Nat)), x]) :=
      ⟨by show 2 ≤ sizeLine; decide, [.int (c + (i : Nat)) tk, v], .cons ⟨_, rfl⟩ (.cons ru .nil), ⟨_, hT2, rfl, _, rfl⟩⟩
    have I1 : L2.Inv X pins σ (upd H s.heap.objs.size (.tup [.int (c + (i : Nat)), x])) { s with heap := h'', toks := tk + 1 } :=
      I.turnedNew (ch := [e, it]) (fun b ob hb q => (sb.2 b (fun z => hb (by simp [z]))).trans (hk b ob (fun z => hb (by simp [z])) (fun z => hb (by simp [z])) q)) hf (Nat.le_refl _) new
    refine ⟨.ref s.heap.objs.size, _, I1, rfl, ⟨_, x, rfl, I.hok.fresh (Nat.le_refl _), rfl, fun ys hy => by rw [sqB_inj I hy hq]; exact hx⟩, ⟨⟨v, ?_⟩, itAt_keep st'.1 fun o q => (sb.2 it (Ne.symm hne)).trans q⟩, fun b hb => ?_⟩
    · have e1 : c + ((i + 1 : Nat) : Int) = c + (i : Int) + 1 := by omega
      rw [e1]; exact he'
    · have hb' : b < s.heap.objs.size := by
        have e' : b = e ∨ b = it := by simpa using hb
        rcases e' with z | z
        · rw [z]; exact hel
        · rw [z]; exact hil
      rw [upd_ne (Nat.ne_of_lt hb')]
      exact (hf b hb).1
  done := by
    intro X hP hw hK hc i pins s σ H E I hf st hg
    subst hP hw hK
    obtain ⟨⟨old, he⟩, hit⟩ := st
    obtain ⟨xs, hq, hx⟩ := hg
    obtain ⟨its, rv, p, hz⟩ := sqB_ok I hq
    obtain ⟨f0, f1, f2, f3, f4, f5⟩ := hf it (by simp)
    have hh : X.A.in1.handled = none := I.ok.hd hc
    have hl : i = its.toArray.size := by rw [List.size_toArray, hx]; exact rv.length
    refine wpAny_pyNext_enum_endD (drawsB (prog := X.prog) (w := X.w) (A := X.A.in1) hh t it a ai its.toArray) he (by rw [← hl]; exact ⟨hit, p⟩) fun h' eb => ⟨rfl, I.turned (t' := s.toks) (fun b o hb q => eb b o hb q) f0 f1 f3 f4 f5⟩
  self := fun A i s Q E st h => let ⟨⟨_, he⟩, _⟩ := st; wpAny_pyIter_enum he h
def iEnumB (K : PySem.W.Frag) (te : TE) (c : Int) : TI := fun σ H R => te σ H fun v H1 => ∃ t a xs, v = .ref a ∧ SqB K t H1 a xs ∧ R (ItnB K t a c) H1
theorem callWith_tyK {M : Model} {A : Around} {E : Value → Shared → Prop} {s : Shared} {pos : Pos} {T : String} {first : List Value} {args : List (Bool × Sem Value)} {keywords : List (Option Str × Sem Value)} {Q : Value → Shared → Prop} (hplain : (args.any (·.1) || keywords.any (·.1.isNone)) = false)
    (h : wpAny M A (evalArgs (.type T) true args keywords) (fun a s₁ => wpAny M A (call (.type T) (first ++ a.pos) a.kw) Q E s₁) E s) :
    wpAny M A (callWith pos (.type T) first args keywords) Q E s := by
  unfold callWith
  refine wpAny_bind (wpAny_holding (wpAny_mono h (fun a s₁ h₁ => wpAny_bind (wpAny_standAt ?_)) fun _ _ x => x))
  simp only [hplain]
  refine wpAny_bind (wpAny_pure ?_)
  exact wpAny_bind (wpAny_mono h₁ (fun r s₂ hr => wpAny_bind (wpAny_holding (wpAny_point (wpAny_pure hr)))) fun _ _ x => x)
/-- enumerate(e, start = k), k written -/
theorem pi_enumK {X : Cx} {e : Expr} {te : TE} {k : Int} {j : Nat} {p kp kp2 pos tpos : Pos} {elts : List Expr} {kk : Nat} (hk : -1000000 ≤ k ∧ k ≤ 1000000) (hg : Gl X "enumerate") (hm : X.mg "enumerate" = none) (he : PE X e te)
    (hs : starEach [e] X.env = (false, eval e X.env) :: starEach [] X.env := by rfl) (hall : (backToKw pos (keywordEach [⟨some "start", .Constant (.int k) j kp, kp2⟩] X.env)).all (·.1.isSome) = true := by rfl)
    (hpl : ((backTo pos (starEach [e] X.env)).any (·.1) || (backToKw pos (keywordEach [⟨some "start", .Constant (.int k) j kp, kp2⟩] X.env)).any (·.1.isNone)) = false := by rfl)
    (hks : (backToKw pos (keywordEach [⟨some "start", .Constant (.int k) j kp, kp2⟩] X.env)).filterMap (·.1) = [("start" : Str)] := by rfl) :
    PI X (.Tuple elts kk tpos) (.Call (.Name "enumerate" p) [e] [⟨some "start", .Constant (.int k) j kp, kp2⟩] pos) (iEnumB X.K te k) := by
  refine ⟨fun pins s σ H R I h => ?_⟩
  refine wpAny_Call_Name_kw (ld_blt I hg hm boot_enumerate ?_)
  refine callWith_tyK hpl (PyProof.Rows.evalArgs_kw2 hall (thn ((pa_cons he pa_nil hs).run pos pins s σ H (fun vs H1 => match vs with | [v] => ∃ t a xs, v = .ref a ∧ SqB X.K t H1 a xs ∧ R (ItnB X.K t a k) H1 | _ => False) I h) fun us s1 ⟨vs, H1, I1, r1, q1⟩ => ?_) hs)
  dsimp only at q1
  split at q1
  case h_2 => exact q1.elim
  rename_i v
  obtain ⟨t, a, xs, ea, hq, q1⟩ := q1
  subst ea
  cases r1 with
  | cons r rr =>
    cases rr
    cases r
    refine thn ((pk_cons (X := X) (nm := some "start") (kpos := kp2) (pe_int (i := k) (j := j) (pos := kp)) pk_nil).run pos pins s1 σ H1 (fun vs H2 => vs = [.int k] ∧ H2 = H1) I1 ⟨rfl, rfl⟩) fun ws s2 ⟨zs, H2, I2, r2, ez, eH⟩ => ?_
    subst ez eH
    cases r2 with
    | cons r rr =>
      cases rr
      obtain ⟨tk, rfl⟩ := r
      rw [hks]
      obtain ⟨its, rv, p', hz⟩ := sqB_ok I2 hq
      have la := hpB_lt p'
      show wpAny _ _ (call (.type "enumerate") [.ref a] [(Str.ofString "start", .int k tk)]) _ _ s2
      refine enum_begins_start (beginsB t a its.toArray) p' (by omega) (by omega) fun h' hen hit hsz hk => wpAny_pyIter_enum hen ?_
      have I3 : L2.Inv X pins σ H2 { s2 with heap := h' } := I2.kept (t' := s2.toks) hk
      refine ⟨s2.heap.objs.size + 1, [s2.heap.objs.size + 1, s2.heap.objs.size], _, _, H2, rfl, I3, turn_enumB (t := t) (a := a) (c := k) (e := s2.heap.objs.size + 1) (it := s2.heap.objs.size) (Nat.succ_ne_self _) (Nat.ne_of_gt (Nat.lt_succ_of_lt la)) (Nat.ne_of_lt la), ⟨⟨.none, by simpa using hen⟩, itAt_new hit⟩, fun b hb => ?_, q1⟩
      have e' : b = s2.heap.objs.size + 1 ∨ b = s2.heap.objs.size := by simpa using hb
      have hle : s2.heap.objs.size ≤ b := by
        rcases e' with z | z
        · rw [z]; exact Nat.le_add_right _ _
        · rw [z]; exact Nat.le_refl _
      exact I2.fpOk hle (I2.hok.fresh hle)
/-- enumerate(e, 0) as enumerate(e) has it -/
theorem meets_enum0 {v : Value} {o : Obj} {H : Heap → Prop} (B : Begins v o H) :
    Meets (Builtin.«enumerate.__new__» ⟨[.type "enumerate", v], []⟩) (fun _ R s => H s.heap ∧
      R (.ok (.ret (.ref (s.heap.push o).objs.size))) { s with heap := (s.heap.push o).push { cls := .type "enumerate", data := .fields #[.none, .bool false, .ref s.heap.objs.size, rawInt 0, .none, .none] } }) :=
  .of_wp fun prog w A R s h => by
    obtain ⟨hp, g, d, tk, os⟩ := s; obtain ⟨h1, h⟩ := h
    have hsub := sub_enumerate
    have q1 : ∀ {A' : Around} {E : Value → Shared → Prop} {Q : Value → Shared → Prop}, Q (.ref hp.objs.size) ⟨hp.push o, g, d, tk, os⟩ → wpAny (model prog w) A' (pyIter v) Q E ⟨hp, g, d, tk, os⟩ :=
      fun q => B.iter prog w _ _ ⟨hp, g, d, tk, os⟩ _ h1 q
    wp_walk using q1
    refine wpAny_stack_any fun st => wpAny_pure ?_
    split
    · rename_i c _ _ _ _ _
      cases (c == Value.type "enumerate")
      · wp_walk using q1
        exact ⟨_, rfl, h⟩
      · wp_walk using q1
        exact ⟨_, rfl, h⟩
    · wp_walk using q1
      exact ⟨_, rfl, h⟩
section
variable {prog : Program} {w : World} {A : Around} {E : Value → Shared → Prop} {s : Shared}
theorem enum_begins0 {v : Value} {o : Obj} {H : Heap → Prop} {Q : Value → Shared → Prop} (B : Begins v o H) (h1 : H s.heap)
    (h : ∀ h', IsEnum h' (s.heap.objs.size + 1) s.heap.objs.size 0 .none → h'.get? s.heap.objs.size = some o → h'.objs.size = s.heap.objs.size + 2 →
      (∀ b o, s.heap.get? b = some o → h'.get? b = some o) → Q (.ref (s.heap.objs.size + 1)) { s with heap := h' }) :
    wpAny (model prog w) A (call (.type "enumerate") [v]) Q E s := by
  refine callType_new F.called_enumerate (by decide) (F.typeCall_enumerate_1 _) (F.newCall_enumerate_1 _) (fun obj => F.args_object_init_2 obj _) F.entry_enumerate_new
    (meets_enum0 B) ⟨h1, ?_⟩
  have hz : (s.heap.push o).objs.size = s.heap.objs.size + 1 := Heap.size_push ..
  show _ ∧ _
  rw [hz]
  have he : IsEnum ((s.heap.push o).push { cls := .type "enumerate", data := .fields #[.none, .bool false, .ref s.heap.objs.size, rawInt 0, .none, .none] }) (s.heap.objs.size + 1) s.heap.objs.size 0 .none := by
    have := Heap.get?_push_size (s.heap.push o) (o := { cls := .type "enumerate", data := .fields #[.none, .bool false, .ref s.heap.objs.size, rawInt 0, .none, .none] }) rfl
    rw [hz] at this; exact this
  refine ⟨⟨_, he, rfl⟩, h _ he (Heap.get?_push_of_some _ (Heap.get?_push_size _ B.free)) (by rw [Heap.size_push, hz]) fun b o x => Heap.get?_push_of_some _ (Heap.get?_push_of_some _ x)⟩
end
/-- enumerate(e) -/
theorem pi_enum0 {X : Cx} {e : Expr} {te : TE} {p pos tpos : Pos} {elts : List Expr} {kk : Nat} (hg : Gl X "enumerate") (hm : X.mg "enumerate" = none) (he : PE X e te)
    (hs : starEach [e] X.env = (false, eval e X.env) :: starEach [] X.env := by rfl) (hs2 : starEach [e] X.env = [(false, eval e X.env)] := by rfl) :
    PI X (.Tuple elts kk tpos) (.Call (.Name "enumerate" p) [e] [] pos) (iEnumB X.K te 0) := by
  refine ⟨fun pins s σ H R I h => ?_⟩
  refine Call_ (ld_blt I hg hm boot_enumerate (PyProof.Rows.callWith_type1 (thn ((pa_cons he pa_nil hs).run pos pins s σ H (fun vs H1 => match vs with | [v] => ∃ t a xs, v = .ref a ∧ SqB X.K t H1 a xs ∧ R (ItnB X.K t a 0) H1 | _ => False) I h) fun us s1 ⟨vs, H1, I1, r1, q1⟩ => ?_) hs2 rfl))
  dsimp only at q1
  split at q1
  case h_2 => exact q1.elim
  rename_i v
  obtain ⟨t, a, xs, ea, hq, q1⟩ := q1
  subst ea
  cases r1 with
  | cons r rr =>
    cases rr
    cases r
    obtain ⟨its, rv, p', hz⟩ := sqB_ok I1 hq
    have la := hpB_lt p'
    refine enum_begins0 (beginsB t a its.toArray) p' fun h' hen hit hsz hk => wpAny_pyIter_enum hen ?_
    have I3 : L2.Inv X pins σ H1 { s1 with heap := h' } := I1.kept (t' := s1.toks) hk
    refine ⟨s1.heap.objs.size + 1, [s1.heap.objs.size + 1, s1.heap.objs.size], _, _, H1, rfl, I3, turn_enumB (t := t) (a := a) (c := 0) (e := s1.heap.objs.size + 1) (it := s1.heap.objs.size) (Nat.succ_ne_self _) (Nat.ne_of_gt (Nat.lt_succ_of_lt la)) (Nat.ne_of_lt la), ⟨⟨.none, by simpa using hen⟩, itAt_new hit⟩, fun b hb => ?_, q1⟩
    have e' : b = s1.heap.objs.size + 1 ∨ b = s1.heap.objs.size := by simpa using hb
    have hle : s1.heap.objs.size ≤ b := by
      rcases e' with z | z
      · rw [z]; exact Nat.le_add_right _ _
      · rw [z]; exact Nat.le_refl _
    exact I1.fpOk hle (I1.hok.fresh hle)
end Rh

set_option Elab.async false
set_option linter.all false
set_option maxRecDepth 100000
set_option maxHeartbeats 2000000
set_option autoImplicit false
namespace Rh
open PySem PySem.Spec PyProof.Rows L2

/-! ### what is walked -/
/-- what is immutable stays, and so do the walked boxes -/
structure Still (lks : List Nat) (μ1 : Mu) (H1 : Hp) (μ : Mu) (H : Hp) : Prop where
  st : Stay μ1 H1 μ H
  lk : ∀ n ∈ lks, ∀ a, μ1[n]? = some a → H a = H1 a
/-- the walk J yields the data ds, wherever the walked boxes stand still -/
structure Cover (C : Ct) (J : It) (ds : List D) (lks : List Nat) (μ1 : Mu) (H1 : Hp) : Prop where
  go : ∀ i μ H, Still lks μ1 H1 μ H → i < ds.length → J.go i H
  stop : ∀ i μ H, Still lks μ1 H1 μ H → i = ds.length → J.stop i H
  yld : ∀ i μ H x H' d, Still lks μ1 H1 μ H → J.yld i H x H' → ds[i]? = some d → Same H H' ∧ (∀ a, H' a = none → H a = none) ∧ RepV C μ H' d x
def rdI (X : Cx) (W : WX) (m : M (List D × List Nat)) : TI := fun σ H R => rdG X W m σ H fun _ _ p _ μ' H' => ∀ J, Cover (ctX X) J p.1 p.2 μ' H' → R J H'
section
variable {C : Ct} {L : List Nat} {μ μ1 : Mu} {H H1 : Hp} {h : Hs}
/-- a sequence as it stands -/
def SqF (K : PySem.W.Frag) (lks : List Nat) (t : Bool) (μ : Mu) (H : Hp) (a : Addr) (vs : List V) : Prop := match t with
  | true => TupAt K H a vs
  | false => (∃ n ∈ lks, μ[n]? = some a ∧ H a = some (.lst vs)) ∨ ScrAt K H a vs
theorem SqF.sq {K : PySem.W.Frag} {lks : List Nat} {t : Bool} {a : Addr} {vs : List V} (q : SqF K lks t μ H a vs) : SqB K t H a vs := by
  cases t
  · rcases q with ⟨n, _, _, e⟩ | q
    · exact .inl (.inl e)
    · exact q.sqL
  · exact TupAt.sq q
theorem SqF.still {K : PySem.W.Frag} {lks : List Nat} {t : Bool} {a : Addr} {vs : List V} (st : Still lks μ1 H1 μ H) (q : SqF K lks t μ1 H1 a vs) : SqB K t H a vs := by
  cases t
  · rcases q with ⟨n, m, e1, e⟩ | q
    · exact .inl (.inl ((st.lk n m a e1).trans e))
    · exact (st.st.scr q).sqL
  · exact TupAt.sq (st.st.tupAt q)
theorem SqF.more {K : PySem.W.Frag} {lks lks' : List Nat} {t : Bool} {a : Addr} {vs : List V} (hl : ∀ n ∈ lks, n ∈ lks') (q : SqF K lks t μ H a vs) : SqF K lks' t μ H a vs := by
  cases t
  · rcases q with ⟨n, m, q⟩ | q
    · exact .inl ⟨n, hl n m, q⟩
    · exact .inr q
  · exact q
/-- items, and the box that holds them -/
def itD (h : Hs) : D → Option (List D × List Nat)
  | .tup ds => some (ds, [])
  | .scr ds => some (ds, [])
  | .box n => match h.get n with
    | some (.lst ds) => some (ds, [n])
    | _ => none
  | _ => none
theorem itD_ok (r : HR C L μ H h) {d : D} {ds : List D} {lks : List Nat} {x : V} (q : RepV C μ H d x) (e : itD h d = some (ds, lks)) : ∃ t a vs, x = .ref a ∧ SqF C.K lks t μ H a vs ∧ RepL C μ H ds vs := by
  cases d with
  | tup es => cases e; obtain ⟨a, vs, rfl, t, q⟩ := q; exact ⟨true, a, vs, rfl, t, q⟩
  | scr es => cases e; obtain ⟨a, vs, rfl, t, q⟩ := q; exact ⟨false, a, vs, rfl, .inr t, q⟩
  | box n =>
    unfold itD at e
    dsimp only at e
    split at e
    · rename_i e0
      cases e
      obtain ⟨a, vs, rfl, m, t, q⟩ := r.lst q e0
      exact ⟨false, a, vs, rfl, .inl ⟨n, List.mem_singleton_self _, m, t⟩, q⟩
    · cases e
  | _ => cases e
theorem cover_seq {lks : List Nat} {t : Bool} {a : Addr} {vs : List V} {ds : List D} (q : SqF C.K lks t μ1 H1 a vs) (r : RepL C μ1 H1 ds vs) : Cover C (match t with | true => Itt C.K a | false => Itl C.K a) ds lks μ1 H1 := by
  cases t
  · refine ⟨fun i μ H st hi => ?_, fun i μ H st hi => ⟨vs, q.still st, by rw [r.length]; exact Nat.le_of_eq hi.symm⟩, fun i μ H x H' d st y hd => ?_⟩
    · obtain ⟨v, hv, _⟩ := r.get (List.getElem?_eq_getElem hi)
      exact ⟨vs, v, q.still st, hv⟩
    · obtain ⟨e, y⟩ := y
      subst e
      obtain ⟨v, hv, rv⟩ := r.get hd
      have := y vs (q.still st)
      rw [hv] at this; cases this
      exact ⟨fun _ _ e => e, fun _ e => e, rv.stay st.st⟩
  · refine ⟨fun i μ H st hi => ?_, fun i μ H st hi => ⟨vs, q.still st, by rw [r.length]; exact Nat.le_of_eq hi.symm⟩, fun i μ H x H' d st y hd => ?_⟩
    · obtain ⟨v, hv, _⟩ := r.get (List.getElem?_eq_getElem hi)
      exact ⟨vs, v, q.still st, hv⟩
    · obtain ⟨e, y⟩ := y
      subst e
      obtain ⟨v, hv, rv⟩ := r.get hd
      have := y vs (q.still st)
      rw [hv] at this; cases this
      exact ⟨fun _ _ e => e, fun _ e => e, rv.stay st.st⟩
theorem cover_dct {n : Nat} {a : Addr} {es : Nat × List EV} {ds : List D} (m : μ1[n]? = some a) (e : H1 a = some (DicO C.w a es)) (r : RepL C μ1 H1 ds (es.2.map (·.2.1))) : Cover C (Itq C.w a es) ds [n] μ1 H1 := by
  have hl : es.2.length = ds.length := by rw [← r.length, List.length_map]
  have at_ : ∀ {μ : Mu} {H : Hp}, Still [n] μ1 H1 μ H → H a = some (DicO C.w a es) := fun st => (st.lk n (List.mem_singleton_self _) a m).trans e
  refine ⟨fun i μ H st hi => ⟨at_ st, by omega⟩, fun i μ H st hi => ⟨at_ st, by omega⟩, fun i μ H x H' d st y hd => ?_⟩
  obtain ⟨e, en, he, rfl⟩ := y
  subst e
  obtain ⟨v, hv, rv⟩ := r.get hd
  rw [List.getElem?_map, he] at hv
  cases hv
  exact ⟨fun _ _ e => e, fun _ e => e, rv.stay st.st⟩
end
section
variable {X : Cx} {W : WX} {tg : Expr}
/-- what is walked: a sequence, or a dict's keys -/
def iterD (h : Hs) (d : D) : Option (List D × List Nat) := match itD h d with
  | some p => some p
  | none => match d with
    | .box n => (match h.get n with
      | some (.dct _ ks _) => some (ks, [n])
      | _ => none)
    | _ => none
def mIter (m : M D) : M (List D × List Nat) := mBind m fun d => fun _ h => match iterD h d with
  | some p => some (.ok p h)
  | none => none
theorem i_any {l : Expr} {m : M D} (hl : PE X l (rd X W m)) : PI X tg l (rdI X W (mIter m)) := by
  refine pi_imp (pi_seqD hl) fun σ H R q => rdG_imp (rdG_bind q) fun ρ L d h1 μ1 H1 ⟨rel1, q1⟩ x rx => ?_
  unfold iterD at q1
  cases e1 : itD h1 d with
  | some p =>
    obtain ⟨ds, lks⟩ := p
    simp only [e1] at q1
    obtain ⟨t, a, vs, rfl, sq, rl⟩ := itD_ok rel1.hr rx e1
    have k := q1 μ1 H1 .refl rel1.hr _ (cover_seq sq rl)
    refine ⟨a, rfl, ?_⟩
    cases t
    · exact .inl ⟨⟨vs, sq.sq⟩, k⟩
    · exact .inr (.inl ⟨⟨vs, sq.sq⟩, k⟩)
  | none =>
    simp only [e1] at q1
    cases d with
    | box n =>
      dsimp only at q1
      cases e0 : h1.get n with
      | none => simp only [e0] at q1; exact q1.none
      | some o =>
        cases o with
        | dct nks ks vs =>
          simp only [e0] at q1
          obtain ⟨a, es, rfl, m, t, en, ek, r1, r2⟩ := rel1.hr.dct rx e0
          exact ⟨a, rfl, .inr (.inr ⟨es, t, q1 μ1 H1 .refl rel1.hr _ (cover_dct m t r1)⟩)⟩
        | _ => simp only [e0] at q1; exact q1.none
    | _ => exact q1.none
/-! ranges -/
def rangeD (lo hi : Int) : List D := (List.range (hi - lo).toNat).map fun k => .int (lo + (k : Nat))
theorem cover_range {C : Ct} {lo : Int} {n : Nat} {H1 : Hp} {μ1 : Mu} : Cover C (Itr lo n) ((List.range n).map fun (k : Nat) => D.int (lo + (k : Nat))) [] μ1 H1 := by
  refine ⟨fun i μ H st hi => ?_, fun i μ H st hi => ?_, fun i μ H x H' d st y hd => ?_⟩
  · show i < n; simpa using hi
  · show n ≤ i; have q := hi; simp at q; omega
  · obtain ⟨e, rfl⟩ := y
    subst e
    rw [List.getElem?_map] at hd
    obtain ⟨k, hk, rfl⟩ := Option.map_eq_some_iff.mp hd
    obtain ⟨h1, h2⟩ := List.getElem?_eq_some_iff.mp hk
    rw [List.getElem_range] at h2
    subst h2
    exact ⟨fun _ _ e => e, fun _ e => e, rfl⟩
def mRange1 (ms : M (List D)) : M (List D × List Nat) := mBind ms fun ds => fun _ h => match ds with
  | [.int j] => if -1000000 ≤ j ∧ j ≤ 1000000 then some (.ok (rangeD 0 j, []) h) else none
  | _ => none
def mRange2 (ms : M (List D)) : M (List D × List Nat) := mBind ms fun ds => fun _ h => match ds with
  | [.int i, .int j] => if (-1000000 ≤ i ∧ i ≤ 1000000) ∧ -1000000 ≤ j ∧ j ≤ 1000000 then some (.ok (rangeD i j, []) h) else none
  | _ => none
theorem i_range1 {a : Expr} {ms : M (List D)} {p pos : Pos} (hg : Gl X "range") (hm : X.mg "range" = none) (ha : PA X [a] (rdA X W ms)) (hs : starEach [a] X.env = [(false, eval a X.env)] := by rfl) : PI X tg (.Call (.Name "range" p) [a] [] pos) (rdI X W (mRange1 ms)) := by
  refine pi_imp (pi_range1 hg hm ha hs) fun σ H R q => rdG_imp (rdG_bind q) fun ρ L ds h1 μ1 H1 ⟨rel1, q1⟩ xs rx => ?_
  split at q1
  · rename_i j _
    split at q1
    · rename_i hj
      obtain ⟨x, rfl, hx⟩ := rx.one
      cases (show x = V.int j from hx)
      refine ⟨j, rfl, by omega, by omega, q1 μ1 H1 .refl rel1.hr _ ?_⟩
      have c := cover_range (C := ctX X) (lo := 0) (n := j.toNat) (H1 := H1) (μ1 := μ1)
      unfold rangeD
      rw [Int.sub_zero]
      exact c
    · exact q1.none
  · exact q1.none
theorem i_range2 {a b : Expr} {ms : M (List D)} {p pos : Pos} (hg : Gl X "range") (hm : X.mg "range" = none) (ha : PA X [a, b] (rdA X W ms)) (hs : starEach [a, b] X.env = [(false, eval a X.env), (false, eval b X.env)] := by rfl) (hs2 : starEach [b] X.env = [(false, eval b X.env)] := by rfl) :
    PI X tg (.Call (.Name "range" p) [a, b] [] pos) (rdI X W (mRange2 ms)) := by
  refine pi_imp (pi_range2 hg hm ha hs hs2) fun σ H R q => rdG_imp (rdG_bind q) fun ρ L ds h1 μ1 H1 ⟨rel1, q1⟩ xs rx => ?_
  split at q1
  · rename_i i j _
    split at q1
    · rename_i hj
      obtain ⟨x, y, rfl, hx, hy⟩ := rx.two
      cases (show x = V.int i from hx)
      cases (show y = V.int j from hy)
      exact ⟨i, j, rfl, ⟨by omega, by omega, by omega, by omega⟩, q1 μ1 H1 .refl rel1.hr _ cover_range⟩
    · exact q1.none
  · exact q1.none
/-! zip, enumerate -/
def zipD (ds es : List D) : List D := List.zipWith (fun d e => .tup [d, e]) ds es
theorem cover_zip {C : Ct} {H1 : Hp} {μ1 : Mu} {lks : List Nat} {t1 t2 : Bool} {a b : Addr} {vs us : List V} {ds es : List D} (h1 : SqF C.K lks t1 μ1 H1 a vs) (h2 : SqF C.K lks t2 μ1 H1 b us) (r1 : RepL C μ1 H1 ds vs) (r2 : RepL C μ1 H1 es us) : Cover C (ItzB C.K t1 a t2 b) (zipD ds es) lks μ1 H1 := by
  have hl : (zipD ds es).length = min ds.length es.length := List.length_zipWith
  refine ⟨fun i μ H st hi => ?_, fun i μ H st hi => ?_, fun i μ H x H' d st y hd => ?_⟩
  · have i1 : i < ds.length := by omega
    have i2 : i < es.length := by omega
    obtain ⟨v, hv, _⟩ := r1.get (List.getElem?_eq_getElem i1)
    obtain ⟨u, hu, _⟩ := r2.get (List.getElem?_eq_getElem i2)
    exact ⟨vs, us, v, u, h1.still st, h2.still st, hv, hu⟩
  · have q1 := r1.length
    have q2 := r2.length
    exact ⟨vs, us, h1.still st, h2.still st, by omega, by omega, by omega⟩
  · obtain ⟨T, v, u, rfl, hT, rfl, f1, f2⟩ := y
    have hi : i < (zipD ds es).length := (List.getElem?_eq_some_iff.mp hd).1
    have i1 : i < ds.length := by omega
    have i2 : i < es.length := by omega
    have e1 := f1 _ (h1.still st)
    have e2 := f2 _ (h2.still st)
    obtain ⟨v', hv, rv⟩ := r1.get (List.getElem?_eq_getElem i1)
    obtain ⟨u', hu, ru⟩ := r2.get (List.getElem?_eq_getElem i2)
    rw [e1] at hv; cases hv
    rw [e2] at hu; cases hu
    have ed : d = .tup [ds[i], es[i]] := by
      have q : (zipD ds es)[i]? = some (.tup [ds[i], es[i]]) := by
        unfold zipD
        rw [List.getElem?_zipWith, List.getElem?_eq_getElem i1, List.getElem?_eq_getElem i2]
      rw [q] at hd
      exact (Option.some.inj hd).symm
    subst ed
    obtain ⟨s1, s2⟩ := same_new (o := HO.tup [v, u]) hT
    have st2 := Same.stay (μ := μ) s1
    exact ⟨s1, s2, T, [v, u], rfl, .inl upd_same, v, [u], rfl, (rv.stay st.st).stay st2, u, [], rfl, (ru.stay st.st).stay st2, rfl⟩
def mZip (ms : M (List D)) : M (List D × List Nat) := mBind ms fun ds => fun _ h => match ds with
  | [d1, d2] => (match itD h d1, itD h d2 with
    | some (ds, l1), some (es, l2) => some (.ok (zipD ds es, l1 ++ l2) h)
    | _, _ => none)
  | _ => none
theorem i_zip {e e2 : Expr} {ms : M (List D)} {p pos tpos : Pos} {elts : List Expr} {kk : Nat} (hg : Gl X "zip") (hm : X.mg "zip" = none) (ha : PA X [e, e2] (rdA X W ms))
    (hs : starEach [e, e2] X.env = (false, eval e X.env) :: starEach [e2] X.env := by rfl) (hpl : (backTo pos (starEach [e2] X.env)).any (·.1) = false := by rfl) :
    PI X (.Tuple elts kk tpos) (.Call (.Name "zip" p) [e, e2] [] pos) (rdI X W (mZip ms)) := by
  refine pi_imp (pi_zipB hg hm ha hs hpl) fun σ H R q => rdG_imp (rdG_bind q) fun ρ L ds h1 μ1 H1 ⟨rel1, q1⟩ xs rx => ?_
  split at q1
  · rename_i d1 d2
    split at q1
    · rename_i ds l1 es l2 e1 e2
      obtain ⟨x, y, rfl, hx, hy⟩ := rx.two
      obtain ⟨t1, a, vs, rfl, s1, r1⟩ := itD_ok rel1.hr hx e1
      obtain ⟨t2, b, us, rfl, s2, r2⟩ := itD_ok rel1.hr hy e2
      exact ⟨t1, a, t2, b, vs, us, rfl, s1.sq, s2.sq, q1 μ1 H1 .refl rel1.hr _ (cover_zip (s1.more fun n m => List.mem_append_left _ m) (s2.more fun n m => List.mem_append_right _ m) r1 r2)⟩
    · exact q1.none
  · exact q1.none
def enumD (c : Int) : List D → List D
  | [] => []
  | d :: ds => .tup [.int c, d] :: enumD (c + 1) ds
theorem enumD_len : ∀ (c : Int) (ds : List D), (enumD c ds).length = ds.length
  | _, [] => rfl
  | c, d :: ds => by show (enumD (c + 1) ds).length + 1 = ds.length + 1; rw [enumD_len]
theorem enumD_get : ∀ (c : Int) (ds : List D) (i : Nat), (enumD c ds)[i]? = (ds[i]?).map fun d => .tup [.int (c + (i : Nat)), d]
  | _, [], i => by simp [enumD]
  | c, d :: ds, 0 => by simp [enumD]
  | c, d :: ds, i + 1 => by
    show (enumD (c + 1) ds)[i]? = (ds[i]?).map _
    rw [enumD_get]
    have e : c + 1 + (i : Int) = c + ((i + 1 : Nat) : Int) := by omega
    rw [e]
theorem cover_enum {C : Ct} {H1 : Hp} {μ1 : Mu} {lks : List Nat} {t : Bool} {a : Addr} {c : Int} {vs : List V} {ds : List D} (h1 : SqF C.K lks t μ1 H1 a vs) (r1 : RepL C μ1 H1 ds vs) : Cover C (ItnB C.K t a c) (enumD c ds) lks μ1 H1 := by
  have hl := enumD_len c ds
  refine ⟨fun i μ H st hi => ?_, fun i μ H st hi => ?_, fun i μ H x H' d st y hd => ?_⟩
  · have i1 : i < ds.length := by omega
    obtain ⟨v, hv, _⟩ := r1.get (List.getElem?_eq_getElem i1)
    exact ⟨vs, v, h1.still st, hv⟩
  · have q1 := r1.length
    exact ⟨vs, h1.still st, by omega⟩
  · obtain ⟨T, v, rfl, hT, rfl, f1⟩ := y
    have e1 := f1 _ (h1.still st)
    rw [enumD_get] at hd
    obtain ⟨d0, hd0, rfl⟩ := Option.map_eq_some_iff.mp hd
    obtain ⟨v', hv, rv⟩ := r1.get hd0
    rw [e1] at hv; cases hv
    obtain ⟨s1, s2⟩ := same_new (o := HO.tup [.int (c + (i : Nat)), v]) hT
    have st2 := Same.stay (μ := μ) s1
    exact ⟨s1, s2, T, [.int (c + (i : Nat)), v], rfl, .inl upd_same, _, [v], rfl, rfl, v, [], rfl, (rv.stay st.st).stay st2, rfl⟩
def mEnum (c : Int) (m : M D) : M (List D × List Nat) := mBind m fun d => fun _ h => match itD h d with
  | some (ds, l) => some (.ok (enumD c ds, l) h)
  | none => none
theorem rd_enum {c : Int} {m : M D} {σ : L2.St} {H : Hp} {R : It → Hp → Prop} (q : rdI X W (mEnum c m) σ H R) : iEnumB X.K (rd X W m) c σ H R := by
  refine rdG_imp (rdG_bind q) fun ρ L d h1 μ1 H1 ⟨rel1, q1⟩ x rx => ?_
  split at q1
  · rename_i ds l e1
    obtain ⟨t, a, vs, rfl, s1, r1⟩ := itD_ok rel1.hr rx e1
    exact ⟨t, a, vs, rfl, s1.sq, q1 μ1 H1 .refl rel1.hr _ (cover_enum s1 r1)⟩
  · exact q1.none
theorem i_enumK {e : Expr} {m : M D} {k : Int} {j : Nat} {p kp kp2 pos tpos : Pos} {elts : List Expr} {kk : Nat} (hk : -1000000 ≤ k ∧ k ≤ 1000000) (hg : Gl X "enumerate") (hm : X.mg "enumerate" = none) (he : PE X e (rd X W m))
    (hs : starEach [e] X.env = (false, eval e X.env) :: starEach [] X.env := by rfl) (hall : (backToKw pos (keywordEach [⟨some "start", .Constant (.int k) j kp, kp2⟩] X.env)).all (·.1.isSome) = true := by rfl)
    (hpl : ((backTo pos (starEach [e] X.env)).any (·.1) || (backToKw pos (keywordEach [⟨some "start", .Constant (.int k) j kp, kp2⟩] X.env)).any (·.1.isNone)) = false := by rfl)
    (hks : (backToKw pos (keywordEach [⟨some "start", .Constant (.int k) j kp, kp2⟩] X.env)).filterMap (·.1) = [("start" : Str)] := by rfl) :
    PI X (.Tuple elts kk tpos) (.Call (.Name "enumerate" p) [e] [⟨some "start", .Constant (.int k) j kp, kp2⟩] pos) (rdI X W (mEnum k m)) :=
  pi_imp (pi_enumK hk hg hm he hs hall hpl hks) fun σ H R h => rd_enum h
theorem i_enum0 {e : Expr} {m : M D} {p pos tpos : Pos} {elts : List Expr} {kk : Nat} (hg : Gl X "enumerate") (hm : X.mg "enumerate" = none) (he : PE X e (rd X W m))
    (hs : starEach [e] X.env = (false, eval e X.env) :: starEach [] X.env := by rfl) (hs2 : starEach [e] X.env = [(false, eval e X.env)] := by rfl) :
    PI X (.Tuple elts kk tpos) (.Call (.Name "enumerate" p) [e] [] pos) (rdI X W (mEnum 0 m)) :=
  pi_imp (pi_enum0 hg hm he hs hs2) fun σ H R h => rd_enum h
end

/-! ### targets -/
/-- but for the slots tv all stands -/
def Bt (tv : List Nat) (σ σ' : L2.St) : Prop := σ'.length = σ.length ∧ ∀ (i : Nat), i ∉ tv → σ'[i]? = σ[i]?
abbrev TM := D → En → Hs → Option (En × Hs)
def rdTg (X : Cx) (t : TM) (tv : List Nat) : TG := fun x σ H Q => ∃ d ρ L μ h ρ' h', Rel (ctX X) L ρ σ μ H h ∧ RepV (ctX X) μ H d x ∧ t d ρ h = some (ρ', h') ∧ ∀ σ' μ' H', Go L μ H μ' H' → Rel (ctX X) L ρ' σ' μ' H' h' → Bt tv σ σ' → Q σ' H'
def tName (i : Nat) : TM := fun d ρ h => some (ρ.set i (some d), h)
abbrev TMs := List D → En → Hs → Option (En × Hs)
def rdTgs (X : Cx) (t : TMs) (tv : List Nat) : TGs := fun xs σ H Q => ∃ ds ρ L μ h ρ' h', Rel (ctX X) L ρ σ μ H h ∧ RepL (ctX X) μ H ds xs ∧ t ds ρ h = some (ρ', h') ∧ ∀ σ' μ' H', Go L μ H μ' H' → Rel (ctX X) L ρ' σ' μ' H' h' → Bt tv σ σ' → Q σ' H'
def tsNil : TMs := fun ds ρ h => match ds with | [] => some (ρ, h) | _ => none
def tsCons (t : TM) (ts : TMs) : TMs := fun ds ρ h => match ds with
  | [] => none
  | d :: r => match t d ρ h with
    | none => none
    | some (ρ1, h1) => ts r ρ1 h1
def tTup (n : Nat) (ts : TMs) : TM := fun d ρ h => match d with
  | .tup ds => if ds.length = n then ts ds ρ h else none
  | d => match lstD h d with
    | some ds => if ds.length = n then ts ds ρ h else none
    | none => none
section
variable {X : Cx} {W : WX}
theorem g_name {i : Nat} {x : Str} {pos : Pos} (hN : X.N.Nodup) (hi : X.N[i]? = some x) (hx : Loc X.env.scope x) (hf : X.fn x = true ∨ X.env.scope.names.lookup x = some .local := by first | exact .inl rfl | exact .inr rfl | assumption) : PG X (.Name x pos) (rdTg X (tName i) [i]) :=
  pg_imp (pg_name hN hi hx hf) fun v σ H Q ⟨d, ρ, L, μ, h, ρ', h', rel, rv, e, k⟩ => by
    cases e
    exact k _ μ H .refl (rel.set rv) ⟨by rw [List.length_set], fun j hj => List.getElem?_set_ne fun q => hj (by rw [q]; exact List.mem_singleton_self _)⟩
theorem gs_nil : PGs X [] (rdTgs X tsNil []) := pgs_imp pgs_nil fun v σ H Q ⟨ds, ρ, L, μ, h, ρ', h', rel, rv, e, k⟩ => by
  unfold tsNil at e
  split at e
  · cases e
    exact ⟨rv, k σ μ H .refl rel ⟨rfl, fun _ _ => rfl⟩⟩
  · cases e
theorem gs_cons {e : Expr} {es : List Expr} {t : TM} {ts : TMs} {v1 v2 : List Nat} (h1 : PG X e (rdTg X t v1)) (h2 : PGs X es (rdTgs X ts v2))
    (hs : (assignEach (e :: es) X.env).map (·.2) = assign e X.env :: (assignEach es X.env).map (·.2) := by rfl) : PGs X (e :: es) (rdTgs X (tsCons t ts) (v1 ++ v2)) := by
  refine pgs_imp (pgs_cons h1 h2 hs) fun v σ H Q ⟨ds, ρ, L, μ, h, ρ', h', rel, rv, e, k⟩ => ?_
  unfold tsCons at e
  split at e
  · cases e
  · rename_i d r
    obtain ⟨x, xs, rfl, q1, q2⟩ := rv
    split at e
    · cases e
    · rename_i ρ1 h1 e1
      exact ⟨x, xs, rfl, d, ρ, L, μ, h, ρ1, h1, rel, q1, e1, fun σ1 μ1 H1 g1 rel1 b1 => ⟨r, ρ1, L, μ1, h1, ρ', h', rel1, q2.go rel.hr g1, e, fun σ2 μ2 H2 g2 rel2 b2 => k σ2 μ2 H2 (g1.trans g2) rel2 ⟨b2.1.trans b1.1, fun i hi => (b2.2 i fun q => hi (List.mem_append_right _ q)).trans (b1.2 i fun q => hi (List.mem_append_left _ q))⟩⟩⟩
theorem g_tup {es : List Expr} {k : Nat} {pos : Pos} {n : Nat} {ts : TMs} {tv : List Nat} (hc : X.calm = true) (h : PGs X es (rdTgs X ts tv))
    (hn : (assignEach es X.env).length = n := by rfl) (hst : (assignEach es X.env).findIdx? (·.1) = none := by rfl) : PG X (.Tuple es k pos) (rdTg X (tTup n ts) tv) := by
  have both : PG X (.Tuple es k pos) (fun v σ H Q => gTup X.K n (rdTgs X ts tv) v σ H Q ∨ gUnl X.K n (rdTgs X ts tv) v σ H Q) :=
    ⟨fun pins s σ H v u Q I r hw => hw.elim (fun q => (pg_tup hc h hn hst).run pins s σ H v u Q I r q) fun q => (pg_unl hc h hn hst).run pins s σ H v u Q I r q⟩
  refine pg_imp both fun v σ H Q ⟨d, ρ, L, μ, h, ρ', h', rel, rv, e, kk⟩ => ?_
  unfold tTup at e
  split at e
  · rename_i ds
    split at e
    · rename_i hl
      obtain ⟨a, vs, rfl, t, q⟩ := rv
      exact .inl ⟨a, vs, rfl, t.sq, by rw [q.length]; exact hl, ds, ρ, L, μ, h, ρ', h', rel, q, e, kk⟩
    · cases e
  · split at e
    · rename_i ds ed
      split at e
      · rename_i hl
        obtain ⟨a, vs, rfl, t, q⟩ := lstD_ok rel.hr rv ed
        exact .inr ⟨a, vs, rfl, t, by rw [q.length]; exact hl, ds, ρ, L, μ, h, ρ', h', rel, q, e, kk⟩
      · cases e
    · cases e
/-- o[i] as a target -/
def tSub (mo mi : M D) : TM := fun d ρ h => match mo ρ h with
  | some (.ok c h1) => (match mi ρ h1 with
    | some (.ok k h2) => (match putD h2 c k d with
      | some h3 => some (ρ, h3)
      | none => none)
    | _ => none)
  | _ => none
theorem g_sub {o i : Expr} {mo mi : M D} {pos : Pos} (hu : X.A.units + 65 < cLine) (ho : PE X o (rd X W mo)) (hi : PE X i (rd X W mi))
    (ha : ∀ v, assign (.Subscript o i pos) X.env v = (do
      let ov ← holding [v] (eval o X.env)
      let iv ← holding [v, ov] (eval i X.env)
      standAt pos
      holding [v, ov, iv] (setItem ov iv v)
      release [v, ov, iv] []) := by intro _; rfl) : PG X (.Subscript o i pos) (rdTg X (tSub mo mi) []) := by
  refine pg_imp (pg_sub ho hi (PSet.or' set_list (set_dct hu)) ha) fun v σ H Q ⟨d, ρ, L, μ, h, ρ', h', rel, rv, e, kk⟩ => ?_
  unfold tSub at e
  split at e
  · rename_i c h1 e1
    refine ⟨ρ, L, μ, h, rel, ?_⟩
    rw [e1]
    intro μ1 H1 g1 r1 x rx
    have rel1 := rel.go g1 r1
    split at e
    · rename_i k h2 e2
      refine ⟨ρ, L, μ1, h1, rel1, ?_⟩
      rw [e2]
      intro μ2 H2 g2 r2 y ry
      split at e
      · rename_i h3 e3
        cases e
        exact put_ok r2 (rx.go r1 g2) ry ((rv.go rel.hr g1).go r1 g2) e3 fun μ3 H3 g3 r3 => kk σ μ3 H3 (g1.trans (g2.trans g3)) ((rel1.go g2 r2).go g3 r3) ⟨rfl, fun _ _ => rfl⟩
      · cases e
    · cases e
  · cases e
def mAsg (t : TM) (m : M D) : MS := mDo m fun d => fun ρ h => match t d ρ h with
  | some (ρ', h') => some (.nx ρ' h')
  | none => none
theorem s_asg {tg e : Expr} {t : TM} {tv : List Nat} {m : M D} {pos : Pos} (he : PE X e (rd X W m)) (hg : PG X tg (rdTg X t tv)) (hs : swapsWithSole [tg] e pos.line X.env = pure false := by rfl) (hw : swappedStores [tg] e X.env = pure none := by rfl)
    (h1 : (assignEach [tg] X.env).map (·.2) = [assign tg X.env] := by rfl) : PS X (.Assign [tg] e pos) (rdS X W (mAsg t m)) := by
  refine ps_imp (ps_asg he hg hs hw h1) fun D σ H q => rdG_imp (rdS_bind q) fun ρ L d h1 μ1 H1 ⟨rel1, q1⟩ x rx => ?_
  split at q1
  · rename_i ρ' h' e1
    exact ⟨d, ρ, L, μ1, h1, ρ', h', rel1, rx, e1, fun σ' μ' H' g r _ => q1 σ' μ' H' g r⟩
  · exact q1.none
end

/-! ### loops -/
def relk (L : List Nat) (h : Hs) : Hs := ⟨h.n, h.t, L⟩
def unlk (L : List Nat) : Option RS → Option RS
  | some (.nx ρ h) => some (.nx ρ (relk L h))
  | some (.bk ρ h) => some (.bk ρ (relk L h))
  | some (.ct ρ h) => some (.ct ρ (relk L h))
  | some (.rt d h) => some (.rt d (relk L h))
  | some (.ex c fs ρ h) => some (.ex c fs ρ (relk L h))
  | none => none
theorem HR.relk {C : Ct} {L L' : List Nat} {μ : Mu} {H : Hp} {h : Hs} (r : HR C L μ H h) : HR C L' μ H (Rh.relk L' h) := ⟨rfl, r.len, r.nd, r.ob⟩
theorem Rel.relk {C : Ct} {L L' : List Nat} {ρ : En} {σ : L2.St} {μ : Mu} {H : Hp} {h : Hs} (r : Rel C L ρ σ μ H h) : Rel C L' ρ σ μ H (Rh.relk L' h) := ⟨r.len, r.val, r.hr.relk⟩
theorem Go.less {l L : List Nat} {μ μ' : Mu} {H H' : Hp} (g : Go (l ++ L) μ H μ' H') : Go L μ H μ' H' := ⟨fun i m => g.lk i (List.mem_append_right _ m), g.keep, g.dom, g.ext, g.new⟩
theorem SatS.unlk {X : Cx} {W : WX} {D0 : Ends} {l L : List Nat} {μ : Mu} {H : Hp} {o : Option RS} (q : SatS X W D0 L μ H (unlk L o)) : SatS X W D0 (l ++ L) μ H o := by
  cases o with
  | none => exact q.none
  | some o =>
    cases o with
    | nx ρ h => exact fun σ' μ' H' g r => q σ' μ' H' g.less r.relk
    | bk ρ h => exact fun σ' μ' H' g r => q σ' μ' H' g.less r.relk
    | ct ρ h => exact fun σ' μ' H' g r => q σ' μ' H' g.less r.relk
    | rt d h => exact fun μ' H' x g r rv => q μ' H' x g.less r.relk rv
    | ex c fs ρ h => exact fun cls d σ' μ' H' g r rx => q cls d σ' μ' H' g.less r.relk rx
def loopF (t : TM) (body : MS) : List D → MS
  | [], ρ, h => some (.nx ρ h)
  | d :: ds, ρ, h => match t d ρ h with
    | none => none
    | some (ρ1, h1) => match body ρ1 h1 with
      | some (.nx ρ2 h2) => loopF t body ds ρ2 h2
      | some (.ct ρ2 h2) => loopF t body ds ρ2 h2
      | some (.bk ρ2 h2) => some (.nx ρ2 h2)
      | o => o
def mFor (mi : M (List D × List Nat)) (t : TM) (body : MS) : MS := mDo mi fun p => fun ρ h => unlk h.lk (loopF t body p.1 ρ (relk (p.2 ++ h.lk) h))
section
variable {X : Cx} {W : WX}
theorem s_for {tg iter : Expr} {body : List Stmt} {mi : M (List D × List Nat)} {t : TM} {mb : MS} {tv : List Nat} {pos : Pos} (hp : PassesOwn (model X.prog X.w) X.A X.env X.xe) (hc : X.calm = true) (hi : PI X tg iter (rdI X W mi)) (hg : PG X tg (rdTg X t tv)) (hb : PSs X body (rdS X W mb))
    (hs : ∀ x, foldedSetIterable iter X.env x = pure x := by intro _; rfl) : PS X (.For tg iter body [] pos) (rdS X W (mFor mi t mb)) := by
  refine ps_imp (ps_for hp hc hi hg hb hs) fun D σ H q => rdG_imp (rdS_bind q) fun ρ L p h1 μ1 H1 ⟨rel1, q1⟩ J cov => ?_
  obtain ⟨ds, lks⟩ := p
  dsimp only at q1 cov
  rw [rel1.hr.lk] at q1
  have q2 := SatS.unlk (l := lks) q1
  have rel2 := rel1.relk (L' := lks ++ L)
  refine ⟨fun i m σ2 H2 => m = ds.length - i ∧ i ≤ ds.length ∧ ∃ μ2 ρ2 h2, Go (lks ++ L) μ1 H1 μ2 H2 ∧ Rel (ctX X) (lks ++ L) ρ2 σ2 μ2 H2 h2 ∧ SatS X W D (lks ++ L) μ2 H2 (loopF t mb (ds.drop i) ρ2 h2), ⟨ds.length, by simp, Nat.zero_le _, μ1, ρ, _, .refl, rel2, q2⟩, ?_⟩
  rintro i m σ2 H2 ⟨rfl, hi, μ2, ρ2, h2, g2, r2, k2⟩
  have st : Still lks μ1 H1 μ2 H2 := ⟨g2.stay rel2.hr, fun n m => g2.lk n (List.mem_append_left _ m)⟩
  by_cases hlt : i < ds.length
  · refine .inr ⟨cov.go i μ2 H2 st hlt, fun σ3 H3 => i + 1 ≤ ds.length ∧ ∃ μ3 ρ3 h3, Go (lks ++ L) μ1 H1 μ3 H3 ∧ Rel (ctX X) (lks ++ L) ρ3 σ3 μ3 H3 h3 ∧ SatS X W D (lks ++ L) μ3 H3 (loopF t mb (ds.drop (i + 1)) ρ3 h3), fun σ3 H3 ⟨q1, q2⟩ => ⟨ds.length - (i + 1), by omega, rfl, q1, q2⟩, fun x H' y => ?_⟩
    have hd : ds[i]? = some ds[i] := List.getElem?_eq_getElem hlt
    obtain ⟨sm, dm, rv⟩ := cov.yld i μ2 H2 x H' _ st y hd
    have g3 : Go (lks ++ L) μ2 H2 μ2 H' := .same r2.hr sm dm
    have r3 := r2.go g3 (r2.hr.same sm)
    rw [List.drop_eq_getElem_cons hlt] at k2
    unfold loopF at k2
    cases e1 : t ds[i] ρ2 h2 with
    | none => rw [e1] at k2; exact k2.none
    | some pp =>
      obtain ⟨ρ3, h3⟩ := pp
      simp only [e1] at k2
      refine ⟨ds[i], ρ2, lks ++ L, μ2, h2, ρ3, h3, r3, rv, e1, fun σ4 μ4 H4 g4 r4 _ => ⟨ρ3, lks ++ L, μ4, h3, r4, ?_⟩⟩
      have g5 := g2.trans (g3.trans g4)
      have k3 := k2.start (g3.trans g4)
      cases e2 : mb ρ3 h3 with
      | none => simp only [e2] at k3; exact k3.none
      | some o =>
        cases o with
        | nx ρ4 h4 =>
          simp only [e2] at k3
          exact fun σ5 μ5 H5 g6 r6 => ⟨hlt, μ5, ρ4, h4, g5.trans g6, r6, k3.start g6⟩
        | ct ρ4 h4 =>
          simp only [e2] at k3
          exact fun σ5 μ5 H5 g6 r6 => ⟨hlt, μ5, ρ4, h4, g5.trans g6, r6, k3.start g6⟩
        | bk ρ4 h4 => simp only [e2] at k3; exact k3
        | rt n h4 => simp only [e2] at k3; exact k3
        | ex c fs ρ4 h4 => simp only [e2] at k3; exact k3
  · have e : i = ds.length := by omega
    subst e
    rw [List.drop_length] at k2
    exact .inl ⟨cov.stop _ μ2 H2 st rfl, k2 σ2 μ2 H2 .refl r2⟩
def loopW (c : M Bool) (body : MS) : Nat → MS
  | 0, _, _ => none
  | n + 1, ρ, h => mDo c (fun k => if k = true then fun ρ1 h1 => (match body ρ1 h1 with
      | some (.nx ρ2 h2) => loopW c body n ρ2 h2
      | some (.ct ρ2 h2) => loopW c body n ρ2 h2
      | some (.bk ρ2 h2) => some (.nx ρ2 h2)
      | o => o) else mNx) ρ h
theorem s_while {c : Expr} {body : List Stmt} {mc : M Bool} {mb : MS} {pos : Pos} (n : Nat) (hp : PassesOwn (model X.prog X.w) X.A X.env X.xe) (hc : PT X c (rdT X W mc)) (hb : PSs X body (rdS X W mb)) : PS X (.While c body [] pos) (rdS X W (loopW mc mb n)) := by
  refine ps_imp (ps_while hp hc hb) fun D σ H ⟨ρ, L, μ, h, rel, q⟩ => ?_
  refine ⟨fun m σ2 H2 => ∃ L2 μ2 ρ2 h2, Rel (ctX X) L2 ρ2 σ2 μ2 H2 h2 ∧ SatS X W D L2 μ2 H2 (loopW mc mb m ρ2 h2), ⟨n, L, μ, ρ, h, rel, q⟩, ?_⟩
  rintro m σ2 H2 ⟨L, μ2, ρ2, h2, rel2, k2⟩
  cases m with
  | zero => exact k2.none
  | succ m =>
    have k2 : rdS X W (mDo mc (fun k => if k = true then fun ρ1 h1 => (match mb ρ1 h1 with
      | some (.nx ρ2 h2) => loopW mc mb m ρ2 h2
      | some (.ct ρ2 h2) => loopW mc mb m ρ2 h2
      | some (.bk ρ2 h2) => some (.nx ρ2 h2)
      | o => o) else mNx)) D σ2 H2 := ⟨ρ2, L, μ2, h2, rel2, k2⟩
    refine rdG_imp (rdS_bind k2) fun ρ3 L3 k h3 μ3 H3 ⟨rel3, k3⟩ => ?_
    cases k with
    | false =>
      rw [if_neg Bool.false_ne_true] at k3 ⊢
      exact k3 σ2 μ3 H3 .refl rel3
    | true =>
      rw [if_pos rfl] at k3 ⊢
      refine ⟨fun σ4 H4 => ∃ L4 μ4 ρ4 h4, Rel (ctX X) L4 ρ4 σ4 μ4 H4 h4 ∧ SatS X W D L4 μ4 H4 (loopW mc mb m ρ4 h4), fun σ4 H4 q => ⟨m, Nat.lt_succ_self _, q⟩, ρ3, L3, μ3, h3, rel3, ?_⟩
      cases e2 : mb ρ3 h3 with
      | none => simp only [e2] at k3; exact k3.none
      | some o =>
        cases o with
        | nx ρ4 h4 => simp only [e2] at k3; exact fun σ5 μ5 H5 g6 r6 => ⟨L3, μ5, ρ4, h4, r6, k3.start g6⟩
        | ct ρ4 h4 => simp only [e2] at k3; exact fun σ5 μ5 H5 g6 r6 => ⟨L3, μ5, ρ4, h4, r6, k3.start g6⟩
        | bk ρ4 h4 => simp only [e2] at k3; exact k3
        | rt n h4 => simp only [e2] at k3; exact k3
        | ex c fs ρ4 h4 => simp only [e2] at k3; exact k3
end
end Rh

set_option Elab.async false
set_option linter.all false
set_option maxRecDepth 100000
set_option maxHeartbeats 2000000
set_option autoImplicit false
namespace Rh
open PySem PySem.Spec PyProof.Rows L2

/-! ### blocks with names of their own -/
def wipeE (ρ : En) : List Nat → En
  | [] => ρ
  | v :: vs => (wipeE ρ vs).set v none
abbrev WF : WX := fun _ _ _ _ => False
section
variable {C : Ct} {L : List Nat} {ρ : En} {σ σ' : L2.St} {μ μ1 μ2 : Mu} {H H1 H2 : Hp} {h h1 h' : Hs}
theorem wipe_get : ∀ {vs : List Nat} {i : Nat}, (wipe σ vs)[i]? = if i ∈ vs then σ[i]?.map (fun _ => none) else σ[i]?
  | [], i => by simp [wipe]
  | v :: vs, i => by
    show ((wipe σ vs).set v none)[i]? = _
    by_cases h : v = i
    · subst h
      rw [if_pos List.mem_cons_self]
      by_cases hl : v < σ.length
      · rw [List.getElem?_set_self (by rw [wipe_length]; exact hl), List.getElem?_eq_getElem hl]
        rfl
      · rw [List.getElem?_eq_none (by rw [List.length_set, wipe_length]; exact Nat.le_of_not_lt hl), List.getElem?_eq_none (Nat.le_of_not_lt hl)]
        rfl
    · rw [List.getElem?_set_ne h, wipe_get]
      by_cases hm : i ∈ vs
      · rw [if_pos hm, if_pos (List.mem_cons_of_mem _ hm)]
      · rw [if_neg hm, if_neg fun q => (List.mem_cons.mp q).elim (fun e => h e.symm) hm]
theorem wipeE_len : ∀ vs : List Nat, (wipeE ρ vs).length = ρ.length
  | [] => rfl
  | v :: vs => by show ((wipeE ρ vs).set v none).length = _; rw [List.length_set, wipeE_len]
theorem wipeE_get : ∀ {vs : List Nat} {i : Nat} {d : D}, (wipeE ρ vs)[i]? = some (some d) → i ∉ vs ∧ ρ[i]? = some (some d)
  | [], i, d, e => ⟨by simp, e⟩
  | v :: vs, i, d, e => by
    have e : ((wipeE ρ vs).set v none)[i]? = some (some d) := e
    by_cases h : v = i
    · subst h
      by_cases hl : v < (wipeE ρ vs).length
      · rw [List.getElem?_set_self hl] at e; cases e
      · rw [List.getElem?_eq_none (by rw [List.length_set]; exact Nat.le_of_not_lt hl)] at e; cases e
    · rw [List.getElem?_set_ne h] at e
      obtain ⟨a, b⟩ := wipeE_get e
      exact ⟨fun q => (List.mem_cons.mp q).elim (fun e => h e.symm) a, b⟩
theorem wipe_eq {vs : List Nat} (q : Bt vs σ σ') : wipe σ' vs = wipe σ vs := by
  apply List.ext_getElem?
  intro i
  rw [wipe_get, wipe_get]
  by_cases hm : i ∈ vs
  · rw [if_pos hm, if_pos hm]
    by_cases hl : i < σ.length
    · rw [List.getElem?_eq_getElem hl, List.getElem?_eq_getElem (by rw [q.1]; exact hl)]; rfl
    · rw [List.getElem?_eq_none (Nat.le_of_not_lt hl), List.getElem?_eq_none (by rw [q.1]; exact Nat.le_of_not_lt hl)]
  · rw [if_neg hm, if_neg hm, q.2 i hm]
theorem wipe_wipe {vs : List Nat} : wipe (wipe σ vs) vs = wipe σ vs := wipe_eq ⟨wipe_length _ _, fun i hi => by rw [wipe_get, if_neg hi]⟩
theorem Rel.wipe {vs : List Nat} (r : Rel C L ρ σ μ H h) : Rel C L (wipeE ρ vs) (wipe σ vs) μ H h := by
  refine ⟨by rw [wipeE_len, wipe_length]; exact r.len, fun i d e => ?_, r.hr⟩
  obtain ⟨hm, e⟩ := wipeE_get e
  obtain ⟨v, e1, rv⟩ := r.val i d e
  exact ⟨v, by rw [wipe_get, if_neg hm]; exact e1, rv⟩
/-- an object that is no box is changed -/
theorem HR.side (r : HR C L μ H h) {a : Addr} {u o : HO} (ha : H a = some u) (na : a ∉ μ) (nt : ∀ xs, u ≠ .tup xs) (nf : ∀ ob v, u ≠ .frz ob v) : HR C L μ (L2.upd H a o) h ∧ Stay μ H μ (L2.upd H a o) := by
  have st : Stay μ H μ (L2.upd H a o) := ⟨fun _ _ e => e, fun b xs e => by rw [upd_ne (fun z => by subst z; rw [ha] at e; cases e; exact nt _ rfl)]; exact e, fun b ob v e => by rw [upd_ne (fun z => by subst z; rw [ha] at e; cases e; exact nf _ _ rfl)]; exact e⟩
  refine ⟨⟨r.lk, r.len, r.nd, fun i b e => ?_⟩, st⟩
  obtain ⟨o', e1, q⟩ := r.ob i b e
  exact ⟨o', e1, q.stay st (upd_ne (fun z => by subst z; exact na (List.mem_of_getElem? e)))⟩
theorem Go.side (g : Go L μ1 H1 μ H) (r : HR C L μ1 H1 h1) {a : Addr} {o : HO} (ha : H1 a = none) : Go L μ1 H1 μ (L2.upd H a o) := by
  refine ⟨fun i m b e => ?_, fun b u e n => ?_, fun b e => ?_, g.ext, g.new⟩
  · obtain ⟨u, q⟩ := r.some_at e
    rw [upd_ne fun z => by subst z; rw [ha] at q; cases q]
    exact g.lk i m b e
  · rw [upd_ne fun z => by subst z; rw [ha] at e; cases e]
    exact g.keep b u e n
  · by_cases z : b = a
    · subst z; exact ha
    · rw [upd_ne z] at e; exact g.dom b e
/-- an object becomes a box -/
theorem HR.adopt (r : HR C L μ H h) {a : Addr} {o : O} (na : a ∉ μ) (q : ObR C (μ ++ [a]) H a o) (e : h.new o = some h') : HR C L (μ ++ [a]) H h' := by
  have st : Stay μ H (μ ++ [a]) H := ⟨fun i b e => by rw [List.getElem?_append_left (List.getElem?_eq_some_iff.mp e).1]; exact e, fun _ _ e => e, fun _ _ _ e => e⟩
  refine ⟨(Hs.new_lk e).trans r.lk, by rw [List.length_append, r.len, Hs.new_n e]; rfl, ?_, fun i b eb => ?_⟩
  · rw [List.nodup_append]
    exact ⟨r.nd, by simp, fun x hx y hy => by rw [List.mem_singleton] at hy; subst hy; exact fun z => na (z ▸ hx)⟩
  · rw [Hs.new_get e]
    by_cases hi : i = h.n
    · subst hi
      rw [if_pos rfl]
      rw [← r.len, List.getElem?_append_right (Nat.le_refl _)] at eb
      simp at eb; subst eb
      exact ⟨o, rfl, q⟩
    · rw [if_neg hi]
      have hl := (List.getElem?_eq_some_iff.mp eb).1
      rw [List.length_append, List.length_singleton, r.len] at hl
      rw [List.getElem?_append_left (by rw [r.len]; omega)] at eb
      obtain ⟨u, e1, q1⟩ := r.ob i b eb
      exact ⟨u, e1, q1.stay st rfl⟩
theorem Go.adopt (g : Go L μ1 H1 μ H) {a : Addr} (ha : H1 a = none) : Go L μ1 H1 (μ ++ [a]) H := by
  refine ⟨g.lk, g.keep, g.dom, ?_, fun b m => ?_⟩
  · obtain ⟨r, e⟩ := g.ext
    exact ⟨r ++ [a], by rw [e, List.append_assoc]⟩
  · rcases List.mem_append.mp m with m | m
    · exact g.new b m
    · rw [List.mem_singleton] at m; subst m; exact .inr ha
theorem Go.not_mem (g : Go L μ1 H1 μ H) (r : HR C L μ1 H1 h1) {a : Addr} (ha : H1 a = none) (nm : a ∉ μ) (g2 : Go L μ H μ2 H2) {u : HO} (hu : H a = some u) : a ∉ μ2 := fun m => by
  rcases g2.new a m with q | q
  · exact nm q
  · rw [hu] at q; cases q
end
/-! ### list comprehensions -/
def turnC (t : TM) (conds : M Bool) (elt : M D) (ρ : En) (d : D) (h : Hs) : Option (Option D × Hs) := match t d ρ h with
  | none => none
  | some (ρ1, h1) => match conds ρ1 h1 with
    | some (.ok false h2) => some (none, h2)
    | some (.ok true h2) => (match elt ρ1 h2 with
      | some (.ok x h3) => some (some x, h3)
      | _ => none)
    | _ => none
def consO {α : Type} (o : Option α) (es : List α) : List α := match o with
  | some x => x :: es
  | none => es
def loopC (t : TM) (conds : M Bool) (elt : M D) (ρ : En) : List D → Hs → Option (List D × Hs)
  | [], h => some ([], h)
  | d :: ds, h => match turnC t conds elt ρ d h with
    | none => none
    | some (o, h1) => match loopC t conds elt ρ ds h1 with
      | none => none
      | some (es, h2) => some (consO o es, h2)
def mLc (mi : M (List D × List Nat)) (t : TM) (conds : M Bool) (elt : M D) (vs : List Nat) : M D := mBind mi fun p => fun ρ h => if p.1.length ≤ 1000000 then (match loopC t conds elt (wipeE ρ vs) p.1 (relk (p.2 ++ h.lk) h) with
  | some (es, h') => (Nv.n (.lst es)).lift (relk h.lk h')
  | none => none) else none
section
variable {X : Cx} {W : WX} {σ : L2.St} {H : Hp} {Q : VK}
theorem Bt.wipe {vs : List Nat} {σ2 : L2.St} (b : Bt vs (L2.wipe σ vs) σ2) : L2.wipe σ2 vs = L2.wipe σ vs := by rw [wipe_eq b, wipe_wipe]
/-- the reading of a list comprehension -/
theorem rd_lc {mi : M (List D × List Nat)} {t : TM} {conds : M Bool} {elt : M D} {vs : List Nat} (q : rd X W (mLc mi t conds elt vs) σ H Q) :
    tLc (rdI X W mi) (rdTg X t vs) (rdT X WF conds) (rd X WF elt) vs σ H Q := by
  refine rdG_imp (rdG_bind q) fun ρ L p h1 μ1 H1 ⟨rel1, q1⟩ J cov l hl => ?_
  obtain ⟨ds, lks⟩ := p
  dsimp only at q1 cov
  split at q1
  rotate_left
  · exact q1.none
  rename_i hlen
  rw [rel1.hr.lk] at q1
  cases eL : loopC t conds elt (wipeE ρ vs) ds (relk (lks ++ L) h1) with
  | none => simp only [eL] at q1; exact q1.none
  | some p =>
    obtain ⟨es, hf⟩ := p
    simp only [eL] at q1
    have rel2 := rel1.relk (L' := lks ++ L)
    refine ⟨fun i m Hc => m = ds.length - i ∧ i ≤ ds.length ∧ ∃ μi hi acc vacc rest, Go (lks ++ L) μ1 H1 μi Hc ∧ HR (ctX X) (lks ++ L) μi Hc hi ∧ Hc l = some (.lst vacc) ∧ l ∉ μi ∧ RepL (ctX X) μi Hc acc vacc ∧ vacc.length ≤ i ∧ loopC t conds elt (wipeE ρ vs) (ds.drop i) hi = some (rest, hf) ∧ acc ++ rest = es,
      ⟨ds.length, by simp, Nat.zero_le _, μ1, relk (lks ++ L) h1, [], [], es, ?_, ?_, upd_same, ?_, rfl, Nat.le_refl _, eL, rfl⟩, ?_⟩
    · obtain ⟨s1, d1⟩ := same_new (o := .lst []) hl
      exact .same rel2.hr s1 d1
    · exact rel2.hr.same (same_new (o := .lst []) hl).1
    · intro m; obtain ⟨u, e, _⟩ := rel2.hr.mut m; rw [hl] at e; cases e
    rintro i m Hc ⟨rfl, hi, μi, hh, acc, vacc, rest, gi, ri, hLc, nl, racc, hva, el, ea⟩
    have st : Still lks μ1 H1 μi Hc := ⟨gi.stay rel2.hr, fun n m => gi.lk n (List.mem_append_left _ m)⟩
    by_cases hlt : i < ds.length
    · refine .inr ⟨cov.go i μi Hc st hlt, fun H' => i + 1 ≤ ds.length ∧ ∃ μi hi acc vacc rest, Go (lks ++ L) μ1 H1 μi H' ∧ HR (ctX X) (lks ++ L) μi H' hi ∧ H' l = some (.lst vacc) ∧ l ∉ μi ∧ RepL (ctX X) μi H' acc vacc ∧ vacc.length ≤ i + 1 ∧ loopC t conds elt (wipeE ρ vs) (ds.drop (i + 1)) hi = some (rest, hf) ∧ acc ++ rest = es,
        fun H' ⟨q1, q2⟩ => ⟨ds.length - (i + 1), by omega, rfl, q1, q2⟩, fun x H' y => ?_⟩
      have hd : ds[i]? = some ds[i] := List.getElem?_eq_getElem hlt
      obtain ⟨sm, dm, rv⟩ := cov.yld i μi Hc x H' _ st y hd
      have g2 : Go (lks ++ L) μi Hc μi H' := .same ri sm dm
      have r2 := ri.same sm
      rw [List.drop_eq_getElem_cons hlt] at el
      unfold loopC at el
      cases et : turnC t conds elt (wipeE ρ vs) ds[i] hh with
      | none => rw [et] at el; cases el
      | some p =>
        obtain ⟨o, hn⟩ := p
        simp only [et] at el
        cases el2 : loopC t conds elt (wipeE ρ vs) (ds.drop (i + 1)) hn with
        | none => simp only [el2] at el; cases el
        | some p =>
          obtain ⟨rest2, hf2⟩ := p
          simp only [el2] at el
          cases el
          unfold turnC at et
          cases e1 : t ds[i] (wipeE ρ vs) hh with
          | none => rw [e1] at et; cases et
          | some p =>
            obtain ⟨ρ2, h2⟩ := p
            simp only [e1] at et
            have relw : Rel (ctX X) (lks ++ L) (wipeE ρ vs) (wipe σ vs) μi H' hh := (rel2.wipe (vs := vs)).go (gi.trans g2) r2
            refine ⟨ds[i], wipeE ρ vs, lks ++ L, μi, hh, ρ2, h2, relw, rv, e1, fun σ2 μ3 H3 g3 rel3 b3 => ⟨b3.wipe, ρ2, lks ++ L, μ3, h2, rel3, ?_⟩⟩
            have g13 := gi.trans (g2.trans g3)
            have hl' : H' l = some (.lst vacc) := sm _ _ hLc
            have hl3 : H3 l = some (.lst vacc) := g3.keep l _ hl' nl
            have nl3 : l ∉ μ3 := (gi.trans g2).not_mem rel2.hr hl nl g3 hl'
            have ra3 : RepL (ctX X) μ3 H3 acc vacc := (racc.go ri g2).go r2 g3
            cases e2 : conds ρ2 h2 with
            | none => simp only [e2] at et; cases et
            | some p =>
              cases p with
              | ex c fs ρ3 => simp only [e2] at et; cases et
              | ok c h3 =>
                intro μ4 H4 g4 r4
                have hl4 : H4 l = some (.lst vacc) := g4.keep l _ hl3 nl3
                have nl4 : l ∉ μ4 := g13.not_mem rel2.hr hl nl3 g4 hl3
                have ra4 := ra3.go rel3.hr g4
                cases c with
                | false =>
                  simp only [e2] at et
                  cases et
                  refine iteF ?_
                  exact ⟨hlt, μ4, _, acc, vacc, rest2, g13.trans g4, r4, hl4, nl4, ra4, by omega, el2, ea⟩
                | true =>
                  refine iteT ?_
                  simp only [e2] at et
                  refine ⟨ρ2, lks ++ L, μ4, h3, rel3.go g4 r4, ?_⟩
                  cases e3 : elt ρ2 h3 with
                  | none => simp only [e3] at et; cases et
                  | some p =>
                    cases p with
                    | ex c fs ρ4 => simp only [e3] at et; cases et
                    | ok xd h4 =>
                      simp only [e3] at et
                      cases et
                      intro μ5 H5 g5 r5 v rv
                      have hl5 : H5 l = some (.lst vacc) := g5.keep l _ hl4 nl4
                      have nl5 : l ∉ μ5 := (g13.trans g4).not_mem rel2.hr hl nl4 g5 hl4
                      have ra5 := ra4.go r4 g5
                      obtain ⟨r6, st6⟩ := r5.side (o := .lst (vacc ++ [v])) hl5 nl5 (fun xs e => nomatch e) (fun ob u e => nomatch e)
                      refine ⟨vacc, hl5, small6' (by omega), hlt, μ5, _, acc ++ [xd], vacc ++ [v], rest2, ((g13.trans g4).trans g5).side rel2.hr hl, r6, upd_same, nl5, (ra5.stay st6).append ⟨v, [], rfl, rv.stay st6, rfl⟩, by rw [List.length_append, List.length_singleton]; omega, el2, ?_⟩
                      rw [List.append_assoc]
                      exact ea
    · have e : i = ds.length := by omega
      subst e
      rw [List.drop_length] at el
      unfold loopC at el
      cases el
      rw [List.append_nil] at ea
      subst ea
      refine .inl ⟨cov.stop _ μi Hc st rfl, ?_⟩
      have ri' := ri.relk (L' := L)
      unfold Nv.lift at q1
      dsimp only at q1
      cases en : (relk L hf).new (.lst acc) with
      | none => simp only [en] at q1; exact q1.none
      | some hz =>
        simp only [en] at q1
        have ra := ri'.adopt nl (o := .lst acc) ⟨vacc, hLc, racc.stay (stay_more fun _ _ e => e)⟩ en
        refine q1 (μi ++ [l]) Hc (gi.less.adopt hl) ra (.ref l) ⟨l, rfl, ?_⟩
        rw [← ri'.len, List.getElem?_append_right (Nat.le_refl _)]
        simp
theorem ts_nil : PTs X [] (rdT X W (mPure true)) := ⟨fun pins s σ H Q I q => by
  obtain ⟨_, _, _, _, _, k⟩ := rdG_pure q
  exact pts_nil.run pins s σ H Q I k⟩
theorem ts_one {c : Expr} {m : M Bool} (h : PT X c (rdT X W m)) : PTs X [c] (rdT X W m) := pts_one h
theorem e_lc {elt tg iter : Expr} {ifs : List Expr} {scope : Scope} {own : List (Str × Nat)} {pos : Pos} {mi : M (List D × List Nat)} {t : TM} {mc : M Bool} {me : M D} {vs : List Nat} (hc : X.calm = true) (hN : X.N.Nodup) (ok : BlkOk X.N X.env.scope scope own) (hvs : own.map (fun x : Str × Nat => x.2) = vs)
    (hi : PI X tg iter (rdI X W mi))
    (hg : ∀ (s : Shared) (H : Hp) (C : Addr) (cl : List (Str × Addr)) (fp : List Addr), PG (X.blk s H scope (compEnvC scope cl C X.env) fp) tg (rdTg (X.blk s H scope (compEnvC scope cl C X.env) fp) t vs))
    (ht : ∀ (s : Shared) (H : Hp) (C : Addr) (cl : List (Str × Addr)) (fp : List Addr), PTs (X.blk s H scope (compEnvC scope cl C X.env) fp) ifs (rdT (X.blk s H scope (compEnvC scope cl C X.env) fp) WF mc))
    (he : ∀ (s : Shared) (H : Hp) (C : Addr) (cl : List (Str × Addr)) (fp : List Addr), PE (X.blk s H scope (compEnvC scope cl C X.env) fp) elt (rd (X.blk s H scope (compEnvC scope cl C X.env) fp) WF me))
    (hs : ∀ x, foldedSetIterable iter X.env x = pure x := by intro _; rfl) :
    PE X (.ListComp elt [⟨tg, iter, ifs, 0⟩] scope pos) (rd X W (mLc mi t mc me vs)) := by
  subst hvs
  exact pe_imp (pe_lc (g := rdTg X t (own.map (fun x : Str × Nat => x.2))) (tt := rdT X WF mc) (te := rd X WF me) hc hN hi ok hg ht he hs) fun σ H Q h => rd_lc h
/-- name = [..] on one line -/
theorem s_setLc {i : Nat} {y : Str} {py : Pos} {elt tg iter : Expr} {ifs : List Expr} {scope : Scope} {own : List (Str × Nat)} {pos spos : Pos} {mi : M (List D × List Nat)} {t : TM} {mc : M Bool} {me : M D} {vs : List Nat} (hc : X.calm = true) (hN : X.N.Nodup) (hy : X.N[i]? = some y) (hyl : X.env.scope.names.lookup y = some .local)
    (hsw : swapsWith (.ListComp elt [⟨tg, iter, ifs, 0⟩] scope pos) (some (.Name y py)) spos.line X.env = pure true) (ok : BlkOk X.N X.env.scope scope own) (hvs : own.map (fun x : Str × Nat => x.2) = vs)
    (hi : PI X tg iter (rdI X W mi))
    (hg : ∀ (s : Shared) (H : Hp) (C : Addr) (cl : List (Str × Addr)) (fp : List Addr), PG (X.blk s H scope (compEnvC scope cl C X.env) fp) tg (rdTg (X.blk s H scope (compEnvC scope cl C X.env) fp) t vs))
    (ht : ∀ (s : Shared) (H : Hp) (C : Addr) (cl : List (Str × Addr)) (fp : List Addr), PTs (X.blk s H scope (compEnvC scope cl C X.env) fp) ifs (rdT (X.blk s H scope (compEnvC scope cl C X.env) fp) WF mc))
    (he : ∀ (s : Shared) (H : Hp) (C : Addr) (cl : List (Str × Addr)) (fp : List Addr), PE (X.blk s H scope (compEnvC scope cl C X.env) fp) elt (rd (X.blk s H scope (compEnvC scope cl C X.env) fp) WF me))
    (hs : ∀ x, foldedSetIterable iter X.env x = pure x := by intro _; rfl) :
    PS X (.Assign [.Name y py] (.ListComp elt [⟨tg, iter, ifs, 0⟩] scope pos) spos) (rdS X W (mSet i (mLc mi t mc me vs))) := by
  subst hvs
  refine ps_imp (ps_setLc (i := i) (g := rdTg X t (own.map (fun x : Str × Nat => x.2))) (tt := rdT X WF mc) (te := rd X WF me) hc hN hy hyl hsw hi ok hg ht he hs) fun D σ H q => ?_
  refine rd_lc ?_
  exact rdG_imp (rdS_bind q) fun ρ L d h1 μ1 H1 ⟨rel1, q1⟩ v rv => q1 _ μ1 H1 .refl (rel1.set rv)
end
end Rh

set_option Elab.async false
set_option linter.all false
set_option maxRecDepth 100000
set_option maxHeartbeats 2000000
set_option autoImplicit false
namespace Rh
open PySem PySem.Spec PyProof.Rows L2
/-! ### dict comprehensions, keys ints or texts that do not come twice -/
def nkOf : Key → NestedKey
  | .inl i => .num i
  | .inr x => .text x
def evOf (kvs : List (Key × V)) : List EV := kvs.map fun p => (nkOf p.1, kV p.1, p.2)
theorem nkOf_inj : ∀ {a b : Key}, nkOf a = nkOf b → a = b
  | .inl i, .inl j, h => by cases h; rfl
  | .inr i, .inr j, h => by cases h; rfl
  | .inl i, .inr j, h => nomatch h
  | .inr i, .inl j, h => nomatch h
theorem nkOf_hash (w : World) : ∀ k : Key, (nkOf k).hash w = keyH w k
  | .inl i => rfl
  | .inr x => rfl
theorem dicO_of {P : Program} {w : World} {H : Hp} {h : Heap} {D : Addr} {kvs : List (Key × V)} (x : ObjOk P w H h D (.dK kvs)) : ∃ ep, ∀ H', ObjOk P w H' h D (DicO w D (ep, evOf kvs)) := by
  obtain ⟨z, hd, vs, rel, o, es, ep, ho, hc, hdt, hk, hp, hn⟩ := x
  have hl : kvs.length = vs.length := Paired.length rel
  refine ⟨ep, fun H' => ⟨⟨hd, by show (evOf kvs).length ≤ sizeLine; unfold evOf; rw [List.length_map]; exact z, o, es, ho, hc, hdt, ?_, ?_⟩, ⟨o, ho⟩, fun h1 h2 ⟨q1, q2, o, ents, ho, r⟩ k => ⟨q1, q2, o, ents, k o ho, r⟩⟩⟩
  · have key : ∀ {kvs : List (Key × V)} {vs : List (Key × Value)} {l : List DictEntry}, KV kvs vs → Pairs (mixKind P w) l vs → (∀ e ∈ l, ∃ k, (mixKind P w).is k e.key = true ∧ e.hash = (mixKind P w).hash k) →
        Paired (fun (e : NestedKey × V × V) (d : DictEntry) => d.hash = e.1.hash w ∧ RelV e.2.1 d.key ∧ RelV e.2.2 d.val) (evOf kvs) l := by
      intro kvs vs l r p hk
      induction p generalizing kvs with
      | nil => cases r; exact .nil
      | @cons e kv es kvs' h1 h2 h3 ih =>
        cases r with
        | @cons a _ as _ ra rr =>
          obtain ⟨k', i1, i2⟩ := hk e (List.mem_cons_self ..)
          have ek : k' = kv.1 := (mixKind P w).inj _ _ _ i1 h1
          subst ek
          refine .cons ⟨?_, ?_, ?_⟩ (ih rr fun e he => hk e (List.mem_cons_of_mem _ he))
          · show e.hash = (nkOf a.1).hash w
            rw [nkOf_hash, ra.1, i2]
            rfl
          · show RelV (kV a.1) e.key
            rw [ra.1]
            exact keyIs_rel h1
          · show RelV a.2 e.val
            rw [h2]
            exact ra.2
    exact key rel hp (fun e he => hk e (by simpa using he))
  · have e1 : (evOf kvs).map (·.1) = (vs.map (·.1)).map nkOf := by
      unfold evOf
      rw [List.map_map, ← KV.keys rel, List.map_map]
      rfl
    show ((evOf kvs).map (·.1)).Nodup
    rw [e1]
    have inj : ∀ l : List Key, l.Nodup → (l.map nkOf).Nodup := fun l => by
      induction l with
      | nil => exact fun _ => .nil
      | cons a l ih =>
        intro n
        rw [List.nodup_cons] at n
        rw [List.map_cons, List.nodup_cons]
        refine ⟨fun hm => n.1 ?_, ih n.2⟩
        obtain ⟨b, hb, e⟩ := List.mem_map.mp hm
        rw [← nkOf_inj e]
        exact hb
    exact inj _ hn
section
variable {X : Cx}
def tDcO (w : World) (wi : TI) (g : TG) (tt : TT) (tk tv : TE) (vs : List Nat) : TE := fun σ H Q => tDc wi g tt tk tv vs σ H fun v H' => ∃ D kvs, v = .ref D ∧ H' D = some (.dK kvs) ∧ ∀ ep, Q (.ref D) (upd H' D (DicO w D (ep, evOf kvs)))
theorem pe_dcO {kx vx tg iter : Expr} {ifs : List Expr} {scope : Scope} {own : List (Str × Nat)} {pos : Pos} {wi : TI} {g : TG} {tt : TT} {tk tv : TE} (hc : X.calm = true) (hN : X.N.Nodup) (hi : PI X tg iter wi) (ok : BlkOk X.N X.env.scope scope own)
    (hg : ∀ (s : Shared) (H : Hp) (C : Addr) (cl : List (Str × Addr)) (fp : List Addr), PG (X.blk s H scope (compEnvC scope cl C X.env) fp) tg g) (ht : ∀ (s : Shared) (H : Hp) (C : Addr) (cl : List (Str × Addr)) (fp : List Addr), PTs (X.blk s H scope (compEnvC scope cl C X.env) fp) ifs tt)
    (hk : ∀ (s : Shared) (H : Hp) (C : Addr) (cl : List (Str × Addr)) (fp : List Addr), PE (X.blk s H scope (compEnvC scope cl C X.env) fp) kx tk)
    (he : ∀ (s : Shared) (H : Hp) (C : Addr) (cl : List (Str × Addr)) (fp : List Addr), PE (X.blk s H scope (compEnvC scope cl C X.env) fp) vx tv) (hs : ∀ x, foldedSetIterable iter X.env x = pure x := by intro _; rfl) :
    PE X (.DictComp kx vx [⟨tg, iter, ifs, 0⟩] scope pos) (tDcO X.w wi g tt tk tv (own.map (fun x : Str × Nat => x.2))) := by
  refine ⟨fun pins s σ H Q I h => ?_⟩
  refine thn ((pe_dc hc hN hi ok hg ht hk he hs).run pins s σ H _ I h) fun u s1 ⟨v, H1, I1, r1, D, kvs, ev, eD, q⟩ => ?_
  subst ev
  obtain ⟨ep, ok⟩ := dicO_of (I1.hok D _ eD)
  obtain ⟨o, ho⟩ := objOk_get (I1.hok D _ eD)
  have I2 := I1.write (t' := s1.toks) (x := D) (e := D) (o := DicO X.w D (ep, evOf kvs)) (by rw [eD]; exact True.intro) (.inl rfl) (fun _ _ _ q => q) ⟨o, ho⟩ (ok _)
  exact ⟨.ref D, _, I2, r1, q ep⟩
end
end Rh

set_option Elab.async false
set_option linter.all false
set_option maxRecDepth 100000
set_option maxHeartbeats 2000000
set_option autoImplicit false
namespace Rh
open PySem PySem.Spec PyProof.Rows L2

/-! ### dict comprehensions, keys ints or texts that come once -/
def kD : Key → D
  | .inl i => .int i
  | .inr x => .str x
def keyOfD : D → Option Key
  | .int i => some (.inl i)
  | .str x => some (.inr x)
  | _ => none
def turnK (t : TM) (conds : M Bool) (mk mv : M D) (ρ : En) (d : D) (h : Hs) : Option (Option (Key × D) × Hs) := match t d ρ h with
  | none => none
  | some (ρ1, h1) => match conds ρ1 h1 with
    | some (.ok false h2) => some (none, h2)
    | some (.ok true h2) => (match mk ρ1 h2 with
      | some (.ok kd h3) => (match keyOfD kd with
        | none => none
        | some k => match mv ρ1 h3 with
          | some (.ok x h4) => some (some (k, x), h4)
          | _ => none)
      | _ => none)
    | _ => none
def loopK (t : TM) (conds : M Bool) (mk mv : M D) (ρ : En) : List D → Hs → Option (List (Key × D) × Hs)
  | [], h => some ([], h)
  | d :: ds, h => match turnK t conds mk mv ρ d h with
    | none => none
    | some (o, h1) => match loopK t conds mk mv ρ ds h1 with
      | none => none
      | some (es, h2) => some (consO o es, h2)
def dctOf (es : List (Key × D)) : O := .dct (es.map fun p => nkOf p.1) (es.map fun p => kD p.1) (es.map fun p => p.2)
def mDc (mi : M (List D × List Nat)) (t : TM) (conds : M Bool) (mk mv : M D) (vs : List Nat) : M D := mBind mi fun p => fun ρ h => if p.1.length ≤ 1000000 then (match loopK t conds mk mv (wipeE ρ vs) p.1 (relk (p.2 ++ h.lk) h) with
  | some (es, h') => if (es.map fun p => p.1).Nodup then (Nv.n (dctOf es)).lift (relk h.lk h') else none
  | none => none) else none
section
variable (C : Ct) (μ : Mu) (H : Hp)
def RepKV : List (Key × D) → List (Key × V) → Prop
  | [], vs => vs = []
  | p :: r, vs => ∃ v t, vs = (p.1, v) :: t ∧ RepV C μ H p.2 v ∧ RepKV r t
end
section
variable {C : Ct} {μ μ' : Mu} {H H' : Hp}
theorem RepKV.stay (s : Stay μ H μ' H') : ∀ {ps : List (Key × D)} {vs : List (Key × V)}, RepKV C μ H ps vs → RepKV C μ' H' ps vs
  | [], _, h => h
  | p :: r, _, ⟨v, t, e, h1, h2⟩ => ⟨v, t, e, h1.stay s, RepKV.stay s h2⟩
theorem RepKV.snoc {k : Key} {d : D} {v : V} (hv : RepV C μ H d v) : ∀ {ps : List (Key × D)} {vs : List (Key × V)}, RepKV C μ H ps vs → RepKV C μ H (ps ++ [(k, d)]) (vs ++ [(k, v)])
  | [], _, h => by rw [show _ = [] from h]; exact ⟨v, [], rfl, hv, rfl⟩
  | p :: r, _, ⟨v', t, e, h1, h2⟩ => ⟨v', t ++ [(k, v)], by rw [e]; rfl, h1, RepKV.snoc hv h2⟩
theorem RepKV.keys : ∀ {ps : List (Key × D)} {vs : List (Key × V)}, RepKV C μ H ps vs → vs.map (·.1) = ps.map (·.1)
  | [], _, h => by rw [show _ = [] from h]; rfl
  | p :: r, _, ⟨v, t, e, h1, h2⟩ => by rw [e, List.map_cons, List.map_cons, RepKV.keys h2]
theorem RepKV.vals : ∀ {ps : List (Key × D)} {vs : List (Key × V)}, RepKV C μ H ps vs → RepL C μ H (ps.map (·.2)) (vs.map (·.2))
  | [], _, h => by rw [show _ = [] from h]; exact rfl
  | p :: r, _, ⟨v, t, e, h1, h2⟩ => by rw [e]; exact ⟨v, _, rfl, h1, RepKV.vals h2⟩
theorem keys_rep : ∀ ks : List Key, RepL C μ H (ks.map kD) (ks.map kV)
  | [] => rfl
  | .inl i :: ks => ⟨.int i, _, rfl, rfl, keys_rep ks⟩
  | .inr x :: ks => ⟨.str x, _, rfl, rfl, keys_rep ks⟩
theorem keysD_kD : ∀ ks : List Key, keysD (ks.map kD) = some (ks.map nkOf)
  | [] => rfl
  | k :: ks => by
    show (match keyD (kD k), keysD (ks.map kD) with
      | some k, some ks => some (k :: ks)
      | _, _ => none) = _
    rw [keysD_kD ks]
    cases k <;> rfl
theorem putK_new {kvs : List (Key × V)} {k : Key} {v : V} (h : k ∉ kvs.map (·.1)) : putK kvs k v = kvs ++ [(k, v)] := by
  unfold putK
  rw [if_neg]
  intro q
  obtain ⟨p, hp, e⟩ := List.any_eq_true.mp q
  exact h (List.mem_map.mpr ⟨p, hp, of_decide_eq_true e⟩)
theorem dctOf_rep {a : Addr} {ep : Nat} {es : List (Key × D)} {vs : List (Key × V)} (r : RepKV C μ H es vs) (e : H a = some (DicO C.w a (ep, evOf vs))) : ObR C μ H a (dctOf es) := by
  have e1 : (es.map fun p => kD p.1) = (es.map (·.1)).map kD := by rw [List.map_map]; rfl
  have e0 : (es.map fun p => nkOf p.1) = (es.map (·.1)).map nkOf := by rw [List.map_map]; rfl
  refine ⟨(ep, evOf vs), e, ?_, ?_, ?_, ?_⟩
  · show (evOf vs).map (·.1) = _
    unfold evOf
    rw [e0, List.map_map, ← r.keys, List.map_map]
    rfl
  · rw [e1, e0]; exact keysD_kD _
  · have e2 : (evOf vs).map (·.2.1) = (vs.map (·.1)).map kV := by unfold evOf; rw [List.map_map, List.map_map]; rfl
    show RepL C μ H (es.map fun p => kD p.1) ((evOf vs).map (·.2.1))
    rw [e1, e2, r.keys]
    exact keys_rep _
  · have e2 : (evOf vs).map (·.2.2) = vs.map (·.2) := by unfold evOf; rw [List.map_map]; rfl
    show RepL C μ H (es.map (·.2)) ((evOf vs).map (·.2.2))
    rw [e2]
    exact r.vals
end
section
variable {X : Cx} {W : WX} {σ : L2.St} {H : Hp} {Q : VK}
/-- the reading of a dict comprehension -/
theorem rd_dc {mi : M (List D × List Nat)} {t : TM} {conds : M Bool} {mk mv : M D} {vs : List Nat} (q : rd X W (mDc mi t conds mk mv vs) σ H Q) :
    tDcO X.w (rdI X W mi) (rdTg X t vs) (rdT X WF conds) (rd X WF mk) (rd X WF mv) vs σ H Q := by
  refine rdG_imp (rdG_bind q) fun ρ L p h1 μ1 H1 ⟨rel1, q1⟩ J cov l hl => ?_
  obtain ⟨ds, lks⟩ := p
  dsimp only at q1 cov
  split at q1
  rotate_left
  · exact q1.none
  rename_i hlen
  rw [rel1.hr.lk] at q1
  cases eL : loopK t conds mk mv (wipeE ρ vs) ds (relk (lks ++ L) h1) with
  | none => simp only [eL] at q1; exact q1.none
  | some p =>
    obtain ⟨es, hf⟩ := p
    simp only [eL] at q1
    split at q1
    rotate_left
    · exact q1.none
    rename_i hnd
    have rel2 := rel1.relk (L' := lks ++ L)
    refine ⟨fun i m Hc => m = ds.length - i ∧ i ≤ ds.length ∧ ∃ μi hi acc vacc rest, Go (lks ++ L) μ1 H1 μi Hc ∧ HR (ctX X) (lks ++ L) μi Hc hi ∧ Hc l = some (.dK vacc) ∧ l ∉ μi ∧ RepKV (ctX X) μi Hc acc vacc ∧ vacc.length ≤ i ∧ loopK t conds mk mv (wipeE ρ vs) (ds.drop i) hi = some (rest, hf) ∧ acc ++ rest = es,
      ⟨ds.length, by simp, Nat.zero_le _, μ1, relk (lks ++ L) h1, [], [], es, ?_, ?_, upd_same, ?_, rfl, Nat.le_refl _, eL, rfl⟩, ?_⟩
    · obtain ⟨s1, d1⟩ := same_new (o := .dK []) hl
      exact .same rel2.hr s1 d1
    · exact rel2.hr.same (same_new (o := .dK []) hl).1
    · intro m; obtain ⟨u, e, _⟩ := rel2.hr.mut m; rw [hl] at e; cases e
    rintro i m Hc ⟨rfl, hi, μi, hh, acc, vacc, rest, gi, ri, hLc, nl, racc, hva, el, ea⟩
    have st : Still lks μ1 H1 μi Hc := ⟨gi.stay rel2.hr, fun n m => gi.lk n (List.mem_append_left _ m)⟩
    by_cases hlt : i < ds.length
    · refine .inr ⟨cov.go i μi Hc st hlt, fun H' => i + 1 ≤ ds.length ∧ ∃ μi hi acc vacc rest, Go (lks ++ L) μ1 H1 μi H' ∧ HR (ctX X) (lks ++ L) μi H' hi ∧ H' l = some (.dK vacc) ∧ l ∉ μi ∧ RepKV (ctX X) μi H' acc vacc ∧ vacc.length ≤ i + 1 ∧ loopK t conds mk mv (wipeE ρ vs) (ds.drop (i + 1)) hi = some (rest, hf) ∧ acc ++ rest = es,
        fun H' ⟨q1, q2⟩ => ⟨ds.length - (i + 1), by omega, rfl, q1, q2⟩, fun x H' y => ?_⟩
      have hd : ds[i]? = some ds[i] := List.getElem?_eq_getElem hlt
      obtain ⟨sm, dm, rv⟩ := cov.yld i μi Hc x H' _ st y hd
      have g2 : Go (lks ++ L) μi Hc μi H' := .same ri sm dm
      have r2 := ri.same sm
      rw [List.drop_eq_getElem_cons hlt] at el
      unfold loopK at el
      cases et : turnK t conds mk mv (wipeE ρ vs) ds[i] hh with
      | none => rw [et] at el; cases el
      | some p =>
        obtain ⟨o, hn⟩ := p
        simp only [et] at el
        cases el2 : loopK t conds mk mv (wipeE ρ vs) (ds.drop (i + 1)) hn with
        | none => simp only [el2] at el; cases el
        | some p =>
          obtain ⟨rest2, hf2⟩ := p
          simp only [el2] at el
          cases el
          unfold turnK at et
          cases e1 : t ds[i] (wipeE ρ vs) hh with
          | none => rw [e1] at et; cases et
          | some p =>
            obtain ⟨ρ2, h2⟩ := p
            simp only [e1] at et
            have relw : Rel (ctX X) (lks ++ L) (wipeE ρ vs) (wipe σ vs) μi H' hh := (rel2.wipe (vs := vs)).go (gi.trans g2) r2
            refine ⟨ds[i], wipeE ρ vs, lks ++ L, μi, hh, ρ2, h2, relw, rv, e1, fun σ2 μ3 H3 g3 rel3 b3 => ⟨b3.wipe, ρ2, lks ++ L, μ3, h2, rel3, ?_⟩⟩
            have g13 := gi.trans (g2.trans g3)
            have hl' : H' l = some (.dK vacc) := sm _ _ hLc
            have hl3 : H3 l = some (.dK vacc) := g3.keep l _ hl' nl
            have nl3 : l ∉ μ3 := (gi.trans g2).not_mem rel2.hr hl nl g3 hl'
            have ra3 : RepKV (ctX X) μ3 H3 acc vacc := racc.stay ((g2.stay ri).trans (g3.stay r2))
            cases e2 : conds ρ2 h2 with
            | none => simp only [e2] at et; cases et
            | some p =>
              cases p with
              | ex c fs ρ3 => simp only [e2] at et; cases et
              | ok c h3 =>
                intro μ4 H4 g4 r4
                have hl4 : H4 l = some (.dK vacc) := g4.keep l _ hl3 nl3
                have nl4 : l ∉ μ4 := g13.not_mem rel2.hr hl nl3 g4 hl3
                have ra4 := ra3.stay (g4.stay rel3.hr)
                cases c with
                | false =>
                  simp only [e2] at et
                  cases et
                  refine iteF ?_
                  exact ⟨hlt, μ4, _, acc, vacc, rest2, g13.trans g4, r4, hl4, nl4, ra4, by omega, el2, ea⟩
                | true =>
                  refine iteT ?_
                  simp only [e2] at et
                  refine ⟨ρ2, lks ++ L, μ4, h3, rel3.go g4 r4, ?_⟩
                  cases e3 : mk ρ2 h3 with
                  | none => simp only [e3] at et; cases et
                  | some p =>
                    cases p with
                    | ex c fs ρ4 => simp only [e3] at et; cases et
                    | ok kd h4 =>
                      simp only [e3] at et
                      intro μ5 H5 g5 r5 yk ryk
                      have hl5 : H5 l = some (.dK vacc) := g5.keep l _ hl4 nl4
                      have nl5 : l ∉ μ5 := (g13.trans g4).not_mem rel2.hr hl nl4 g5 hl4
                      have ra5 := ra4.stay (g5.stay r4)
                      cases e5 : keyOfD kd with
                      | none => simp only [e5] at et; cases et
                      | some k =>
                        simp only [e5] at et
                        have eyk : yk = kV k := by
                          unfold keyOfD at e5
                          split at e5
                          · cases e5; exact ryk
                          · cases e5; exact ryk
                          · cases e5
                        refine ⟨ρ2, lks ++ L, μ5, h4, (rel3.go g4 r4).go g5 r5, ?_⟩
                        cases e6 : mv ρ2 h4 with
                        | none => simp only [e6] at et; cases et
                        | some p =>
                          cases p with
                          | ex c fs ρ5 => simp only [e6] at et; cases et
                          | ok xd h5 =>
                            simp only [e6] at et
                            cases et
                            intro μ6 H6 g6 r6 v rv
                            have hl6 : H6 l = some (.dK vacc) := g6.keep l _ hl5 nl5
                            have nl6 : l ∉ μ6 := ((g13.trans g4).trans g5).not_mem rel2.hr hl nl5 g6 hl5
                            have ra6 := ra5.stay (g6.stay r5)
                            have ekeys : k ∉ vacc.map (·.1) := by
                              rw [racc.keys]
                              have n2 := hnd
                              rw [← ea, List.map_append, List.nodup_append] at n2
                              exact fun hm => n2.2.2 k hm k (by simp [consO]) rfl
                            have ep : putK vacc k v = vacc ++ [(k, v)] := putK_new ekeys
                            obtain ⟨r7, st7⟩ := r6.side (o := .dK (vacc ++ [(k, v)])) hl6 nl6 (fun xs e => nomatch e) (fun ob u e => nomatch e)
                            refine ⟨vacc, k, eyk, hl6, by rw [sizeLine_eq]; omega, hlt, μ6, _, acc ++ [(k, xd)], vacc ++ [(k, v)], rest2, ?_, ?_, ?_, nl6, ?_, by rw [List.length_append, List.length_singleton]; omega, el2, ?_⟩
                            · rw [ep]; exact (((g13.trans g4).trans g5).trans g6).side rel2.hr hl
                            · rw [ep]; exact r7
                            · rw [ep]; exact upd_same
                            · rw [ep]; exact (ra6.stay st7).snoc (rv.stay st7)
                            · rw [List.append_assoc]
                              exact ea
    · have e : i = ds.length := by omega
      subst e
      rw [List.drop_length] at el
      unfold loopK at el
      cases el
      rw [List.append_nil] at ea
      subst ea
      refine .inl ⟨cov.stop _ μi Hc st rfl, l, vacc, rfl, hLc, fun ep => ?_⟩
      have ri' := ri.relk (L' := L)
      unfold Nv.lift at q1
      dsimp only at q1
      cases en : (relk L hf).new (dctOf acc) with
      | none => simp only [en] at q1; exact q1.none
      | some hz =>
        simp only [en] at q1
        obtain ⟨r8, st8⟩ := ri'.side (o := DicO X.w l (ep, evOf vacc)) hLc nl (fun xs e => nomatch e) (fun ob u e => nomatch e)
        have ra := r8.adopt nl (o := dctOf acc) (dctOf_rep ((racc.stay st8).stay (stay_more fun _ _ e => e)) upd_same) en
        refine q1 (μi ++ [l]) _ ((gi.less.side rel1.hr hl).adopt hl) ra (.ref l) ⟨l, rfl, ?_⟩
        rw [← ri'.len, List.getElem?_append_right (Nat.le_refl _)]
        simp
theorem e_dc {kx vx tg iter : Expr} {ifs : List Expr} {scope : Scope} {own : List (Str × Nat)} {pos : Pos} {mi : M (List D × List Nat)} {t : TM} {mc : M Bool} {mk mv : M D} {vs : List Nat} (hc : X.calm = true) (hN : X.N.Nodup) (ok : BlkOk X.N X.env.scope scope own) (hvs : own.map (fun x : Str × Nat => x.2) = vs)
    (hi : PI X tg iter (rdI X W mi))
    (hg : ∀ (s : Shared) (H : Hp) (C : Addr) (cl : List (Str × Addr)) (fp : List Addr), PG (X.blk s H scope (compEnvC scope cl C X.env) fp) tg (rdTg (X.blk s H scope (compEnvC scope cl C X.env) fp) t vs))
    (ht : ∀ (s : Shared) (H : Hp) (C : Addr) (cl : List (Str × Addr)) (fp : List Addr), PTs (X.blk s H scope (compEnvC scope cl C X.env) fp) ifs (rdT (X.blk s H scope (compEnvC scope cl C X.env) fp) WF mc))
    (hk : ∀ (s : Shared) (H : Hp) (C : Addr) (cl : List (Str × Addr)) (fp : List Addr), PE (X.blk s H scope (compEnvC scope cl C X.env) fp) kx (rd (X.blk s H scope (compEnvC scope cl C X.env) fp) WF mk))
    (he : ∀ (s : Shared) (H : Hp) (C : Addr) (cl : List (Str × Addr)) (fp : List Addr), PE (X.blk s H scope (compEnvC scope cl C X.env) fp) vx (rd (X.blk s H scope (compEnvC scope cl C X.env) fp) WF mv))
    (hs : ∀ x, foldedSetIterable iter X.env x = pure x := by intro _; rfl) :
    PE X (.DictComp kx vx [⟨tg, iter, ifs, 0⟩] scope pos) (rd X W (mDc mi t mc mk mv vs)) := by
  subst hvs
  exact pe_imp (pe_dcO (g := rdTg X t (own.map (fun x : Str × Nat => x.2))) (tt := rdT X WF mc) (tk := rd X WF mk) (tv := rd X WF mv) hc hN hi ok hg ht hk he hs) fun σ H Q h => rd_dc h
end
end Rh

set_option Elab.async false
set_option linter.all false
set_option maxRecDepth 100000
set_option maxHeartbeats 2000000
set_option autoImplicit false
namespace Rh
open PySem PySem.Spec PyProof.Rows L2
open PySem.W PySem.Calls PySem.HandSPX
section
open Builtin Builtin.ObjectAttr
variable {prog : Program} {w : World} {A : Around} {R : Result → Shared → Prop} {hp : Heap} {g : Array GenState} {d : Drawn} {t : Nat} {os : OsState}
/-- a new exception's first field -/
theorem first_field {K : Frag} {B : String} {bmB : List Value} {name : Str} {tk : Tok} {v : Value} {x C : Addr} {fv : Array Value} {cd : ClassData}
    (SF : StoreFacts B bmB "object.__setattr__" "object") (X : K.In hp) (hx : hp.get? x = some { cls := .ref C, data := .fields fv }) (hcd : clsIn K C = some cd) (hp' : excOver K C bmB = true) (hh : cd.hasDict = true) (ha : findIn K (.ref C) name = some none)
    (hq : ∀ h' tk' dx, (∀ b o, b ≠ x → hp.get? b = some o → h'.get? b = some o) → hp.objs.size ≤ dx → dx ≠ x → h'.get? x = some { cls := .ref C, dict := some dx, data := .fields fv } →
      h'.Ns1 dx (fun y => if y = name then some v else none) → R (.ok (.ret .none)) ⟨h', g, d, tk', os⟩) :
    codeAny (model prog w) A (.call (.builtin "object.__setattr__") ⟨[.ref x, .str name tk, v], []⟩) R ⟨hp, g, d, t, os⟩ := by
  have I : InstAt hp x { cls := .ref C, data := .fields fv } C none := ⟨hx, rfl, rfl, trivial⟩
  have hxs : x ≠ hp.objs.size := Nat.ne_of_lt (Heap.lt_size hx)
  have hcls : Looks (model prog w) hp (classData C) cd := looks_clsIn X hcd
  have htk : takerIn K C name = some none := by
    unfold takerIn
    rw [ha]
    rfl
  refine osa_openX (r := none) SF X I hp' htk fun b => ?_
  dsimp only
  obtain ⟨nm, bs, mro, ns, qn, hd, sn, sb, ab, col, del⟩ := cd
  dsimp only at hh
  subst hh
  unfold storeInOwnDict ownDictForStores
  repeat (first | with_reducible refine store_in_new ?_ ?_ | with_reducible refine wpAny_loadPart_at hx ?_ | with_reducible refine hcls.at ?_ | wp_step)
  · exact ⟨_, #[], _, (Heap.get?_update_ne _ _ _ _ hxs.symm).trans (Heap.get?_push_at rfl rfl), rfl, fun e he => absurd he (by simp), fun _ => rfl⟩
  · intro h' tk' hn' hs
    have hx₁ : (hp.push { cls := .type "dict", data := .dict #[] }).get? x = some { cls := .ref C, data := .fields fv } := Heap.get?_push_of_some _ hx
    refine hq h' tk' hp.objs.size (fun b o hb ho => ?_) (Nat.le_refl _) hxs.symm ?_ hn'
    · exact (hs.2 b (Nat.ne_of_lt (Heap.lt_size ho))).trans ((Heap.get?_update_ne _ _ _ _ hb).trans (Heap.get?_push_of_some _ ho))
    · exact (hs.2 x hxs).trans (Heap.get?_update_self _ hx₁ rfl)
end
theorem size_one (v : Value) : [v].length ≤ sizeLine := by
  rw [sizeLine_eq]
  exact (by decide : 1 ≤ 16777216)
theorem ld_loc {M : Model} {s : Shared} {name : Str} {scope : Scope} {L a : Addr} {cd : Value} {m : Str → Option Value} {x : Str} {pos : Pos} {v : Value} {Q : Value → Shared → Prop} {A : Around} {E : Value → Shared → Prop} (hn : s.heap.Ns L m) (hv : m x = some v) (h : Q v s)
    (hk : scope.kind = .function := by rfl) (hl : (envOfC name scope L a cd).kindOf x = some .local := by rfl) (hd : (x == ("__debug__" : Str)) = false := by decide) :
    wpAny M A (eval (.Name x pos) (envOfC name scope L a cd)) Q E s := wpAny_Name (wpAny_loadName_local hk hl hn hv h) hd
/-- what stands behind the making of one, its field told -/
structure MadeX (fld : Str) (h h' : Heap) (e C dx : Addr) (v : Value) : Prop where
  keep : ∀ b o, h.get? b = some o → h'.get? b = some o
  new : h.objs.size ≤ e
  obj : ∃ oe vs, h'.get? e = some oe ∧ oe.cls = .ref C ∧ oe.dict = some dx ∧ oe.data = .fields vs ∧ vs[1]? = some .none
  big : h.objs.size ≤ dx
  ne : dx ≠ e
  ns : h'.Ns1 dx (fun y => if y = fld then some v else none)
/-- a class that can be made so: what the call of it gives -/
structure Mkr (P : Program) (w : World) (K : Frag) (C : Addr) (fld : Str) : Prop where
  made : ∀ (A : Around) (R : Result → Shared → Prop) (s : Shared) (v : Value), K.In s.heap → s.heap.NoLimit → A.depth + 1 < recursionLimit →
    (∀ h' tk e d, MadeX fld s.heap h' e C d v → R (.ok (.ret (.ref e))) { s with heap := h', toks := tk }) → codeAny (model P w) A (.call (.ref C) ⟨[v], []⟩) R s

namespace ExPlace
/-! class X(LookupError): def __init__(self, place): self.place = place -/
def iA (p1 p2 : Pos) : Arguments := { posonlyargs := [], args := [{ arg := "self", annotation := none, pos := p1 }, { arg := "place", annotation := none, pos := p2 }], vararg := none, kwonlyargs := [], kw_defaults := [], kwarg := none, defaults := [] }
def iB (q1 q2 q3 q4 : Pos) : List Stmt := [.Assign [.Attribute (.Name "self" q1) "place" q2] (.Name "place" q3) q4]
def iS : Scope := { kind := .function, names := [(PySem.Str.ofString "self", .local), (PySem.Str.ofString "place", .local)], isGenerator := false, isCoroutine := false, more := [] }
abbrev bmB : List Value := [.type "LookupError", .type "Exception", .type "BaseException", .type "object"]
/-- what the written part says of the class at C and of its __init__ at fI -/
structure Txt (K : Frag) (C fI : Addr) (qn : Str) : Prop where
  cls : ∃ nm q N bs sn sub ab col dd k0 k1 k2 k3 k5, K.lookup C = some (excClassObj nm q C N bs bmB true sn sub ab col dd k0 k1 k2 k3 k5 "LookupError.__new__")
  over : excOver K C bmB = true
  sa : findIn K (.ref C) "__setattr__" = some (some (.builtin "object.__setattr__"))
  no : findIn K (.ref C) "place" = some none
  ini : findIn K (.ref C) "__init__" = some (some (.ref fI))
  tI : typeIn K (.ref fI) = some (.type "function")
  fn : ∃ (oc : Value) (od : Option Addr) (doc pm : Value) (an : Option Addr) (cdv ct : Value) (osl : Array (Option Value)) (p1 p2 q1 q2 q3 q4 : Pos),
    K.lookup fI = some ⟨oc, od, .func (fnOf "__init__" qn (iA p1 p2) (iB q1 q2 q3 q4) iS .none .none doc pm an cdv ct), osl⟩ ∧ codeIn K cdv qn = true
structure Behind (h h' : Heap) (x C dx t1 : Addr) (v : Value) : Prop where
  keep : ∀ b o, b ≠ x → h.get? b = some o → h'.get? b = some o
  obj : h'.get? x = some { cls := .ref C, dict := some dx, data := .fields #[.ref t1, .none, .none, .none, .bool false, .none] }
  big : h.objs.size ≤ dx
  ne : dx ≠ x
  ns : h'.Ns1 dx (fun y => if y = "place" then some v else none)
section
variable {prog : Program} {w : World} {A : Around} {R : Result → Shared → Prop} {s : Shared} {K : Frag} {C fI : Addr} {qn : Str}
theorem init_runs (T : Txt K C fI qn) {x t0 : Addr} {v : Value} (X : K.In s.heap) (hlim : s.heap.NoLimit) (hx : s.heap.get? x = some (excO C t0)) (hroom : A.depth < recursionLimit)
    (hq : ∀ h' tk dx, Behind s.heap h' x C dx t0 v → R (.ok (.ret .none)) { s with heap := h', toks := tk }) :
    codeAny (model prog w) A (.call (.ref fI) ⟨[.ref x, v], []⟩) R s := by
  obtain ⟨oc, od, doc, pm, an, cdv, ct, osl, p1, p2, q1, q2, q3, q4, ho, hcd⟩ := T.fn
  obtain ⟨nm, q, N, bs, sn, sub, ab, col, dd, k0, k1, k2, k3, k5, hC⟩ := T.cls
  have hcl : clsIn K C = some { name := nm, bases := bs, mro := .ref C :: bmB, ns := N, qualname := q, hasDict := true, slotNames := sn, subclasses := sub, abstract := ab, collection := col, hasDel := false } := by unfold clsIn; rw [hC] <;> rfl
  refine Att.call_fn (binds := [("self", .ref x), ("place", v)]) X hlim ho hcd hroom (BindsTo.of_eq (by first | rfl | with_unfolding_all rfl)) (by first | rfl | decide | with_unfolding_all rfl) (fun s₁ IC => ?_) rfl rfl rfl
  obtain ⟨h₁, tk₁, rfl⟩ := IC.toInCall.same
  have k : ∀ b o, s.heap.get? b = some o → h₁.get? b = some o := IC.toInCall.keep
  have hn := IC.toInCall.ns
  have X₁ : K.In h₁ := X.keeps k
  have hx₁ := k _ _ hx
  show wpAny _ _ (execs _ _) _ _ _
  refine wpAny_execs_cons (plainObj_wpAny_Assign_Attribute ?_)
  refine ld_loc (v := v) hn (by first | rfl | with_unfolding_all rfl | kernel_rfl) (ld_loc (v := .ref x) hn (by first | rfl | with_unfolding_all rfl | kernel_rfl) ?_)
  refine set_plain X₁ (ox := excO C t0) (od := none) ⟨hx₁, rfl, rfl, trivial⟩ T.sa ?_
  refine first_field F.store_LookupError X₁ hx₁ hcl T.over rfl T.no (fun h₃ tk₃ dx k₃ dn dne hx₃ hn₃ => ?_)
  show wpAny _ _ (execs _ _) _ _ _
  have z : s.heap.objs.size < h₁.objs.size := hn.lt
  exact wpAny_execs_nil (hq h₃ tk₃ dx ⟨fun b o hb e => k₃ b o hb (k b o e), hx₃, Nat.le_of_lt (Nat.lt_of_lt_of_le z dn), dne, hn₃⟩)
theorem mkr (T : Txt K C fI qn) : Mkr prog w K C "place" := by
  refine ⟨fun A R s v X hlim hroom hq => ?_⟩
  obtain ⟨nm, q, N, bs, sn, sub, ab, col, dd, k0, k1, k2, k3, k5, hC⟩ := T.cls
  obtain ⟨hp, g, dr, tk, os⟩ := s
  have k : ∀ b o, hp.get? b = some o → ((hp.push (kdv_tup [v])).push (excO C hp.objs.size)).get? b = some o := fun b o e => Heap.get?_push_of_some _ (Heap.get?_push_of_some _ e)
  have hget : ((hp.push (kdv_tup [v])).push (excO C hp.objs.size)).get? (hp.objs.size + 1) = some (excO C hp.objs.size) := by heap_get
  refine call_own F.excBase_LookupError (fun _ => rfl) (X _ _ hC) (looks_findIn X T.ini) (fun self => bind_fn X self T.tI) (size_one v) ?_
  refine init_runs (s := ⟨(hp.push (kdv_tup [v])).push (excO C hp.objs.size), g, dr, tk, os⟩) T (X.keeps k) (hlim.keeps k) hget ?_ fun h' tk' dx ⟨k', hx, dn, dne, hns⟩ => ?_
  · show A.depth + 1 < recursionLimit
    exact hroom
  · have old : ∀ b o, hp.get? b = some o → h'.get? b = some o := fun b o e => k' b o (Nat.ne_of_lt (Nat.lt_succ_of_lt (Heap.lt_size e))) (k b o e)
    have z : hp.objs.size + 1 + 1 ≤ dx := by
      first
        | (simpa only [Heap.size_push] using dn)
        | exact dn
        | (have q := dn; rw [Heap.size_push, Heap.size_push] at q; exact q)
    exact ⟨rfl, hq h' tk' (hp.objs.size + 1) dx ⟨old, Nat.le_succ _, ⟨_, _, hx, rfl, rfl, rfl, rfl⟩, Nat.le_trans (Nat.le_trans (Nat.le_succ _) (Nat.le_succ _)) z, dne, hns⟩⟩
end
end ExPlace

namespace ExLine
/-! class X(ValueError): def __init__(self, line): self.line = line -/
def iA (p1 p2 : Pos) : Arguments := { posonlyargs := [], args := [{ arg := "self", annotation := none, pos := p1 }, { arg := "line", annotation := none, pos := p2 }], vararg := none, kwonlyargs := [], kw_defaults := [], kwarg := none, defaults := [] }
def iB (q1 q2 q3 q4 : Pos) : List Stmt := [.Assign [.Attribute (.Name "self" q1) "line" q2] (.Name "line" q3) q4]
def iS : Scope := { kind := .function, names := [(PySem.Str.ofString "self", .local), (PySem.Str.ofString "line", .local)], isGenerator := false, isCoroutine := false, more := [] }
abbrev bmB : List Value := [.type "ValueError", .type "Exception", .type "BaseException", .type "object"]
/-- what the written part says of the class at C and of its __init__ at fI -/
structure Txt (K : Frag) (C fI : Addr) (qn : Str) : Prop where
  cls : ∃ nm q N bs sn sub ab col dd k0 k1 k2 k3 k5, K.lookup C = some (excClassObj nm q C N bs bmB true sn sub ab col dd k0 k1 k2 k3 k5 "ValueError.__new__")
  over : excOver K C bmB = true
  sa : findIn K (.ref C) "__setattr__" = some (some (.builtin "object.__setattr__"))
  no : findIn K (.ref C) "line" = some none
  ini : findIn K (.ref C) "__init__" = some (some (.ref fI))
  tI : typeIn K (.ref fI) = some (.type "function")
  fn : ∃ (oc : Value) (od : Option Addr) (doc pm : Value) (an : Option Addr) (cdv ct : Value) (osl : Array (Option Value)) (p1 p2 q1 q2 q3 q4 : Pos),
    K.lookup fI = some ⟨oc, od, .func (fnOf "__init__" qn (iA p1 p2) (iB q1 q2 q3 q4) iS .none .none doc pm an cdv ct), osl⟩ ∧ codeIn K cdv qn = true
structure Behind (h h' : Heap) (x C dx t1 : Addr) (v : Value) : Prop where
  keep : ∀ b o, b ≠ x → h.get? b = some o → h'.get? b = some o
  obj : h'.get? x = some { cls := .ref C, dict := some dx, data := .fields #[.ref t1, .none, .none, .none, .bool false, .none] }
  big : h.objs.size ≤ dx
  ne : dx ≠ x
  ns : h'.Ns1 dx (fun y => if y = "line" then some v else none)
section
variable {prog : Program} {w : World} {A : Around} {R : Result → Shared → Prop} {s : Shared} {K : Frag} {C fI : Addr} {qn : Str}
theorem init_runs (T : Txt K C fI qn) {x t0 : Addr} {v : Value} (X : K.In s.heap) (hlim : s.heap.NoLimit) (hx : s.heap.get? x = some (excO C t0)) (hroom : A.depth < recursionLimit)
    (hq : ∀ h' tk dx, Behind s.heap h' x C dx t0 v → R (.ok (.ret .none)) { s with heap := h', toks := tk }) :
    codeAny (model prog w) A (.call (.ref fI) ⟨[.ref x, v], []⟩) R s := by
  obtain ⟨oc, od, doc, pm, an, cdv, ct, osl, p1, p2, q1, q2, q3, q4, ho, hcd⟩ := T.fn
  obtain ⟨nm, q, N, bs, sn, sub, ab, col, dd, k0, k1, k2, k3, k5, hC⟩ := T.cls
  have hcl : clsIn K C = some { name := nm, bases := bs, mro := .ref C :: bmB, ns := N, qualname := q, hasDict := true, slotNames := sn, subclasses := sub, abstract := ab, collection := col, hasDel := false } := by unfold clsIn; rw [hC] <;> rfl
  refine Att.call_fn (binds := [("self", .ref x), ("line", v)]) X hlim ho hcd hroom (BindsTo.of_eq (by first | rfl | with_unfolding_all rfl)) (by first | rfl | decide | with_unfolding_all rfl) (fun s₁ IC => ?_) rfl rfl rfl
  obtain ⟨h₁, tk₁, rfl⟩ := IC.toInCall.same
  have k : ∀ b o, s.heap.get? b = some o → h₁.get? b = some o := IC.toInCall.keep
  have hn := IC.toInCall.ns
  have X₁ : K.In h₁ := X.keeps k
  have hx₁ := k _ _ hx
  show wpAny _ _ (execs _ _) _ _ _
  refine wpAny_execs_cons (plainObj_wpAny_Assign_Attribute ?_)
  refine ld_loc (v := v) hn (by first | rfl | with_unfolding_all rfl | kernel_rfl) (ld_loc (v := .ref x) hn (by first | rfl | with_unfolding_all rfl | kernel_rfl) ?_)
  refine set_plain X₁ (ox := excO C t0) (od := none) ⟨hx₁, rfl, rfl, trivial⟩ T.sa ?_
  refine first_field F.store_ValueError X₁ hx₁ hcl T.over rfl T.no (fun h₃ tk₃ dx k₃ dn dne hx₃ hn₃ => ?_)
  show wpAny _ _ (execs _ _) _ _ _
  have z : s.heap.objs.size < h₁.objs.size := hn.lt
  exact wpAny_execs_nil (hq h₃ tk₃ dx ⟨fun b o hb e => k₃ b o hb (k b o e), hx₃, Nat.le_of_lt (Nat.lt_of_lt_of_le z dn), dne, hn₃⟩)
theorem mkr (T : Txt K C fI qn) : Mkr prog w K C "line" := by
  refine ⟨fun A R s v X hlim hroom hq => ?_⟩
  obtain ⟨nm, q, N, bs, sn, sub, ab, col, dd, k0, k1, k2, k3, k5, hC⟩ := T.cls
  obtain ⟨hp, g, dr, tk, os⟩ := s
  have k : ∀ b o, hp.get? b = some o → ((hp.push (kdv_tup [v])).push (excO C hp.objs.size)).get? b = some o := fun b o e => Heap.get?_push_of_some _ (Heap.get?_push_of_some _ e)
  have hget : ((hp.push (kdv_tup [v])).push (excO C hp.objs.size)).get? (hp.objs.size + 1) = some (excO C hp.objs.size) := by heap_get
  refine call_own F.excBase_ValueError (fun _ => rfl) (X _ _ hC) (looks_findIn X T.ini) (fun self => bind_fn X self T.tI) (size_one v) ?_
  refine init_runs (s := ⟨(hp.push (kdv_tup [v])).push (excO C hp.objs.size), g, dr, tk, os⟩) T (X.keeps k) (hlim.keeps k) hget ?_ fun h' tk' dx ⟨k', hx, dn, dne, hns⟩ => ?_
  · show A.depth + 1 < recursionLimit
    exact hroom
  · have old : ∀ b o, hp.get? b = some o → h'.get? b = some o := fun b o e => k' b o (Nat.ne_of_lt (Nat.lt_succ_of_lt (Heap.lt_size e))) (k b o e)
    have z : hp.objs.size + 1 + 1 ≤ dx := by
      first
        | (simpa only [Heap.size_push] using dn)
        | exact dn
        | (have q := dn; rw [Heap.size_push, Heap.size_push] at q; exact q)
    exact ⟨rfl, hq h' tk' (hp.objs.size + 1) dx ⟨old, Nat.le_succ _, ⟨_, _, hx, rfl, rfl, rfl, rfl⟩, Nat.le_trans (Nat.le_trans (Nat.le_succ _) (Nat.le_succ _)) z, dne, hns⟩⟩
end
end ExLine
/-! ### made in the hand layer -/
theorem relO_one {fld : Str} {v : V} {v' : Value} (r : RelV v v') (f : Str) : RelO (List.lookup f [(fld, v)]) (if f = fld then some v' else none) := by
  by_cases hw : f = fld
  · subst hw
    rw [if_pos rfl]
    have q : List.lookup f [(f, v)] = some v := by simp [List.lookup]
    rw [q]
    exact r
  · rw [if_neg hw]
    have qw : (f == fld) = false := by simpa using hw
    have q2 : List.lookup f [(fld, v)] = none := by simp [List.lookup, qw]
    rw [q2]
    trivial
section
variable {X : Cx} {C : Addr} {fld : Str}
/-- X(e) -/
def tMk1 (C : Addr) (fld : Str) (ta : TA) : L2.St → Hp → XK → Prop := fun σ H Q => ta σ H fun vs H1 => ∃ v, vs = [v] ∧ ∀ d, H1 d = none → Q (.ref C) (some d) (upd H1 d (.xd [(fld, v)]))
theorem pmk_one {cn : Str} {a : Expr} {ta : TA} {p pos : Pos} {k : Nat} (T : Mkr X.prog X.w X.K C fld) (gC : X.mg cn = some (.ref C)) (kC : keepIn X.K (.ref C) = true) (r : Raises X (.ref C)) (hr : Room k X.A) (ha : PA X [a] ta) (hg : Gl X cn)
    (hdb : (cn == ("__debug__" : Str)) = false := by decide) (he : starEach (a :: []) X.env = (false, eval a X.env) :: starEach [] X.env := by rfl) (hpl : (backTo pos (starEach [] X.env)).any (·.1) = false := by rfl) :
    PMk X (.Call (.Name cn p) [a] [] pos) (tMk1 C fld ta) := by
  intro pins s σ H Q I h
  refine wpAny_Call_Name_kw (ld_glob I hg gC ?_ hdb)
  refine PySem.W.callWith_K (h₀ := X.base) I.ok.mod.kin kC (thn (ha.run pos pins s σ H _ I h) fun us s1 hh => ?_) he hpl
  obtain ⟨vs, H1, I1, r1, v, ev, q1⟩ := hh
  subst ev
  refine ⟨I1.kIn, ?_⟩
  cases r1 with
  | cons rv rn =>
    rename_i v' us'
    cases rn
    show wpAny _ _ (call (.ref C) [v']) _ _ _
    have hlim := I1.nolimit
    obtain ⟨hp, g, dr, tk, os⟩ := s1
    refine wpAny_call (T.made _ _ _ v' I1.kIn hlim (by have := hr.dp; omega) fun h' tk' e d M => ?_)
    show MkP X pins σ Q (.ref e) ⟨h', g, dr, tk', os⟩
    obtain ⟨oe, fv, hoe, hc, hd, hdat, h1⟩ := M.obj
    have hns := M.ns
    obtain ⟨G', g1, g2⟩ := restrict h' fun b => decide (b ≠ e)
    have gk : ∀ b, b ≠ e → G'.get? b = h'.get? b := fun b hb => g1 b (decide_eq_true hb)
    have ge : G'.get? e = none := g2 e (by simp)
    have old : ∀ b o, hp.get? b = some o → G'.get? b = some o := fun b o q => (gk b (Nat.ne_of_lt (Nat.lt_of_lt_of_le (Heap.lt_size q) M.new))).trans (M.keep b o q)
    have ob : ObjOk X.prog X.w (upd H1 d (.xd [(fld, v)])) G' d (.xd [(fld, v)]) :=
      ⟨_, hns.at (fun o q => (gk d M.ne).trans q), fun f => relO_one rv f⟩
    have J : Inv X pins σ (upd H1 d (.xd [(fld, v)])) ⟨G', g, dr, tk', os⟩ := I1.laid (t' := tk') old M.big ob
    refine ⟨e, oe, fv, ⟨G', g, dr, tk', os⟩, _, .ref C, some d, rfl, J, fun b o q => ?_, ge, hoe, ⟨hc, hd⟩, hdat, h1, ?_, rfl, I1.bare, r, q1 d (I1.hok.fresh M.big)⟩
    · by_cases hb : b = e
      · have q' : G'.get? b = some o := q
        rw [hb, ge] at q'; cases q'
      · exact (gk b hb).symm.trans q
    · rw [upd_ne (Ne.symm M.ne)]
      exact I1.hok.fresh M.new
/-- X(), a class without its own __init__ -/
theorem pmk_bare {x : Str} {bmB : List Value} {B newId initId : String} {p pos : Pos} (F : ExcBaseFacts B newId initId bmB) (q : excIn X.K C bmB newId = true) (gC : X.mg x = some (.ref C)) (kC : keepIn X.K (.ref C) = true) (r : Raises X (.ref C)) (hg : Gl X x)
    (hdb : (x == ("__debug__" : Str)) = false := by decide) : PMk X (.Call (.Name x p) [] [] pos) (fun _ H Q => Q (.ref C) none H) := by
  intro pins s σ H Q I h
  refine wpAny_Call_Name_kw (ld_glob I hg gC ?_ hdb)
  refine PySem.W.callWith_K0 I.kIn kC ?_
  show wpAny _ _ (call (.ref C) []) _ _ _
  obtain ⟨bm, N, nm, qn, bs, hdct, sn, sub, ab, col, dd, k0, k1, k2, k3, k5, mN, hC, hN, hni, T⟩ := exc_obj I.kIn q
  refine wpAny_call_exc_subT F T hC hN hni (fun h' e hm => ?_) (by show 0 ≤ sizeLine; exact Nat.zero_le _)
  exact mk_of I hm r h (I.hok.gone hm.new)
end
end Rh

set_option Elab.async false
set_option linter.all false
set_option maxRecDepth 100000
set_option maxHeartbeats 2000000
set_option autoImplicit false
namespace Rh
open PySem PySem.Spec PyProof.Rows L2
/-! ### try: except clauses, with or without a name -/
/-- a clause: the class's value, the name's slot, the suite's reading -/
abbrev Cl := Value × Option Nat × (Addr → Value → Option Addr → TS)
def wOne (K : PySem.W.Frag) (D : Ends) (c : Cl) (rest : WX) : WX := fun cls d σ H => ∃ b, PySem.W.exmOne K cls c.1 = some b ∧
  (b = true → ∀ a, H a = none → match c.2.1 with
    | none => c.2.2 a cls d D σ H
    | some i => c.2.2 a cls d { nx := fun σ' H' => D.nx (σ'.set i none) H', rt := D.rt, bk := fun σ' H' => D.bk (σ'.set i none) H', ct := fun σ' H' => D.ct (σ'.set i none) H' } (σ.set i (some (.ref a))) H) ∧
  (b = false → rest cls d σ H)
def wCl (K : PySem.W.Frag) (Wout : WX) (D : Ends) : List Cl → WX
  | [] => Wout
  | c :: r => wOne K D c (wCl K Wout D r)
inductive ClsOk (X : Cx) : List ExceptHandler → List Cl → Prop
  | nil : ClsOk X [] []
  | bare {x : Str} {c : Value} {ts : Addr → Value → Option Addr → TS} {b₀ : Stmt} {suite : List Stmt} {np pos' : Pos} {hds : List ExceptHandler} {l : List Cl} (hc : Names X x c)
      (hsu : ∀ (a : Addr) (oe : Obj) (cls : Value) (d : Option Addr) (pn : List (Addr × Obj)), Zc cls d oe → (∃ vs, oe.data = .fields vs) → PSs (X.suite a ((a, oe) :: pn)) (b₀ :: suite) (ts a cls d)) (r : ClsOk X hds l) :
      ClsOk X (.ExceptHandler (some (.Name x np)) none (b₀ :: suite) pos' :: hds) ((c, none, ts) :: l)
  | named {x n : Str} {i : Nat} {c : Value} {ts : Addr → Value → Option Addr → TS} {b₀ : Stmt} {suite : List Stmt} {np pos' : Pos} {hds : List ExceptHandler} {l : List Cl} (hc : Names X x c) (hi : X.N[i]? = some n) (hln : X.env.kindOf n = some .local)
      (hsu : ∀ (a : Addr) (oe : Obj) (cls : Value) (d : Option Addr) (pn : List (Addr × Obj)), Zc cls d oe → (∃ vs, oe.data = .fields vs) → PSs (X.suite a ((a, oe) :: pn)) (b₀ :: suite) (ts a cls d)) (r : ClsOk X hds l) :
      ClsOk X (.ExceptHandler (some (.Name x np)) (some n) (b₀ :: suite) pos' :: hds) ((c, some i, ts) :: l)
section
variable {X : Cx} {body : List Stmt} {h₀ : ExceptHandler} {hds : List ExceptHandler} {l : List Cl} {pos : Pos} {tb : WX → TS} {Wout : WX}
theorem ps_tries (hs : X.stack = X.env :: X.outer) (hf : X.env.frame = some X.env.locals) (hN : X.N.Nodup) (tk : Takes X Wout)
    (hb : ∀ (W : WX) (pn : List (Addr × Obj)) (xe : Value → Shared → Prop), Takes (X.tr pn xe) W → PassesOwn (model X.prog X.w) X.A X.env xe → PSs (X.tr pn xe) body (tb W))
    (hh : ClsOk X (h₀ :: hds) l) : PS X (.Try body (h₀ :: hds) [] [] pos) (fun D σ H => tb (wCl X.K Wout D l) D σ H) := by
  refine ⟨fun pins s σ H D I h => ?_⟩
  have ok := I.ok
  have hfr : X.A.frames = some (X.env :: X.outer) := by rw [ok.frames, hs]
  refine wpAny_Try_except ?_
  refine wpAny_mono ((hb (wCl X.K Wout D l) (X.pn ++ pins) (fun e s₁ => wpAny (model X.prog X.w) X.A (noteFrame e X.env) (fun _ s₂ => wpAny (model X.prog X.w) X.A (setFlight e none) (fun _ s₃ =>
    wpAny (model X.prog X.w) X.A (handleBy e X.env (h₀ :: hds)) (SP X pins D) X.xe s₃) X.xe s₂) X.xe s₁) (fun u s' xx => ?_) PassesOwn.looking).run [] s σ H D (I.toTry _) h) (fun f s1 hsp => ?_) (fun e s1 he => he)
  · obtain ⟨a, B, sI, pins', σ', H', cls, d, rfl, J', nb, up, sky, na, os, ag, w⟩ := xx
    have J : Inv X pins σ' H' sI := J'.ofTry ok
    have sky' : Sky B (X.env :: X.outer) a (Zc cls d) X.env.locals s'.heap := by rw [← hs]; exact sky
    show wpAny (model X.prog X.w) X.A (noteFrame (.ref a) X.env) _ _ _
    refine Sky.land Zc.steady hfr hf sky' fun h3 fl3 up3 => ?_
    have J3 : Inv X pins σ' H' { s' with heap := h3 } := J.landed nb fl3.1 (up.trans up3) os ag
    obtain ⟨oe3, vs3, he3, hz3, hd3⟩ := fl3.there
    have notFr : ∀ {h : Heap} {o : Obj} {vs : Array Value}, h.FunFrames B (X.env :: X.outer) → h.get? a = some o → o.data = .fields vs → a ∉ frs (X.env :: X.outer) := fun {h o vs} ff e dd hm => by
      obtain ⟨_, o', e', hnf⟩ := ff.mem hm
      rw [e] at e'; cases e'
      exact hnf _ dd
    have nfr := notFr fl3.2.2.1 he3 hd3
    have nL : a ≠ X.env.locals := fun z => nfr (List.mem_filterMap.mpr ⟨X.env, List.mem_cons_self, by rw [hf, z]⟩)
    have nF : a ∉ X.fs := fun hm => by
      obtain ⟨e, he, q⟩ := List.mem_filterMap.mp hm
      exact nfr (List.mem_filterMap.mpr ⟨e, List.mem_cons_of_mem _ he, q⟩)
    have S3 := J3.suite he3 hd3 na nL nF
    have LT : PySem.W.Looks (model X.prog X.w) h3 (typeOf (.ref a)) cls := fun A Q E s k q => wpAny_typeOf_ref (k _ _ he3) (by rw [hz3.1]; exact q)
    have test : ∀ {x : Str} {np : Pos} {c : Value} {Q : Value → Shared → Prop} {E : Value → Shared → Prop}, Names X x c → Q c { s' with heap := h3 } → wpAny (model X.prog X.w) (X.A.mark (some (.ref a))) (eval (.Name x np) X.env) Q E { s' with heap := h3 } := fun {x np c Q E} hc q => by
      obtain ⟨hg, hdbg, hm | ⟨hm, hv, hnn⟩⟩ := hc
      · exact ld_glob (X := X.suite a ((a, oe3) :: (X.pn ++ pins))) S3 hg hm q hdbg
      · exact ld_blt (X := X.suite a ((a, oe3) :: (X.pn ++ pins))) S3 hg hm hv q hnn hdbg
    have go : ∀ {hds' : List ExceptHandler} {l' : List Cl}, ClsOk X hds' l' → wCl X.K Wout D l' cls d σ' H' →
        wpAny (model X.prog X.w) X.A (handleBy (.ref a) X.env hds') (SP X pins D) X.xe { s' with heap := h3 } := by
      intro hds' l' hk
      induction hk with
      | nil =>
        intro w
        refine wpAny_handleBy_nil ?_
        obtain ⟨k1, k2, k3, oe, vs, T, oT, ts', he, hz, hd, h1, hr⟩ := id fl3
        unfold PySem.passOn
        refine wpAny_bind (wpAny_field he hd h1 ?_)
        rw [if_neg (show ¬ ((Value.ref T == Value.none) = true) from by simp)]
        have fin : wpAny (model X.prog X.w) X.A (setFlight (.ref a) X.env.frame) (fun _ s4 => wpAny (model X.prog X.w) X.A (throw (.ref a) : Sem Flow) (SP X pins D) X.xe s4) X.xe { s' with heap := h3 } := by
          rw [hf]
          refine HandSPX.setFlight_upZ fl3 fun h4 hh4 up4 => wpAny_throw (tk _ _ ?_)
          exact ⟨a, B, sI, pins, σ', H', cls, d, rfl, J, nb, (up.trans up3).trans up4, .inr (.inr (by rw [hs]; exact hh4)), na, os, ag, w⟩
        first
          | exact wpAny_bind (wpAny_pure (wpAny_bind fin))
          | exact wpAny_bind fin
      | @bare x c ts b₀ suite np pos' hds2 l2 hc hsu r ih =>
        intro w
        obtain ⟨b, hb1, hyes, hno⟩ := w
        refine wpAny_handleBy_cons (codeAny_handlers_test ?_) (by intro q; cases q)
        have LM := PySem.W.exm_one (M := model X.prog X.w) (J3.kIn) LT hb1
        refine test hc (LM.here ?_)
        cases b with
        | true =>
          refine codeAny_handlers_suite ?_
          refine HandSPX.lands_againZ fl3 fun h4 fl4 up4 => ?_
          have J4 : Inv X pins σ' H' { s' with heap := h4 } := J.landed nb fl4.1 ((up.trans up3).trans up4) os ag
          obtain ⟨oe4, vs4, he4, hz4, hd4⟩ := fl4.there
          have S4 := J4.suite he4 hd4 na nL nF
          refine wpAny_mono ((hsu a oe4 cls d (X.pn ++ pins) hz4 ⟨_, hd4⟩).run [] _ _ H' _ S4 (hyes rfl a na)) (fun f s6 hsp => ?_) (fun _ _ z => False.elim z)
          cases f with
          | next =>
            obtain ⟨σ6, H6, S6, q6⟩ := hsp
            exact ⟨_, _, S6.unsuite ok, q6⟩
          | brk =>
            obtain ⟨σ6, H6, S6, q6⟩ := hsp
            exact ⟨_, _, S6.unsuite ok, q6⟩
          | cont =>
            obtain ⟨σ6, H6, S6, q6⟩ := hsp
            exact ⟨_, _, S6.unsuite ok, q6⟩
          | ret u =>
            obtain ⟨v6, σ6, H6, S6, r6, q6⟩ := hsp
            exact ⟨_, _, _, S6.unsuite ok, r6, q6⟩
        | false =>
          show wpAny _ X.A (handleBy (.ref a) X.env hds2) _ _ _
          exact ih (hno rfl)
      | @named x n i c ts b₀ suite np pos' hds2 l2 hc hi hln hsu r ih =>
        intro w
        obtain ⟨b, hb1, hyes, hno⟩ := w
        refine wpAny_handleBy_cons (codeAny_handlers_test ?_) (by intro q; cases q)
        have LM := PySem.W.exm_one (M := model X.prog X.w) (J3.kIn) LT hb1
        refine test hc (LM.here ?_)
        cases b with
        | true =>
          have hloc : Loc X.env.scope n := .inl hln
          refine codeAny_handlers_suite_as ?_
          refine HandSPX.lands_againZ fl3 fun h4 fl4 up4 => ?_
          have J4 : Inv X pins σ' H' { s' with heap := h4 } := J.landed nb fl4.1 ((up.trans up3).trans up4) os ag
          obtain ⟨oe4, vs4, he4, hz4, hd4⟩ := fl4.there
          have S4 := J4.suite he4 hd4 na nL nF
          refine store_ok (X := X.suite a ((a, oe4) :: (X.pn ++ pins))) (v := .ref a) S4 hN hi hloc rfl (fun s5 S5 => ?_) (.inr hln)
          refine wpAny_mono ((hsu a oe4 cls d (X.pn ++ pins) hz4 ⟨_, hd4⟩).run [] s5 _ H' _ S5 (hyes rfl a na)) (fun f s6 hsp => ?_) (fun _ _ z => False.elim z)
          have end_ : ∀ {σ6 : L2.St} {H6 : Hp} {Q : Shared → Prop}, Inv (X.suite a ((a, oe4) :: (X.pn ++ pins))) [] σ6 H6 s6 → (∀ s7, Inv X pins (σ6.set i none) H6 s7 → Q s7) →
              wpAny (model X.prog X.w) X.A (do bindName X.env n .none; unbindBehindTheSuite X.env n pos') (fun _ s7 => Q s7) X.xe s6 := fun {σ6 H6 Q} S6 hq => gone_ok (S6.unsuite ok) hN hi hln hq
          cases f with
          | next =>
            obtain ⟨σ6, H6, S6, q6⟩ := hsp
            exact end_ S6 fun s7 J7 => ⟨_, _, J7, q6⟩
          | brk =>
            obtain ⟨σ6, H6, S6, q6⟩ := hsp
            exact end_ S6 fun s7 J7 => ⟨_, _, J7, q6⟩
          | cont =>
            obtain ⟨σ6, H6, S6, q6⟩ := hsp
            exact end_ S6 fun s7 J7 => ⟨_, _, J7, q6⟩
          | ret u =>
            obtain ⟨v6, σ6, H6, S6, r6, q6⟩ := hsp
            exact end_ S6 fun s7 J7 => ⟨_, _, _, J7, r6, q6⟩
        | false =>
          show wpAny _ X.A (handleBy (.ref a) X.env hds2) _ _ _
          exact ih (hno rfl)
    exact go hh w
  · cases f with
    | next =>
      obtain ⟨σ', H', J', q⟩ := hsp
      exact wpAny_execs_nil ⟨σ', H', J'.ofTry ok, q⟩
    | brk =>
      obtain ⟨σ', H', J', q⟩ := hsp
      exact ⟨σ', H', J'.ofTry ok, q⟩
    | cont =>
      obtain ⟨σ', H', J', q⟩ := hsp
      exact ⟨σ', H', J'.ofTry ok, q⟩
    | ret u =>
      obtain ⟨v, σ', H', J', r, q⟩ := hsp
      exact ⟨v, σ', H', J'.ofTry ok, r, q⟩
end
end Rh

set_option Elab.async false
set_option linter.all false
set_option maxRecDepth 100000
set_option maxHeartbeats 2000000
set_option autoImplicit false
namespace Rh
open PySem PySem.Spec PyProof.Rows L2
open PySem.W PySem.Calls PySem.HandSPX
section
variable {X : Cx} {W : WX} {C : Addr} {fld : Str}
def mRaise0 (c : Str) : MS := fun ρ h => some (.ex c [] ρ h)
theorem s_raise0 {x : Str} {bmB : List Value} {B newId initId : String} {p pos pos2 : Pos} (hc : X.calm = true) (tk : Takes X W) (F : ExcBaseFacts B newId initId bmB) (q : excIn X.K C bmB newId = true) (gC : X.mg x = some (.ref C)) (kC : keepIn X.K (.ref C) = true) (r : Raises X (.ref C)) (hg : Gl X x)
    (hdb : (x == ("__debug__" : Str)) = false := by decide) : PS X (.Raise (some (.Call (.Name x p) [] [] pos)) none pos2) (rdS X W (mRaise0 x)) :=
  ps_imp (ps_raise hc tk (pmk_bare F q gC kC r hg hdb)) fun D σ H ⟨ρ, L, μ, h, rel, k⟩ => k (.ref C) none σ μ H .refl rel ⟨⟨C, gC, rfl⟩, rfl⟩
def mRaise1 (c fld : Str) (m : M D) : MS := mDo m fun d => fun ρ h => some (.ex c [(fld, d)] ρ h)
theorem s_raise1 {cn : Str} {a : Expr} {m : M D} {p pos pos2 : Pos} {k : Nat} (hc : X.calm = true) (tk : Takes X W) (T : Mkr X.prog X.w X.K C fld) (gC : X.mg cn = some (.ref C)) (kC : keepIn X.K (.ref C) = true) (r : Raises X (.ref C)) (hr : Room k X.A) (ha : PE X a (rd X W m)) (hg : Gl X cn)
    (hdb : (cn == ("__debug__" : Str)) = false := by decide) (he : starEach (a :: []) X.env = (false, eval a X.env) :: starEach [] X.env := by rfl) (hpl : (backTo pos (starEach [] X.env)).any (·.1) = false := by rfl) :
    PS X (.Raise (some (.Call (.Name cn p) [a] [] pos)) none pos2) (rdS X W (mRaise1 cn fld m)) := by
  refine ps_imp (ps_raise hc tk (pmk_one T gC kC r hr (pa_cons ha pa_nil he) hg hdb he hpl)) fun D σ H q => rdG_imp (rdS_bind q) fun ρ L d h1 μ1 H1 ⟨rel1, q1⟩ x rx => ?_
  show ∃ v, [x] = [v] ∧ ∀ d, H1 d = none → W (.ref C) (some d) σ (upd H1 d (.xd [(fld, v)]))
  refine ⟨x, rfl, fun dx hdx => ?_⟩
  obtain ⟨s1, s2⟩ := same_new (o := HO.xd [(fld, x)]) hdx
  exact q1 (.ref C) (some dx) σ μ1 _ (.same rel1.hr s1 s2) (rel1.go (.same rel1.hr s1 s2) (rel1.hr.same s1)) ⟨⟨C, gC, rfl⟩, dx, [(fld, x)], rfl, upd_same, rfl, x, [], rfl, rx.stay (Same.stay s1), rfl⟩
end
/-- a clause by mirror: the class's name, the slot of the error's name, the suite by what the error holds -/
structure MC where
  c : Str
  i : Option Nat
  su : Str → List (Str × D) → MS
def noEx : Option RS → Option RS
  | some (.ex _ _ _ _) => none
  | o => o
def clrS (i : Nat) : Option RS → Option RS
  | some (.nx ρ h) => some (.nx (ρ.set i none) h)
  | some (.bk ρ h) => some (.bk (ρ.set i none) h)
  | some (.ct ρ h) => some (.ct (ρ.set i none) h)
  | some (.rt d h) => some (.rt d h)
  | _ => none
def runCl (k : MC) (c : Str) (fs : List (Str × D)) (ρ : En) (h : Hs) : Option RS := match k.i with
  | none => noEx (k.su c fs ρ h)
  | some i => if i < ρ.length then clrS i (k.su c fs (ρ.set i none) h) else none
def pick (cs : List Str) : List MC → Str → List (Str × D) → En → Hs → Option RS
  | [], c, fs, ρ, h => some (.ex c fs ρ h)
  | k :: r, c, fs, ρ, h => if cs.contains c = true ∧ cs.contains k.c = true then (if (c == k.c) = true then runCl k c fs ρ h else pick cs r c fs ρ h) else none
def mTry (cs : List Str) (body : MS) (l : List MC) : MS := fun ρ h => match body ρ h with
  | some (.ex c fs ρ1 h1) => pick cs l c fs ρ1 h1
  | o => o
/-- the classes of the text: which is caught by which -/
def ExK (K : PySem.W.Frag) (mg : Str → Option Value) (cs : List Str) : Prop := ∀ c ∈ cs, ∀ k ∈ cs, ∀ C, mg c = some (.ref C) → PySem.W.exmOne K (.ref C) ((mg k).getD .none) = some (c == k)
abbrev WN : WX := fun _ _ _ _ => False
def tsX (X : Cx) (i : Option Nat) (su : Str → List (Str × D) → MS) : Addr → Value → Option Addr → TS := fun a cls d D σ H =>
  (∀ j, i = some j → σ[j]? = some (some (.ref a))) ∧ ∃ ρ L μ h c fs, Rel (ctX X) L ρ σ μ H h ∧ RepX (ctX X) μ H c fs cls d ∧ SatS X WN D L μ H (su c fs ρ h)
def clOf (X : Cx) (k : MC) : Cl := ((X.mg k.c).getD .none, k.i, tsX X k.i k.su)
section
variable {X : Cx} {W : WX} {L : List Nat} {ρ ρ' : En} {σ σ' σ1 : L2.St} {H H' H1 : Hp} {μ μ1 : Mu} {h h1 : Hs} {D0 : Ends}
theorem SatS.noEx {o : Option RS} {W' : WX} (q : SatS X W D0 L μ H (noEx o)) : SatS X W' D0 L μ H o := by
  cases o with
  | none => exact q.none
  | some o =>
    cases o with
    | ex c fs ρ1 => exact q.none
    | _ => exact q
/-- a slot is no longer looked at -/
theorem Rel.clear {C : Ct} (r : Rel C L ρ σ μ H h) (i : Nat) (x : Option V) : Rel C L (ρ.set i none) (σ.set i x) μ H h := by
  refine ⟨by rw [List.length_set, List.length_set]; exact r.len, fun j d e => ?_, r.hr⟩
  by_cases hj : i = j
  · subst hj
    by_cases hl : i < ρ.length
    · rw [List.getElem?_set_self hl] at e; cases e
    · rw [List.getElem?_eq_none (by rw [List.length_set]; exact Nat.le_of_not_lt hl)] at e; cases e
  · rw [List.getElem?_set_ne hj] at e ⊢
    exact r.val j d e
theorem pick_ok {cs : List Str} (hk : ExK X.K X.mg cs) : ∀ (l : List MC) {c : Str} {fs : List (Str × D)} {ρ1 : En} {h1 : Hs}, SatS X W D0 L μ H (pick cs l c fs ρ1 h1) →
    ∀ cls d σ1 μ1 H1, Go L μ H μ1 H1 → Rel (ctX X) L ρ1 σ1 μ1 H1 h1 → RepX (ctX X) μ1 H1 c fs cls d → wCl X.K W D0 (l.map (clOf X)) cls d σ1 H1
  | [], c, fs, ρ1, h1, q => fun cls d σ1 μ1 H1 g r rx => q cls d σ1 μ1 H1 g r rx
  | k :: ks, c, fs, ρ1, h1, q => fun cls d σ1 μ1 H1 g r rx => by
    unfold pick at q
    split at q
    · rename_i hcs
      obtain ⟨⟨C, gC, rfl⟩, rx2⟩ := id rx
      have hb := hk c (List.elem_iff.mp hcs.1) k.c (List.elem_iff.mp hcs.2) C gC
      refine ⟨(c == k.c), hb, fun e a na => ?_, fun e => ?_⟩
      · rw [e] at q
        rw [if_pos rfl] at q
        show (match k.i with
          | none => tsX X k.i k.su a (.ref C) d D0 σ1 H1
          | some i => tsX X k.i k.su a (.ref C) d { nx := fun σ' H' => D0.nx (σ'.set i none) H', rt := D0.rt, bk := fun σ' H' => D0.bk (σ'.set i none) H', ct := fun σ' H' => D0.ct (σ'.set i none) H' } (σ1.set i (some (.ref a))) H1)
        unfold runCl at q
        cases hi : k.i with
        | none =>
          rw [hi] at q
          dsimp only at q ⊢
          exact ⟨(fun j e => nomatch e), ρ1, L, μ1, h1, c, fs, r, rx, (q.start g).noEx⟩
        | some i =>
          rw [hi] at q
          dsimp only at q ⊢
          split at q
          · rename_i hl
            have hlen : i < σ1.length := by rw [← r.len]; exact hl
            refine ⟨fun j e => by cases e; exact List.getElem?_set_self hlen, ρ1.set i none, L, μ1, h1, c, fs, r.clear i _, rx, ?_⟩
            cases eo : k.su c fs (ρ1.set i none) h1 with
            | none => rw [eo] at q; exact q.none
            | some o =>
              rw [eo] at q
              cases o with
              | nx ρ2 h2 => exact fun σ2 μ2 H2 g2 r2 => q _ μ2 H2 (g.trans g2) (r2.clear i none)
              | bk ρ2 h2 => exact fun σ2 μ2 H2 g2 r2 => q _ μ2 H2 (g.trans g2) (r2.clear i none)
              | ct ρ2 h2 => exact fun σ2 μ2 H2 g2 r2 => q _ μ2 H2 (g.trans g2) (r2.clear i none)
              | rt n h2 => exact fun μ2 H2 x g2 r2 rr => q μ2 H2 x (g.trans g2) r2 rr
              | ex c' fs' ρ2 h2 => exact q.none
          · exact q.none
      · rw [e, if_neg Bool.false_ne_true] at q
        exact pick_ok hk ks q _ _ _ _ _ g r rx
    · exact q.none
/-- try .. except .. by mirror -/
theorem s_try {cs : List Str} {body : List Stmt} {h₀ : ExceptHandler} {hds : List ExceptHandler} {l : List MC} {mb : MS} {pos : Pos} (hk : ExK X.K X.mg cs) (hs : X.stack = X.env :: X.outer) (hf : X.env.frame = some X.env.locals) (hN : X.N.Nodup) (tk : Takes X W)
    (hb : ∀ (W : WX) (pn : List (Addr × Obj)) (xe : Value → Shared → Prop), Takes (X.tr pn xe) W → PassesOwn (model X.prog X.w) X.A X.env xe → PSs (X.tr pn xe) body (rdS (X.tr pn xe) W mb))
    (hh : ClsOk X (h₀ :: hds) (l.map (clOf X))) : PS X (.Try body (h₀ :: hds) [] [] pos) (rdS X W (mTry cs mb l)) := by
  refine ps_imp (ps_tries (tb := fun W => rdS X W mb) hs hf hN tk hb hh) fun D σ H ⟨ρ, L, μ, h, rel, q⟩ => ⟨ρ, L, μ, h, rel, ?_⟩
  unfold mTry at q
  cases eo : mb ρ h with
  | none => rw [eo] at q; exact q.none
  | some o =>
    rw [eo] at q
    cases o with
    | ex c fs ρ1 h1 => exact fun cls d σ1 μ1 H1 g r rx => pick_ok hk l q cls d σ1 μ1 H1 g r rx
    | _ => exact q
end
end Rh

set_option Elab.async false
set_option linter.all false
set_option maxRecDepth 100000
set_option maxHeartbeats 2000000
set_option autoImplicit false
namespace Rh
open PySem PySem.Spec PyProof.Rows L2

/-! ### the suite's words: by what the error holds -/
abbrev XF (α : Type) := Str → List (Str × D) → Option α
def rdX (X : Cx) (i : Option Nat) (a : Addr) (cls : Value) (d : Option Addr) (f : XF D) : TE := fun σ H Q =>
  (∀ j, i = some j → σ[j]? = some (some (.ref a))) ∧ ∃ μ c fs dv, RepX (ctX X) μ H c fs cls d ∧ f c fs = some dv ∧ ∀ v, RepV (ctX X) μ H dv v → Q v H
def rdXA (X : Cx) (i : Option Nat) (a : Addr) (cls : Value) (d : Option Addr) (f : XF (List D)) : TA := fun σ H Q =>
  (∀ j, i = some j → σ[j]? = some (some (.ref a))) ∧ ∃ μ c fs dv, RepX (ctX X) μ H c fs cls d ∧ f c fs = some dv ∧ ∀ v, RepL (ctX X) μ H dv v → Q v H
def xC (d : D) : XF D := fun _ _ => some d
def xNil : XF (List D) := fun _ _ => some []
def xCons (f : XF D) (g : XF (List D)) : XF (List D) := fun c fs => match f c fs, g c fs with
  | some d, some ds => some (d :: ds)
  | _, _ => none
/-- error.fld, of the class cn -/
def xAt (cn fld : Str) : XF D := fun c fs => match fs with
  | [(g, d)] => if c = cn ∧ g = fld then some d else none
  | _ => none
structure AttrX (K : PySem.W.Frag) (C : Addr) (fld : Str) : Prop where
  ga : PySem.W.findIn K (.ref C) "__getattribute__" = some (some (.builtin "BaseException.__getattribute__"))
  gg : PySem.W.findIn K (.ref C) "__getattr__" = some none
  ex : PySem.W.subIn K (.ref C) (.type "BaseException") = some true
  hd : PySem.W.hasDictIn K C = true
  no : PySem.W.findIn K (.ref C) fld = some none
/-- isinstance(error, T), of the class cn -/
def xIsi (cn : Str) (b : Bool) : XF D := fun c _ => if c = cn then some (.bl b) else none
section
variable {X : Cx} {Y : Cx} {a : Addr} {cls : Value} {d : Option Addr} {i : Option Nat}
theorem x_str {x : Str} {j : Nat} {pos : Pos} : PE Y (.Constant (.str x) j pos) (rdX X i a cls d (xC (.str x))) := pe_imp pe_str fun σ H Q ⟨_, μ, c, fs, dv, _, e, k⟩ => k (.str x) (by cases e; rfl)
theorem x_int {x : Int} {j : Nat} {pos : Pos} : PE Y (.Constant (.int x) j pos) (rdX X i a cls d (xC (.int x))) := pe_imp pe_int fun σ H Q ⟨_, μ, c, fs, dv, _, e, k⟩ => k (.int x) (by cases e; rfl)
theorem x_bl {x : Bool} {j : Nat} {pos : Pos} : PE Y (.Constant (.bool x) j pos) (rdX X i a cls d (xC (.bl x))) := pe_imp pe_bl fun σ H Q ⟨_, μ, c, fs, dv, _, e, k⟩ => k (.bl x) (by cases e; rfl)
theorem x_non {j : Nat} {pos : Pos} : PE Y (.Constant .none j pos) (rdX X i a cls d (xC .non)) := pe_imp pe_non fun σ H Q ⟨_, μ, c, fs, dv, _, e, k⟩ => k .non (by cases e; rfl)
theorem xa_nil : PA Y [] (rdXA X i a cls d xNil) := pa_imp pa_nil fun σ H Q ⟨_, μ, c, fs, dv, _, e, k⟩ => k [] (by cases e; rfl)
theorem xa_cons {e : Expr} {es : List Expr} {f : XF D} {g : XF (List D)} (he : PE Y e (rdX X i a cls d f)) (hr : PA Y es (rdXA X i a cls d g)) (hs : starEach (e :: es) Y.env = (false, eval e Y.env) :: starEach es Y.env := by rfl) :
    PA Y (e :: es) (rdXA X i a cls d (xCons f g)) := pa_imp (pa_cons he hr hs) fun σ H Q ⟨hj, μ, c, fs, dv, rx, e, k⟩ => by
  unfold xCons at e
  cases e1 : f c fs with
  | none => simp only [e1] at e; cases e
  | some d1 =>
    cases e2 : g c fs with
    | none => simp only [e1, e2] at e; cases e
    | some ds =>
      simp only [e1, e2] at e
      cases e
      exact ⟨hj, μ, c, fs, d1, rx, e1, fun v rv => ⟨hj, μ, c, fs, ds, rx, e2, fun vs rvs => k (v :: vs) ⟨v, vs, rfl, rv, rvs⟩⟩⟩
/-- the raised object, as the suite has it -/
theorem inst_at {C : Addr} {fs : List (Str × D)} {c cn : Str} {μ : Mu} {H : Hp} {σ : L2.St} {s : Shared} {oe : Obj} {pn pins : List (Addr × Obj)} (gC : X.mg cn = some (.ref C)) (I : L2.Inv (X.suite a ((a, oe) :: pn)) pins σ H s) (rx : RepX (ctX X) μ H c fs cls d) (hc : c = cn) (hz : Zc cls d oe) (hf : ∃ vs, oe.data = .fields vs) :
    cls = .ref C ∧ ∃ od, PySem.W.InstAt s.heap a oe C od := by
  subst hc
  obtain ⟨⟨C', gC', rfl⟩, rx⟩ := rx
  have gC' : X.mg c = some (.ref C') := gC'
  rw [gC] at gC'
  cases gC'
  refine ⟨rfl, ?_⟩
  obtain ⟨ha, _⟩ := I.pin (a, oe) (List.mem_append_left _ List.mem_cons_self)
  obtain ⟨fv, hd⟩ := hf
  cases fs with
  | nil =>
    have rx : d = none := rx
    subst rx
    exact ⟨none, ha, hz.1, by unfold PySem.W.notCls; rw [hd] <;> rfl, by rw [hz.2] <;> trivial⟩
  | cons f fs =>
    obtain ⟨dx, vs, rfl, hdx, _⟩ := rx
    have hx : ObjOk X.prog X.w H s.heap dx (.xd vs) := I.hok dx _ hdx
    obtain ⟨mA, hns, hr⟩ := hx
    obtain ⟨od, ho, hl⟩ := lookIn_ns hns
    exact ⟨some od, ha, hz.1, by unfold PySem.W.notCls; rw [hd] <;> rfl, by rw [hz.2]; exact ho⟩
theorem x_attr {C : Addr} {n fld cn : Str} {j : Nat} {oe : Obj} {pn : List (Addr × Obj)} {p pos : Pos} (gC : X.mg cn = some (.ref C)) (T : AttrX X.K C fld) (hN : X.N[j]? = some n) (hv : Vis X.env.scope n) (hz : Zc cls d oe) (hf : ∃ vs, oe.data = .fields vs)
    (hd : (n == ("__debug__" : Str)) = false := by decide) (hcd : (n == ("__classdict__" : Str)) = false := by decide) (hb : attributeBase (.Name n p) fld X.env (eval (.Name n p) X.env) = eval (.Name n p) X.env := by rfl) :
    PE (X.suite a ((a, oe) :: pn)) (.Attribute (.Name n p) fld pos) (rdX X (some j) a cls d (xAt cn fld)) := by
  refine ⟨fun pins s σ H Q I ⟨hj, μ, c, fs, dv, rx, e, k⟩ => ?_⟩
  refine attr_of hb (thn ((pe_var (X := X.suite a ((a, oe) :: pn)) hN hv hd hcd).run pins s σ H (fun v H1 => v = .ref a ∧ H1 = H) I ⟨_, hj j rfl, rfl, rfl⟩) fun u s1 hh => ?_)
  obtain ⟨x, H1, I1, r1, ex, eH⟩ := hh
  subst ex
  subst eH
  obtain rfl : u = Value.ref a := r1
  unfold xAt at e
  split at e
  · rename_i g d0 
    split at e
    · rename_i hc
      obtain ⟨rfl, rfl⟩ := hc
      cases e
      obtain ⟨⟨C', gC', rfl⟩, dx, vs, rfl, hdx, hn, rl⟩ := rx
      have gC' : X.mg c = some (.ref C') := gC'
      rw [gC] at gC'
      cases gC'
      obtain ⟨v, rest, ev, rv, er⟩ := rl
      cases vs with
      | nil => cases ev
      | cons p0 vs =>
        cases er
        obtain ⟨g0, v0⟩ := p0
        have e1 := List.cons.inj ev
        obtain ⟨e1, e2⟩ := e1
        dsimp only at e1
        subst e1
        cases vs with
        | cons _ _ => cases e2
        | nil =>
          have e3 : g0 = g := (List.cons.inj hn).1
          subst e3
          obtain ⟨ha, _⟩ := I1.pin (a, oe) (List.mem_append_left _ List.mem_cons_self)
          obtain ⟨fv, hd⟩ := hf
          have hx : ObjOk X.prog X.w H1 s1.heap dx (.xd [(g0, v0)]) := I1.hok dx _ hdx
          obtain ⟨mA, hns, hr⟩ := hx
          obtain ⟨od, ho, hl⟩ := lookIn_ns hns
          have l : List.lookup g0 [(g0, v0)] = some v0 := by simp [List.lookup]
          obtain ⟨u, hu, ru⟩ := RelO.some_of (v := v0) (o := mA g0) (by rw [← l]; exact hr g0)
          have J : PySem.W.InstAt s1.heap a oe C (some od) := ⟨ha, hz.1, by unfold PySem.W.notCls; rw [hd] <;> rfl, by rw [hz.2]; exact ho⟩
          exact HandSPX.exc_get I1.kIn J T.ga T.gg T.ex (PySem.W.findObj_own T.hd T.no rfl (by rw [hl, hu])) (handed_of ru) ⟨v0, H1, I1.tok _, ru, k v0 rv⟩
    · cases e
  · cases e
/-- isinstance(error, T) with the value of T -/
theorem call_isX {C : Addr} {oe : Obj} {pn : List (Addr × Obj)} {cv : Value} {b : Bool} (E : L2.ExcC X.K C) (kt : PySem.W.kitOne X.K (.ref C) cv = some b) (hJ : ∀ (pins : List (Addr × Obj)) (s : Shared) (σ : L2.St) (H : Hp), L2.Inv (X.suite a ((a, oe) :: pn)) pins σ H s → (∃ μ c fs, RepX (ctX X) μ H c fs cls d ∧ X.mg c = some (.ref C)) → ∃ od, PySem.W.InstAt s.heap a oe C od) :
    CallR (X.suite a ((a, oe) :: pn)) (.builtin "isinstance") (fun xs H Q => ∃ (c : V), xs = [.ref a, c] ∧ (∀ u, RelV c u → u = cv) ∧ (∃ μ c fs, RepX (ctX X) μ H c fs cls d ∧ X.mg c = some (.ref C)) ∧ Q (.bl b) H) := by
  intro pins s σ H xs us Q I r h
  obtain ⟨c, rfl, hcv, hx, q⟩ := h
  cases r with
  | cons rx rr =>
    cases rr with
    | cons rt rr =>
      cases rr
      cases rx
      have ec := hcv _ rt
      subst ec
      obtain ⟨od, J⟩ := hJ pins s σ H I hx
      have hcl : (PySem.W.clsIn X.K C).isSome = true := by
        obtain ⟨cd, hc, _⟩ := PySem.W.any_some E.hd
        rw [hc]; rfl
      exact PySem.W.kia_one (PySem.W.kitx_exc hcl E.hg E.hk E.hs E.ha E.hn E.ht E.hm) I.kIn J kt (fun z => nomatch z) fun tk => ⟨.bl b, H, I.kept (t' := tk) fun _ _ z => z, rfl, q⟩
theorem x_isi {C : Addr} {n cn tn : Str} {T : String} {j : Nat} {oe : Obj} {pn : List (Addr × Obj)} {p p1 p2 pos : Pos} {b : Bool} (gC : X.mg cn = some (.ref C)) (E : L2.ExcC X.K C) (kt : PySem.W.kitOne X.K (.ref C) (.type T) = some b)
    (hg : Gl X "isinstance") (hm : X.mg "isinstance" = none) (hgT : Gl X tn) (hmT : X.mg tn = none) (hvT : bootBuiltins tn = some (.type T)) (hvI : bootBuiltins "isinstance" = some (.builtin "isinstance"))
    (hN : X.N[j]? = some n) (hv : Vis X.env.scope n) (hz : Zc cls d oe) (hf : ∃ vs, oe.data = .fields vs)
    (hd : (n == ("__debug__" : Str)) = false := by decide) (hcd : (n == ("__classdict__" : Str)) = false := by decide) (hnT : tn ≠ "__name__" := by decide) (hdT : (tn == ("__debug__" : Str)) = false := by decide)
    (he : starEach [.Name n p1, .Name tn p2] X.env = (false, eval (.Name n p1) X.env) :: starEach [.Name tn p2] X.env := by rfl) (he2 : starEach [.Name tn p2] X.env = (false, eval (.Name tn p2) X.env) :: starEach [] X.env := by rfl) (hpl : (backTo pos (starEach [.Name tn p2] X.env)).any (·.1) = false := by rfl) :
    PE (X.suite a ((a, oe) :: pn)) (.Call (.Name "isinstance" p) [.Name n p1, .Name tn p2] [] pos) (rdX X (some j) a cls d (xIsi cn b)) := by
  refine ⟨fun pins s σ H Q I ⟨hj, μ, c, fs, dv, rx, e, k⟩ => ?_⟩
  unfold xIsi at e
  split at e
  · rename_i hc
    subst hc
    cases e
    have v1 : PE (X.suite a ((a, oe) :: pn)) (.Name n p1) _ := pe_var (X := X.suite a ((a, oe) :: pn)) hN hv hd hcd
    have v2 : PE (X.suite a ((a, oe) :: pn)) (.Name tn p2) _ := pe_bltn (X := X.suite a ((a, oe) :: pn)) (v := .ty T) hgT hmT hvT rfl hnT hdT
    refine (pe_callB (X := X.suite a ((a, oe) :: pn)) (call_isX (cls := cls) (d := d) (C := C) (cv := .type T) E kt fun pins s σ H I ⟨μ, c', fs', rx', gc'⟩ => (inst_at gc' I rx' rfl hz hf).2) hg hm hvI (pa_cons v1 (pa_cons v2 pa_nil he2) he) (by decide) (by decide) he hpl).run pins s σ H Q I ?_
    exact ⟨_, hj j rfl, .ty T, rfl, fun u r => r, ⟨μ, c, fs, rx, gC⟩, k _ rfl⟩
  · cases e
/-! what a suite does with them -/
def mXE (f : XF D) (c : Str) (fs : List (Str × D)) : M D := fun _ h => match f c fs with
  | some d => some (.ok d h)
  | none => none
def mXL (f : XF (List D)) (c : Str) (fs : List (Str × D)) : M D := fun _ h => match f c fs with
  | some ds => if ds.length ≤ 1000000 then (Nv.n (.lst ds)).lift h else none
  | none => none
def mXT (f : XF (List D)) (c : Str) (fs : List (Str × D)) : M D := fun _ h => match f c fs with
  | some ds => if ds.length ≤ 1000000 then (Nv.v (.tup ds)).lift h else none
  | none => none
/-- an expression of a suite -/
def rdXE (X : Cx) (i : Option Nat) (a : Addr) (cls : Value) (d : Option Addr) (m : Str → List (Str × D) → M D) : TE := fun σ H Q =>
  (∀ j, i = some j → σ[j]? = some (some (.ref a))) ∧ ∃ ρ L μ h c fs, Rel (ctX X) L ρ σ μ H h ∧ RepX (ctX X) μ H c fs cls d ∧ Sat X WN L σ μ H (m c fs ρ h) fun d _ μ' H' => ∀ x, RepV (ctX X) μ' H' d x → Q x H'
theorem xe_one {e : Expr} {f : XF D} (he : PE Y e (rdX X i a cls d f)) : PE Y e (rdXE X i a cls d (mXE f)) := pe_imp he fun σ H Q ⟨hj, ρ, L, μ, h, c, fs, rel, rx, q⟩ => by
  unfold mXE at q
  cases e1 : f c fs with
  | none => rw [e1] at q; exact q.none
  | some dv => rw [e1] at q; exact ⟨hj, μ, c, fs, dv, rx, e1, fun v rv => q μ H .refl rel.hr v rv⟩
theorem xe_lst {es : List Expr} {f : XF (List D)} {pos : Pos} (ha : PA Y es (rdXA X i a cls d f)) : PE Y (.List es pos) (rdXE X i a cls d (mXL f)) := pe_imp (pe_lst ha) fun σ H Q ⟨hj, ρ, L, μ, h, c, fs, rel, rx, q⟩ => by
  unfold mXL at q
  cases e : f c fs with
  | none => simp only [e] at q; exact q.none
  | some ds =>
    simp only [e] at q
    split at q
    · rename_i hl
      obtain ⟨m, em, want⟩ := Sat.lift (n := some (.n (.lst ds))) rel.hr q
      cases em
      exact ⟨hj, μ, c, fs, ds, rx, e, fun vs rl => ⟨by rw [rl.length]; exact small6 hl, fun p hp => want.lst rl hp⟩⟩
    · exact q.none
theorem xe_tup {es : List Expr} {f : XF (List D)} {x1} {pos : Pos} (ha : PA Y es (rdXA X i a cls d f)) : PE Y (.Tuple es x1 pos) (rdXE X i a cls d (mXT f)) := pe_imp (pe_tup ha) fun σ H Q ⟨hj, ρ, L, μ, h, c, fs, rel, rx, q⟩ => by
  unfold mXT at q
  cases e : f c fs with
  | none => simp only [e] at q; exact q.none
  | some ds =>
    simp only [e] at q
    split at q
    · rename_i hl
      obtain ⟨m, em, want⟩ := Sat.lift (n := some (.v (.tup ds))) rel.hr q
      cases em
      exact ⟨hj, μ, c, fs, ds, rx, e, fun vs rl => ⟨by rw [rl.length]; exact small6 hl, fun p hp => want.tup rl hp⟩⟩
    · exact q.none
theorem xs_ret {e : Expr} {m : Str → List (Str × D) → M D} {pos2 : Pos} (he : PE Y e (rdXE X i a cls d m)) : PSs Y [.Return (some e) pos2] (tsX X i (fun c fs => mRet (m c fs)) a cls d) :=
  pss_one (ps_imp (ps_ret he) fun D σ H ⟨hj, ρ, L, μ, h, c, fs, rel, rx, q⟩ => ⟨hj, ρ, L, μ, h, c, fs, rel, rx, (q.bind rel).imp fun b h1 μ1 H1 g1 _ ⟨rel1, q1⟩ x rb => q1 μ1 H1 x .refl rel1.hr rb⟩)
theorem xs_set {e : Expr} {m : Str → List (Str × D) → M D} {q : Nat} {x : Str} {pos' pos2 : Pos} (hN : Y.N.Nodup) (hi : Y.N[q]? = some x) (hx : Loc Y.env.scope x) (he : PE Y e (rdXE X i a cls d m)) (hs : swapsWith e (some (.Name x pos')) pos2.line Y.env = pure false := by rfl)
    (hf : Y.fn x = true ∨ Y.env.scope.names.lookup x = some .local := by first | exact .inl rfl | exact .inr rfl | assumption) : PSs Y [.Assign [.Name x pos'] e pos2] (tsX X i (fun c fs => mSet q (m c fs)) a cls d) :=
  pss_one (ps_imp (ps_set hN hi hx he hs hf) fun D σ H ⟨hj, ρ, L, μ, h, c, fs, rel, rx, q⟩ => ⟨hj, ρ, L, μ, h, c, fs, rel, rx, (q.bind rel).imp fun b h1 μ1 H1 g1 _ ⟨rel1, q1⟩ y rb => q1 _ μ1 H1 .refl (rel1.set rb)⟩)
theorem xs_pass {pos : Pos} : PSs Y [.Pass pos] (tsX X i (fun _ _ => mNx) a cls d) :=
  pss_one (ps_imp ps_pass fun D σ H ⟨hj, ρ, L, μ, h, c, fs, rel, rx, q⟩ => q σ μ H .refl rel)
end
end Rh

set_option Elab.async false
set_option linter.all false
set_option maxRecDepth 100000
set_option maxHeartbeats 2000000
set_option autoImplicit false
namespace Rh
open PySem PySem.Spec PyProof.Rows L2
section
variable {X : Cx}
theorem op_inQ (hu : X.A.units + 65 < cLine) : OpR X (compareOp .In) (rInQ X.K false) := by
  intro pins s σ H x y v u Q I rx ry h
  obtain ⟨d, ds, hd, he, sd, q⟩ := h
  obtain ⟨as, r1⟩ := Dp.reads I d x v hd rx
  rcases he with ⟨he, se⟩ | ⟨he, se⟩
  · obtain ⟨bs, r2⟩ := Dp.reads I (.list ds) y u he ry
    exact SeqAt.in_list_reads r2 r1 (SeqAt.canLay_of_shaped se) (SeqAt.canLay_of_shaped sd) (room_in_shaped sd hu) ⟨.bl _, H, I, rfl, q⟩
  · obtain ⟨bs, r2⟩ := Dp.reads I (.tuple ds) y u he ry
    exact SeqAt.in_tuple_reads r2 r1 (SeqAt.canLay_of_shaped (d := .list ds) se) (SeqAt.canLay_of_shaped sd) (room_in_shaped sd hu) ⟨.bl _, H, I, rfl, q⟩
theorem op_notInQ (hu : X.A.units + 65 < cLine) : OpR X (compareOp .NotIn) (rInQ X.K true) := by
  intro pins s σ H x y v u Q I rx ry h
  obtain ⟨d, ds, hd, he, sd, q⟩ := h
  obtain ⟨as, r1⟩ := Dp.reads I d x v hd rx
  rcases he with ⟨he, se⟩ | ⟨he, se⟩
  · obtain ⟨bs, r2⟩ := Dp.reads I (.list ds) y u he ry
    exact SeqAt.notIn_list_reads r2 r1 (SeqAt.canLay_of_shaped se) (SeqAt.canLay_of_shaped sd) (room_in_shaped sd hu) ⟨.bl _, H, I, rfl, q⟩
  · obtain ⟨bs, r2⟩ := Dp.reads I (.tuple ds) y u he ry
    exact SeqAt.notIn_tuple_reads r2 r1 (SeqAt.canLay_of_shaped (d := .list ds) se) (SeqAt.canLay_of_shaped sd) (room_in_shaped sd hu) ⟨.bl _, H, I, rfl, q⟩
end
/-! ### words for a text's operators and built-in functions -/
def dAdd : Hs → D → D → Option Nv := fun h d e => match dInt (fun i j => .int (i + j)) h d e with | some n => some n | none => (fun h d e => match dCatT h d e with | some n => some n | none => dCatL h d e) h d e
def dSub : Hs → D → D → Option Nv := dInt fun i j => .int (i - j)
def dMod : Hs → D → D → Option Nv := dIntC (fun _ j => decide (0 < j)) fun i j => .int (i % j)
def dLt : Hs → D → D → Option Nv := dInt fun i j => .bl (decide (i < j))
def dLe : Hs → D → D → Option Nv := dInt fun i j => .bl (decide (i ≤ j))
def dGt : Hs → D → D → Option Nv := dInt fun i j => .bl (decide (j < i))
def dGe : Hs → D → D → Option Nv := dInt fun i j => .bl (decide (j ≤ i))
def dIn (neg : Bool) : Hs → D → D → Option Nv := fun h d e => match dInQ neg h d e with | some n => some n | none => dInD neg h d e
def dIx : Hs → D → D → Option Nv := fun h d e => match dIxT h d e with | some n => some n | none => (fun h d e => match dIxL h d e with | some n => some n | none => dIxD h d e) h d e
def dLenA : Hs → List D → Option Nv := fun h d => match dLen h d with | some n => some n | none => dLenD h d
def dListA : Hs → List D → Option Nv := fun h d => match dList h d with | some n => some n | none => dListD h d
section
variable {X : Cx} {W : WX} {a b : Expr} {ma mb : M D} {pos : Pos} {k : Nat}
theorem hu_of (hr : Room k X.A) : X.A.units + 65 < cLine := by have := hr.un; omega
theorem hu_of4 (hr : Room k X.A) : X.A.units + 64 < cLine := by have := hr.un; omega
/-- a comparison by its operator -/
structure CmpW (X : Cx) (op : CmpOp) (f : Hs → D → D → Option Nv) : Prop where
  ex : ∃ r : R2, OpR X (compareOp op) r ∧ Cov2 (ctX X) r f
theorem w_lt : CmpW X .Lt dLt := ⟨_, op_lt, cov_rI0 fun _ _ => rfl⟩
theorem w_le : CmpW X .LtE dLe := ⟨_, op_le, cov_rI0 fun _ _ => rfl⟩
theorem w_gt : CmpW X .Gt dGt := ⟨_, op_gt, cov_rI0 fun _ _ => rfl⟩
theorem w_ge : CmpW X .GtE dGe := ⟨_, op_ge, cov_rI0 fun _ _ => rfl⟩
theorem w_eq (hr : Room k X.A) : CmpW X .Eq (dEq false) := ⟨_, op_eqD (hu_of4 hr), cov_eq⟩
theorem w_ne (hr : Room k X.A) : CmpW X .NotEq (dEq true) := ⟨_, op_neD (hu_of4 hr), cov_ne⟩
theorem w_in (hr : Room k X.A) : CmpW X .In (dIn false) := ⟨_, OpR.or' (op_inQ (hu_of hr)) (op_inDct (hu_of hr)), cov_inQ.or cov_inD⟩
theorem w_nin (hr : Room k X.A) : CmpW X .NotIn (dIn true) := ⟨_, OpR.or' (op_notInQ (hu_of hr)) (op_notInDct (hu_of hr)), cov_inQ.or cov_inD⟩
theorem w_is : CmpW X .Is (dIs false) := ⟨_, op_isN, cov_is⟩
theorem w_isn : CmpW X .IsNot (dIs true) := ⟨_, op_notN, cov_isnot⟩
theorem e_cmpW {op : CmpOp} {f : Hs → D → D → Option Nv} (c : CmpW X op f) (hm : behindInMarks op b = false) (ha : PE X a (rd X W ma)) (hb : PE X b (rd X W mb)) : PE X (.Compare a [op] [b] pos) (rd X W (mOp2 f ma mb)) := by
  obtain ⟨r, h1, h2⟩ := c.ex
  exact e_cmp h1 h2 hm ha hb
theorem t_cmpW {op : CmpOp} {f : Hs → D → D → Option Nv} (c : CmpW X op f) (hm : behindInMarks op b = false) (ha : PE X a (rd X W ma)) (hb : PE X b (rd X W mb)) : PT X (.Compare a [op] [b] pos) (rdT X W (mB (mOp2 f ma mb))) := by
  obtain ⟨r, h1, h2⟩ := c.ex
  exact t_cmp h1 h2 hm ha hb
theorem b_add (ha : PE X a (rd X W ma)) (hb : PE X b (rd X W mb)) : PE X (.BinOp a .Add b pos) (rd X W (mOp2 dAdd ma mb)) :=
  e_bin (OpR.or' op_add (OpR.or' op_catA op_cat)) ((cov_rI0 fun _ _ => rfl).or (cov_catT.or cov_catL)) ha hb
theorem b_sub (ha : PE X a (rd X W ma)) (hb : PE X b (rd X W mb)) : PE X (.BinOp a .Sub b pos) (rd X W (mOp2 dSub ma mb)) := e_bin op_sub (cov_rI0 fun _ _ => rfl) ha hb
theorem b_mod (ha : PE X a (rd X W ma)) (hb : PE X b (rd X W mb)) : PE X (.BinOp a .Mod b pos) (rd X W (mOp2 dMod ma mb)) := e_bin op_mod (cov_rI (fun _ _ h => of_decide_eq_true h) fun _ _ => rfl) ha hb
theorem x_ix (hr : Room k X.A) (ha : PE X a (rd X W ma)) (hb : PE X b (rd X W mb)) (hs : PlainIx b := by exact fun _ _ => rfl) : PE X (.Subscript a b pos) (rd X W (mOp2 dIx ma mb)) :=
  e_ix (IxR.or' ix_tup (IxR.or' ix_list (ix_dct (hu_of hr)))) (cov_ixT.or (cov_ixL.or cov_ixD)) ha hb hs
section
variable {p : Pos} {e : Expr} {es : List Expr} {ms : M (List D)}
theorem f_len (hg : Gl X "len") (hm : X.mg "len" = none) (ha : PA X (e :: es) (rdA X W ms)) (he : starEach (e :: es) X.env = (false, eval e X.env) :: starEach es X.env := by rfl) (hpl : (backTo pos (starEach es X.env)).any (·.1) = false := by rfl) :
    PE X (.Call (.Name "len" p) (e :: es) [] pos) (rd X W (mOpA dLenA ms)) := e_callB (CallR.or call_len_seq call_lenD) (cov_len.or cov_lenD) boot_len hg hm ha (by decide) (by decide) he hpl
theorem f_list (hc : X.calm = true) (hv : bootBuiltins "list" = some (.type "list")) (hg : Gl X "list") (hm : X.mg "list" = none) (ha : PA X (e :: es) (rdA X W ms)) (he : starEach (e :: es) X.env = (false, eval e X.env) :: starEach es X.env := by rfl) (hpl : (backTo pos (starEach es X.env)).any (·.1) = false := by rfl) :
    PE X (.Call (.Name "list" p) (e :: es) [] pos) (rd X W (mOpA dListA ms)) := e_callTy (CallR.or call_list_of (call_listD hc)) (cov_list.or cov_listD) hv hg hm ha (by decide) (by decide) he hpl
theorem f_tuple (hv : bootBuiltins "tuple" = some (.type "tuple")) (hg : Gl X "tuple") (hm : X.mg "tuple" = none) (ha : PA X (e :: es) (rdA X W ms)) (he : starEach (e :: es) X.env = (false, eval e X.env) :: starEach es X.env := by rfl) (hpl : (backTo pos (starEach es X.env)).any (·.1) = false := by rfl) :
    PE X (.Call (.Name "tuple" p) (e :: es) [] pos) (rd X W (mOpA dTuple ms)) := e_callTy call_tuple_of cov_tuple hv hg hm ha (by decide) (by decide) he hpl
theorem f_int (hv : bootBuiltins "int" = some (.type "int")) (hg : Gl X "int") (hm : X.mg "int" = none) (ha : PA X (e :: es) (rdA X W ms)) (he : starEach (e :: es) X.env = (false, eval e X.env) :: starEach es X.env := by rfl) (hpl : (backTo pos (starEach es X.env)).any (·.1) = false := by rfl) :
    PE X (.Call (.Name "int" p) (e :: es) [] pos) (rd X W (mOpA dInt1 ms)) := e_callTy call_int1 cov_int hv hg hm ha (by decide) (by decide) he hpl
theorem f_abs (hv : bootBuiltins "abs" = some (.builtin "abs")) (hg : Gl X "abs") (hm : X.mg "abs" = none) (ha : PA X (e :: es) (rdA X W ms)) (he : starEach (e :: es) X.env = (false, eval e X.env) :: starEach es X.env := by rfl) (hpl : (backTo pos (starEach es X.env)).any (·.1) = false := by rfl) :
    PE X (.Call (.Name "abs" p) (e :: es) [] pos) (rd X W (mOpA dAbs ms)) := e_callB call_abs cov_abs hv hg hm ha (by decide) (by decide) he hpl
theorem f_all (hc : X.calm = true) (hv : bootBuiltins "all" = some (.builtin "all")) (hg : Gl X "all") (hm : X.mg "all" = none) (ha : PA X (e :: es) (rdA X W ms)) (he : starEach (e :: es) X.env = (false, eval e X.env) :: starEach es X.env := by rfl) (hpl : (backTo pos (starEach es X.env)).any (·.1) = false := by rfl) :
    PE X (.Call (.Name "all" p) (e :: es) [] pos) (rd X W (mOpA dAll ms)) := e_callB (cr_all hc) cov_all hv hg hm ha (by decide) (by decide) he hpl
theorem f_any (hc : X.calm = true) (hv : bootBuiltins "any" = some (.builtin "any")) (hg : Gl X "any") (hm : X.mg "any" = none) (ha : PA X (e :: es) (rdA X W ms)) (he : starEach (e :: es) X.env = (false, eval e X.env) :: starEach es X.env := by rfl) (hpl : (backTo pos (starEach es X.env)).any (·.1) = false := by rfl) :
    PE X (.Call (.Name "any" p) (e :: es) [] pos) (rd X W (mOpA dAny ms)) := e_callB (cr_any hc) cov_any hv hg hm ha (by decide) (by decide) he hpl
theorem f_isi (hv : bootBuiltins "isinstance" = some (.builtin "isinstance")) (hg : Gl X "isinstance") (hm : X.mg "isinstance" = none) (ha : PA X (e :: es) (rdA X W ms)) (he : starEach (e :: es) X.env = (false, eval e X.env) :: starEach es X.env := by rfl) (hpl : (backTo pos (starEach es X.env)).any (·.1) = false := by rfl) :
    PE X (.Call (.Name "isinstance" p) (e :: es) [] pos) (rd X W (mOpA dIsi ms)) := e_callB (CallR.or call_isi (CallR.or call_isiT call_isiK)) cov_isi hv hg hm ha (by decide) (by decide) he hpl
end
end
section
variable {X : Cx} {W : WX} {e a b c : Expr} {ma mb mc : M D} {pos : Pos}
theorem e_chainW {op op' : CmpOp} {f g : Hs → D → D → Option Nv} (c1 : CmpW X op f) (c2 : CmpW X op' g) (ha : PE X a (rd X W ma)) (hb : PE X b (rd X W mb)) (hc : PE X c (rd X W mc)) (hm : lastMarks [op, op'] [b, c] = false := by with_unfolding_all rfl) :
    PE X (.Compare a [op, op'] [b, c] pos) (rd X W (mChain f g ma mb mc)) := by
  obtain ⟨r, h1, h2⟩ := c1.ex
  obtain ⟨r', h3, h4⟩ := c2.ex
  exact e_chain h1 h3 h2 h4 ha hb hc hm
theorem t_chainW {op op' : CmpOp} {f g : Hs → D → D → Option Nv} (c1 : CmpW X op f) (c2 : CmpW X op' g) (ha : PE X a (rd X W ma)) (hb : PE X b (rd X W mb)) (hc : PE X c (rd X W mc)) (hm : lastMarks [op, op'] [b, c] = false := by with_unfolding_all rfl) :
    PT X (.Compare a [op, op'] [b, c] pos) (rdT X W (mB (mChain f g ma mb mc))) := by
  obtain ⟨r, h1, h2⟩ := c1.ex
  obtain ⟨r', h3, h4⟩ := c2.ex
  exact t_chain h1 h3 h2 h4 ha hb hc hm
def dNeg : Hs → D → Option Nv := fun _ d => match d with
  | .int i => some (.v (.int (-i)))
  | _ => none
theorem cov_neg {C : Ct} : Cov1 C (rU fun i => .int (-i)) dNeg := by
  intro H L μ h x d n Q hr r hf want
  unfold dNeg at hf
  split at hf
  · cases hf
    rename_i i
    cases (show x = V.int i from r)
    exact ⟨i, rfl, want.old rfl⟩
  · cases hf
theorem u_neg (ha : PE X a (rd X W ma)) : PE X (.UnaryOp .USub a pos) (rd X W (mOp1 dNeg ma)) := e_un un_neg cov_neg ha
theorem tkF {X : Cx} : Takes X WF := fun _ _ x => by
  obtain ⟨_, _, _, _, _, _, _, _, _, _, _, _, _, _, _, _, z⟩ := x
  exact z.elim
end
/-! ### a def that calls itself: by how deep it may -/
def fuelF (N : List Str) (m : FM → MS) : Nat → FM
  | 0 => fun _ _ => none
  | n + 1 => runDef N.length (m (fuelF N m n))
theorem fn_none {P : Program} {C : Ct} {base : Heap} {ps : List Str} {k np : Nat} {f : Addr} {fd : FuncData} (hp : ps.length = np) : FnOk P C.w C.K C.mg base (L2.CX P C.w) k f fd ps (spF C np fun _ _ => none) :=
  ⟨fun vs H Q E ⟨L, μ, h, as, q, _⟩ => q.trans hp.symm, fun A outer s H args us vs Q E hr e0 hb r ⟨L, μ, h, as, h1, h2, h3, h4⟩ => False.elim h4⟩
theorem fn_recK {P : Program} {w : World} {K : PySem.W.Frag} {mg : Str → Option Value} {base : Heap} {N ps : List Str} {np : Nat} {f : Addr} {fd : FuncData} {m : FM → MS} (hp : ps.length = np) (k0 : Nat)
    (step : ∀ (j : Nat) (g : FM), FnOk P w K mg base (L2.CX P w) (k0 + j) f fd ps (spF ⟨w, K, mg⟩ np g) → FnOk P w K mg base (L2.CX P w) (k0 + j + 1) f fd ps (spF ⟨w, K, mg⟩ np (runDef N.length (m g)))) :
    ∀ n : Nat, FnOk P w K mg base (L2.CX P w) (k0 + n) f fd ps (spF ⟨w, K, mg⟩ np (fuelF N m n))
  | 0 => fn_none (C := ⟨w, K, mg⟩) hp
  | n + 1 => step n (fuelF N m n) (fn_recK hp k0 step n)
theorem names_of {X : Cx} {x : Str} {v : Value} (hg : Gl X x) (g : X.mg x = some v) (hd : (x == ("__debug__" : Str)) = false := by decide) : Names X x ((X.mg x).getD .none) := ⟨hg, hd, .inl (by rw [g]; rfl)⟩
end Rh

set_option Elab.async false
set_option linter.all false
set_option maxRecDepth 100000
set_option maxHeartbeats 2000000
set_option autoImplicit false
namespace Rh
open PySem PySem.Spec PyProof.Rows L2

/-! ### slices -/
def rdO (X : Cx) (W : WX) (m : M (Option Int)) : TO := fun σ H Q => rdG X W m σ H fun _ _ o _ _ H' => Q o H'
def mPart (m : M D) : M (Option Int) := mBind m fun d => fun _ h => match d with
  | .int i => some (.ok (some i) h)
  | _ => none
def cutD (xs : List D) (lo hi : Option Int) : List D := (xs.drop (HT.sIx xs.length 0 lo)).take (HT.sIx xs.length xs.length hi - HT.sIx xs.length 0 lo)
def dSl (h : Hs) (d : D) (lo hi : Option Int) : Option Nv := match d with
  | .tup ds => some (.v (.tup (cutD ds lo hi)))
  | d => (lstD h d).map fun ds => .n (.lst (cutD ds lo hi))
def mSl (m : M D) (lo hi : M (Option Int)) : M D := mBind m fun d => mBind lo fun l => mBind hi fun u => fun _ h => lift h (dSl h d l u)
theorem cut_all {α : Type} (xs : List α) {lo hi : Option Int} (h : HT.sIx xs.length 0 lo = 0 ∧ HT.sIx xs.length xs.length hi = xs.length) : (xs.drop (HT.sIx xs.length 0 lo)).take (HT.sIx xs.length xs.length hi - HT.sIx xs.length 0 lo) = xs := by
  rw [h.1, h.2, List.drop_zero, Nat.sub_zero, List.take_length]
section
variable {X : Cx} {W : WX} {C : Ct} {L : List Nat} {μ : Mu} {H : Hp} {h : Hs} {Q : VK}
theorem po_imp {e : Option Expr} {t t' : TO} (p : PO X e t) (h : ∀ σ H Q, t' σ H Q → t σ H Q) : PO X e t' := ⟨fun pins s σ H Q I q => p.run pins s σ H Q I (h _ _ _ q)⟩
theorem o_none : PO X none (rdO X W (mPure none)) := po_imp po_none fun σ H Q q => let ⟨_, _, _, _, _, k⟩ := rdG_pure q; k
theorem o_some {e : Expr} {m : M D} (h : PE X e (rd X W m)) : PO X (some e) (rdO X W (mPart m)) := po_imp (po_some h) fun σ H Q q => rdG_imp (rdG_bind q) fun ρ L d h1 μ1 H1 ⟨rel1, q1⟩ x rx => by
  split at q1
  · exact ⟨_, rx, q1 μ1 H1 .refl rel1.hr⟩
  · exact q1.none
theorem RepL.cut {ds : List D} {vs : List V} {lo hi : Option Int} (q : RepL C μ H ds vs) : RepL C μ H (cutD ds lo hi) (cutV vs lo hi) := by
  unfold cutD cutV
  rw [q.length]
  exact (q.drop _).take _
theorem sl_cov {d : D} {x : V} {lo hi : Option Int} {n : Nv} (hr : HR C L μ H h) (r : RepV C μ H d x) (e : dSl h d lo hi = some n) (want : Want C μ H n Q) : rSlL C.K x lo hi H Q ∨ rSlA C.K x lo hi H Q := by
  unfold dSl at e
  split at e
  · rename_i ds
    obtain ⟨a, vs, rfl, t, q⟩ := (show RepV C μ H (.tup ds) x from r)
    cases e
    refine .inr ⟨a, vs, rfl, t.sq, fun h => ?_, fun h p hp => want.tup q.cut hp⟩
    rw [q.length] at h
    rw [show cutD ds lo hi = ds from cut_all ds h] at want
    exact want.old ⟨a, vs, rfl, t, q⟩
  · obtain ⟨ds, e1, rfl⟩ := Option.map_eq_some_iff.mp e
    obtain ⟨a, vs, rfl, t, q⟩ := lstD_ok hr r e1
    exact .inl ⟨a, vs, rfl, t, fun p hp => want.lst q.cut hp⟩
theorem e_slice {e : Expr} {lo hi : Option Expr} {m : M D} {ml mh : M (Option Int)} {p2 pos : Pos} (he : PE X e (rd X W m)) (hl : PO X lo (rdO X W ml)) (hu : PO X hi (rdO X W mh)) : PE X (.Subscript e (.Slice lo hi none p2) pos) (rd X W (mSl m ml mh)) := by
  refine pe_imp (pe_slice (sl_list.or sl_tupA) he hl hu) fun σ H Q ⟨ρ, L, μ, h, rel, q⟩ => ⟨ρ, L, μ, h, rel, (q.bind rel).imp fun d h1 μ1 H1 g1 _ ⟨_, rel1, q1⟩ x rx => ⟨ρ, L, μ1, h1, rel1, (q1.bind rel1).imp fun l h2 μ2 H2 g2 _ ⟨_, rel2, q2⟩ => ⟨ρ, L, μ2, h2, rel2, (q2.bind rel2).imp fun u h3 μ3 H3 g3 _ ⟨_, rel3, q3⟩ => ?_⟩⟩⟩
  obtain ⟨n, en, want⟩ := Sat.lift rel3.hr q3
  exact sl_cov rel3.hr ((rx.go rel1.hr g2).go rel2.hr g3) en want
/-! ### keywords -/
theorem kk_nil : PK X [] (rdA X W mNil) := ⟨fun pos pins s σ H Q I q => by
  obtain ⟨_, _, _, _, _, k⟩ := rdG_pure q
  exact pk_nil.run pos pins s σ H Q I (k [] rfl)⟩
theorem kk_cons {nm : Option Str} {e : Expr} {kpos : Pos} {kws : List Keyword} {m : M D} {ms : M (List D)} (ha : PE X e (rd X W m)) (hr : PK X kws (rdA X W ms)) : PK X (⟨nm, e, kpos⟩ :: kws) (rdA X W (mCons m ms)) :=
  ⟨fun pos pins s σ H Q I q => (pk_cons ha hr).run pos pins s σ H Q I (rd_cons q)⟩
end
def permL {α : Type} (pm : List Nat) (xs : List α) : List α := pm.filterMap fun i => xs[i]?
theorem vals_perm {vs : List V} {us : List Value} (r : Vals vs us) : ∀ pm : List Nat, Vals (permL pm vs) (permL pm us)
  | [] => .nil
  | i :: pm => by
    have ih := vals_perm r pm
    have hl := r.length
    show Vals ((i :: pm).filterMap _) ((i :: pm).filterMap _)
    rw [List.filterMap_cons, List.filterMap_cons]
    by_cases h : i < vs.length
    · obtain ⟨u, e, ru⟩ := r.get (List.getElem?_eq_getElem h)
      rw [List.getElem?_eq_getElem h, e]
      exact .cons ru ih
    · rw [List.getElem?_eq_none (Nat.le_of_not_lt h), List.getElem?_eq_none (by omega)]
      exact ih
theorem RepL.perm {C : Ct} {μ : Mu} {H : Hp} {ds : List D} {vs : List V} (r : RepL C μ H ds vs) : ∀ pm : List Nat, RepL C μ H (permL pm ds) (permL pm vs)
  | [] => rfl
  | i :: pm => by
    have ih := RepL.perm r pm
    have hl := r.length
    show RepL C μ H ((i :: pm).filterMap _) ((i :: pm).filterMap _)
    rw [List.filterMap_cons, List.filterMap_cons]
    by_cases h : i < ds.length
    · obtain ⟨u, e, ru⟩ := r.get (List.getElem?_eq_getElem h)
      rw [List.getElem?_eq_getElem h, e]
      exact ⟨u, _, rfl, ru, ih⟩
    · rw [List.getElem?_eq_none (Nat.le_of_not_lt h), List.getElem?_eq_none (by omega)]
      exact ih
def pmF {α : Type} (nu nw : Nat) (pm : List Nat) (us ws : List α) : List α := if us.length = nu ∧ ws.length = nw then permL pm (us ++ ws) else []
abbrev KwC (K : PySem.W.Frag) (fd : FuncData) (ps ks : List Str) (nu nw : Nat) (pm : List Nat) : Prop := KBinds K fd ps ks (pmF nu nw pm) (pmF nu nw pm)
theorem kwc_of {K : PySem.W.Frag} {x qual : Str} {st : Stmt} {f : Addr} {fd : FuncData} {ps ks : List Str} {nu nw : Nat} {pm : List Nat} (F : Fun K x qual st f fd) (hp : 0 < ps.length)
    (h : ∀ (kV doc pm' : Value) (an : Option Addr) (cdv ct : Value) (us ws : List Value), us.length = nu → ws.length = nw → bindArgs (PySem.W.fnOf x qual (defArgs st) (defBody st) (defScope st) .none kV doc pm' an cdv ct) ⟨us, ks.zip ws⟩ = pure (ps.zip (permL pm (us ++ ws)))) : KwC K fd ps ks nu nw pm := by
  obtain ⟨oc, od, kV, doc, pm', an, cdv, ct, osl, rfl, lk, hcd⟩ := F.ex
  refine ⟨fun s us ws _ hl => ?_, fun {vs zs us ws} r rz => ?_⟩
  · unfold pmF at hl ⊢
    split at hl
    · rename_i c
      rw [if_pos c]
      exact .of_eq (h kV doc pm' an cdv ct us ws c.1 c.2)
    · exact absurd hl (by simp only [List.length_nil]; omega)
  · unfold pmF
    rw [r.length, rz.length]
    split
    · exact vals_perm (r.append rz) pm
    · exact .nil
theorem pmF_len {α β : Type} {nu nw : Nat} {pm : List Nat} {as bs : List α} {vs zs : List β} (h1 : as.length = nu) (h2 : bs.length = nw) (e1 : vs.length = as.length) (e2 : zs.length = bs.length) : pmF nu nw pm vs zs = permL pm (vs ++ zs) := by
  unfold pmF
  rw [if_pos ⟨e1.trans h1, e2.trans h2⟩]
def mCallK (f : FM) (nu nw : Nat) (pm : List Nat) (np : Nat) (ms ks : M (List D)) : M D := mBind ms fun as => mBind ks fun bs => fun _ h => if as.length = nu ∧ bs.length = nw ∧ (permL pm (as ++ bs)).length = np then (match f (permL pm (as ++ bs)) h with
  | none => none
  | some (.rt d h') => some (.ok d h')
  | some (.ex c fs h') => some (.ex c fs h')) else none
section
variable {X : Cx} {W : WX} {k np nu nw : Nat} {f : Addr} {fd : FuncData} {ps ks : List Str} {pm : List Nat} {fm : FM} {x : Str} {p pos : Pos} {e : Expr} {es : List Expr} {kws : List Keyword} {ms mk : M (List D)} {σ : L2.St} {H : Hp} {Q : VK}
theorem run_kwc {pins : List (Addr × Obj)} {s : Shared} {us ws : List Value} {vs zs : List V} (F : FnOk X.prog X.w X.K X.mg X.base (L2.CX X.prog X.w) k f fd ps (spF (ctX X) np fm)) (hr : Room k X.A) (hb : KwC X.K fd ps ks nu nw pm) (tk : Takes X W)
    (I : L2.Inv X pins σ H s) (r : Vals vs us) (rz : Vals zs ws) (h : spF (ctX X) np fm (pmF nu nw pm vs zs) H Q (fun cls d H' => W cls d σ H')) : wpAny (model X.prog X.w) X.A (call (.ref f) us (ks.zip ws)) (EP X pins σ Q) X.xe s := by
  have r2 := hb.rel r rz
  have hl : (pmF nu nw pm us ws).length = ps.length := by rw [← r2.length]; exact F.len _ _ _ _ h
  refine wpAny_call (codeAny_mono (F.run X.A X.stack s H ⟨us, ks.zip ws⟩ (pmF nu nw pm us ws) (pmF nu nw pm vs zs) Q _ hr I.env0 (hb.to s us ws I.kIn hl) r2 h) fun r s' hq => ?_)
  cases r with
  | error e => exact passes_at tk σ pins H s e s' I hq
  | ok fl =>
    cases fl with
    | ret u => exact I.after hq
    | next => exact False.elim hq
    | brk => exact False.elim hq
    | cont => exact False.elim hq
theorem e_kwc (F : FnOk X.prog X.w X.K X.mg X.base (L2.CX X.prog X.w) k f fd ps (spF (ctX X) np fm)) (hr : Room k X.A) (hm : X.mg x = some (.ref f)) (hk : PySem.W.keepIn X.K (.ref f) = true) (hb : KwC X.K fd ps ks nu nw pm) (tk : Takes X W) (hg : Gl X x)
    (ha : PA X (e :: es) (rdA X W ms)) (hkw : PK X kws (rdA X W mk)) (hall : (backToKw pos (keywordEach kws X.env)).all (·.1.isSome) = true := by rfl) (hks : (backToKw pos (keywordEach kws X.env)).filterMap (·.1) = ks := by rfl)
    (hdb : (x == ("__debug__" : Str)) = false := by decide) (he : starEach (e :: es) X.env = (false, eval e X.env) :: starEach es X.env := by rfl)
    (hpl : ((backTo pos (starEach (e :: es) X.env)).any (·.1) || (backToKw pos (keywordEach kws X.env)).any (·.1.isNone)) = false := by rfl) :
    PE X (.Call (.Name x p) (e :: es) kws pos) (rd X W (mCallK fm nu nw pm np ms mk)) := by
  refine ⟨fun pins s σ H Q I q => ?_⟩
  refine wpAny_Call_Name_kw (ld_glob I hg hm ?_ hdb)
  have q2 : rdA X W ms σ H fun vs H1 => rdA X W mk σ H1 fun zs H2 => spF (ctX X) np fm (pmF nu nw pm vs zs) H2 Q (fun cls d H' => W cls d σ H') := by
    obtain ⟨ρ, L, μ, h, rel, q⟩ := q
    refine ⟨ρ, L, μ, h, rel, (q.bind rel).imp fun as h1 μ1 H1 g1 _ ⟨_, rel1, q1⟩ vs rs => ⟨ρ, L, μ1, h1, rel1, (q1.bind rel1).imp fun bs h2 μ2 H2 g2 _ ⟨_, rel2, q2⟩ zs rz => ?_⟩⟩
    split at q2
    · rename_i hl
      rw [pmF_len hl.1 hl.2.1 rs.length rz.length]
      exact sp_of hl.2.2 rel2.hr (((rs.go rel1.hr g2).append rz).perm pm) q2
    · exact q2.none
  refine PySem.W.callWith_KW (h₀ := X.base) I.ok.mod.kin hk hall (thn (ha.run pos pins s σ H _ I q2) fun us s1 ⟨vs, H1, I1, r, q⟩ => ?_) hpl he
  refine thn (hkw.run pos pins s1 σ H1 _ I1 q) fun ws s2 ⟨zs, H2, I2, rz, q2⟩ => ⟨I2.kIn, ?_⟩
  rw [hks]
  exact run_kwc F hr hb tk I2 r rz q2
theorem e_kwc0 (F : FnOk X.prog X.w X.K X.mg X.base (L2.CX X.prog X.w) k f fd ps (spF (ctX X) np fm)) (hr : Room k X.A) (hm : X.mg x = some (.ref f)) (hk : PySem.W.keepIn X.K (.ref f) = true) (hb : KwC X.K fd ps ks nu nw pm) (tk : Takes X W) (hg : Gl X x)
    (hkw : PK X kws (rdA X W mk)) (hall : (backToKw pos (keywordEach kws X.env)).all (·.1.isSome) = true := by rfl) (hks : (backToKw pos (keywordEach kws X.env)).filterMap (·.1) = ks := by rfl)
    (hdb : (x == ("__debug__" : Str)) = false := by decide) (hpl : ((backTo pos (starEach [] X.env)).any (·.1) || (backToKw pos (keywordEach kws X.env)).any (·.1.isNone)) = false := by rfl) :
    PE X (.Call (.Name x p) [] kws pos) (rd X W (mCallK fm nu nw pm np mNil mk)) := by
  refine ⟨fun pins s σ H Q I q => ?_⟩
  refine wpAny_Call_Name_kw (ld_glob I hg hm ?_ hdb)
  have q2 : rdA X W mk σ H fun zs H2 => spF (ctX X) np fm (pmF nu nw pm [] zs) H2 Q (fun cls d H' => W cls d σ H') := by
    obtain ⟨ρ, L, μ, h, rel, q⟩ := q
    have q := (q.bind rel) μ H .refl rel.hr
    obtain ⟨_, rel, q⟩ := q
    refine ⟨ρ, L, μ, h, rel, (q.bind rel).imp fun bs h2 μ2 H2 g2 _ ⟨_, rel2, q2⟩ zs rz => ?_⟩
    split at q2
    · rename_i hl
      rw [show pmF nu nw pm ([] : List V) zs = permL pm ([] ++ zs) from pmF_len (as := ([] : List D)) hl.1 hl.2.1 rfl rz.length]
      exact sp_of hl.2.2 rel2.hr (RepL.perm rz pm) q2
    · exact q2.none
  refine PySem.W.callWith_KW0 (h₀ := X.base) I.ok.mod.kin hk hall (thn (hkw.run pos pins s σ H _ I q2) fun ws s1 ⟨zs, H1, I1, rz, q⟩ => ⟨I1.kIn, ?_⟩) hpl
  rw [hks]
  exact run_kwc F hr hb tk I1 .nil rz q
end
/-! ### list(range(..)), tuple(range(..)) -/
theorem repL_ints {C : Ct} {μ : Mu} {H : Hp} : ∀ is : List Int, RepL C μ H (is.map D.int) (is.map V.int)
  | [] => rfl
  | i :: is => ⟨.int i, is.map V.int, rfl, rfl, repL_ints is⟩
def rgI (a b : Int) : List Int := (List.range (b - a).toNat).map fun i => a + (i : Nat)
theorem rgV_I (a b : Int) : rgV a b = (rgI a b).map V.int := by unfold rgV rgI; rw [List.map_map]; rfl
def rgOkB (a b : Int) : Bool := decide (-1000000 ≤ a ∧ a ≤ 1000000 ∧ -1000000 ≤ b ∧ b ≤ 1000000)
theorem rgOk_of {a b : Int} (h : rgOkB a b = true) : RgOk a b := by
  unfold rgOkB at h
  have := of_decide_eq_true h
  unfold RgOk
  omega
def dRg1 (g : List D → Nv) (_ : Hs) (d : D) : Option Nv := match d with
  | .int n => if rgOkB 0 n = true then some (g ((rgI 0 n).map .int)) else none
  | _ => none
def dRg2 (g : List D → Nv) (_ : Hs) (d e : D) : Option Nv := match d, e with
  | .int m, .int n => if rgOkB m n = true then some (g ((rgI m n).map .int)) else none
  | _, _ => none
def dRgL1 := dRg1 fun ds => .n (.lst ds)
def dRgT1 := dRg1 fun ds => .v (.tup ds)
def dRgL2 := dRg2 fun ds => .n (.lst ds)
def dRgT2 := dRg2 fun ds => .v (.tup ds)
section
variable {X : Cx} {W : WX} {C : Ct} {a b : Expr} {ma mb : M D} {pos p p2 pos2 : Pos}
theorem cov_rg1 {g : List D → Nv} {o : List V → HO} (k : ∀ (is : List Int) (μ : Mu) (H : Hp) (Q : VK) (q : Addr), Want C μ H (g (is.map .int)) Q → H q = none → Q (.ref q) (upd H q (o (is.map V.int)))) : Cov1 C (fun x H Q => ∃ n, x = .int n ∧ RgOk 0 n ∧ ∀ q, H q = none → Q (.ref q) (upd H q (o (rgV 0 n)))) (dRg1 g) := by
  intro H L μ h x d n Q hr r1 hf want
  unfold dRg1 at hf
  split at hf
  · split at hf
    · rename_i h; cases hf
      cases (show x = V.int _ from r1)
      exact ⟨_, rfl, rgOk_of h, fun q hq => by rw [rgV_I]; exact k _ _ _ _ q want hq⟩
    · cases hf
  · cases hf
theorem cov_rg2 {g : List D → Nv} {o : List V → HO} (k : ∀ (is : List Int) (μ : Mu) (H : Hp) (Q : VK) (q : Addr), Want C μ H (g (is.map .int)) Q → H q = none → Q (.ref q) (upd H q (o (is.map V.int)))) : Cov2 C (fun x y H Q => ∃ m n, x = .int m ∧ y = .int n ∧ RgOk m n ∧ ∀ q, H q = none → Q (.ref q) (upd H q (o (rgV m n)))) (dRg2 g) := by
  intro H L μ h x y d e n Q hr r1 r2 hf want
  unfold dRg2 at hf
  split at hf
  · split at hf
    · rename_i h; cases hf
      cases (show x = V.int _ from r1)
      cases (show y = V.int _ from r2)
      exact ⟨_, _, rfl, rfl, rgOk_of h, fun q hq => by rw [rgV_I]; exact k _ _ _ _ q want hq⟩
    · cases hf
  · cases hf
theorem cov_rgL1 : Cov1 C (fun x H Q => ∃ n, x = .int n ∧ RgOk 0 n ∧ ∀ q, H q = none → Q (.ref q) (upd H q (.lst (rgV 0 n)))) dRgL1 := cov_rg1 fun is μ H Q q w hq => w.lst (repL_ints _) hq
theorem cov_rgT1 : Cov1 C (fun x H Q => ∃ n, x = .int n ∧ RgOk 0 n ∧ ∀ q, H q = none → Q (.ref q) (upd H q (.tup (rgV 0 n)))) dRgT1 := cov_rg1 fun is μ H Q q w hq => w.tup (repL_ints _) hq
theorem cov_rgL2 : Cov2 C (fun x y H Q => ∃ m n, x = .int m ∧ y = .int n ∧ RgOk m n ∧ ∀ q, H q = none → Q (.ref q) (upd H q (.lst (rgV m n)))) dRgL2 := cov_rg2 fun is μ H Q q w hq => w.lst (repL_ints _) hq
theorem cov_rgT2 : Cov2 C (fun x y H Q => ∃ m n, x = .int m ∧ y = .int n ∧ RgOk m n ∧ ∀ q, H q = none → Q (.ref q) (upd H q (.tup (rgV m n)))) dRgT2 := cov_rg2 fun is μ H Q q w hq => w.tup (repL_ints _) hq
theorem f_listRg1 (hc : X.calm = true) (hg : Gl X "list") (hm : X.mg "list" = none) (hg2 : Gl X "range") (hm2 : X.mg "range" = none) (ha : PE X a (rd X W ma)) (na : starEach [a] X.env = (false, eval a X.env) :: starEach [] X.env := by rfl) (nb : starEach [(.Call (.Name "range" p2) [a] [] pos2)] X.env = (false, eval (.Call (.Name "range" p2) [a] [] pos2) X.env) :: starEach [] X.env := by rfl) :
    PE X (.Call (.Name "list" p) [(.Call (.Name "range" p2) [a] [] pos2)] [] pos) (rd X W (mOp1 dRgL1 ma)) := pe_imp (pe_listRg hc hg hm (prg_1 hg2 hm2 ha na) nb) fun _ _ _ h => rd_op1 cov_rgL1 h
theorem f_listRg2 (hc : X.calm = true) (hg : Gl X "list") (hm : X.mg "list" = none) (hg2 : Gl X "range") (hm2 : X.mg "range" = none) (ha : PE X a (rd X W ma)) (hb : PE X b (rd X W mb)) (na : starEach [a, b] X.env = (false, eval a X.env) :: starEach [b] X.env := by rfl) (nc : starEach [b] X.env = (false, eval b X.env) :: starEach [] X.env := by rfl) (hp : (backTo pos2 (starEach [b] X.env)).any (·.1) = false := by rfl) (nb : starEach [(.Call (.Name "range" p2) [a, b] [] pos2)] X.env = (false, eval (.Call (.Name "range" p2) [a, b] [] pos2) X.env) :: starEach [] X.env := by rfl) :
    PE X (.Call (.Name "list" p) [(.Call (.Name "range" p2) [a, b] [] pos2)] [] pos) (rd X W (mOp2 dRgL2 ma mb)) := pe_imp (pe_listRg hc hg hm (prg_2 hg2 hm2 ha hb na nc hp) nb) fun _ _ _ h => rd_op2 cov_rgL2 h
theorem f_tupleRg1 (hc : X.calm = true) (hg : Gl X "tuple") (hm : X.mg "tuple" = none) (hg2 : Gl X "range") (hm2 : X.mg "range" = none) (ha : PE X a (rd X W ma)) (na : starEach [a] X.env = (false, eval a X.env) :: starEach [] X.env := by rfl) (nb : starEach [(.Call (.Name "range" p2) [a] [] pos2)] X.env = (false, eval (.Call (.Name "range" p2) [a] [] pos2) X.env) :: starEach [] X.env := by rfl) :
    PE X (.Call (.Name "tuple" p) [(.Call (.Name "range" p2) [a] [] pos2)] [] pos) (rd X W (mOp1 dRgT1 ma)) := pe_imp (pe_tupRg hc hg hm (prg_1 hg2 hm2 ha na) nb) fun _ _ _ h => rd_op1 cov_rgT1 h
theorem f_tupleRg2 (hc : X.calm = true) (hg : Gl X "tuple") (hm : X.mg "tuple" = none) (hg2 : Gl X "range") (hm2 : X.mg "range" = none) (ha : PE X a (rd X W ma)) (hb : PE X b (rd X W mb)) (na : starEach [a, b] X.env = (false, eval a X.env) :: starEach [b] X.env := by rfl) (nc : starEach [b] X.env = (false, eval b X.env) :: starEach [] X.env := by rfl) (hp : (backTo pos2 (starEach [b] X.env)).any (·.1) = false := by rfl) (nb : starEach [(.Call (.Name "range" p2) [a, b] [] pos2)] X.env = (false, eval (.Call (.Name "range" p2) [a, b] [] pos2) X.env) :: starEach [] X.env := by rfl) :
    PE X (.Call (.Name "tuple" p) [(.Call (.Name "range" p2) [a, b] [] pos2)] [] pos) (rd X W (mOp2 dRgT2 ma mb)) := pe_imp (pe_tupRg hc hg hm (prg_2 hg2 hm2 ha hb na nc hp) nb) fun _ _ _ h => rd_op2 cov_rgT2 h
end

/-! ### max, min, sum, sorted of ints -/
def intsD : List D → Option (List Int)
  | [] => some []
  | .int i :: ds => (intsD ds).map (i :: ·)
  | _ => none
theorem intsD_ok {C : Ct} {μ : Mu} {H : Hp} : ∀ {ds : List D} {is : List Int} {vs : List V}, RepL C μ H ds vs → intsD ds = some is → vs = is.map V.int
  | [], _, _, h, e => by cases e; exact h
  | d :: ds, is, _, ⟨v, r, rfl, h1, h2⟩, e => by
    cases d with
    | int i =>
      obtain ⟨cs, e1, rfl⟩ := Option.map_eq_some_iff.mp (show (intsD ds).map (i :: ·) = some is from e)
      rw [intsD_ok h2 e1, show v = V.int i from h1]
      rfl
    | _ => cases e
/-- the greatest, the least -/
def mxI : Int → List Int → Int
  | a, [] => a
  | a, b :: r => mxI (if b > a then b else a) r
def mnI : Int → List Int → Int
  | a, [] => a
  | a, b :: r => mnI (if b < a then b else a) r
theorem mxI_mem : ∀ (a : Int) (r : List Int), mxI a r = a ∨ mxI a r ∈ r
  | a, [] => .inl rfl
  | a, b :: r => by
    unfold mxI
    rcases mxI_mem (if b > a then b else a) r with h | h
    · rw [h]; split <;> simp
    · exact .inr (List.mem_cons_of_mem _ h)
theorem mxI_le : ∀ (a : Int) (r : List Int), a ≤ mxI a r ∧ ∀ y ∈ r, y ≤ mxI a r
  | a, [] => ⟨Int.le_refl _, fun _ h => nomatch h⟩
  | a, b :: r => by
    unfold mxI
    obtain ⟨h1, h2⟩ := mxI_le (if b > a then b else a) r
    refine ⟨?_, fun y hy => ?_⟩
    · split at h1 <;> split <;> first | omega | assumption
    · cases hy with
      | head => split at h1 <;> split <;> first | omega | assumption
      | tail _ hy => exact h2 y hy
theorem mnI_mem : ∀ (a : Int) (r : List Int), mnI a r = a ∨ mnI a r ∈ r
  | a, [] => .inl rfl
  | a, b :: r => by
    unfold mnI
    rcases mnI_mem (if b < a then b else a) r with h | h
    · rw [h]; split <;> simp
    · exact .inr (List.mem_cons_of_mem _ h)
theorem mnI_le : ∀ (a : Int) (r : List Int), mnI a r ≤ a ∧ ∀ y ∈ r, mnI a r ≤ y
  | a, [] => ⟨Int.le_refl _, fun _ h => nomatch h⟩
  | a, b :: r => by
    unfold mnI
    obtain ⟨h1, h2⟩ := mnI_le (if b < a then b else a) r
    refine ⟨?_, fun y hy => ?_⟩
    · split at h1 <;> split <;> first | omega | assumption
    · cases hy with
      | head => split at h1 <;> split <;> first | omega | assumption
      | tail _ hy => exact h2 y hy

def dMax2 (_ : Hs) : List D → Option Nv
  | [.int i, .int j] => some (.v (.int (if j > i then j else i)))
  | _ => none
def dMin2 (_ : Hs) : List D → Option Nv
  | [.int i, .int j] => some (.v (.int (if j < i then j else i)))
  | _ => none
/-- the one argument, a list of ints -/
def boxIs (h : Hs) : List D → Option (List Int)
  | [d] => match lstD h d with
    | some ds => intsD ds
    | none => none
  | _ => none
def dMaxL (h : Hs) (ds : List D) : Option Nv := match boxIs h ds with
  | some (i :: is) => some (.v (.int (mxI i is)))
  | _ => none
def dMinL (h : Hs) (ds : List D) : Option Nv := match boxIs h ds with
  | some (i :: is) => some (.v (.int (mnI i is)))
  | _ => none
def dSum (h : Hs) (ds : List D) : Option Nv := match boxIs h ds with
  | some is => some (.v (.int is.sum))
  | _ => none
section
variable {C : Ct} {L : List Nat}
theorem boxIs_ok {μ : Mu} {H : Hp} {h : Hs} (hr : HR C L μ H h) {ds : List D} {xs : List V} {is : List Int} (r : RepL C μ H ds xs) (e : boxIs h ds = some is) : ∃ a, xs = [.ref a] ∧ SqL C.K H a (is.map V.int) := by
  unfold boxIs at e
  split at e
  · split at e
    · rename_i e1
      obtain ⟨x, rfl, q⟩ := r.one
      obtain ⟨a, vs, rfl, t, q⟩ := lstD_ok hr q e1
      rw [intsD_ok q e] at t
      exact ⟨a, rfl, t⟩
    · cases e
  · cases e
theorem cov_max2 : CovA C (fun xs H Q => ∃ i j, xs = [.int i, .int j] ∧ Q (.int (if j > i then j else i)) H) dMax2 := by
  intro H L μ h xs ds n Q hr r1 hf want
  unfold dMax2 at hf
  split at hf
  · cases hf
    obtain ⟨x, y, rfl, h, h'⟩ := r1.two
    cases (show x = V.int _ from h)
    cases (show y = V.int _ from h')
    exact ⟨_, _, rfl, want.old rfl⟩
  · cases hf
theorem cov_min2 : CovA C (fun xs H Q => ∃ i j, xs = [.int i, .int j] ∧ Q (.int (if j < i then j else i)) H) dMin2 := by
  intro H L μ h xs ds n Q hr r1 hf want
  unfold dMin2 at hf
  split at hf
  · cases hf
    obtain ⟨x, y, rfl, h, h'⟩ := r1.two
    cases (show x = V.int _ from h)
    cases (show y = V.int _ from h')
    exact ⟨_, _, rfl, want.old rfl⟩
  · cases hf
theorem mx_is {i m : Int} {is : List Int} (hm : m ∈ i :: is) (hle : ∀ y ∈ i :: is, y ≤ m) : m = mxI i is := by
  have h1 := mxI_le i is
  have h2 := hle (mxI i is) (by rcases mxI_mem i is with h | h <;> simp [h])
  rcases List.mem_cons.mp hm with hm | hm
  · have := h1.1; omega
  · have := h1.2 m hm; omega
theorem mn_is {i m : Int} {is : List Int} (hm : m ∈ i :: is) (hle : ∀ y ∈ i :: is, m ≤ y) : m = mnI i is := by
  have h1 := mnI_le i is
  have h2 := hle (mnI i is) (by rcases mnI_mem i is with h | h <;> simp [h])
  rcases List.mem_cons.mp hm with hm | hm
  · have := h1.1; omega
  · have := h1.2 m hm; omega
theorem cov_maxL : CovA C (rMax C.K) dMaxL := by
  intro H L μ h xs ds n Q hr r1 hf want
  unfold dMaxL at hf
  split at hf
  · rename_i i is e; cases hf
    obtain ⟨a, rfl, t⟩ := boxIs_ok hr r1 e
    refine ⟨a, _, rfl, t, by simp, fun m hm hle => ?_⟩
    rw [mx_is hm hle]
    exact want.old rfl
  · cases hf
theorem cov_minL : CovA C (rMin C.K) dMinL := by
  intro H L μ h xs ds n Q hr r1 hf want
  unfold dMinL at hf
  split at hf
  · rename_i i is e; cases hf
    obtain ⟨a, rfl, t⟩ := boxIs_ok hr r1 e
    refine ⟨a, _, rfl, t, by simp, fun m hm hle => ?_⟩
    rw [mn_is hm hle]
    exact want.old rfl
  · cases hf
theorem cov_sum : CovA C (rSum C.K) dSum := by
  intro H L μ h xs ds n Q hr r1 hf want
  unfold dSum at hf
  split at hf
  · rename_i is e; cases hf
    obtain ⟨a, rfl, t⟩ := boxIs_ok hr r1 e
    exact ⟨a, _, rfl, t, want.old rfl⟩
  · cases hf
/-- ints in order -/
def insI (a : Int) : List Int → List Int
  | [] => [a]
  | b :: r => if a ≤ b then a :: b :: r else b :: insI a r
def srtI : List Int → List Int
  | [] => []
  | a :: r => insI a (srtI r)
theorem insI_perm (a : Int) : ∀ r, (insI a r).Perm (a :: r)
  | [] => .refl _
  | b :: r => by
    unfold insI
    split
    · exact .refl _
    · exact ((insI_perm a r).cons b).trans (.swap a b r)
theorem srtI_perm : ∀ r, (srtI r).Perm r
  | [] => .refl _
  | a :: r => (insI_perm a (srtI r)).trans ((srtI_perm r).cons a)
theorem insI_srt (a : Int) : ∀ {r : List Int}, r.Pairwise (· ≤ ·) → (insI a r).Pairwise (· ≤ ·)
  | [], _ => by simp [insI]
  | b :: r, h => by
    have hb : ∀ y ∈ r, b ≤ y := fun y hy => List.rel_of_pairwise_cons h hy
    have ht := List.Pairwise.of_cons h
    unfold insI
    split
    · rename_i hab
      refine .cons (fun y hy => ?_) h
      rcases List.mem_cons.mp hy with rfl | hy
      · exact hab
      · exact Int.le_trans hab (hb _ hy)
    · rename_i hab
      refine .cons (fun y hy => ?_) (insI_srt a ht)
      rcases List.mem_cons.mp ((insI_perm a r).mem_iff.mp hy) with rfl | hy
      · omega
      · exact hb _ hy
theorem srtI_srt : ∀ r, (srtI r).Pairwise (· ≤ ·)
  | [] => .nil
  | a :: r => insI_srt a (srtI_srt r)
theorem srt_uniq {xs ys : List Int} (p : xs.Perm ys) (h1 : xs.Pairwise (· ≤ ·)) (h2 : ys.Pairwise (· ≤ ·)) : xs = ys := p.eq_of_pairwise (fun a b _ _ h h' => Int.le_antisymm h h') h1 h2
def dSorted (h : Hs) (ds : List D) : Option Nv := match boxIs h ds with
  | some is => some (.n (.lst ((srtI is).map .int)))
  | _ => none
theorem cov_sorted : CovA C (rSortedI C.K) dSorted := by
  intro H L μ h xs ds n Q hr r1 hf want
  unfold dSorted at hf
  split at hf
  · rename_i is e; cases hf
    obtain ⟨a, rfl, t⟩ := boxIs_ok hr r1 e
    refine ⟨a, _, rfl, t, fun ns p hp hs hq => ?_⟩
    rw [srt_uniq (hp.trans (srtI_perm is).symm) hs (srtI_srt is)]
    exact want.lst (repL_ints _) hq
  · cases hf
end
def dMaxA : Hs → List D → Option Nv := fun h d => match dMax2 h d with | some n => some n | none => dMaxL h d
def dMinA : Hs → List D → Option Nv := fun h d => match dMin2 h d with | some n => some n | none => dMinL h d
section
variable {X : Cx} {W : WX} {e : Expr} {es : List Expr} {ms : M (List D)} {pos p : Pos}
theorem f_max (hc : X.calm = true) (hg : Gl X "max") (hm : X.mg "max" = none) (ha : PA X (e :: es) (rdA X W ms)) (he : starEach (e :: es) X.env = (false, eval e X.env) :: starEach es X.env := by rfl) (hpl : (backTo pos (starEach es X.env)).any (·.1) = false := by rfl) :
    PE X (.Call (.Name "max" p) (e :: es) [] pos) (rd X W (mOpA dMaxA ms)) := e_callB (CallR.or (call_max2 hc) (cr_max hc)) (cov_max2.or cov_maxL) boot_max hg hm ha (by decide) (by decide) he hpl
theorem f_min (hc : X.calm = true) (hg : Gl X "min") (hm : X.mg "min" = none) (ha : PA X (e :: es) (rdA X W ms)) (he : starEach (e :: es) X.env = (false, eval e X.env) :: starEach es X.env := by rfl) (hpl : (backTo pos (starEach es X.env)).any (·.1) = false := by rfl) :
    PE X (.Call (.Name "min" p) (e :: es) [] pos) (rd X W (mOpA dMinA ms)) := e_callB (CallR.or (call_min2 hc) (cr_min hc)) (cov_min2.or cov_minL) boot_min hg hm ha (by decide) (by decide) he hpl
theorem f_sum (hc : X.calm = true) (hg : Gl X "sum") (hm : X.mg "sum" = none) (ha : PA X (e :: es) (rdA X W ms)) (he : starEach (e :: es) X.env = (false, eval e X.env) :: starEach es X.env := by rfl) (hpl : (backTo pos (starEach es X.env)).any (·.1) = false := by rfl) :
    PE X (.Call (.Name "sum" p) (e :: es) [] pos) (rd X W (mOpA dSum ms)) := e_callB (cr_sum hc) cov_sum boot_sum hg hm ha (by decide) (by decide) he hpl
theorem f_sorted (hv : bootBuiltins "sorted" = some (.builtin "sorted")) (hg : Gl X "sorted") (hm : X.mg "sorted" = none) (ha : PA X (e :: es) (rdA X W ms)) (he : starEach (e :: es) X.env = (false, eval e X.env) :: starEach es X.env := by rfl) (hpl : (backTo pos (starEach es X.env)).any (·.1) = false := by rfl) :
    PE X (.Call (.Name "sorted" p) (e :: es) [] pos) (rd X W (mOpA dSorted ms)) := e_callB cr_sortedI cov_sorted hv hg hm ha (by decide) (by decide) he hpl
end
end Rh

set_option Elab.async false
set_option linter.all false
set_option maxRecDepth 100000
set_option maxHeartbeats 2000000
set_option autoImplicit false
namespace Rh
open PySem PySem.Spec PyProof.Rows L2

/-! ### methods -/
/-- what an object's class is, by its content -/
abbrev TyOk (X : Cx) (T : String) (ty : V → Hp → Prop) : Prop := ∀ {pins : List (Addr × Obj)} {σ : L2.St} {H : Hp} {s : Shared} {x : V} {v : Value}, L2.Inv X pins σ H s → RelV x v → ty x H → s.TypeIs v T ∧ ∀ a, v = .ref a → ∃ ob, s.heap.get? a = some ob ∧ ob.dict = none
def tBMt (ty : V → Hp → Prop) (r : V → List V → Hp → VK → Prop) (to : TE) (t : TA) : TE := fun σ H Q => to σ H fun x H1 => ty x H1 ∧ t σ H1 fun xs H2 => r x xs H2 Q
section
variable {X : Cx} {o e : Expr} {es : List Expr} {to : TE} {t : TA} {name : Str} {apos cpos : Pos} {T id : String} {r : V → List V → Hp → VK → Prop} {ty : V → Hp → Prop}
theorem pe_bmt (pa : PlainAttrs T) (slot : Slot T name id) (hty : typeOf (.builtin id) = pure (.type "method_descriptor")) (htv : TyOk X T ty) (hm : MtR X id r) (ho : PE X o to) (ha : PA X (e :: es) t)
    (hbase : attributeBase o name X.env (eval o X.env) = eval o X.env := by rfl)
    (hfew : ((backTo cpos (starEach (e :: es) X.env)).all (fun x => !x.1) && (backToKw cpos (keywordEach [] X.env)).all (fun x => x.1.isSome) && decide ((e :: es).length + ([] : List Keyword).length + (if ([] : List Keyword).isEmpty then 0 else 1) < 30)) = true := by rfl)
    (hline : (apos.endLine == cpos.line) = true := by rfl) (hs : starEach (e :: es) X.env = (false, eval e X.env) :: starEach es X.env := by rfl) (hplain : (backTo cpos (starEach es X.env)).any (·.1) = false := by rfl) :
    PE X (.Call (.Attribute o name apos) (e :: es) [] cpos) (tBMt ty r to t) := by
  refine ⟨fun pins s σ H Q I q => wpAny_Call_method_late hbase hfew hline rfl (thn (ho.run pins s σ H _ I q) fun v s1 ⟨x, H1, I1, r1, tx, q1⟩ => ?_)⟩
  obtain ⟨c1, c2⟩ := htv I1 r1 tx
  have hA := ha.run cpos pins s1 σ H1 _ I1 q1
  refine ⟨T, id, pa, slot, hty, c1, c2, ?_⟩
  rw [hs] at hA ⊢
  exact Calls.callWith_builtin (by show (false || (backTo cpos (starEach es X.env)).any (·.1)) = false; rw [hplain] <;> rfl) (Calls.evalArgs_plain (thn hA fun us s2 ⟨vs, H2, I2, r2, q2⟩ => hm pins s2 σ H2 x vs v us Q I2 r1 r2 q2))
theorem pe_bmt0 (pa : PlainAttrs T) (slot : Slot T name id) (hty : typeOf (.builtin id) = pure (.type "method_descriptor")) (htv : TyOk X T ty) (hm : MtR X id r) (ho : PE X o to)
    (hbase : attributeBase o name X.env (eval o X.env) = eval o X.env := by rfl) (hline : (apos.endLine == cpos.line) = true := by rfl) : PE X (.Call (.Attribute o name apos) [] [] cpos) (fun σ H Q => to σ H fun x H1 => ty x H1 ∧ r x [] H1 Q) := by
  refine ⟨fun pins s σ H Q I q => wpAny_Call_method0_late hbase hline (thn (ho.run pins s σ H _ I q) fun v s1 ⟨x, H1, I1, r1, tx, q1⟩ => ?_)⟩
  obtain ⟨c1, c2⟩ := htv I1 r1 tx
  exact ⟨T, id, pa, slot, hty, c1, c2, Calls.callWith_builtin rfl (PySem.evalArgs_none (hm pins s1 σ H1 x [] v [] Q I1 r1 .nil q1))⟩
theorem tyList : TyOk X "list" (tyV X.K "list") := fun I r t => tyV_is I r t
end
def mMeth (ck : Hs → D → Bool) (f : Hs → D → List D → Option (D × Hs)) (m : M D) (ms : M (List D)) : M D := mBind m fun d => fun ρ h => match ck h d with
  | true => mBind ms (fun ds => fun _ h => match f h d ds with
    | some (d', h') => some (.ok d' h')
    | none => none) ρ h
  | false => none
/-- a method's mirror: the class that is asked for, and what it does -/
structure CovM (C : Ct) (ty : V → Hp → Prop) (r : V → List V → Hp → VK → Prop) (ck : Hs → D → Bool) (f : Hs → D → List D → Option (D × Hs)) : Prop where
  ty : ∀ {L : List Nat} {μ : Mu} {H : Hp} {h : Hs} {d : D} {x : V}, HR C L μ H h → RepV C μ H d x → ck h d = true → ty x H
  run : ∀ {L : List Nat} {μ : Mu} {H : Hp} {h : Hs} {d : D} {x : V} {ds : List D} {xs : List V} {d' : D} {h' : Hs} {Q : VK}, HR C L μ H h → RepV C μ H d x → RepL C μ H ds xs → f h d ds = some (d', h') → (∀ y μ' H', Go L μ H μ' H' → HR C L μ' H' h' → RepV C μ' H' d' y → Q y H') → r x xs H Q
section
variable {X : Cx} {W : WX} {σ : L2.St} {H : Hp} {Q : VK} {ty : V → Hp → Prop} {r : V → List V → Hp → VK → Prop} {ck : Hs → D → Bool} {f : Hs → D → List D → Option (D × Hs)} {m : M D} {ms : M (List D)}
theorem rd_meth (c : CovM (ctX X) ty r ck f) (q : rd X W (mMeth ck f m ms) σ H Q) : tBMt ty r (rd X W m) (rdA X W ms) σ H Q := by
  obtain ⟨ρ, L, μ, h, rel, q⟩ := q
  refine ⟨ρ, L, μ, h, rel, (q.bind rel).imp fun d h1 μ1 H1 g1 _ ⟨_, rel1, q1⟩ x rx => ?_⟩
  cases ek : ck h1 d with
  | false => simp only [ek] at q1; exact q1.none
  | true =>
    simp only [ek] at q1
    refine ⟨c.ty rel1.hr rx ek, ρ, L, μ1, h1, rel1, (q1.bind rel1).imp fun ds h2 μ2 H2 g2 _ ⟨_, rel2, q2⟩ xs rs => ?_⟩
    split at q2
    · rename_i d' h' e
      exact c.run rel2.hr (rx.go rel1.hr g2) rs e fun y μ' H' g r' ry => q2 μ' H' g r' y ry
    · exact q2.none
theorem rd_meth0 (c : CovM (ctX X) ty r ck f) (q : rd X W (mMeth ck f m mNil) σ H Q) : rd X W m σ H fun x H1 => ty x H1 ∧ r x [] H1 Q := by
  obtain ⟨ρ, L, μ, h, rel, q⟩ := q
  refine ⟨ρ, L, μ, h, rel, (q.bind rel).imp fun d h1 μ1 H1 g1 _ ⟨_, rel1, q1⟩ x rx => ?_⟩
  cases ek : ck h1 d with
  | false => simp only [ek] at q1; exact q1.none
  | true =>
    simp only [ek] at q1
    obtain ⟨_, rel2, q2⟩ := (q1.bind rel1) μ1 H1 .refl rel1.hr
    refine ⟨c.ty rel1.hr rx ek, ?_⟩
    split at q2
    · rename_i d' h' e
      exact c.run rel2.hr rx (ds := []) rfl e fun y μ' H' g r' ry => q2 μ' H' g r' y ry
    · exact q2.none
end
def ckL (h : Hs) (d : D) : Bool := match d with
  | .box n => match h.get n with
    | some (.lst _) => true
    | _ => false
  | _ => false
theorem ckL_ok {C : Ct} {L : List Nat} {μ : Mu} {H : Hp} {h : Hs} {d : D} {x : V} (hr : HR C L μ H h) (rx : RepV C μ H d x) (e : ckL h d = true) : tyV C.K "list" x H := by
  unfold ckL at e
  split at e
  · split at e
    · rename_i e0
      obtain ⟨a, vs, rfl, _, t, _⟩ := hr.lst rx e0
      exact .inl ⟨rfl, vs, .inl (.inl t)⟩
    · cases e
  · cases e
def fAppend (h : Hs) (d : D) (ds : List D) : Option (D × Hs) := match d, ds with
  | .box n, [x] => (match h.get n with
    | some (.lst es) => if es.length < 1000000 then (match h.set n (.lst (es ++ [x])) with
      | some h' => some (.non, h')
      | none => none) else none
    | _ => none)
  | _, _ => none
def fPopAt (h : Hs) (d : D) (ds : List D) : Option (D × Hs) := match d, ds with
  | .box n, [.int j] => (match h.get n with
    | some (.lst es) => if -1000000 ≤ j ∧ j ≤ 1000000 then (match ixN es.length j with
      | some k => (match es[k]? with
        | some x => (match h.set n (.lst (es.eraseIdx k)) with
          | some h' => some (x, h')
          | none => none)
        | none => none)
      | none => none) else none
    | _ => none)
  | _, _ => none
def fPop (h : Hs) (d : D) (ds : List D) : Option (D × Hs) := match d, ds with
  | .box n, [] => (match h.get n with
    | some (.lst es) => (match es[es.length - 1]? with
        | some x => (match h.set n (.lst es.dropLast) with
          | some h' => some (x, h')
          | none => none)
        | none => none)
    | _ => none)
  | _, _ => none
def fExtend (h : Hs) (d : D) (ds : List D) : Option (D × Hs) := match d, ds with
  | .box n, [.box m] => (match h.get n, h.get m with
    | some (.lst es), some (.lst us) => if es.length + us.length ≤ 1000000 then (match h.set n (.lst (es ++ us)) with
      | some h' => some (.non, h')
      | none => none) else none
    | _, _ => none)
  | _, _ => none
section
variable {C : Ct} {L : List Nat} {μ : Mu} {H : Hp} {h h' : Hs}
/-- a list box changed -/
theorem HR.setL (hr : HR C L μ H h) {n : Nat} {a : Addr} {ds : List D} {vs : List V} (m : μ[n]? = some a) (e : h.set n (.lst ds) = some h') (rl : RepL C μ H ds vs) : HR C L μ (L2.upd H a (.lst vs)) h' ∧ Go L μ H μ (L2.upd H a (.lst vs)) ∧ Stay μ H μ (L2.upd H a (.lst vs)) := by
  have st := stay_upd hr m (.lst vs)
  obtain ⟨r', g⟩ := hr.upd (ho := .lst vs) (o := .lst ds) m ⟨vs, upd_same, rl.stay st⟩ e
  exact ⟨r', g, st⟩
theorem RepL.dropLast {ds : List D} {vs : List V} (q : RepL C μ H ds vs) : RepL C μ H ds.dropLast vs.dropLast := by
  rw [List.dropLast_eq_take, List.dropLast_eq_take, q.length]
  exact q.take _
theorem cov_append : CovM C (tyV C.K "list") rAppend ckL fAppend := ⟨ckL_ok, fun {L μ H h d x ds xs d' h' Q} hr rx rs e k => by
  unfold fAppend at e
  split at e
  · rename_i n y
    split at e
    · rename_i es e0
      split at e
      · rename_i hl
        split at e
        · rename_i h2 e2
          cases e
          obtain ⟨a, vs, rfl, m, t, rl⟩ := hr.lst rx e0
          obtain ⟨v, rfl, rv⟩ := rs.one
          obtain ⟨r', g, st⟩ := hr.setL (vs := vs ++ [v]) m e2 (rl.append ⟨v, [], rfl, rv, rfl⟩)
          exact ⟨a, vs, v, rfl, rfl, t, by rw [rl.length]; exact small6' hl, k _ _ _ g r' rfl⟩
        · cases e
      · cases e
    · cases e
  · cases e⟩
theorem cov_popAt : CovM C (tyV C.K "list") rPopAt ckL fPopAt := ⟨ckL_ok, fun {L μ H h d x ds xs d' h' Q} hr rx rs e k => by
  unfold fPopAt at e
  split at e
  · rename_i n j
    split at e
    · rename_i es e0
      split at e
      · rename_i hj
        split at e
        · rename_i i ei
          split at e
          · rename_i y ey
            split at e
            · rename_i h2 e2
              cases e
              obtain ⟨a, vs, rfl, m, t, rl⟩ := hr.lst rx e0
              obtain ⟨v, rfl, rv⟩ := rs.one
              cases (show v = V.int j from rv)
              obtain ⟨u, eu, ru⟩ := rl.get ey
              obtain ⟨r', g, st⟩ := hr.setL (vs := vs.eraseIdx i) m e2 (rl.eraseIdx i)
              exact ⟨a, vs, j, i, u, rfl, rfl, t, by omega, by omega, by rw [rl.length]; exact (ixN_seq ei).1, eu, k _ _ _ g r' (ru.stay st)⟩
            · cases e
          · cases e
        · cases e
      · cases e
    · cases e
  · cases e⟩
theorem cov_pop : CovM C (tyV C.K "list") rPop ckL fPop := ⟨ckL_ok, fun {L μ H h d x ds xs d' h' Q} hr rx rs e k => by
  unfold fPop at e
  split at e
  · rename_i n
    split at e
    · rename_i es e0
      split at e
      · rename_i y ey
        split at e
        · rename_i h2 e2
          cases e
          obtain ⟨a, vs, rfl, m, t, rl⟩ := hr.lst rx e0
          obtain ⟨u, eu, ru⟩ := rl.get ey
          obtain ⟨r', g, st⟩ := hr.setL (vs := vs.dropLast) m e2 rl.dropLast
          exact ⟨a, vs, u, rfl, rs, t, by rw [rl.length]; exact eu, k _ _ _ g r' (ru.stay st)⟩
        · cases e
      · cases e
    · cases e
  · cases e⟩
theorem cov_extend : CovM C (tyV C.K "list") rExtend ckL fExtend := ⟨ckL_ok, fun {L μ H h d x ds xs d' h' Q} hr rx rs e k => by
  unfold fExtend at e
  split at e
  · rename_i n m
    split at e
    · rename_i es us e0 e1
      split at e
      · rename_i hl
        split at e
        · rename_i h2 e2
          cases e
          obtain ⟨a, vs, rfl, ma, t, rl⟩ := hr.lst rx e0
          obtain ⟨v, rfl, rv⟩ := rs.one
          obtain ⟨b, ws, rfl, mb, t2, rl2⟩ := hr.lst rv e1
          obtain ⟨r', g, st⟩ := hr.setL (vs := vs ++ ws) ma e2 (rl.append rl2)
          exact ⟨a, b, vs, ws, rfl, rfl, t, t2, by rw [rl.length, rl2.length]; exact small6 hl, k _ _ _ g r' rfl⟩
        · cases e
      · cases e
    · cases e
  · cases e⟩
end
section
variable {X : Cx} {W : WX} {o e : Expr} {es : List Expr} {m : M D} {ms : M (List D)} {apos cpos : Pos}
theorem e_append (ho : PE X o (rd X W m)) (ha : PA X (e :: es) (rdA X W ms)) (hbase : attributeBase o "append" X.env (eval o X.env) = eval o X.env := by rfl)
    (hfew : ((backTo cpos (starEach (e :: es) X.env)).all (fun x => !x.1) && (backToKw cpos (keywordEach [] X.env)).all (fun x => x.1.isSome) && decide ((e :: es).length + ([] : List Keyword).length + (if ([] : List Keyword).isEmpty then 0 else 1) < 30)) = true := by rfl)
    (hline : (apos.endLine == cpos.line) = true := by rfl) (hs : starEach (e :: es) X.env = (false, eval e X.env) :: starEach es X.env := by rfl) (hplain : (backTo cpos (starEach es X.env)).any (·.1) = false := by rfl) :
    PE X (.Call (.Attribute o "append" apos) (e :: es) [] cpos) (rd X W (mMeth ckL fAppend m ms)) :=
  pe_imp (pe_bmt PySem.F.plainAttrs_list PySem.F.slot_list_append PySem.F.type_list_append tyList mt_append ho ha hbase hfew hline hs hplain) fun σ H Q q => rd_meth cov_append q
theorem e_popAt (ho : PE X o (rd X W m)) (ha : PA X (e :: es) (rdA X W ms)) (hbase : attributeBase o "pop" X.env (eval o X.env) = eval o X.env := by rfl)
    (hfew : ((backTo cpos (starEach (e :: es) X.env)).all (fun x => !x.1) && (backToKw cpos (keywordEach [] X.env)).all (fun x => x.1.isSome) && decide ((e :: es).length + ([] : List Keyword).length + (if ([] : List Keyword).isEmpty then 0 else 1) < 30)) = true := by rfl)
    (hline : (apos.endLine == cpos.line) = true := by rfl) (hs : starEach (e :: es) X.env = (false, eval e X.env) :: starEach es X.env := by rfl) (hplain : (backTo cpos (starEach es X.env)).any (·.1) = false := by rfl) :
    PE X (.Call (.Attribute o "pop" apos) (e :: es) [] cpos) (rd X W (mMeth ckL fPopAt m ms)) :=
  pe_imp (pe_bmt PySem.F.plainAttrs_list PySem.F.slot_list_pop PySem.F.type_list_pop tyList mt_popAt ho ha hbase hfew hline hs hplain) fun σ H Q q => rd_meth cov_popAt q
theorem e_pop0 (ho : PE X o (rd X W m)) (hbase : attributeBase o "pop" X.env (eval o X.env) = eval o X.env := by rfl) (hline : (apos.endLine == cpos.line) = true := by rfl) :
    PE X (.Call (.Attribute o "pop" apos) [] [] cpos) (rd X W (mMeth ckL fPop m mNil)) :=
  pe_imp (pe_bmt0 PySem.F.plainAttrs_list PySem.F.slot_list_pop PySem.F.type_list_pop tyList mt_pop ho hbase hline) fun σ H Q q => rd_meth0 cov_pop q
theorem e_extend (ho : PE X o (rd X W m)) (ha : PA X (e :: es) (rdA X W ms)) (hbase : attributeBase o "extend" X.env (eval o X.env) = eval o X.env := by rfl)
    (hfew : ((backTo cpos (starEach (e :: es) X.env)).all (fun x => !x.1) && (backToKw cpos (keywordEach [] X.env)).all (fun x => x.1.isSome) && decide ((e :: es).length + ([] : List Keyword).length + (if ([] : List Keyword).isEmpty then 0 else 1) < 30)) = true := by rfl)
    (hline : (apos.endLine == cpos.line) = true := by rfl) (hs : starEach (e :: es) X.env = (false, eval e X.env) :: starEach es X.env := by rfl) (hplain : (backTo cpos (starEach es X.env)).any (·.1) = false := by rfl) :
    PE X (.Call (.Attribute o "extend" apos) (e :: es) [] cpos) (rd X W (mMeth ckL fExtend m ms)) :=
  pe_imp (pe_bmt PySem.F.plainAttrs_list PySem.F.slot_list_extend PySem.F.type_list_extend tyList mt_extend ho ha hbase hfew hline hs hplain) fun σ H Q q => rd_meth cov_extend q
end
/-! ### op= -/
def mAug (i : Nat) (f : Int → Int → Int) (m : M D) : MS := fun ρ h => match ρ[i]? with
  | some (some d) => mDo m (fun e => fun ρ h => match d, e with
    | .int a, .int b => some (.nx (ρ.set i (some (.int (f a b)))) h)
    | _, _ => none) ρ h
  | _ => none
section
variable {X : Cx} {W : WX} {m mo mi : M D}
theorem s_aug {i : Nat} {x : Str} {e : Expr} {op : Operator} {f : Int → Int → Int} {pos pos' : Pos} (hN : X.N.Nodup) (hi : X.N[i]? = some x) (hx : Loc X.env.scope x) (he : PE X e (rd X W m)) (ho : PIp X op (ipI f))
    (hf : X.fn x = true ∨ X.env.scope.names.lookup x = some .local := by first | exact .inl rfl | exact .inr rfl | assumption) : PS X (.AugAssign (.Name x pos') op e pos) (rdS X W (mAug i f m)) := by
  refine ps_imp (ps_aug hN hi hx he ho hf) fun D σ H ⟨ρ, L, μ, h, rel, q⟩ => ?_
  unfold mAug at q
  split at q
  · rename_i d ed
    obtain ⟨v, e1, rv⟩ := rel.val i d ed
    refine ⟨v, e1, ρ, L, μ, h, rel, (SatS.bind rel q).imp fun e h1 μ1 H1 g1 _ ⟨rel1, q1⟩ y ry => ?_⟩
    split at q1
    · exact ⟨_, _, rv, ry, q1 _ μ1 H1 .refl (rel1.set rfl)⟩
    · exact q1.none
  · exact q.none
/-- an item of a list, by a place from 0 on -/
def rGetL (K : PySem.W.Frag) : V → V → Hp → VK → Prop := fun o i H Q => ∃ p xs k v, o = .ref p ∧ i = .int k ∧ SqL K H p xs ∧ 0 ≤ k ∧ xs[k.toNat]? = some v ∧ Q v H
theorem get_list : PGet X (rGetL X.K) := by
  intro pins s σ H o i ov iv Q I ro ri h
  obtain ⟨p, xs, k, v, rfl, rfl, hq, hk, e, q⟩ := h
  cases ro
  obtain ⟨tk, rfl⟩ := ri
  obtain ⟨its, rv, pl, hz⟩ := I.list hq
  obtain ⟨w, hw, rw'⟩ := rv.get e
  have hl := rv.length
  have hlt := (List.getElem?_eq_some_iff.mp e).1
  have hn := line63
  exact wpAny_getItem_list pl.isList hk (by omega) (by simpa using hw) ⟨v, H, I, rw', q⟩
def getL (h : Hs) (c k : D) : Option D := match lstD h c, k with
  | some ds, .int j => if 0 ≤ j then ds[j.toNat]? else none
  | _, _ => none
def mAugS (f : Int → Int → Int) (mo mi m : M D) : MS := mDo mo fun c => mDo mi fun k => fun ρ h => match getL h c k with
  | some old => mDo m (fun e => fun ρ h => match old, e with
    | .int a, .int b => (match putD h c k (.int (f a b)) with
      | some h' => some (.nx ρ h')
      | none => none)
    | _, _ => none) ρ h
  | _ => none
theorem s_augS {o i e : Expr} {op : Operator} {f : Int → Int → Int} {pos tpos : Pos} (hu : X.A.units + 65 < cLine) (ho : PE X o (rd X W mo)) (hi : PE X i (rd X W mi)) (he : PE X e (rd X W m)) (hp : PIp X op (ipI f))
    (ha : ∀ ov iv new, augStore i ov iv new = (do holding [new, ov, iv] (setItem ov iv new); release [new, ov, iv] []; pure .next) := by intros; rfl) : PS X (.AugAssign (.Subscript o i tpos) op e pos) (rdS X W (mAugS f mo mi m)) := by
  refine ps_imp (ps_augS ho hi get_list he hp (PSet.or' set_list (set_dct hu)) ha) fun D σ H q => rdG_imp (rdS_bind q) fun ρ L c h1 μ1 H1 ⟨rel1, q1⟩ x rx => ?_
  refine ⟨ρ, L, μ1, h1, rel1, (SatS.bind rel1 q1).imp fun k h2 μ2 H2 g2 _ ⟨rel2, q2⟩ y ry => ?_⟩
  split at q2
  · rename_i old eo
    unfold getL at eo
    split at eo
    · rename_i ds j ed _
      split at eo
      · rename_i hj
        obtain ⟨a, vs, rfl, t, rl⟩ := lstD_ok rel2.hr (rx.go rel1.hr g2) ed
        cases (show y = V.int j from ry)
        obtain ⟨v, ev, rv⟩ := rl.get eo
        refine ⟨a, vs, j, v, rfl, rfl, t, hj, ev, ρ, L, μ2, h2, rel2, (SatS.bind rel2 q2).imp fun e h3 μ3 H3 g3 _ ⟨rel3, q3⟩ z rz => ?_⟩
        split at q3
        · rename_i p q _
          split at q3
          · rename_i h4 e4
            refine ⟨p, q, rv, rz, ?_⟩
            exact put_ok rel3.hr (rx.go rel1.hr (g2.trans g3)) (show RepV (ctX X) μ3 H3 (.int j) (.int j) from rfl) (show RepV (ctX X) μ3 H3 (.int (f p q)) (.int (f p q)) from rfl) e4 fun μ4 H4 g4 r4 => q3 σ μ4 H4 g4 (rel3.go g4 r4)
          · exact q3.none
        · exact q3.none
      · cases eo
    · cases eo
  · exact q2.none
end
end Rh

set_option Elab.async false
set_option linter.all false
set_option maxRecDepth 100000
set_option maxHeartbeats 2000000
set_option autoImplicit false
namespace Rh
open PySem PySem.Spec PyProof.Rows L2
/-! ### floor division, powers, products of wide numbers, tuple * int -/
def dFdv : Hs → D → D → Option Nv := dIntC (fun i j => decide (0 < j ∧ j.natAbs.log2 < 9000)) fun i j => .int (i / j)
def dPow : Hs → D → D → Option Nv := dIntC (fun i j => decide (0 ≤ j ∧ j ≤ 1000000 ∧ i.natAbs < 2 ^ 64)) fun i j => .int (i ^ j.toNat)
def dRepT (_ : Hs) (d e : D) : Option Nv := match d, e with
  | .tup [], .int k => none
  | .tup (a :: as), .int k => if 2 ≤ k ∧ k ≤ 1000 ∧ as.length < 1000 then some (.v (.tup (List.replicate k.toNat (a :: as)).flatten)) else none
  | _, _ => none
theorem cov_repT {C : Ct} : Cov2 C (rRepT C.K) dRepT := by
  intro H L μ h x y d e n Q hr r1 r2 hf want
  unfold dRepT at hf
  split at hf
  · cases hf
  · rename_i a as k
    split at hf
    · rename_i hl
      cases hf
      obtain ⟨p, vs, rfl, t1, q1⟩ := r1
      have l1 := q1.length
      refine ⟨p, k, vs, rfl, r2, t1.sq, ?_, hl.1, hl.2.1, ?_, fun q hq => want.tup (q1.rep _) hq⟩
      · rintro rfl
        simp at l1
      · rw [l1, List.length_cons]; exact hl.2.2
    · cases hf
  · cases hf
theorem tuple_mul0 (l : Addr) (items : Array Value) (n : Nat) (dd : Option Addr) (sl : Array (Option Value)) (x : Int) (u : Tok) (c0 : (decide (x < -(2 ^ 63)) || decide (x ≥ 2 ^ 63)) = false) (c1 : (items.isEmpty || x == 1) = false) (c2 : (decide (x ≤ 0) || items.isEmpty) = true) :
    Meets (Builtin.«tuple.__mul__» ⟨[.ref l, .int x u], []⟩) (fun _ R s => s.heap.get? l = some { cls := .type "tuple", dict := dd, data := .seq items n, slots := sl } ∧
      R (.ok (.ret (Value.ref s.heap.objs.size))) { s with heap := s.heap.push { cls := Value.type "tuple", data := Data.seq #[] }, toks := s.toks }) :=
  .of_wp fun prog w A R s h => by
    obtain ⟨hp, g, d, tk, os⟩ := s
    obtain ⟨hl, h⟩ := h
    have f1 := AutoSeq1.idx_int
    wp_walk using wpAny_loadPart' hl
    repeat (first
      | (refine wpAny_ite_false (decide_eq_false (by rw [c0]; exact Bool.false_ne_true)) ?_; wp_walk using wpAny_loadPart' hl)
      | (refine wpAny_ite_false (decide_eq_false (by rw [c1]; exact Bool.false_ne_true)) ?_; wp_walk using wpAny_loadPart' hl)
      | (refine wpAny_ite_true (decide_eq_true c2) ?_; wp_walk using wpAny_loadPart' hl))
    exact ⟨_, rfl, h⟩
theorem tuple_mul1 (l : Addr) (items : Array Value) (n : Nat) (dd : Option Addr) (sl : Array (Option Value)) (x : Int) (u : Tok) (c0 : (decide (x < -(2 ^ 63)) || decide (x ≥ 2 ^ 63)) = false) (c1 : (items.isEmpty || x == 1) = true) :
    Meets (Builtin.«tuple.__mul__» ⟨[.ref l, .int x u], []⟩) (fun _ R s => s.heap.get? l = some { cls := .type "tuple", dict := dd, data := .seq items n, slots := sl } ∧
      R (.ok (.ret (Value.ref l))) s) :=
  .of_wp fun prog w A R s h => by
    obtain ⟨hp, g, d, tk, os⟩ := s
    obtain ⟨hl, h⟩ := h
    have f1 := AutoSeq1.idx_int
    wp_walk using wpAny_loadPart' hl
    repeat (first
      | (refine wpAny_ite_false (decide_eq_false (by rw [c0]; exact Bool.false_ne_true)) ?_; wp_walk using wpAny_loadPart' hl)
      | (refine wpAny_ite_true (decide_eq_true c1) ?_; wp_walk using wpAny_loadPart' hl))
    exact ⟨_, rfl, h⟩
/-- tuple * int where nothing is repeated -/
def rRep1 (K : PySem.W.Frag) : R2 := fun x y H Q => ∃ l k xs, x = .ref l ∧ y = .int k ∧ SqT K H l xs ∧ -1000 ≤ k ∧ k ≤ 1000 ∧ (xs = [] ∨ k ≤ 1) ∧ ((xs = [] ∨ k = 1) → Q (.ref l) H) ∧ (xs ≠ [] → k ≤ 0 → ∀ p, H p = none → Q (.ref p) (upd H p (.tup [])))
theorem op_rep1 {X : Cx} : OpR X (binaryOp .Mult) (rRep1 X.K) := by
  intro pins s σ H x y v u Q I rx ry h
  obtain ⟨l, k, xs, rfl, rfl, hT, h1, h2, h3, qa, qb⟩ := h
  cases rx
  obtain ⟨t, rfl⟩ := ry
  obtain ⟨its, r, ⟨⟨cls, dd, data, sl⟩, ho, hc, n, hd⟩, hs⟩ := I.tuple hT
  simp only at hc hd
  subst hc hd
  have hle : its.length = xs.length := r.length.symm
  have c0 : (decide (k < -(2 ^ 63)) || decide (k ≥ 2 ^ 63)) = false := by
    rw [decide_eq_false (by omega), decide_eq_false (by omega)] <;> rfl
  have hi : its.toArray.isEmpty = decide (xs = []) := by
    cases its with
    | nil => rw [List.eq_nil_of_length_eq_zero hle.symm]; rfl
    | cons a b =>
      cases xs with
      | nil => simp at hle
      | cons c d => simp
  by_cases hz : xs = [] ∨ k = 1
  · have c1 : (its.toArray.isEmpty || k == 1) = true := by
      rw [hi]
      rcases hz with hz | hz
      · simp [hz]
      · simp [hz]
    refine wpAny_binaryOp_repeat_ref (T := "tuple") (U := "int") (by decide) ⟨_, ho, rfl⟩ (fun s' => typeIs_int s' k t) noFill_tuple_mul F.fills_int_mul F.slot_int_rmul repeat_tuple F.slot_int_index.lookup
      (call_meets F.slot_int_rmul (typeIs_int s k t) F.entry_int_rmul (F.args_int_rmul_2 _ _) (int_rmul_tuple k t l its.toArray n dd sl)
        ⟨ho, rfl, ⟨_, ho, rfl⟩, call_meets F.slot_tuple_mul ⟨_, ho, rfl⟩ F.entry_tuple_mul (F.args_tuple_mul_2 _ _) (tuple_mul1 l its.toArray n dd sl k t c0 c1) ⟨ho, ?_⟩⟩)
    exact ⟨.ref l, H, I, rfl, qa hz⟩
  · have hne : xs ≠ [] := fun e => hz (.inl e)
    have hk : k ≤ 0 := by
      have : k ≠ 1 := fun e => hz (.inr e)
      have : k ≤ 1 := by
        rcases h3 with h3 | h3
        · exact absurd h3 hne
        · exact h3
      omega
    have c1 : (its.toArray.isEmpty || k == 1) = false := by
      rw [hi, decide_eq_false hne, Bool.false_or]
      exact beq_eq_false_iff_ne.mpr (by omega)
    have c2 : (decide (k ≤ 0) || its.toArray.isEmpty) = true := by rw [decide_eq_true hk]; rfl
    refine wpAny_binaryOp_repeat_ref (T := "tuple") (U := "int") (by decide) ⟨_, ho, rfl⟩ (fun s' => typeIs_int s' k t) noFill_tuple_mul F.fills_int_mul F.slot_int_rmul repeat_tuple F.slot_int_index.lookup
      (call_meets F.slot_int_rmul (typeIs_int s k t) F.entry_int_rmul (F.args_int_rmul_2 _ _) (int_rmul_tuple k t l its.toArray n dd sl)
        ⟨ho, rfl, ⟨_, ho, rfl⟩, call_meets F.slot_tuple_mul ⟨_, ho, rfl⟩ F.entry_tuple_mul (F.args_tuple_mul_2 _ _) (tuple_mul0 l its.toArray n dd sl k t c0 c1 c2) ⟨ho, ?_⟩⟩)
    refine ⟨.ref s.heap.objs.size, _, I.laid (t' := s.toks) (o := .tup []) (fun b ob q => Heap.get?_push_of_some _ q) (Nat.le_refl _) ?_, rfl, qb hne hk _ (I.hok.fresh (Nat.le_refl _))⟩
    exact ⟨by rw [sizeLine_eq]; simp, [], .nil, IsTup.new _ _⟩
def dRep1 (_ : Hs) (d e : D) : Option Nv := match d, e with
  | .tup [], .int k => if -1000 ≤ k ∧ k ≤ 1000 then some (.v (.tup [])) else none
  | .tup (a :: as), .int k => if -1000 ≤ k ∧ k ≤ 0 then some (.v (.tup [])) else if k = 1 then some (.v (.tup (a :: as))) else none
  | _, _ => none
theorem cov_rep1 {C : Ct} : Cov2 C (rRep1 C.K) dRep1 := by
  intro H L μ h x y d e n Q hr r1 r2 hf want
  unfold dRep1 at hf
  split at hf
  · rename_i k
    split at hf
    · rename_i hl
      cases hf
      obtain ⟨p, vs, rfl, t1, q1⟩ := r1
      cases (show vs = [] from q1)
      exact ⟨p, k, [], rfl, r2, t1.sq, hl.1, hl.2, .inl rfl, fun _ => want.old ⟨p, [], rfl, t1, rfl⟩, fun z => absurd rfl z⟩
    · cases hf
  · rename_i a as k
    obtain ⟨p, vs, rfl, t1, q1⟩ := r1
    have hne : vs ≠ [] := by
      rintro rfl
      have := q1.length
      simp at this
    split at hf
    · rename_i hl
      cases hf
      exact ⟨p, k, vs, rfl, r2, t1.sq, hl.1, by omega, .inr (by omega), fun z => False.elim (by rcases z with z | z; exact hne z; omega), fun _ _ q hq => want.tup (show RepL C μ H [] [] from rfl) hq⟩
    · split at hf
      · rename_i hl
        subst hl
        cases hf
        exact ⟨p, 1, vs, rfl, r2, t1.sq, by decide, by decide, .inr (by decide), fun _ => want.old ⟨p, vs, rfl, t1, q1⟩, fun _ z => absurd z (by decide)⟩
      · cases hf
  · cases hf
def okMul (i j : Int) : Bool := decide ((Builtin.Int.intBits i : Int) + (Builtin.Int.intBits j : Int) ≤ 134217728)
def dMulW : Hs → D → D → Option Nv := fun h d e => match dIntC okMul (fun i j => .int (i * j)) h d e with | some n => some n | none => (fun h d e => match dRepL h d e with | some n => some n | none => (fun h d e => match dRepT h d e with | some n => some n | none => dRep1 h d e) h d e) h d e
section
variable {X : Cx} {W : WX} {a b : Expr} {ma mb : M D} {pos : Pos}
theorem b_fdv (ha : PE X a (rd X W ma)) (hb : PE X b (rd X W mb)) : PE X (.BinOp a .FloorDiv b pos) (rd X W (mOp2 dFdv ma mb)) := e_bin op_fdivW (cov_rI (fun _ _ h => by simpa [CDivW, CPow] using h) fun _ _ => rfl) ha hb
theorem b_pow (ha : PE X a (rd X W ma)) (hb : PE X b (rd X W mb)) : PE X (.BinOp a .Pow b pos) (rd X W (mOp2 dPow ma mb)) := e_bin op_pow (cov_rI (fun _ _ h => by simpa [CDivW, CPow] using h) fun _ _ => rfl) ha hb
theorem cov_mulW {C : Ct} : Cov2 C (rI CMulX fun i j => .int (i * j)) (dIntC okMul fun i j => .int (i * j)) :=
  cov_rI (fun _ _ h => by have := of_decide_eq_true h; exact this) fun _ _ => rfl
theorem b_mulW (ha : PE X a (rd X W ma)) (hb : PE X b (rd X W mb)) : PE X (.BinOp a .Mult b pos) (rd X W (mOp2 dMulW ma mb)) := e_bin (OpR.or' op_mulX (OpR.or' op_rep (OpR.or' op_repT op_rep1))) (cov_mulW.or (cov_repL.or (cov_repT.or cov_rep1))) ha hb
end
/-! ### several names at once -/
def putL : En → List Nat → List D → Option En
  | ρ, [], [] => some ρ
  | ρ, i :: is, d :: ds => putL (ρ.set i (some d)) is ds
  | _, _, _ => none
def mPar (is : List Nat) (ms : M (List D)) : MS := mDo ms fun ds => fun ρ h => match putL ρ is ds with
  | some ρ' => some (.nx ρ' h)
  | none => none
section
variable {X : Cx} {W : WX}
theorem s_par {i j : Nat} {x y : Str} {a b : Expr} {px py pt pos : Pos} {kt k2 pt2} {ms : M (List D)} (hc : X.calm = true) (hN : X.N.Nodup) (hi : X.N[i]? = some x) (hj : X.N[j]? = some y) (hij : i ≠ j)
    (hx : X.env.scope.names.lookup x = some .local) (hy : X.env.scope.names.lookup y = some .local) (ha : PA X [a, b] (rdA X W ms))
    (hw : swappedStores [.Tuple [.Name x px, .Name y py] kt pt] (.Tuple [a, b] k2 pt2) X.env = pure (some [x, y]) := by rfl)
    (hs : swapsWithSole [.Tuple [.Name x px, .Name y py] kt pt] (.Tuple [a, b] k2 pt2) pos.line X.env = pure false := by rfl) :
    PS X (.Assign [.Tuple [.Name x px, .Name y py] kt pt] (.Tuple [a, b] k2 pt2) pos) (rdS X W (mPar [i, j] ms)) :=
  ps_imp (ps_par hc hN hi hj hij hx hy ha hw hs) fun D σ H q => rdG_imp (rdS_bind q) fun ρ L ds h1 μ1 H1 ⟨rel1, q1⟩ xs rx => by
    match ds, rx with
    | [d, e], ⟨v, r, e1, rv, u, r2, e2, ru, e3⟩ =>
      subst e3 e2 e1
      exact ⟨v, u, rfl, q1 _ μ1 H1 .refl ((rel1.set rv).set ru)⟩
    | [], _ => exact False.elim q1
    | [d], _ => exact False.elim q1
    | d :: e :: g :: r, _ => exact False.elim q1
theorem s_par3 {i j l : Nat} {x y z : Str} {a b c : Expr} {px py pz pt pos : Pos} {kt k2 pt2} {ms : M (List D)} (hc : X.calm = true) (hN : X.N.Nodup) (hi : X.N[i]? = some x) (hj : X.N[j]? = some y) (hl : X.N[l]? = some z) (hij : i ≠ j) (hil : i ≠ l) (hjl : j ≠ l)
    (hx : X.env.scope.names.lookup x = some .local) (hy : X.env.scope.names.lookup y = some .local) (hz : X.env.scope.names.lookup z = some .local) (ha : PA X [a, b, c] (rdA X W ms))
    (hw : swappedStores [.Tuple [.Name x px, .Name y py, .Name z pz] kt pt] (.Tuple [a, b, c] k2 pt2) X.env = pure (some [x, y, z]) := by rfl)
    (hs : swapsWithSole [.Tuple [.Name x px, .Name y py, .Name z pz] kt pt] (.Tuple [a, b, c] k2 pt2) pos.line X.env = pure false := by rfl) :
    PS X (.Assign [.Tuple [.Name x px, .Name y py, .Name z pz] kt pt] (.Tuple [a, b, c] k2 pt2) pos) (rdS X W (mPar [i, j, l] ms)) :=
  ps_imp (ps_par3 hc hN hi hj hl hij hil hjl hx hy hz ha hw hs) fun D σ H q => rdG_imp (rdS_bind q) fun ρ L ds h1 μ1 H1 ⟨rel1, q1⟩ xs rx => by
    match ds, rx with
    | [d, e, g], ⟨v, r, e1, rv, u, r2, e2, ru, t, r3, e3, rt, e4⟩ =>
      subst e4 e3 e2 e1
      exact ⟨v, u, t, rfl, q1 _ μ1 H1 .refl (((rel1.set rv).set ru).set rt)⟩
    | [], _ => exact False.elim q1
    | [d], _ => exact False.elim q1
    | [d, e], _ => exact False.elim q1
    | d :: e :: g :: k :: r, _ => exact False.elim q1
end
theorem gs_c {X : Cx} {e : Expr} {es : List Expr} {t : TM} {ts : TMs} {v1 v2 v : List Nat} (h1 : PG X e (rdTg X t v1)) (h2 : PGs X es (rdTgs X ts v2)) (hv : v1 ++ v2 = v := by rfl)
    (hs : (assignEach (e :: es) X.env).map (·.2) = assign e X.env :: (assignEach es X.env).map (·.2) := by rfl) : PGs X (e :: es) (rdTgs X (tsCons t ts) v) := by
  subst hv
  exact gs_cons h1 h2 hs
/-! ### the law's end -/
def spLaw (K : PySem.W.Frag) : Sp := fun vs H Q _ => ∃ (a : Addr) (ns : List Int), vs = [.ref a] ∧ ns.length ≤ 63 ∧ (∀ z ∈ ns, Builtin.Int.intBits z ≤ 1048576) ∧ Only H ∧ SqL K H a (ns.map V.int) ∧ ∀ H', Q (.bl true) H'
theorem scr_of {K : PySem.W.Frag} {H : Hp} {a : Addr} {xs : List V} (hO : Only H) (h : SqL K H a xs) : ScrAt K H a xs := by
  rcases h with (h | ⟨o, h⟩) | h
  · rcases hO a with q | ⟨o, ys, q⟩
    · rw [h] at q; cases q
    · rw [h] at q; cases q
  · exact .inl ⟨o, h⟩
  · exact .inr h
def h0 : Hs := ⟨0, .nil, []⟩
theorem hr0 {C : Ct} {H : Hp} : HR C [] [] H h0 := by
  constructor <;> simp [h0, Hs.get, Tr.get]
theorem law_ok {P : Program} {w : World} {K : PySem.W.Frag} {mg : Str → Option Value} {base : Heap} {ps : List Str} {k : Nat} {f : Addr} {fd : FuncData} {fm : FM} (F : FnOk P w K mg base (L2.CX P w) k f fd ps (spF ⟨w, K, mg⟩ 1 fm))
    (hm : ∀ ns : List Int, ns.length ≤ 63 → (∀ z ∈ ns, Builtin.Int.intBits z ≤ 1048576) → ∃ h, fm [.scr (ns.map D.int)] h0 = some (.rt (.bl true) h)) : FnOk P w K mg base (L2.CX P w) k f fd ps (spLaw K) := by
  refine F.imp fun vs H Q E ⟨a, ns, ev, hl, hb, hO, hS, q⟩ => ?_
  subst ev
  obtain ⟨h, e⟩ := hm ns hl hb
  refine ⟨[], [], h0, [.scr (ns.map D.int)], rfl, ⟨_, _, rfl, ⟨a, _, rfl, scr_of hO hS, repL_ints ns⟩, rfl⟩, hr0, ?_⟩
  rw [e]
  intro x μ' H' g r rx
  cases (show x = V.bl true from rx)
  exact q H'
theorem cx_false {P : Program} {w : World} {outer : List PySem.Env} {H : Hp} {s : Shared} {e : Value} {s' : Shared} (h : L2.CX P w outer H s (fun _ _ _ => False) e s') : False := by
  obtain ⟨_, _, _, _, _, _, _, _, _, _, _, _, z⟩ := h
  exact z
end Rh

set_option Elab.async false
set_option linter.all false
set_option maxRecDepth 100000
set_option maxHeartbeats 2000000
set_option autoImplicit false
namespace Rh
open PySem PySem.Spec PyProof.Rows L2
/-! ### d.setdefault(k, v), keys ints, texts, bools, None -/
section
variable {P : Program} {w : World} {a : Addr} {ku : Value}
theorem meets_setd_raw (l : Leaf) (hl : Leaf.isOf l ku = true) (hs : (a == sysModules) = false) (vu : Value) :
    MeetsIn P w (Builtin.«dict.setdefault» ⟨[.ref a, ku, vu], []⟩) (fun _ R s => ∃ ep rs, RawD w s.heap a ep rs ∧ KL rs ∧ rs.length < sizeLine ∧ (∀ v, getR rs l.key = some v → R (.ok (.ret v)) { s with toks := s.toks + 1 }) ∧
      (getR rs l.key = none → ∀ h' ep', RawD w h' a ep' (putR rs l.key ku vu) → Heap.SameBut a s.heap h' → R (.ok (.ret vu)) { s with heap := h', toks := s.toks + 1 })) :=
  .of_wp fun A R s ⟨ep, rs, x, kl, hz, h1, h2⟩ => by
    have D := x.leaf (P := P) kl
    have hT := D.typeIs
    obtain ⟨o, ho, hc, hd⟩ := x.at_
    have hko : KeysOf (leafKind P w) (rs.map (ent w)).toArray := fun e he => by
      obtain ⟨r, hr, rfl⟩ := List.mem_map.mp (List.mem_toArray.mp he)
      obtain ⟨h1, h2⟩ := key_toLeaf kl hr
      exact ⟨toLeaf r.1, h2, by show NestedKey.hash w r.1 = NestedKey.hash w (toLeaf r.1).key; rw [h1]⟩
    have hkey : (leafKind P w).is l ku = true := hl
    have nd2 := put_nodup (k := l.key) (ku := ku) (vu := vu) x.nd
    have sz2 : (putR rs l.key ku vu).length ≤ sizeLine := Nat.le_trans put_len hz
    unfold Builtin.«dict.setdefault»
    refine wpAny_bind ?_
    unfold Builtin.Dict.keyAndDefault
    refine wpAny_bind (wpAny_notOrdered_dict hT ?_)
    show wpAny _ _ (pure (a, ku, some vu)) _ _ s
    refine wpAny_pure ?_
    show wpAny _ _ (if (a == sysModules) = true then _ else (dictSetDefault a ku vu >>= _)) _ _ s
    rw [if_neg (by rw [hs]; exact Bool.false_ne_true)]
    refine wpAny_bind ?_
    unfold dictSetDefault
    try with_reducible refine wpAny_holding ?_
    refine wpAny_bind ((leafKind P w).pyHash hkey ?_)
    refine wpAny_bind (wpAny_dictFind_of (s := { s with toks := s.toks + 1 }) hkey ho hd hko ?_)
    have hidx := idx_arr (P := P) (w := w) kl l
    cases hi : idxK (rs.map (·.1)) l.key with
    | some i =>
      have hi2 : ((rs.map fun e => (⟨e.1.hash w, e.2.1, e.2.2⟩ : DictEntry)).toArray.findIdx? fun e => (leafKind P w).is l e.key) = some i := hidx.trans hi
      rw [hi2]
      refine wpAny_bind (wpAny_dictEntries (s := { s with toks := s.toks + 1 }) ho hd ?_)
      have hlt : i < rs.length := by
        have := (Array.findIdx?_eq_some_iff_findIdx_eq.mp hi2).1
        simpa using this
      have he : ((rs.map fun e => (⟨e.1.hash w, e.2.1, e.2.2⟩ : DictEntry)).toArray)[i]? = some ⟨(rs[i]).1.hash w, (rs[i]).2.1, (rs[i]).2.2⟩ := by
        simp [hlt]
      rw [he]
      refine wpAny_bind (wpAny_rule (wpAny_pure (wpAny_pure ⟨_, rfl, h1 (rs[i]).2.2 ?_⟩)))
      unfold getR
      rw [hi]
      show (rs[i]?).map (·.2.2) = _
      rw [List.getElem?_eq_getElem hlt]
      rfl
    | none =>
      have hi2 : ((rs.map fun e => (⟨e.1.hash w, e.2.1, e.2.2⟩ : DictEntry)).toArray.findIdx? fun e => (leafKind P w).is l e.key) = none := hidx.trans hi
      rw [hi2]
      refine wpAny_bind (wpAny_rule (wpAny_bind (wpAny_updateDictKeys (hz := by simp; exact Nat.le_of_lt hz) (s := { s with toks := s.toks + 1 }) ho hd (wpAny_pure (wpAny_pure ⟨_, rfl, h2 (by unfold getR; rw [hi]; rfl) _ (ep + 1) ⟨x.sys, sz2, ⟨_, Heap.get?_update_self _ ho (Obj.isFreed_of_dict (Obj.data_mapDictKeys hd _)),
        hc.mapDictKeys _, ?_⟩, nd2⟩ (Heap.SameBut.update ..)⟩)))))
      rw [Obj.data_mapDictKeys hd _, put_none hi, List.map_append]
      simp
      rfl
end
def rSetd (C : Ct) : V → List V → Hp → VK → Prop := fun x xs H Q => ∃ (μ : Mu) (a : Addr) (es : Nat × List EV) (nks : List NestedKey) (ks : List D) (kd : D) (nk : NestedKey) (op : Option Nat) (i v : V), x = .ref a ∧ xs = [i, v] ∧ H a = some (DicO C.w a es) ∧ es.2.map (·.1) = nks ∧ keysD ks = some nks ∧ RepL C μ H ks (es.2.map (·.2.1)) ∧
  RepV C μ H kd i ∧ keyD kd = some nk ∧ idxD nks kd = some op ∧ leafK nk = true ∧ ks.length < 1000000 ∧ (∀ j e, op = some j → es.2[j]? = some e → Q e.2.2 H) ∧ (op = none → ∀ ep', Q v (upd H a (DicO C.w a (ep', putV es.2 none nk i v))))
section
variable {X : Cx}
theorem leaf_no {l : Leaf} {b : Addr} : ¬ Leaf.isOf l (.ref b) = true := fun h => by
  cases l <;> exact nomatch h
theorem mt_setd : MtR X "dict.setdefault" (rSetd (ctX X)) := by
  intro pins s σ H x xs u us Q I rx rs h
  obtain ⟨μ, a, es, nks, ks, kd, nk, op, i, v, rfl, rfl, ea, en, ek, rk, ri, ekd, ei, lf, hl, q1, q2⟩ := h
  cases rx
  obtain ⟨ku, vu, rfl, rku, rvu⟩ := vals2 rs
  obtain ⟨rws, x, p⟩ := dict_raw I ea
  obtain ⟨nk', e1, kf, hi⟩ := key_for I en ek rk p ri rku ei
  rw [ekd] at e1; cases e1
  have hlen : rws.length = ks.length := by
    rw [← Paired.length p, ← rk.length, List.length_map]
  rcases kf with ⟨kl, l, rfl, hl2⟩ | ⟨kt, b, rfl, hb, dp⟩
  · have D := x.leaf (P := X.prog) kl
    refine call_meetsIn PySem.F.slot_dict_setdefault D.typeIs PySem.F.entry_dict_setdefault (PySem.F.args_dict_setdefault_3 _ _ _) (meets_setd_raw l hl2 x.sys vu) ⟨es.1, rws, x, kl, by rw [hlen, sizeLine_eq]; omega, fun w hw => ?_, fun hn h' ep' x' sb => ?_⟩
    · unfold getR at hw
      rw [hi] at hw
      cases op with
      | none => cases hw
      | some j =>
        obtain ⟨r, er, rfl⟩ := Option.map_eq_some_iff.mp (show (rws[j]?).map (·.2.2) = some w from hw)
        obtain ⟨e, ee, z1, z2, z3⟩ := paired_get p er
        exact ⟨e.2.2, H, I.tok _, z3, q1 j e rfl ee⟩
    · unfold getR at hn
      rw [hi] at hn
      cases op with
      | some j =>
        exfalso
        have hj : j < rws.length := by
          have := (List.findIdx?_eq_some_iff_findIdx_eq.mp hi).1
          simpa using this
        have : (rws[j]?).map (·.2.2) = none := hn
        rw [List.getElem?_eq_getElem hj] at this
        cases this
      | none =>
        obtain ⟨o', ho', _⟩ := x'.at_
        exact ⟨v, _, I.write (t' := s.toks + 1) (x := a) (e := a) (by rw [ea]; exact True.intro) (.inl rfl) (fun b ob hb e => (sb.2 b hb).trans e) ⟨o', ho'⟩ (dict_ok x' (put_paired p hi rku rvu)), rvu, q2 rfl ep'⟩
  · obtain ⟨l, _, hl2⟩ := leaf_of hb lf
    exact absurd hl2 leaf_no
def tyDc (w : World) : V → Hp → Prop := fun x H => ∃ a es, x = .ref a ∧ H a = some (DicO w a es)
theorem tyDict : TyOk X "dict" (tyDc X.w) := fun {pins σ H s x v} I r t => by
  obtain ⟨a, es, rfl, e⟩ := t
  cases r
  obtain ⟨rs, x, p⟩ := dict_raw I e
  obtain ⟨o, ho, hc, hd⟩ := x.at_
  exact ⟨⟨o, ho, hc.1⟩, fun b eb => by cases eb; exact ⟨o, ho, hc.2.1⟩⟩
end
def ckD (h : Hs) (d : D) : Bool := match d with
  | .box n => (match h.get n with
    | some (.dct _ _ _) => true
    | _ => false)
  | _ => false
theorem ckD_ok {C : Ct} {L : List Nat} {μ : Mu} {H : Hp} {h : Hs} {d : D} {x : V} (hr : HR C L μ H h) (rx : RepV C μ H d x) (e : ckD h d = true) : tyDc C.w x H := by
  unfold ckD at e
  split at e
  · split at e
    · rename_i e0
      obtain ⟨a, rfl, m, es, ea, _⟩ := hr.dctO rx e0
      exact ⟨a, es, rfl, ea⟩
    · cases e
  · cases e
def fSetd (h : Hs) (d : D) (ds : List D) : Option (D × Hs) := match d, ds with
  | .box n, [k, v] => (match h.get n with
    | some (.dct nks ks vs) => (match idxD nks k, keyD k with
      | some (some j), some nk => if leafK nk = true ∧ ks.length < 1000000 then (vs[j]?).map fun v => (v, h) else none
      | some none, some nk => if leafK nk = true ∧ ks.length < 1000000 then (h.set n (.dct (nks ++ [nk]) (ks ++ [k]) (vs ++ [v]))).map fun h => (v, h) else none
      | _, _ => none)
    | _ => none)
  | _, _ => none
theorem cov_setd {C : Ct} : CovM C (tyDc C.w) (rSetd C) ckD fSetd := ⟨ckD_ok, fun {L μ H h d x ds xs d' h' Q} hr rx rs e k => by
  unfold fSetd at e
  split at e
  · rename_i n kd vd
    split at e
    · rename_i nks ks vs e0
      obtain ⟨a, rfl, m, es, ea, en, ek, rk, rv⟩ := hr.dctO rx e0
      obtain ⟨i, r1, rfl, ri, v, r2, rfl, rvv, rfl⟩ := rs
      split at e
      · rename_i j nk ei ekd
        split at e
        · rename_i hl
          obtain ⟨dv, edv, ep⟩ := Option.map_eq_some_iff.mp e
          cases ep
          refine ⟨μ, a, es, nks, ks, kd, nk, some j, i, v, rfl, rfl, ea, en, ek, rk, ri, ekd, ei, hl.1, hl.2, fun j' e' ej ee => ?_, fun z => nomatch z⟩
          cases ej
          obtain ⟨y, ey, ry⟩ := rv.get edv
          rw [List.getElem?_map, ee] at ey
          cases ey
          exact k _ μ H .refl hr ry
        · cases e
      · rename_i nk ei ekd
        split at e
        · rename_i hl
          obtain ⟨h2, e2, ep⟩ := Option.map_eq_some_iff.mp e
          cases ep
          refine ⟨μ, a, es, nks, ks, kd, nk, none, i, v, rfl, rfl, ea, en, ek, rk, ri, ekd, ei, hl.1, hl.2, fun j' e' ej => (nomatch ej), fun _ ep' => ?_⟩
          have st := stay_upd (C := C) hr m (DicO C.w a (ep', putV es.2 none nk i v))
          have hp : putV es.2 none nk i v = es.2 ++ [(nk, i, v)] := rfl
          have ob : ObR C μ (L2.upd H a (DicO C.w a (ep', putV es.2 none nk i v))) a (.dct (nks ++ [nk]) (ks ++ [kd]) (vs ++ [d'])) := by
            refine ⟨_, upd_same, ?_, keysD_snoc ek ekd, ?_, ?_⟩
            · rw [hp, List.map_append, en]; rfl
            · rw [hp, List.map_append]
              exact (rk.stay st).append ⟨i, [], rfl, ri.stay st, rfl⟩
            · rw [hp, List.map_append]
              exact (rv.stay st).append ⟨v, [], rfl, rvv.stay st, rfl⟩
          obtain ⟨r', g⟩ := hr.upd m ob e2
          exact k _ _ _ g r' (rvv.stay st)
        · cases e
      · cases e
    · cases e
  · cases e⟩
section
variable {X : Cx} {W : WX} {o e f : Expr} {es : List Expr} {m : M D} {ms : M (List D)} {apos cpos : Pos}
theorem e_setdefault (ho : PE X o (rd X W m)) (ha : PA X (e :: es) (rdA X W ms)) (hbase : attributeBase o "setdefault" X.env (eval o X.env) = eval o X.env := by rfl)
    (hfew : ((backTo cpos (starEach (e :: es) X.env)).all (fun x => !x.1) && (backToKw cpos (keywordEach [] X.env)).all (fun x => x.1.isSome) && decide ((e :: es).length + ([] : List Keyword).length + (if ([] : List Keyword).isEmpty then 0 else 1) < 30)) = true := by rfl)
    (hline : (apos.endLine == cpos.line) = true := by rfl) (hs : starEach (e :: es) X.env = (false, eval e X.env) :: starEach es X.env := by rfl) (hplain : (backTo cpos (starEach es X.env)).any (·.1) = false := by rfl) :
    PE X (.Call (.Attribute o "setdefault" apos) (e :: es) [] cpos) (rd X W (mMeth ckD fSetd m ms)) :=
  pe_imp (pe_bmt PySem.F.plainAttrs_dict PySem.F.slot_dict_setdefault PySem.F.type_dict_setdefault tyDict mt_setd ho ha hbase hfew hline hs hplain) fun σ H Q q => rd_meth cov_setd q
end
/-! ### sorted(a dict with int keys) -/
def rSortD (C : Ct) : List V → Hp → VK → Prop := fun xs H Q => ∃ (a : Addr) (es : Nat × List EV) (ks : List Int), xs = [.ref a] ∧ H a = some (DicO C.w a es) ∧ es.2.map (·.2.1) = ks.map V.int ∧ ks.length < 64 ∧
  ∀ (ys : List Int) (p : Addr), ys.Perm ks → ys.Pairwise (· ≤ ·) → H p = none → Q (.ref p) (upd H p (.lst (ys.map V.int)))
section
variable {X : Cx}
theorem call_sortD (hcalm : X.calm = true) : CallR X (.builtin "sorted") (rSortD (ctX X)) := by
  intro pins s σ H xs us Q I r q
  obtain ⟨a, es, ks, rfl, ea, hks, h64, q⟩ := q
  obtain ⟨u, rfl, rx⟩ := vals1 r
  cases rx
  obtain ⟨rs, x, p⟩ := dict_raw I ea
  obtain ⟨o, ho, hx, hdt⟩ := x.at_
  have hl := Paired.length p
  have hz := x.sz
  have hkl : es.2.length = ks.length := by simpa using congrArg List.length hks
  refine Calls.call_function_entry PyProof.Rows.kind_sorted PyProof.Rows.plain_sorted PyProof.Rows.entry_sorted (PyProof.Rows.args_sorted1 _) ?_
  unfold Builtin.«sorted»
  refine wpAny_bind (m := checkCount "sorted" 1 1 _) (wpAny_pure ?_)
  refine wpAny_bind (PySem.W.kdu_collect (A := X.A.in1) (PySem.KdlSrc.rawDict (es := (rs.map fun e => (⟨e.1.hash X.w, e.2.1, e.2.2⟩ : DictEntry)).toArray) (ep := es.1) x.sys) (I.ok.hd hcalm) ⟨o, ho, hx, hdt⟩ (by simpa using hz) fun h' tk acc hk hacc => ?_)
  have hal : acc.toList.length = ks.length := by rw [Array.length_toList, hacc.1, ← hkl, hl]; simp
  have hS : IntsAre acc.toList ks := ints_each hal fun j v e => by
    obtain ⟨hj, ew⟩ := hacc.2 j v (by rw [← Array.getElem?_toList]; exact e)
    have hj2 : j < rs.length := by simpa using hj
    obtain ⟨e', he', q1, q2, q3⟩ := paired_get p (List.getElem?_eq_getElem hj2)
    have e3 : (es.2.map (·.2.1))[j]? = some e'.2.1 := by rw [List.getElem?_map, he']; rfl
    rw [hks, List.getElem?_map] at e3
    obtain ⟨k, ek, ev⟩ := Option.map_eq_some_iff.mp e3
    subst ew
    rw [← ev] at q2
    obtain ⟨t, et⟩ := q2
    exact ⟨k, t, ek, by simpa using et⟩
  have I1 : Inv X pins σ H { s with heap := h', toks := tk } := I.kept hk
  refine wpAny_bind (wpAny_newList ?_ (by rw [hal, sizeLine_eq]; omega))
  have hoL : (h'.push (seqObj "list" acc.toList.toArray 0)).get? h'.objs.size = some (seqObj "list" acc.toList.toArray 0) := Heap.get?_push_size _ rfl
  show wpAny _ _ _ _ _ { s with heap := h'.push (seqObj "list" acc.toList.toArray 0), toks := tk }
  refine wpAny_bind (wpAny_holding (wpAny_call_entry PyProof.Rows.slot_list_sort ⟨_, hoL, rfl⟩ PyProof.Rows.entry_list_sort
    (PyProof.Rows.list_sort_tree (s := { s with heap := h'.push (seqObj "list" acc.toList.toArray 0), toks := tk }) hoL hS (by rw [hal]; exact h64) fun out ys g1 g2 g3 => ⟨_, rfl, ?_⟩) (PyProof.Rows.args_list_sort _)))
  obtain ⟨e', he'⟩ := PyProof.Rows.sortedHeap_at (vs := acc.toList) (out := out) hoL
  have hlen : (ys.map V.int).length ≤ sizeLine := by
    rw [List.length_map, g2.length_eq]
    exact Nat.le_trans (Nat.le_of_lt h64) (by decide)
  refine wpAny_pure ⟨_, rfl, .ref h'.objs.size, upd H h'.objs.size (.lst (ys.map V.int)), I1.laid (t' := tk) (fun b u e => ?_) (Nat.le_refl _)
    (show ObjOk X.prog X.w _ _ _ (.lst (ys.map V.int)) from ⟨hlen, out.toList, e', vals_of_ints g1, by rw [Array.toArray_toList]; exact he'⟩), rfl, q ys _ g2 g3 (I1.hok.fresh (Nat.le_refl _))⟩
  have hb : b < h'.objs.size := Heap.lt_size e
  rw [PyProof.Rows.sortedHeap_old (Nat.ne_of_lt hb) (by rw [size_push']; exact Nat.lt_succ_of_lt hb)]
  exact Heap.get?_push_of_some _ e
end
def dSortD (h : Hs) : List D → Option Nv
  | [.box n] => match h.get n with
    | some (.dct _ ks _) => (match intsD ks with
      | some is => if is.length < 64 then some (.n (.lst ((srtI is).map .int))) else none
      | none => none)
    | _ => none
  | _ => none
theorem cov_sortD {C : Ct} : CovA C (rSortD C) dSortD := by
  intro H L μ h xs ds n Q hr r1 hf want
  unfold dSortD at hf
  split at hf
  · split at hf
    · rename_i e0
      split at hf
      · rename_i is e
        split at hf
        · rename_i hl
          cases hf
          obtain ⟨x, rfl, rx⟩ := r1.one
          obtain ⟨a, rfl, m, es, ea, en, ek, rk, rv⟩ := hr.dctO rx e0
          refine ⟨a, es, is, rfl, ea, intsD_ok rk e, hl, fun ys p hp hs hq => ?_⟩
          rw [srt_uniq (hp.trans (srtI_perm is).symm) hs (srtI_srt is)]
          exact want.lst (repL_ints _) hq
        · cases hf
      · cases hf
    · cases hf
  · cases hf
def dSortA : Hs → List D → Option Nv := fun h d => match dSorted h d with | some n => some n | none => dSortD h d
section
variable {X : Cx} {W : WX} {e : Expr} {es : List Expr} {ms : M (List D)} {p pos : Pos}
theorem f_sortA (hc : X.calm = true) (hv : bootBuiltins "sorted" = some (.builtin "sorted")) (hg : Gl X "sorted") (hm : X.mg "sorted" = none) (ha : PA X (e :: es) (rdA X W ms)) (he : starEach (e :: es) X.env = (false, eval e X.env) :: starEach es X.env := by rfl) (hpl : (backTo pos (starEach es X.env)).any (·.1) = false := by rfl) :
    PE X (.Call (.Name "sorted" p) (e :: es) [] pos) (rd X W (mOpA dSortA ms)) := e_callB (CallR.or cr_sortedI (call_sortD hc)) (cov_sorted.or cov_sortD) hv hg hm ha (by decide) (by decide) he hpl
end
end Rh

set_option Elab.async false
set_option linter.all false
set_option maxRecDepth 100000
set_option maxHeartbeats 2000000
set_option autoImplicit false
namespace Rh
open PySem PySem.Spec PyProof.Rows L2
/-! ### a call that no box reaches -/
mutual
def flatD : D → Bool
  | .box _ => false
  | .tup ds => flatL ds
  | .scr ds => flatL ds
  | _ => true
def flatL : List D → Bool
  | [] => true
  | d :: ds => flatD d && flatL ds
end
section
variable {C : Ct} {μ μ' : Mu} {H : Hp}
mutual
theorem RepV.flat : ∀ (d : D) (v : V), flatD d = true → RepV C μ H d v → RepV C μ' H d v
  | .non, _, _, h => h
  | .bl _, _, _, h => h
  | .int _, _, _, h => h
  | .str _, _, _, h => h
  | .gl _, _, _, h => h
  | .ty _, _, _, h => h
  | .tup ds, _, f, ⟨a, vs, e, q, r⟩ => ⟨a, vs, e, q, RepL.flat ds vs f r⟩
  | .scr ds, _, f, ⟨a, vs, e, q, r⟩ => ⟨a, vs, e, q, RepL.flat ds vs f r⟩
  | .box n, _, f, _ => nomatch f
theorem RepL.flat : ∀ (ds : List D) (vs : List V), flatL ds = true → RepL C μ H ds vs → RepL C μ' H ds vs
  | [], _, _, h => h
  | d :: ds, _, f, ⟨v, r, e, h1, h2⟩ => by
    have f : (flatD d && flatL ds) = true := f
    rw [Bool.and_eq_true] at f
    exact ⟨v, r, e, RepV.flat d v f.1 h1, RepL.flat ds r f.2 h2⟩
end
end
def clF (f : FM) : FM := fun as h => match flatL as with
  | true => (match f as h0 with
    | some (.rt d _) => (match flatD d with
      | true => some (.rt d h)
      | false => none)
    | _ => none)
  | false => none
theorem fn_cl {P : Program} {w : World} {K : PySem.W.Frag} {mg : Str → Option Value} {base : Heap} {ps : List Str} {k np : Nat} {f : Addr} {fd : FuncData} {fm : FM} (F : FnOk P w K mg base (L2.CX P w) k f fd ps (spF ⟨w, K, mg⟩ np fm)) :
    FnOk P w K mg base (L2.CX P w) k f fd ps (spF ⟨w, K, mg⟩ np (clF fm)) := by
  refine F.imp fun vs H Q E ⟨L, μ, h, as, hl, rl, hr, q⟩ => ?_
  unfold clF at q
  split at q
  · exact q.elim
  · rename_i e
    split at e
    · rename_i fa
      split at e
      · rename_i d' h' e2
        split at e
        · rename_i fd'
          cases e
          refine ⟨[], [], h0, as, hl, RepL.flat _ _ fa rl, hr0, ?_⟩
          rw [e2]
          intro x μ' H' g r rx
          have s : Same H H' := fun a o e => g.keep a o e (by simp)
          exact q x μ H' (Go.same hr s g.dom) (hr.same s) (RepV.flat _ _ fd' rx)
        · cases e
      · cases e
    · cases e
  · rename_i e
    exfalso
    split at e
    · split at e
      · split at e
        · cases e
        · cases e
      · cases e
    · cases e
/-! ### tables: what can be stored -/
theorem Tr.put_some {α : Type} (a : α) : ∀ (f : Nat) (t : Tr α) (i : Nat), i + 1 < 2 ^ f → ∃ t', Tr.put a f t i = some t'
  | 0, _, i, h => by simp at h
  | f + 1, .nil, i, h => by
    have h2 : 2 ^ (f + 1) = 2 * 2 ^ f := by rw [Nat.pow_succ, Nat.mul_comm]
    unfold Tr.put
    rw [beq_dec, beq_dec]
    by_cases h0 : i = 0
    · simp [h0]
    · by_cases h1 : i % 2 = 1
      · obtain ⟨t', e⟩ := Tr.put_some a f .nil (i / 2) (by omega)
        simp [h0, h1, e]
      · obtain ⟨t', e⟩ := Tr.put_some a f .nil (i / 2 - 1) (by omega)
        simp [h0, h1, e]
  | f + 1, .node v l r, i, h => by
    have h2 : 2 ^ (f + 1) = 2 * 2 ^ f := by rw [Nat.pow_succ, Nat.mul_comm]
    unfold Tr.put
    rw [beq_dec, beq_dec]
    by_cases h0 : i = 0
    · simp [h0]
    · by_cases h1 : i % 2 = 1
      · obtain ⟨t', e⟩ := Tr.put_some a f l (i / 2) (by omega)
        simp [h0, h1, e]
      · obtain ⟨t', e⟩ := Tr.put_some a f r (i / 2 - 1) (by omega)
        simp [h0, h1, e]
theorem Hs.new_some (h : Hs) (o : O) (hn : h.n < 1000000) : ∃ h', h.new o = some h' := by
  obtain ⟨t', e⟩ := Tr.put_some o 40 h.t h.n (by omega)
  exact ⟨_, by unfold Hs.new; rw [e]⟩
theorem Hs.set_some (h : Hs) (o : O) (i : Nat) (hi : i < 1000000) (hl : i ∉ h.lk) : ∃ h', h.set i o = some h' := by
  obtain ⟨t', e⟩ := Tr.put_some o 40 h.t i (by omega)
  refine ⟨⟨h.n, t', h.lk⟩, ?_⟩
  unfold Hs.set
  have : (h.lk.all fun j => !Nat.beq j i) = true := List.all_eq_true.mpr fun j hj => by
    rw [beq_dec, decide_eq_false (fun q : j = i => hl (q ▸ hj))]; rfl
  rw [this, e]
/-! ### the script's cells -/
def mCellBody : MS := (mSeq (mSet 5 (mOp2 dMod (mOpA dInt1 (mCons (mVar 3) mNil)) (mVar 1)))
    (mSeq (mAsg (tSub (mVar 2) (mVar 5)) (mOp2 dAdd (mOp2 dIx (mVar 2) (mVar 5)) (mOp2 dMulW (mVar 4) (mOp2 dAdd (mVar 3) (mCon (.int 2))))))
    mNx))
def mCells : MS := (mSeq (mSet 2 (mOrV (mOpA dListA (mCons (mSl (mVar 0) (mPure none) (mPart (mVar 1))) mNil)) (mLst (mCons (mCon (.int 0)) mNil))))
    (mSeq (mFor (mEnum 0 (mSl (mVar 0) (mPart (mVar 1)) (mPart (mCon (.int 63))))) (tTup 2 (tsCons (tName 3) (tsCons (tName 4) tsNil))) mCellBody)
    (mSeq (mRet (mVar 2))
    mNx)))
theorem dIntC_int {c : Int → Int → Bool} {g : Int → Int → D} {h : Hs} {i j : Int} (hc : c i j = true) : dIntC c g h (.int i) (.int j) = some (.v (g i j)) := if_pos hc
theorem okMul_of {i j : Int} (h : (Builtin.Int.intBits i : Int) + (Builtin.Int.intBits j : Int) ≤ 134217728) : okMul i j = true := decide_eq_true h
theorem bits_small {z c : Int} (hz : Builtin.Int.intBits z ≤ 1048576) (h0 : 0 ≤ c) (h1 : c ≤ 1000) : ((Builtin.Int.intBits z : Int) + (Builtin.Int.intBits c : Int) ≤ 134217728) := by
  have := PyProof.Rows.intBits_le (show c.natAbs < 2 ^ 10 by omega)
  omega
theorem dMod_int {h : Hs} {i j : Int} (hj : 0 < j) : dMod h (.int i) (.int j) = some (.v (.int (i % j))) := dIntC_int (c := fun _ j => decide (0 < j)) (g := fun i j => .int (i % j)) (decide_eq_true hj)
theorem dIx_lst {h : Hs} {b : Nat} {ds : List D} {i : Int} {x : D} (hg : h.get b = some (.lst ds)) (ha : atI ds i = some x) : dIx h (.box b) (.int i) = some (.v x) := by
  have hl : lstD h (.box b) = some ds := by simp only [lstD, hg]
  unfold dIx dIxT dIxL
  simp only [hl, ha, Option.map_some]
theorem dMulW_int {h : Hs} {i j : Int} (hc : okMul i j = true) : dMulW h (.int i) (.int j) = some (.v (.int (i * j))) := by
  have e0 : dIntC okMul (fun i j => .int (i * j)) h (.int i) (.int j) = some (.v (.int (i * j))) := dIntC_int hc
  unfold dMulW
  simp only [e0]
theorem dAdd_int {h : Hs} {i j : Int} : dAdd h (.int i) (.int j) = some (.v (.int (i + j))) := by
  have e0 : dInt (fun i j => .int (i + j)) h (.int i) (.int j) = some (.v (.int (i + j))) := dIntC_int rfl
  unfold dAdd
  simp only [e0]
theorem putD_lst {h h' : Hs} {b : Nat} {ds : List D} {i : Int} {j : Nat} {x : D} (hg : h.get b = some (.lst ds)) (hi : ixN ds.length i = some j) (e : h.set b (.lst (ds.set j x)) = some h') : putD h (.box b) (.int i) x = some h' := by
  unfold putD
  simp only [hg, hi, e]
section
variable {ρ ρ1 ρ' : En} {h h1 h2 h3 : Hs} {a b m mo mi : M D} {d x y : D}
theorem mSeq_nx {s t : MS} (e : s ρ h = some (.nx ρ1 h1)) : mSeq s t ρ h = t ρ1 h1 := by unfold mSeq; rw [e]
theorem mSet_ok {i : Nat} (e : m ρ h = some (.ok d h1)) : mSet i m ρ h = some (.nx (ρ.set i (some d)) h1) := by unfold mSet mDo; rw [e]
theorem mOp2_ok {f : Hs → D → D → Option Nv} (e : a ρ h = some (.ok x h1)) (e2 : b ρ h1 = some (.ok y h2)) (e3 : f h2 x y = some (.v d)) : mOp2 f a b ρ h = some (.ok d h2) := by
  unfold mOp2 mBind; rw [e]; dsimp only; rw [e2]; dsimp only; rw [e3]; rfl
theorem mVar_ok {i : Nat} (e : ρ[i]? = some (some d)) : mVar i ρ h = some (.ok d h) := by unfold mVar; rw [e]
theorem mOpA1_ok {f : Hs → List D → Option Nv} (e : a ρ h = some (.ok x h1)) (e3 : f h1 [x] = some (.v d)) : mOpA f (mCons a mNil) ρ h = some (.ok d h1) := by
  unfold mOpA mCons mNil mBind mPure; dsimp only; rw [e]; dsimp only; rw [e3]; rfl
theorem mAsg_ok {t : TM} (e : m ρ h = some (.ok d h1)) (e2 : t d ρ h1 = some (ρ', h2)) : mAsg t m ρ h = some (.nx ρ' h2) := by unfold mAsg mDo; rw [e]; dsimp only; rw [e2]
theorem tSub_ok (e : mo ρ h = some (.ok x h1)) (e2 : mi ρ h1 = some (.ok y h2)) (e3 : putD h2 x y d = some h3) : tSub mo mi d ρ h = some (ρ, h3) := by unfold tSub; rw [e]; dsimp only; rw [e2]; dsimp only; rw [e3]
end
theorem cell_step {top : Nat} (ht : 1 ≤ top) (sc : D) (b : Nat) (hb : b < 1000000) {z : Int} {k : Nat} (hz : Builtin.Int.intBits z ≤ 1048576) (hk : k ≤ 900) {cs : List Int} (hcs : cs.length = top) {h : Hs} (hg : h.get b = some (.lst (cs.map .int))) (hl : b ∉ h.lk) (x5 : Option D) :
    ∃ h' c5, mCellBody [some sc, some (.int top), some (.box b), some (.int k), some (.int z), x5] h = some (.nx [some sc, some (.int top), some (.box b), some (.int k), some (.int z), c5] h') ∧
      ∃ cs' : List Int, cs'.length = top ∧ h'.get b = some (.lst (cs'.map .int)) ∧ (∀ j, j ≠ b → h'.get j = h.get j) ∧ h'.n = h.n ∧ h'.lk = h.lk := by
  have hm0 : (0 : Int) ≤ (k : Int) % (top : Int) := Int.emod_nonneg _ (by omega)
  have hm1 : (k : Int) % (top : Int) < top := Int.emod_lt_of_pos _ (by omega)
  obtain ⟨j, hj⟩ := Int.eq_ofNat_of_zero_le hm0
  have hjl : j < top := by omega
  have hix : ixN (cs.map D.int).length ((j : Nat) : Int) = some j := by
    unfold ixN
    rw [if_pos (by omega), if_pos (by rw [List.length_map, hcs]; omega)]
    simp
  have hat : atI (cs.map D.int) ((j : Nat) : Int) = some (.int cs[j]) := by
    unfold atI
    rw [hix]
    simp
  have hbit := bits_small (c := (k : Int) + 2) hz (by omega) (by omega)
  obtain ⟨h', e'⟩ := Hs.set_some h (.lst ((cs.map D.int).set j (.int (cs[j] + z * ((k : Int) + 2))))) b hb hl
  refine ⟨h', some (.int (j : Nat)), ?_, cs.set j (cs[j] + z * ((k : Int) + 2)), by rw [List.length_set]; exact hcs, ?_, ?_, (Hs.set_ok e').2.2.1, (Hs.set_ok e').2.1⟩
  · have e1 : dMod h (.int k) (.int top) = some (.v (.int j)) := by rw [dMod_int (by omega), hj]
    have e2 : dIx h (.box b) (.int (j : Nat)) = some (.v (.int cs[j])) := dIx_lst hg hat
    have e3 : dMulW h (.int z) (.int ((k : Int) + 2)) = some (.v (.int (z * ((k : Int) + 2)))) := dMulW_int (okMul_of hbit)
    have e4 : putD h (.box b) (.int (j : Nat)) (.int (cs[j] + z * ((k : Int) + 2))) = some h' := putD_lst hg hix e'
    have e5 : dAdd h (.int k) (.int 2) = some (.v (.int ((k : Int) + 2))) := dAdd_int
    have e6 : dAdd h (.int cs[j]) (.int (z * ((k : Int) + 2))) = some (.v (.int (cs[j] + z * ((k : Int) + 2)))) := dAdd_int
    unfold mCellBody
    rw [mSeq_nx (mSet_ok (mOp2_ok (mOpA1_ok (mVar_ok (d := .int k) rfl) (show dInt1 h [.int k] = some (.v (.int k)) from rfl)) (mVar_ok (d := .int top) rfl) e1)),
      mSeq_nx (mAsg_ok (mOp2_ok (mOp2_ok (mVar_ok (d := .box b) rfl) (mVar_ok (d := .int (j : Nat)) rfl) e2) (mOp2_ok (mVar_ok (d := .int z) rfl) (mOp2_ok (mVar_ok (d := .int k) rfl) (show mCon (.int 2) _ h = some (.ok (.int 2) h) from rfl) e5) e3) e6) (tSub_ok (mVar_ok (d := .box b) rfl) (mVar_ok (d := .int (j : Nat)) rfl) e4))]
    rfl
  · rw [(Hs.set_ok e').2.2.2, if_pos rfl, List.map_set]
  · intro i hi
    rw [(Hs.set_ok e').2.2.2, if_neg hi]
theorem cell_loop {top : Nat} (ht : 1 ≤ top) (sc : D) (b : Nat) (hb : b < 1000000) : ∀ (ns : List Int) (k : Nat) (cs : List Int) (h : Hs) (x3 x4 x5 : Option D), (∀ z ∈ ns, Builtin.Int.intBits z ≤ 1048576) → k + ns.length ≤ 900 → cs.length = top → h.get b = some (.lst (cs.map .int)) → b ∉ h.lk →
    ∃ h' x3' x4' x5', loopF (tTup 2 (tsCons (tName 3) (tsCons (tName 4) tsNil))) mCellBody (enumD k (ns.map .int)) [some sc, some (.int top), some (.box b), x3, x4, x5] h = some (.nx [some sc, some (.int top), some (.box b), x3', x4', x5'] h') ∧
      ∃ cs' : List Int, cs'.length = top ∧ h'.get b = some (.lst (cs'.map .int)) ∧ (∀ j, j ≠ b → h'.get j = h.get j) ∧ h'.n = h.n ∧ h'.lk = h.lk
  | [], k, cs, h, x3, x4, x5, _, _, hcs, hg, _ => ⟨h, x3, x4, x5, rfl, cs, hcs, hg, fun _ _ => rfl, rfl, rfl⟩
  | z :: ns, k, cs, h, x3, x4, x5, hz, hk, hcs, hg, hl => by
    have hk : k + (ns.length + 1) ≤ 900 := hk
    obtain ⟨h1, c5, e1, cs1, l1, g1, o1, n1, k1⟩ := cell_step ht sc b hb (hz z (List.mem_cons_self ..)) (by omega : k ≤ 900) hcs hg hl x5
    obtain ⟨h2, y3, y4, y5, e2, cs2, l2, g2, o2, n2, k2⟩ := cell_loop ht sc b hb ns (k + 1) cs1 h1 (some (.int k)) (some (.int z)) c5 (fun y hy => hz y (List.mem_cons_of_mem _ hy)) (by omega) l1 g1 (by rw [k1]; exact hl)
    refine ⟨h2, y3, y4, y5, ?_, cs2, l2, g2, fun j hj => (o2 j hj).trans (o1 j hj), n2.trans n1, k2.trans k1⟩
    have et : (tTup 2 (tsCons (tName 3) (tsCons (tName 4) tsNil))) (.tup [.int k, .int z]) [some sc, some (.int top), some (.box b), x3, x4, x5] h = some ([some sc, some (.int top), some (.box b), some (.int k), some (.int z), x5], h) := rfl
    show loopF _ _ (.tup [.int k, .int z] :: enumD ((k : Int) + 1) (ns.map .int)) _ h = _
    unfold loopF
    rw [et]
    dsimp only
    rw [e1]
    dsimp only
    have : ((k + 1 : Nat) : Int) = (k : Int) + 1 := by omega
    rw [this] at e2
    exact e2
theorem cells_ok {top : Nat} (ht : 1 ≤ top) (ht2 : top ≤ 63) (ns : List Int) (hn : ns.length ≤ 63) (hb : ∀ z ∈ ns, Builtin.Int.intBits z ≤ 1048576) (h : Hs) (hh : h.n < 900000) (hk : h.lk = []) :
    ∃ b h' cs, runDef 6 mCells [.scr (ns.map .int), .int top] h = some (.rt (.box b) h') ∧ h'.get b = some (.lst (List.map D.int cs)) ∧ 1 ≤ cs.length ∧ h'.lk = [] ∧ h'.n < 900010 := by
  have hlen : (ns.map D.int).length = ns.length := List.length_map ..
  -- script[:top]
  have ec : cutD (ns.map D.int) none (some (top : Int)) = (ns.take top).map D.int := by
    unfold cutD
    rw [HT.sIx_none, HT.sIx_nat, hlen, List.drop_zero, Nat.sub_zero, List.map_take]
    by_cases q : top ≤ ns.length
    · rw [Nat.min_eq_left q]
    · rw [Nat.min_eq_right (by omega), List.take_of_length_le (by simp), List.take_of_length_le (by simp; omega)]
  have ec2 : cutD (ns.map D.int) (some (top : Int)) (some 63) = (ns.drop top).map D.int := by
    unfold cutD
    rw [HT.sIx_nat, show (63 : Int) = ((63 : Nat) : Int) from rfl, HT.sIx_nat, hlen]
    by_cases q : top ≤ ns.length
    · rw [Nat.min_eq_left q, Nat.min_eq_right hn, List.take_of_length_le (by simp), List.map_drop]
    · rw [Nat.min_eq_right (by omega : ns.length ≤ top), Nat.min_eq_right hn, Nat.sub_self, List.take_zero, List.drop_eq_nil_of_le (by omega : ns.length ≤ top)]; rfl
  obtain ⟨h1, e1⟩ := Hs.new_some h (.lst ((ns.take top).map D.int)) (by omega)
  have g1 : h1.get h.n = some (.lst ((ns.take top).map D.int)) := by rw [Hs.new_get e1, if_pos rfl]
  have n1 := Hs.new_n e1
  obtain ⟨h2, e2⟩ := Hs.new_some h1 (.lst ((ns.take top).map D.int)) (by omega)
  have g2 : h2.get h1.n = some (.lst ((ns.take top).map D.int)) := by rw [Hs.new_get e2, if_pos rfl]
  have n2 := Hs.new_n e2
  -- the box of the cells
  have first : ∃ b h3 cs, (mSet 2 (mOrV (mOpA dListA (mCons (mSl (mVar 0) (mPure none) (mPart (mVar 1))) mNil)) (mLst (mCons (mCon (.int 0)) mNil)))) [some (.scr (ns.map .int)), some (.int top), none, none, none, none] h = some (.nx [some (.scr (ns.map .int)), some (.int top), some (.box b), none, none, none] h3) ∧
      h3.get b = some (.lst (List.map D.int cs)) ∧ 1 ≤ cs.length ∧ (ns.drop top ≠ [] → cs.length = top) ∧ h3.n ≤ h.n + 3 ∧ b < h3.n ∧ h3.lk = [] := by
    have d1 : dSl h (.scr (ns.map .int)) none (some (top : Int)) = some (.n (.lst ((ns.take top).map D.int))) := by
      unfold dSl lstD
      rw [← ec]; rfl
    have d2 : dListA h1 [.box h.n] = some (.n (.lst ((ns.take top).map D.int))) := by
      unfold dListA dList seqD
      simp only [lstD, g1, Option.map_some]
    have k2 : h2.lk = [] := (Hs.new_lk e2).trans ((Hs.new_lk e1).trans hk)
    by_cases q : ns.take top = []
    · obtain ⟨h3, e3⟩ := Hs.new_some h2 (.lst [.int 0]) (by omega)
      refine ⟨h2.n, h3, [0], ?_, by rw [Hs.new_get e3, if_pos rfl]; rfl, by simp, fun z => ?_, by rw [Hs.new_n e3]; omega, by rw [Hs.new_n e3]; omega, (Hs.new_lk e3).trans k2⟩
      · have t0 : truthD h2 (.box h1.n) = some false := by
          unfold truthD
          simp only [g2, q, List.map_nil, List.isEmpty_nil, Bool.not_true]
        simp only [mSet, mDo, mOrV, mOpA, mCons, mNil, mSl, mPart, mBind, mVar, mCon, mPure, mLst, mDisp, List.getElem?_cons_zero, List.getElem?_cons_succ, lift, Nv.lift, d1, e1, d2, e2, t0, e3, List.set_cons_zero, List.set_cons_succ]
        rfl
      · exfalso
        rw [List.take_eq_nil_iff] at q
        rcases q with q | q
        · omega
        · rw [q] at z; simp at z
    · refine ⟨h1.n, h2, ns.take top, ?_, g2, ?_, fun z => ?_, by omega, by omega, k2⟩
      · have t0 : truthD h2 (.box h1.n) = some true := by
          unfold truthD
          simp only [g2]
          cases hq : ns.take top with
          | nil => exact absurd hq q
          | cons a r => rfl
        simp only [mSet, mDo, mOrV, mOpA, mCons, mNil, mSl, mPart, mBind, mVar, mCon, mPure, mLst, mDisp, List.getElem?_cons_zero, List.getElem?_cons_succ, lift, Nv.lift, d1, e1, d2, e2, t0, List.set_cons_zero, List.set_cons_succ]
      · cases hq : ns.take top with
        | nil => exact absurd hq q
        | cons a r => simp
      · rw [List.length_take]
        have : top < ns.length := by
          by_cases y : top < ns.length
          · exact y
          · exact absurd (List.drop_eq_nil_of_le (by omega)) z
        omega
  obtain ⟨b, h3, cs, f1, f2, f3, f4, f5, f6, f7⟩ := first
  -- script[top:63]
  obtain ⟨h4, e4⟩ := Hs.new_some h3 (.lst ((ns.drop top).map D.int)) (by omega)
  have g4 : h4.get h3.n = some (.lst ((ns.drop top).map D.int)) := by rw [Hs.new_get e4, if_pos rfl]
  have g4b : h4.get b = some (.lst (List.map D.int cs)) := by rw [Hs.new_get e4, if_neg (by omega)]; exact f2
  have d3 : dSl h3 (.scr (ns.map .int)) (some (top : Int)) (some 63) = some (.n (.lst ((ns.drop top).map D.int))) := by
    unfold dSl lstD
    rw [← ec2]; rfl
  have it : itD h4 (.box h3.n) = some ((ns.drop top).map D.int, [h3.n]) := by
    unfold itD; simp only [g4]
  have loop : ∃ h5 x3 x4 x5 cs', loopF (tTup 2 (tsCons (tName 3) (tsCons (tName 4) tsNil))) mCellBody (enumD 0 ((ns.drop top).map .int)) [some (.scr (ns.map .int)), some (.int top), some (.box b), none, none, none] (relk ([h3.n] ++ h4.lk) h4) = some (.nx [some (.scr (ns.map .int)), some (.int top), some (.box b), x3, x4, x5] h5) ∧
      h5.get b = some (.lst (List.map D.int cs')) ∧ 1 ≤ cs'.length ∧ h5.n = h4.n := by
    by_cases q : ns.drop top = []
    · rw [q]
      exact ⟨_, none, none, none, cs, rfl, g4b, f3, rfl⟩
    · obtain ⟨h5, x3, x4, x5, l1, cs', l2, l3, l4, l5, l6⟩ := cell_loop ht (.scr (ns.map .int)) b (by omega) (ns.drop top) 0 cs (relk ([h3.n] ++ h4.lk) h4) none none none (fun z hz => hb z (List.mem_of_mem_drop hz)) (by rw [List.length_drop]; omega) (f4 q) g4b
        (by show b ∉ [h3.n] ++ h4.lk; rw [Hs.new_lk e4, f7]; simp; omega)
      exact ⟨h5, x3, x4, x5, cs', l1, l3, by omega, l5⟩
  obtain ⟨h5, x3, x4, x5, cs', l1, l2, l3, l4⟩ := loop
  refine ⟨b, relk h4.lk h5, cs', ?_, l2, l3, (Hs.new_lk e4).trans f7, by show h5.n < _; rw [l4, Hs.new_n e4]; omega⟩
  have henv : envOf 6 [.scr (ns.map .int), .int top] = [some (.scr (ns.map .int)), some (.int top), none, none, none, none] := rfl
  have en : (mEnum 0 (mSl (mVar 0) (mPart (mVar 1)) (mPart (mCon (.int 63))))) [some (.scr (ns.map .int)), some (.int top), some (.box b), none, none, none] h3 = some (.ok (enumD 0 ((ns.drop top).map .int), [h3.n]) h4) := by
    simp only [mEnum, mSl, mPart, mBind, mVar, mCon, mPure, List.getElem?_cons_zero, List.getElem?_cons_succ, lift, Nv.lift, d3, e4, it]
  unfold runDef
  rw [henv]
  unfold mCells
  rw [show ∀ (a b : MS) ρ h, mSeq a b ρ h = (match a ρ h with | some (.nx ρ1 h1) => b ρ1 h1 | o => o) from fun _ _ _ _ => rfl, f1]
  dsimp only
  rw [show ∀ (a b : MS) ρ h, mSeq a b ρ h = (match a ρ h with | some (.nx ρ1 h1) => b ρ1 h1 | o => o) from fun _ _ _ _ => rfl]
  have ef : mFor (mEnum 0 (mSl (mVar 0) (mPart (mVar 1)) (mPart (mCon (.int 63))))) (tTup 2 (tsCons (tName 3) (tsCons (tName 4) tsNil))) mCellBody [some (.scr (ns.map .int)), some (.int top), some (.box b), none, none, none] h3 = some (.nx [some (.scr (ns.map .int)), some (.int top), some (.box b), x3, x4, x5] (relk h4.lk h5)) := by
    unfold mFor mDo
    rw [en]
    dsimp only
    rw [l1]
    rfl
  rw [ef]
  rfl
end Rh

set_option Elab.async false
set_option linter.all false
set_option maxRecDepth 100000
set_option maxHeartbeats 2000000
set_option autoImplicit false
namespace Rh
open PySem PySem.Spec PyProof.Rows L2
/-! ### words for a law's last steps -/
def isTrue : Option FR → Bool
  | some (.rt (.bl b) _) => b
  | _ => false
theorem isTrue_ex {o : Option FR} (h : isTrue o = true) : ∃ k, o = some (.rt (.bl true) k) := by
  unfold isTrue at h
  split at h
  · subst h; exact ⟨_, rfl⟩
  · cases h
section
variable {ρ ρ1 ρ' : En} {h h1 h2 h3 : Hs} {a b m mo mi : M D} {d x y : D} {f : FM} {ms : M (List D)}
theorem clF_true {as : List D} (ha : flatL as = true) (e : isTrue (f as h0) = true) (h : Hs) : clF f as h = some (.rt (.bl true) h) := by
  obtain ⟨k, e⟩ := isTrue_ex e
  unfold clF
  rw [ha]
  dsimp only
  rw [e]
  rfl
theorem mCall_ok {ds : List D} (e : ms ρ h = some (.ok ds h1)) (e2 : f ds h1 = some (.rt d h2)) : mCall f ms ρ h = some (.ok d h2) := by unfold mCall mBind; rw [e]; dsimp only; rw [e2]
theorem mNil_ok : mNil ρ h = some (.ok [] h) := rfl
theorem mCons_ok {ds : List D} (e : m ρ h = some (.ok d h1)) (e2 : ms ρ h1 = some (.ok ds h2)) : mCons m ms ρ h = some (.ok (d :: ds) h2) := by unfold mCons mBind mPure; rw [e]; dsimp only; rw [e2]
theorem mCall0_true (e : isTrue (f [] h0) = true) : mCall (clF f) mNil ρ h = some (.ok (.bl true) h) := mCall_ok mNil_ok (clF_true rfl e h)
theorem mTruth_ok {k : Bool} (e : m ρ h = some (.ok d h1)) (e2 : truthD h1 d = some k) : mTruth m ρ h = some (.ok k h1) := by unfold mTruth mBind; rw [e]; dsimp only; rw [e2]
theorem mNot_ok {c : M Bool} {k : Bool} (e : c ρ h = some (.ok k h1)) : mNot c ρ h = some (.ok (!k) h1) := by unfold mNot mBind mPure; rw [e]
theorem mB_ok {k : Bool} (e : m ρ h = some (.ok (.bl k) h1)) : mB m ρ h = some (.ok k h1) := by unfold mB mBind; rw [e]
theorem mIf_ok {c : M Bool} {k : Bool} (e : c ρ h = some (.ok k h1)) : mIf c a b ρ h = (if k = true then a else b) ρ h1 := by unfold mIf mBind; rw [e]
theorem mIfS_ok {c : M Bool} {k : Bool} {s t : MS} (e : c ρ h = some (.ok k h1)) : mIfS c s t ρ h = (if k = true then s else t) ρ h1 := by unfold mIfS mDo; rw [e]
theorem mRet_ok (e : m ρ h = some (.ok d h1)) : mRet m ρ h = some (.rt d h1) := by unfold mRet mDo; rw [e]
theorem mSeq_rt {s t : MS} (e : s ρ h = some (.rt d h1)) : mSeq s t ρ h = some (.rt d h1) := by unfold mSeq; rw [e]
theorem mCon_ok : mCon d ρ h = some (.ok d h) := rfl
theorem dEq_ints (h : Hs) (i j : Int) : dEq false h (.int i) (.int j) = some (.v (.bl (PyData.eqv (.int i) (.int j)))) := by
  unfold dEq
  have e1 : toPy h 40 (.int i) = some (.int i) := rfl
  have e2 : toPy h 40 (.int j) = some (.int j) := rfl
  rw [e1, e2]
  dsimp only
  rw [if_pos ⟨rfl, rfl⟩]
  rfl
theorem runDef_rt {n : Nat} {s : MS} {as : List D} (e : s (envOf n as) h = some (.rt d h1)) : runDef n s as h = some (.rt d h1) := by unfold runDef; rw [e]
theorem atI_zero {x : D} {xs : List D} : atI (x :: xs) (0 : Int) = some x := by
  unfold atI ixN
  rw [if_pos (Int.le_refl 0), if_pos (by simp only [List.length_cons]; omega)]
  rfl
/-- if not f(): return False -/
theorem guard_ok (e : isTrue (f [] h0) = true) {s : MS} : mIfS (mNot (mTruth (mCall (clF f) mNil))) s mNx ρ h = some (.nx ρ h) := mIfS_ok (mNot_ok (mTruth_ok (mCall0_true e) rfl))
end
end Rh

set_option Elab.async false
set_option linter.all false
set_option maxRecDepth 100000
set_option maxHeartbeats 2000000
set_option autoImplicit false
namespace Rh
open PySem PySem.Spec PyProof.Rows L2
/-! ### sorted(..) of tuples of ints, all equally long -/
def tupOf (r : List Int) : D := .tup (r.map .int)
def rowsD : List D → Option (List (List Int))
  | [] => some []
  | .tup es :: ds => match intsD es, rowsD ds with
    | some is, some r => some (is :: r)
    | _, _ => none
  | _ => none
theorem intsD_eq : ∀ {es : List D} {is : List Int}, intsD es = some is → es = is.map .int
  | [], _, e => by cases e; rfl
  | d :: es, is, e => by
    cases d with
    | int i =>
      obtain ⟨cs, e1, rfl⟩ := Option.map_eq_some_iff.mp (show (intsD es).map (i :: ·) = some is from e)
      rw [List.map_cons, ← intsD_eq e1]
    | _ => cases e
theorem rowsD_eq : ∀ {ds : List D} {rows : List (List Int)}, rowsD ds = some rows → ds = rows.map tupOf
  | [], _, e => by cases e; rfl
  | d :: ds, rows, e => by
    cases d with
    | tup es =>
      unfold rowsD at e
      split at e
      · rename_i is r h1 h2
        cases e
        rw [List.map_cons, ← rowsD_eq h2]
        unfold tupOf
        rw [← intsD_eq h1]
      · cases e
    | _ => cases e
section
variable {C : Ct} {μ : Mu} {H : Hp}
theorem repL_perm {α : Type} {f : α → D} : ∀ {xs ys : List V}, ys.Perm xs → ∀ {rows : List α}, RepL C μ H (rows.map f) xs → ∃ rows' : List α, rows'.Perm rows ∧ RepL C μ H (rows'.map f) ys := by
  intro xs ys p
  induction p with
  | nil => exact fun {rows} h => ⟨rows, .refl _, h⟩
  | cons x p ih =>
    intro rows h
    cases rows with
    | nil => cases (show _ = [] from h)
    | cons r rs =>
      obtain ⟨v, t, e, h1, h2⟩ := h
      cases e
      obtain ⟨rs', p', h'⟩ := ih h2
      exact ⟨r :: rs', p'.cons r, _, _, rfl, h1, h'⟩
  | swap x y l =>
    intro rows h
    cases rows with
    | nil => cases (show _ = [] from h)
    | cons r rs =>
      obtain ⟨v, t, e, h1, h2⟩ := h
      cases e
      cases rs with
      | nil => cases (show _ = [] from h2)
      | cons r2 rs =>
        obtain ⟨v, t, e, h3, h4⟩ := h2
        cases e
        exact ⟨r2 :: r :: rs, .swap r r2 rs, _, _, rfl, h3, _, _, rfl, h1, h4⟩
  | trans p1 p2 ih1 ih2 =>
    intro rows h
    obtain ⟨r1, q1, h1⟩ := ih2 h
    obtain ⟨r2, q2, h2⟩ := ih1 h1
    exact ⟨r2, q2.trans q1, h2⟩
theorem repT {r : List Int} {x : V} (h : RepV C μ H (tupOf r) x) : TupI C.K H x r := by
  obtain ⟨a, vs, rfl, t, q⟩ := (show RepV C μ H (.tup (r.map .int)) x from h)
  have e : vs = r.map V.int := by
    clear t h
    induction r generalizing vs with
    | nil => exact q
    | cons i r ih =>
      obtain ⟨v, t, rfl, h1, h2⟩ := q
      rw [ih t h2, show v = V.int i from h1]; rfl
  exact ⟨a, rfl, by rw [← e]; exact t.sq⟩
theorem repT_mem : ∀ {rows : List (List Int)} {vs : List V}, RepL C μ H (rows.map tupOf) vs → ∀ x ∈ vs, ∃ r ∈ rows, TupI C.K H x r
  | [], _, h, x, hx => by rw [show _ = [] from h] at hx; cases hx
  | r :: rows, _, ⟨v, t, rfl, h1, h2⟩, x, hx => by
    rcases List.mem_cons.mp hx with rfl | hx
    · exact ⟨r, List.mem_cons_self .., repT h1⟩
    · obtain ⟨r', m, q⟩ := repT_mem h2 x hx
      exact ⟨r', List.mem_cons_of_mem _ m, q⟩
theorem repT_mem' : ∀ {rows : List (List Int)} {vs : List V}, RepL C μ H (rows.map tupOf) vs → ∀ r ∈ rows, ∃ x ∈ vs, TupI C.K H x r
  | [], _, h, r, hr => by cases hr
  | r :: rows, _, ⟨v, t, rfl, h1, h2⟩, r', hr => by
    rcases List.mem_cons.mp hr with rfl | hr
    · exact ⟨v, List.mem_cons_self .., repT h1⟩
    · obtain ⟨x, m, q⟩ := repT_mem' h2 r' hr
      exact ⟨x, List.mem_cons_of_mem _ m, q⟩
theorem repT_pw {B : Int} : ∀ {rows : List (List Int)} {vs : List V}, RepL C μ H (rows.map tupOf) vs → vs.Pairwise (fun x y => ∀ n m, TupI C.K H x n → TupI C.K H y m → TS.code B n ≤ TS.code B m) → rows.Pairwise fun n m => TS.code B n ≤ TS.code B m
  | [], _, _, _ => .nil
  | r :: rows, _, ⟨v, t, rfl, h1, h2⟩, p => by
    refine .cons (fun r' hr' => ?_) (repT_pw h2 (List.Pairwise.of_cons p))
    obtain ⟨x, m, q⟩ := repT_mem' h2 r' hr'
    exact List.rel_of_pairwise_cons p m _ _ (repT h1) q
end
/-- in order by a key -/
def insK {α : Type} (k : α → Int) (a : α) : List α → List α
  | [] => [a]
  | b :: r => if k a ≤ k b then a :: b :: r else b :: insK k a r
def srtK {α : Type} (k : α → Int) : List α → List α
  | [] => []
  | a :: r => insK k a (srtK k r)
theorem insK_perm {α : Type} (k : α → Int) (a : α) : ∀ r, (insK k a r).Perm (a :: r)
  | [] => .refl _
  | b :: r => by
    unfold insK
    split
    · exact .refl _
    · exact ((insK_perm k a r).cons b).trans (.swap a b r)
theorem srtK_perm {α : Type} (k : α → Int) : ∀ r, (srtK k r).Perm r
  | [] => .refl _
  | a :: r => (insK_perm k a (srtK k r)).trans ((srtK_perm k r).cons a)
theorem insK_srt {α : Type} (k : α → Int) (a : α) : ∀ {r : List α}, r.Pairwise (fun x y => k x ≤ k y) → (insK k a r).Pairwise (fun x y => k x ≤ k y)
  | [], _ => by simp [insK]
  | b :: r, h => by
    have hb : ∀ y ∈ r, k b ≤ k y := fun y hy => List.rel_of_pairwise_cons h hy
    have ht := List.Pairwise.of_cons h
    unfold insK
    split
    · rename_i hab
      refine .cons (fun y hy => ?_) h
      rcases List.mem_cons.mp hy with rfl | hy
      · exact hab
      · exact Int.le_trans hab (hb _ hy)
    · rename_i hab
      refine .cons (fun y hy => ?_) (insK_srt k a ht)
      rcases List.mem_cons.mp ((insK_perm k a r).mem_iff.mp hy) with rfl | hy
      · omega
      · exact hb _ hy
theorem srtK_srt {α : Type} (k : α → Int) : ∀ r, (srtK k r).Pairwise (fun x y => k x ≤ k y)
  | [] => .nil
  | a :: r => insK_srt k a (srtK_srt k r)
def topB (rows : List (List Int)) : Int := mxI 0 rows.flatten + 1
def okRows (rows : List (List Int)) : Bool := let d := (rows.headD []).length; let B := topB rows
  decide (1 ≤ d) && decide (rows.length < 64) && rows.all (fun r => decide (r.length = d) && r.all fun m => decide (0 ≤ m ∧ m < B)) && rows.all fun a => rows.all fun b => !decide (TS.code B a = TS.code B b) || decide (a = b)
def dSortT (h : Hs) : List D → Option Nv
  | [d] => match lstD h d with
    | some ds => (match rowsD ds with
      | some rows => if okRows rows = true then some (.n (.lst ((srtK (TS.code (topB rows)) rows).map tupOf))) else none
      | none => none)
    | none => none
  | _ => none
def rSortTs (K : PySem.W.Frag) : List V → Hp → VK → Prop := fun vs H Q => ∃ (d : Nat) (B : Int), 1 ≤ d ∧ rSortU K d B vs H Q
theorem cr_sortTs {X : Cx} : CallR X (.builtin "sorted") (rSortTs X.K) := by
  intro pins s σ H vs us Q I r h
  obtain ⟨d, B, hd, h⟩ := h
  exact cr_sortT hd pins s σ H vs us Q I r h
theorem cov_sortT {C : Ct} : CovA C (rSortTs C.K) dSortT := by
  intro H L μ h xs ds n Q hr r1 hf want
  unfold dSortT at hf
  split at hf
  · rename_i d
    split at hf
    · rename_i ds e0
      split at hf
      · rename_i rows e
        split at hf
        · rename_i ok
          cases hf
          unfold okRows at ok
          simp only [Bool.and_eq_true, decide_eq_true_eq, List.all_eq_true, Bool.or_eq_true, Bool.not_eq_true', decide_eq_false_iff_not] at ok
          obtain ⟨⟨⟨hd, h64⟩, hall⟩, hinj⟩ := ok
          obtain ⟨x, rfl, rx⟩ := r1.one
          obtain ⟨a, vs, rfl, t, q⟩ := lstD_ok hr rx e0
          rw [rowsD_eq e] at q
          have hlen : vs.length = rows.length := by rw [q.length, List.length_map]
          refine ⟨(rows.headD []).length, topB rows, hd, a, vs, rfl, t, by omega, fun y hy => ?_, fun ys p hp hs hq => ?_⟩
          · obtain ⟨r, hr, ht⟩ := repT_mem q y hy
            exact ⟨r, ht, (hall r hr).1, fun m hm => (hall r hr).2 m hm⟩
          · obtain ⟨rows', hp', q'⟩ := repL_perm hp q
            have hs' := repT_pw q' hs
            have e2 : rows' = srtK (TS.code (topB rows)) rows := by
              refine (hp'.trans (srtK_perm _ rows).symm).eq_of_pairwise (fun a b ha hb h1 h2 => ?_) hs' (srtK_srt _ rows)
              rcases hinj a (hp'.mem_iff.mp ha) b ((srtK_perm _ rows).mem_iff.mp hb) with h | h
              · exact absurd (Int.le_antisymm h1 h2) h
              · exact h
            rw [e2] at q'
            exact want.lst q' hq
        · cases hf
      · cases hf
    · cases hf
  · cases hf
def dSortU : Hs → List D → Option Nv := fun h d => match dSorted h d with | some n => some n | none => (fun h d => match dSortD h d with | some n => some n | none => dSortT h d) h d
section
variable {X : Cx} {W : WX} {e : Expr} {es : List Expr} {ms : M (List D)} {pos p : Pos}
theorem f_sortU (hc : X.calm = true) (hv : bootBuiltins "sorted" = some (.builtin "sorted")) (hg : Gl X "sorted") (hm : X.mg "sorted" = none) (ha : PA X (e :: es) (rdA X W ms)) (he : starEach (e :: es) X.env = (false, eval e X.env) :: starEach es X.env := by rfl) (hpl : (backTo pos (starEach es X.env)).any (·.1) = false := by rfl) :
    PE X (.Call (.Name "sorted" p) (e :: es) [] pos) (rd X W (mOpA dSortU ms)) := e_callB (CallR.or cr_sortedI (CallR.or (call_sortD hc) cr_sortTs)) (cov_sorted.or (cov_sortD.or cov_sortT)) hv hg hm ha (by decide) (by decide) he hpl
end
end Rh

set_option Elab.async false
set_option linter.all false
set_option maxRecDepth 100000
set_option maxHeartbeats 4000000
set_option autoImplicit false
namespace Gn
open PySem PySem.Spec PyProof.Rows L2 Rh

theorem bt_ValueError : bootBuiltins (PySem.Str.ofString "ValueError") = some (.type "ValueError") := by first | rfl | decide +kernel | with_unfolding_all rfl
theorem bt_list : bootBuiltins (PySem.Str.ofString "list") = some (.type "list") := by first | rfl | decide +kernel | with_unfolding_all rfl
theorem bt_tuple : bootBuiltins (PySem.Str.ofString "tuple") = some (.type "tuple") := by first | rfl | decide +kernel | with_unfolding_all rfl
theorem bt_int : bootBuiltins (PySem.Str.ofString "int") = some (.type "int") := by first | rfl | decide +kernel | with_unfolding_all rfl
theorem bt_bool : bootBuiltins (PySem.Str.ofString "bool") = some (.type "bool") := by first | rfl | decide +kernel | with_unfolding_all rfl
theorem bt_str : bootBuiltins (PySem.Str.ofString "str") = some (.type "str") := by first | rfl | decide +kernel | with_unfolding_all rfl
theorem bt_dict : bootBuiltins (PySem.Str.ofString "dict") = some (.type "dict") := by first | rfl | decide +kernel | with_unfolding_all rfl
theorem bt_abs : bootBuiltins (PySem.Str.ofString "abs") = some (.builtin "abs") := by first | rfl | decide +kernel | with_unfolding_all rfl
theorem bt_all : bootBuiltins (PySem.Str.ofString "all") = some (.builtin "all") := by first | rfl | decide +kernel | with_unfolding_all rfl
theorem bt_any : bootBuiltins (PySem.Str.ofString "any") = some (.builtin "any") := by first | rfl | decide +kernel | with_unfolding_all rfl
theorem bt_sorted : bootBuiltins (PySem.Str.ofString "sorted") = some (.builtin "sorted") := by first | rfl | decide +kernel | with_unfolding_all rfl
theorem bt_isi : bootBuiltins (PySem.Str.ofString "isinstance") = some (.builtin "isinstance") := by first | rfl | decide +kernel | with_unfolding_all rfl
def top (i : Nat) : Stmt := PySem.Challenge.pw_bothroads_k14_ranks_by_hand_and_refused.main.body.getD i (.Pass ⟨0, 0, 0, 0⟩)
/-- what the top has left -/
structure Txt (P : Program) (w : World) (K : PySem.W.Frag) (mg : Str → Option Value) (a_is_number : Addr) (a_are_numbers_from : Addr) (a_learnings : Addr) (a_known : Addr) (a_bit_of : Addr) (a_ranked : Addr) (a_ranks : Addr) (a_bits : Addr) (a_ranks_now : Addr) (a_ranks_told : Addr) (a_laps : Addr) (a_by_ranks : Addr) (a_rank_weaving : Addr) (a_rank_order : Addr) (a_moved : Addr) (a_is_ranked : Addr) (a_ranked_run : Addr) (a__law_cells : Addr) (a__law_same : Addr) (a__law_lists : Addr) (a__law_way : Addr) (a__law_meet : Addr) (a__law_turns : Addr) (a__law_heard : Addr) (a__law_runs_right : Addr) (a__law_rows_right : Addr) (a__law_listed_right : Addr) (a_law : Addr) (a_CanNot : Addr) : Prop where
  g_is_number : mg (PySem.Str.ofString "is_number") = some (.ref a_is_number)
  k_is_number : PySem.W.keepIn K (.ref a_is_number) = true
  g_are_numbers_from : mg (PySem.Str.ofString "are_numbers_from") = some (.ref a_are_numbers_from)
  k_are_numbers_from : PySem.W.keepIn K (.ref a_are_numbers_from) = true
  g_learnings : mg (PySem.Str.ofString "learnings") = some (.ref a_learnings)
  k_learnings : PySem.W.keepIn K (.ref a_learnings) = true
  g_known : mg (PySem.Str.ofString "known") = some (.ref a_known)
  k_known : PySem.W.keepIn K (.ref a_known) = true
  g_bit_of : mg (PySem.Str.ofString "bit_of") = some (.ref a_bit_of)
  k_bit_of : PySem.W.keepIn K (.ref a_bit_of) = true
  g_ranked : mg (PySem.Str.ofString "ranked") = some (.ref a_ranked)
  k_ranked : PySem.W.keepIn K (.ref a_ranked) = true
  g_ranks : mg (PySem.Str.ofString "ranks") = some (.ref a_ranks)
  k_ranks : PySem.W.keepIn K (.ref a_ranks) = true
  g_bits : mg (PySem.Str.ofString "bits") = some (.ref a_bits)
  k_bits : PySem.W.keepIn K (.ref a_bits) = true
  g_ranks_now : mg (PySem.Str.ofString "ranks_now") = some (.ref a_ranks_now)
  k_ranks_now : PySem.W.keepIn K (.ref a_ranks_now) = true
  g_ranks_told : mg (PySem.Str.ofString "ranks_told") = some (.ref a_ranks_told)
  k_ranks_told : PySem.W.keepIn K (.ref a_ranks_told) = true
  g_laps : mg (PySem.Str.ofString "laps") = some (.ref a_laps)
  k_laps : PySem.W.keepIn K (.ref a_laps) = true
  g_by_ranks : mg (PySem.Str.ofString "by_ranks") = some (.ref a_by_ranks)
  k_by_ranks : PySem.W.keepIn K (.ref a_by_ranks) = true
  g_rank_weaving : mg (PySem.Str.ofString "rank_weaving") = some (.ref a_rank_weaving)
  k_rank_weaving : PySem.W.keepIn K (.ref a_rank_weaving) = true
  g_rank_order : mg (PySem.Str.ofString "rank_order") = some (.ref a_rank_order)
  k_rank_order : PySem.W.keepIn K (.ref a_rank_order) = true
  g_moved : mg (PySem.Str.ofString "moved") = some (.ref a_moved)
  k_moved : PySem.W.keepIn K (.ref a_moved) = true
  g_is_ranked : mg (PySem.Str.ofString "is_ranked") = some (.ref a_is_ranked)
  k_is_ranked : PySem.W.keepIn K (.ref a_is_ranked) = true
  g_ranked_run : mg (PySem.Str.ofString "ranked_run") = some (.ref a_ranked_run)
  k_ranked_run : PySem.W.keepIn K (.ref a_ranked_run) = true
  g__law_cells : mg (PySem.Str.ofString "_law_cells") = some (.ref a__law_cells)
  k__law_cells : PySem.W.keepIn K (.ref a__law_cells) = true
  g__law_same : mg (PySem.Str.ofString "_law_same") = some (.ref a__law_same)
  k__law_same : PySem.W.keepIn K (.ref a__law_same) = true
  g__law_lists : mg (PySem.Str.ofString "_law_lists") = some (.ref a__law_lists)
  k__law_lists : PySem.W.keepIn K (.ref a__law_lists) = true
  g__law_way : mg (PySem.Str.ofString "_law_way") = some (.ref a__law_way)
  k__law_way : PySem.W.keepIn K (.ref a__law_way) = true
  g__law_meet : mg (PySem.Str.ofString "_law_meet") = some (.ref a__law_meet)
  k__law_meet : PySem.W.keepIn K (.ref a__law_meet) = true
  g__law_turns : mg (PySem.Str.ofString "_law_turns") = some (.ref a__law_turns)
  k__law_turns : PySem.W.keepIn K (.ref a__law_turns) = true
  g__law_heard : mg (PySem.Str.ofString "_law_heard") = some (.ref a__law_heard)
  k__law_heard : PySem.W.keepIn K (.ref a__law_heard) = true
  g__law_runs_right : mg (PySem.Str.ofString "_law_runs_right") = some (.ref a__law_runs_right)
  k__law_runs_right : PySem.W.keepIn K (.ref a__law_runs_right) = true
  g__law_rows_right : mg (PySem.Str.ofString "_law_rows_right") = some (.ref a__law_rows_right)
  k__law_rows_right : PySem.W.keepIn K (.ref a__law_rows_right) = true
  g__law_listed_right : mg (PySem.Str.ofString "_law_listed_right") = some (.ref a__law_listed_right)
  k__law_listed_right : PySem.W.keepIn K (.ref a__law_listed_right) = true
  g_law : mg (PySem.Str.ofString "law") = some (.ref a_law)
  k_law : PySem.W.keepIn K (.ref a_law) = true
  n_ValueError : mg (PySem.Str.ofString "ValueError") = none
  n_all : mg (PySem.Str.ofString "all") = none
  n_bool : mg (PySem.Str.ofString "bool") = none
  n_enumerate : mg (PySem.Str.ofString "enumerate") = none
  n_int : mg (PySem.Str.ofString "int") = none
  n_isinstance : mg (PySem.Str.ofString "isinstance") = none
  n_len : mg (PySem.Str.ofString "len") = none
  n_list : mg (PySem.Str.ofString "list") = none
  n_max : mg (PySem.Str.ofString "max") = none
  n_range : mg (PySem.Str.ofString "range") = none
  n_sorted : mg (PySem.Str.ofString "sorted") = none
  n_str : mg (PySem.Str.ofString "str") = none
  n_tuple : mg (PySem.Str.ofString "tuple") = none
  n_zip : mg (PySem.Str.ofString "zip") = none
  g_CanNot : mg (PySem.Str.ofString "CanNot") = some (.ref a_CanNot)
  k_CanNot : PySem.W.keepIn K (.ref a_CanNot) = true
  b_CanNot : PySem.W.subIn K (.ref a_CanNot) (.type "BaseException") = some true
  t_CanNot : PySem.W.typeIn K (.ref a_CanNot) = some (.type "type")
  x_CanNot : PySem.W.excIn K a_CanNot [.type "ValueError", .type "Exception", .type "BaseException", .type "object"] "ValueError.__new__" = true
  ie_CanNot : L2.ExcC K a_CanNot
  iv_CanNot_ValueError : PySem.W.kitOne K (.ref a_CanNot) (.type "ValueError") = some true
  ek : ExK K mg [(PySem.Str.ofString "CanNot")]
abbrev st_is_number : Stmt := top 3
abbrev N_is_number : List Str := [(PySem.Str.ofString "thing")]
abbrev ps_is_number : List Str := [(PySem.Str.ofString "thing")]
def m_is_number : MS := (mSeq (mRet (mAndV (mOpA dIsi (mCons (mVar 0) (mCons (mCon (.ty .int)) mNil))) (mNotV (mOpA dIsi (mCons (mVar 0) (mCons (mCon (.ty .bool)) mNil))))))
    mNx)
def f_is_number : FM := runDef N_is_number.length m_is_number
theorem sc_is_number : FnScope N_is_number ps_is_number (defScope st_is_number) := ⟨rfl, rfl, rfl, by decide +kernel, rfl, by decide +kernel, by decide +kernel⟩
abbrev st_are_numbers_from : Stmt := top 4
abbrev N_are_numbers_from : List Str := [(PySem.Str.ofString "thing"), (PySem.Str.ofString "low"), (PySem.Str.ofString "own")]
abbrev ps_are_numbers_from : List Str := [(PySem.Str.ofString "thing"), (PySem.Str.ofString "low")]
def m_are_numbers_from : MS := (mSeq (mRet (mAndV (mOpA dIsi (mCons (mVar 0) (mCons (mCon (.ty .tuple)) mNil))) (mOpA dAll (mCons (mLc (mIter (mVar 0)) (tName 2) (mPure true) (mAndV (mCall f_is_number (mCons (mVar 2) mNil)) (mOp2 dGe (mVar 2) (mVar 1))) [2]) mNil))))
    mNx)
def f_are_numbers_from : FM := runDef N_are_numbers_from.length m_are_numbers_from
theorem sc_are_numbers_from : FnScope N_are_numbers_from ps_are_numbers_from (defScope st_are_numbers_from) := ⟨rfl, rfl, rfl, by decide +kernel, rfl, by decide +kernel, by decide +kernel⟩
abbrev st_learnings : Stmt := top 6
abbrev N_learnings : List Str := [(PySem.Str.ofString "run"), (PySem.Str.ofString "sent_from"), (PySem.Str.ofString "taken"), (PySem.Str.ofString "many"), (PySem.Str.ofString "found"), (PySem.Str.ofString "side"), (PySem.Str.ofString "letter")]
abbrev ps_learnings : List Str := [(PySem.Str.ofString "run")]
def m_learnings : MS := (mSeq (mSet 1 (mTup (mCons (mLst mNil) (mCons (mLst mNil) mNil))))
    (mSeq (mSet 2 (mLst (mCons (mCon (.int 0)) (mCons (mCon (.int 0)) mNil))))
    (mSeq (mSet 3 (mCon (.int 0)))
    (mSeq (mSet 4 (mLst mNil))
    (mSeq (mFor (mIter (mVar 0)) (tTup 2 (tsCons (tName 5) (tsCons (tName 6) tsNil))) (mSeq (mIfS (mB (mOp2 dGt (mVar 6) (mCon (.int 0)))) (mSeq (mExpr (mMeth ckL fAppend (mOp2 dIx (mVar 1) (mVar 5)) (mCons (mVar 3) mNil)))
    (mSeq (mExpr (mMeth ckL fAppend (mVar 4) (mCons (mTup (mCons (mVar 5) (mCons (mVar 6) (mCons (mVar 3) mNil)))) mNil)))
    (mSeq (mAug 3 (fun i j => i + j) (mCon (.int 1)))
    mNx))) (mSeq (mExpr (mMeth ckL fAppend (mVar 4) (mCons (mTup (mCons (mVar 5) (mCons (mVar 6) (mCons (mOp2 dIx (mOp2 dIx (mVar 1) (mOp2 dSub (mCon (.int 1)) (mVar 5))) (mOp2 dIx (mVar 2) (mVar 5))) mNil)))) mNil)))
    (mSeq (mAugS (fun i j => i + j) (mVar 2) (mVar 5) (mCon (.int 1)))
    mNx)))
    mNx))
    (mSeq (mRet (mVar 4))
    mNx))))))
def f_learnings : FM := runDef N_learnings.length m_learnings
theorem sc_learnings : FnScope N_learnings ps_learnings (defScope st_learnings) := ⟨rfl, rfl, rfl, by decide +kernel, rfl, by decide +kernel, by decide +kernel⟩
abbrev st_known : Stmt := top 7
abbrev N_known : List Str := [(PySem.Str.ofString "run"), (PySem.Str.ofString "side"), (PySem.Str.ofString "at"), (PySem.Str.ofString "_"), (PySem.Str.ofString "number")]
abbrev ps_known : List Str := [(PySem.Str.ofString "run"), (PySem.Str.ofString "side")]
def m_known : MS := (mSeq (mRet (mOpA dTuple (mCons (mOpA dSortU (mCons (mLc (mIter (mCall f_learnings (mCons (mVar 0) mNil))) (tTup 3 (tsCons (tName 2) (tsCons (tName 3) (tsCons (tName 4) tsNil)))) (mB (mOp2 (dEq false) (mVar 2) (mVar 1))) (mVar 4) [2, 3, 4]) mNil)) mNil)))
    mNx)
def f_known : FM := runDef N_known.length m_known
theorem sc_known : FnScope N_known ps_known (defScope st_known) := ⟨rfl, rfl, rfl, by decide +kernel, rfl, by decide +kernel, by decide +kernel⟩
abbrev st_bit_of : Stmt := top 9
abbrev N_bit_of : List Str := [(PySem.Str.ofString "rank")]
abbrev ps_bit_of : List Str := [(PySem.Str.ofString "rank")]
def m_bit_of : MS := (mSeq (mRet (mOp2 dMod (mOp2 dFdv (mVar 0) (mCon (.int 2))) (mCon (.int 2))))
    mNx)
def f_bit_of : FM := runDef N_bit_of.length m_bit_of
theorem sc_bit_of : FnScope N_bit_of ps_bit_of (defScope st_bit_of) := ⟨rfl, rfl, rfl, by decide +kernel, rfl, by decide +kernel, by decide +kernel⟩
abbrev st_ranked : Stmt := top 10
abbrev N_ranked : List Str := [(PySem.Str.ofString "run"), (PySem.Str.ofString "found"), (PySem.Str.ofString "now"), (PySem.Str.ofString "greatest"), (PySem.Str.ofString "side"), (PySem.Str.ofString "letter"), (PySem.Str.ofString "number")]
abbrev ps_ranked : List Str := [(PySem.Str.ofString "run")]
def m_ranked : MS := (mSeq (mSet 1 (mLst mNil))
    (mSeq (mSet 2 (mLst (mCons (mCon (.int 0)) (mCons (mCon (.int 1)) mNil))))
    (mSeq (mSet 3 (mLst (mCons (mOp1 dNeg (mCon (.int 1))) (mCons (mOp1 dNeg (mCon (.int 1))) mNil))))
    (mSeq (mFor (mIter (mCall f_learnings (mCons (mVar 0) mNil))) (tTup 3 (tsCons (tName 4) (tsCons (tName 5) (tsCons (tName 6) tsNil)))) (mSeq (mIfS (mB (mOp2 (dEq false) (mVar 5) (mCon (.int 0)))) (mSeq (mAsg (tSub (mVar 3) (mVar 4)) (mOpA dMaxA (mCons (mOp2 dIx (mVar 3) (mVar 4)) (mCons (mOp2 dIx (mVar 1) (mVar 6)) mNil))))
    mNx) (mSeq (mIfS (mB (mOp2 dGt (mOp2 dIx (mVar 3) (mVar 4)) (mOp2 dIx (mVar 2) (mVar 4)))) (mSeq (mAugS (fun i j => i + j) (mVar 2) (mVar 4) (mCon (.int 2)))
    mNx) mNx)
    (mSeq (mExpr (mMeth ckL fAppend (mVar 1) (mCons (mOp2 dIx (mVar 2) (mVar 4)) mNil)))
    mNx)))
    mNx))
    (mSeq (mRet (mTup (mCons (mVar 1) (mCons (mVar 2) (mCons (mVar 3) mNil)))))
    mNx)))))
def f_ranked : FM := runDef N_ranked.length m_ranked
theorem sc_ranked : FnScope N_ranked ps_ranked (defScope st_ranked) := ⟨rfl, rfl, rfl, by decide +kernel, rfl, by decide +kernel, by decide +kernel⟩
abbrev st_ranks : Stmt := top 11
abbrev N_ranks : List Str := [(PySem.Str.ofString "run")]
abbrev ps_ranks : List Str := [(PySem.Str.ofString "run")]
def m_ranks : MS := (mSeq (mRet (mOpA dTuple (mCons (mOp2 dIx (mCall f_ranked (mCons (mVar 0) mNil)) (mCon (.int 0))) mNil)))
    mNx)
def f_ranks : FM := runDef N_ranks.length m_ranks
theorem sc_ranks : FnScope N_ranks ps_ranks (defScope st_ranks) := ⟨rfl, rfl, rfl, by decide +kernel, rfl, by decide +kernel, by decide +kernel⟩
abbrev st_bits : Stmt := top 12
abbrev N_bits : List Str := [(PySem.Str.ofString "run"), (PySem.Str.ofString "rank")]
abbrev ps_bits : List Str := [(PySem.Str.ofString "run")]
def m_bits : MS := (mSeq (mRet (mOpA dTuple (mCons (mLc (mIter (mCall f_ranks (mCons (mVar 0) mNil))) (tName 1) (mPure true) (mCall f_bit_of (mCons (mVar 1) mNil)) [1]) mNil)))
    mNx)
def f_bits : FM := runDef N_bits.length m_bits
theorem sc_bits : FnScope N_bits ps_bits (defScope st_bits) := ⟨rfl, rfl, rfl, by decide +kernel, rfl, by decide +kernel, by decide +kernel⟩
abbrev st_ranks_now : Stmt := top 13
abbrev N_ranks_now : List Str := [(PySem.Str.ofString "run")]
abbrev ps_ranks_now : List Str := [(PySem.Str.ofString "run")]
def m_ranks_now : MS := (mSeq (mRet (mOpA dTuple (mCons (mOp2 dIx (mCall f_ranked (mCons (mVar 0) mNil)) (mCon (.int 1))) mNil)))
    mNx)
def f_ranks_now : FM := runDef N_ranks_now.length m_ranks_now
theorem sc_ranks_now : FnScope N_ranks_now ps_ranks_now (defScope st_ranks_now) := ⟨rfl, rfl, rfl, by decide +kernel, rfl, by decide +kernel, by decide +kernel⟩
abbrev st_ranks_told : Stmt := top 14
abbrev N_ranks_told : List Str := [(PySem.Str.ofString "side"), (PySem.Str.ofString "told"), (PySem.Str.ofString "now"), (PySem.Str.ofString "found"), (PySem.Str.ofString "bit")]
abbrev ps_ranks_told : List Str := [(PySem.Str.ofString "side"), (PySem.Str.ofString "told")]
def m_ranks_told : MS := (mSeq (mSet 2 (mVar 0))
    (mSeq (mSet 3 (mLst mNil))
    (mSeq (mFor (mIter (mVar 1)) (tName 4) (mSeq (mIfS (mB (mOp2 (dEq true) (mVar 4) (mCall f_bit_of (mCons (mVar 2) mNil)))) (mSeq (mAug 2 (fun i j => i + j) (mCon (.int 2)))
    mNx) mNx)
    (mSeq (mExpr (mMeth ckL fAppend (mVar 3) (mCons (mVar 2) mNil)))
    mNx)))
    (mSeq (mRet (mOpA dTuple (mCons (mVar 3) mNil)))
    mNx))))
def f_ranks_told : FM := runDef N_ranks_told.length m_ranks_told
theorem sc_ranks_told : FnScope N_ranks_told ps_ranks_told (defScope st_ranks_told) := ⟨rfl, rfl, rfl, by decide +kernel, rfl, by decide +kernel, by decide +kernel⟩
abbrev st_laps : Stmt := top 15
abbrev N_laps : List Str := [(PySem.Str.ofString "run"), (PySem.Str.ofString "found"), (PySem.Str.ofString "number"), (PySem.Str.ofString "rank")]
abbrev ps_laps : List Str := [(PySem.Str.ofString "run")]
def m_laps : MS := (mSeq (mSet 1 mDict0)
    (mSeq (mFor (mEnum 0 (mCall f_ranks (mCons (mVar 0) mNil))) (tTup 2 (tsCons (tName 2) (tsCons (tName 3) tsNil))) (mSeq (mExpr (mMeth ckL fAppend (mMeth ckD fSetd (mVar 1) (mCons (mVar 3) (mCons (mLst mNil) mNil))) (mCons (mVar 2) mNil)))
    mNx))
    (mSeq (mRet (mOpA dTuple (mCons (mLc (mIter (mOpA dSortU (mCons (mVar 1) mNil))) (tName 3) (mPure true) (mTup (mCons (mVar 3) (mCons (mOpA dTuple (mCons (mOp2 dIx (mVar 1) (mVar 3)) mNil)) mNil))) [3]) mNil)))
    mNx)))
def f_laps : FM := runDef N_laps.length m_laps
theorem sc_laps : FnScope N_laps ps_laps (defScope st_laps) := ⟨rfl, rfl, rfl, by decide +kernel, rfl, by decide +kernel, by decide +kernel⟩
abbrev st_by_ranks : Stmt := top 16
abbrev N_by_ranks : List Str := [(PySem.Str.ofString "told"), (PySem.Str.ofString "numbers"), (PySem.Str.ofString "_"), (PySem.Str.ofString "number")]
abbrev ps_by_ranks : List Str := [(PySem.Str.ofString "told"), (PySem.Str.ofString "numbers")]
def m_by_ranks : MS := (mSeq (mRet (mOpA dTuple (mCons (mLc (mIter (mOpA dSortU (mCons (mLc (mIter (mVar 1)) (tName 3) (mPure true) (mTup (mCons (mOp2 dIx (mVar 0) (mVar 3)) (mCons (mVar 3) mNil))) [3]) mNil))) (tTup 2 (tsCons (tName 2) (tsCons (tName 3) tsNil))) (mPure true) (mVar 3) [2, 3]) mNil)))
    mNx)
def f_by_ranks : FM := runDef N_by_ranks.length m_by_ranks
theorem sc_by_ranks : FnScope N_by_ranks ps_by_ranks (defScope st_by_ranks) := ⟨rfl, rfl, rfl, by decide +kernel, rfl, by decide +kernel, by decide +kernel⟩
abbrev st_rank_weaving : Stmt := top 17
abbrev N_rank_weaving : List Str := [(PySem.Str.ofString "run"), (PySem.Str.ofString "told")]
abbrev ps_rank_weaving : List Str := [(PySem.Str.ofString "run")]
def m_rank_weaving : MS := (mSeq (mSet 1 (mCall f_ranks (mCons (mVar 0) mNil)))
    (mSeq (mRet (mCall f_by_ranks (mCons (mVar 1) (mCons (mOp1 dRgL1 (mOpA dLenA (mCons (mVar 1) mNil))) mNil))))
    mNx))
def f_rank_weaving : FM := runDef N_rank_weaving.length m_rank_weaving
theorem sc_rank_weaving : FnScope N_rank_weaving ps_rank_weaving (defScope st_rank_weaving) := ⟨rfl, rfl, rfl, by decide +kernel, rfl, by decide +kernel, by decide +kernel⟩
abbrev st_rank_order : Stmt := top 18
abbrev N_rank_order : List Str := [(PySem.Str.ofString "run"), (PySem.Str.ofString "side")]
abbrev ps_rank_order : List Str := [(PySem.Str.ofString "run"), (PySem.Str.ofString "side")]
def m_rank_order : MS := (mSeq (mRet (mCall f_by_ranks (mCons (mCall f_ranks (mCons (mVar 0) mNil)) (mCons (mCall f_known (mCons (mVar 0) (mCons (mVar 1) mNil))) mNil))))
    mNx)
def f_rank_order : FM := runDef N_rank_order.length m_rank_order
theorem sc_rank_order : FnScope N_rank_order ps_rank_order (defScope st_rank_order) := ⟨rfl, rfl, rfl, by decide +kernel, rfl, by decide +kernel, by decide +kernel⟩
abbrev st_moved : Stmt := top 19
abbrev N_moved : List Str := [(PySem.Str.ofString "run"), (PySem.Str.ofString "told"), (PySem.Str.ofString "known_by"), (PySem.Str.ofString "found"), (PySem.Str.ofString "side"), (PySem.Str.ofString "letter"), (PySem.Str.ofString "number"), (PySem.Str.ofString "rank")]
abbrev ps_moved : List Str := [(PySem.Str.ofString "run")]
def m_moved : MS := (mSeq (mSet 1 (mCall f_ranks (mCons (mVar 0) mNil)))
    (mSeq (mSet 2 (mTup (mCons (mLst mNil) (mCons (mLst mNil) mNil))))
    (mSeq (mSet 3 (mLst mNil))
    (mSeq (mFor (mIter (mCall f_learnings (mCons (mVar 0) mNil))) (tTup 3 (tsCons (tName 4) (tsCons (tName 5) (tsCons (tName 6) tsNil)))) (mSeq (mIfS (mB (mOp2 (dEq false) (mVar 5) (mCon (.int 0)))) (mSeq (mExpr (mMeth ckL fAppend (mVar 3) (mCons (mOpA dLenA (mCons (mLc (mIter (mOp2 dIx (mVar 2) (mVar 4))) (tName 7) (mB (mOp2 dGt (mVar 7) (mOp2 dIx (mVar 1) (mVar 6)))) (mVar 7) [7]) mNil)) mNil)))
    mNx) mNx)
    (mSeq (mExpr (mMeth ckL fAppend (mOp2 dIx (mVar 2) (mVar 4)) (mCons (mOp2 dIx (mVar 1) (mVar 6)) mNil)))
    mNx)))
    (mSeq (mRet (mOpA dTuple (mCons (mVar 3) mNil)))
    mNx)))))
def f_moved : FM := runDef N_moved.length m_moved
theorem sc_moved : FnScope N_moved ps_moved (defScope st_moved) := ⟨rfl, rfl, rfl, by decide +kernel, rfl, by decide +kernel, by decide +kernel⟩
abbrev st_is_ranked : Stmt := top 20
abbrev N_is_ranked : List Str := [(PySem.Str.ofString "puts"), (PySem.Str.ofString "thing"), (PySem.Str.ofString "now"), (PySem.Str.ofString "latest"), (PySem.Str.ofString "rank"), (PySem.Str.ofString "side"), (PySem.Str.ofString "_")]
abbrev ps_is_ranked : List Str := [(PySem.Str.ofString "puts"), (PySem.Str.ofString "thing")]
def m_is_ranked : MS := (mSeq (mIfS (mOr (mNot (mTruth (mCall f_are_numbers_from (mCons (mVar 1) (mCons (mCon (.int 0)) mNil))))) (mB (mOp2 (dEq true) (mOpA dLenA (mCons (mVar 1) mNil)) (mOpA dLenA (mCons (mVar 0) mNil))))) (mSeq (mRet (mCon (.bl false)))
    mNx) mNx)
    (mSeq (mSet 2 (mLst (mCons (mCon (.int 0)) (mCons (mCon (.int 1)) mNil))))
    (mSeq (mSet 3 (mLst (mCons (mOp1 dNeg (mCon (.int 1))) (mCons (mOp1 dNeg (mCon (.int 1))) mNil))))
    (mSeq (mFor (mZip (mCons (mVar 0) (mCons (mVar 1) mNil))) (tTup 2 (tsCons (tTup 2 (tsCons (tName 5) (tsCons (tName 6) tsNil))) (tsCons (tName 4) tsNil))) (mSeq (mIfS (mAnd (mB (mOp2 (dEq false) (mVar 4) (mOp2 dAdd (mOp2 dIx (mVar 2) (mVar 5)) (mCon (.int 2))))) (mB (mOp2 dGt (mOp2 dIx (mVar 3) (mOp2 dSub (mCon (.int 1)) (mVar 5))) (mOp2 dIx (mVar 2) (mVar 5))))) (mSeq (mAsg (tSub (mVar 2) (mVar 5)) (mVar 4))
    mNx) (mSeq (mIfS (mB (mOp2 (dEq true) (mVar 4) (mOp2 dIx (mVar 2) (mVar 5)))) (mSeq (mRet (mCon (.bl false)))
    mNx) mNx)
    mNx))
    (mSeq (mAsg (tSub (mVar 3) (mVar 5)) (mVar 4))
    mNx)))
    (mSeq (mRet (mCon (.bl true)))
    mNx)))))
def f_is_ranked : FM := runDef N_is_ranked.length m_is_ranked
theorem sc_is_ranked : FnScope N_is_ranked ps_is_ranked (defScope st_is_ranked) := ⟨rfl, rfl, rfl, by decide +kernel, rfl, by decide +kernel, by decide +kernel⟩
abbrev st_ranked_run : Stmt := top 21
abbrev N_ranked_run : List Str := [(PySem.Str.ofString "puts"), (PySem.Str.ofString "told"), (PySem.Str.ofString "now"), (PySem.Str.ofString "put_by"), (PySem.Str.ofString "taken"), (PySem.Str.ofString "events"), (PySem.Str.ofString "rank"), (PySem.Str.ofString "side"), (PySem.Str.ofString "letter"), (PySem.Str.ofString "heard")]
abbrev ps_ranked_run : List Str := [(PySem.Str.ofString "puts"), (PySem.Str.ofString "told")]
def m_ranked_run : MS := (mSeq (mIfS (mNot (mTruth (mCall f_is_ranked (mCons (mVar 0) (mCons (mOpA dTuple (mCons (mVar 1) mNil)) mNil))))) (mSeq (mRaise0 "CanNot")
    mNx) mNx)
    (mSeq (mSet 2 (mLst (mCons (mCon (.int 0)) (mCons (mCon (.int 1)) mNil))))
    (mSeq (mSet 3 (mTup (mCons (mLst mNil) (mCons (mLst mNil) mNil))))
    (mSeq (mSet 4 (mLst (mCons (mCon (.int 0)) (mCons (mCon (.int 0)) mNil))))
    (mSeq (mSet 5 (mLst mNil))
    (mSeq (mFor (mZip (mCons (mVar 0) (mCons (mVar 1) mNil))) (tTup 2 (tsCons (tTup 2 (tsCons (tName 7) (tsCons (tName 8) tsNil))) (tsCons (tName 6) tsNil))) (mSeq (loopW (mB (mOp2 dLt (mOp2 dIx (mVar 2) (mVar 7)) (mVar 6))) (mSeq (mSet 9 (mOp2 dIx (mOp2 dIx (mVar 3) (mOp2 dSub (mCon (.int 1)) (mVar 7))) (mOp2 dIx (mVar 4) (mVar 7))))
    (mSeq (mAugS (fun i j => i + j) (mVar 4) (mVar 7) (mCon (.int 1)))
    (mSeq (mExpr (mMeth ckL fAppend (mVar 5) (mCons (mTup (mCons (mVar 7) (mCons (mCon (.int 0)) mNil))) mNil)))
    (mSeq (mIfS (mB (mOp2 dGt (mVar 9) (mOp2 dIx (mVar 2) (mVar 7)))) (mSeq (mAsg (tSub (mVar 2) (mVar 7)) (mVar 6))
    mNx) mNx)
    mNx)))) 100000)
    (mSeq (mExpr (mMeth ckL fAppend (mOp2 dIx (mVar 3) (mVar 7)) (mCons (mVar 6) mNil)))
    (mSeq (mExpr (mMeth ckL fAppend (mVar 5) (mCons (mTup (mCons (mVar 7) (mCons (mVar 8) mNil))) mNil)))
    mNx))))
    (mSeq (mRet (mOpA dTuple (mCons (mVar 5) mNil)))
    mNx)))))))
def f_ranked_run : FM := runDef N_ranked_run.length m_ranked_run
theorem sc_ranked_run : FnScope N_ranked_run ps_ranked_run (defScope st_ranked_run) := ⟨rfl, rfl, rfl, by decide +kernel, rfl, by decide +kernel, by decide +kernel⟩
abbrev st__law_cells : Stmt := top 23
abbrev N__law_cells : List Str := [(PySem.Str.ofString "script"), (PySem.Str.ofString "top"), (PySem.Str.ofString "cells"), (PySem.Str.ofString "k"), (PySem.Str.ofString "cell"), (PySem.Str.ofString "at_so")]
abbrev ps__law_cells : List Str := [(PySem.Str.ofString "script"), (PySem.Str.ofString "top")]
def m__law_cells : MS := (mSeq (mSet 2 (mOrV (mOpA dListA (mCons (mSl (mVar 0) (mPure none) (mPart (mVar 1))) mNil)) (mLst (mCons (mCon (.int 0)) mNil))))
    (mSeq (mFor (mEnum 0 (mSl (mVar 0) (mPart (mVar 1)) (mPart (mCon (.int 63))))) (tTup 2 (tsCons (tName 3) (tsCons (tName 4) tsNil))) (mSeq (mSet 5 (mOp2 dMod (mOpA dInt1 (mCons (mVar 3) mNil)) (mVar 1)))
    (mSeq (mAsg (tSub (mVar 2) (mVar 5)) (mOp2 dAdd (mOp2 dIx (mVar 2) (mVar 5)) (mOp2 dMulW (mVar 4) (mOp2 dAdd (mVar 3) (mCon (.int 2))))))
    mNx)))
    (mSeq (mRet (mVar 2))
    mNx)))
def f__law_cells : FM := runDef N__law_cells.length m__law_cells
theorem sc__law_cells : FnScope N__law_cells ps__law_cells (defScope st__law_cells) := ⟨rfl, rfl, rfl, by decide +kernel, rfl, by decide +kernel, by decide +kernel⟩
abbrev st__law_same : Stmt := top 24
abbrev N__law_same : List Str := [(PySem.Str.ofString "got"), (PySem.Str.ofString "goal"), (PySem.Str.ofString "mine_so"), (PySem.Str.ofString "own")]
abbrev ps__law_same : List Str := [(PySem.Str.ofString "got"), (PySem.Str.ofString "goal")]
def m__law_same (fm : FM) : MS := (mSeq (mIfS (mTruth (mOpA dIsi (mCons (mVar 1) (mCons (mTup (mCons (mCon (.ty .list)) (mCons (mCon (.ty .tuple)) mNil))) mNil)))) (mSeq (mIfS (mOr (mB (mOp2 (dEq true) (mOpA dIsi (mCons (mVar 0) (mCons (mCon (.ty .list)) mNil))) (mOpA dIsi (mCons (mVar 1) (mCons (mCon (.ty .list)) mNil))))) (mB (mOp2 (dEq true) (mOpA dIsi (mCons (mVar 0) (mCons (mCon (.ty .tuple)) mNil))) (mOpA dIsi (mCons (mVar 1) (mCons (mCon (.ty .tuple)) mNil)))))) (mSeq (mRet (mCon (.bl false)))
    mNx) mNx)
    (mSeq (mRet (mAndV (mOp2 (dEq false) (mOpA dLenA (mCons (mVar 0) mNil)) (mOpA dLenA (mCons (mVar 1) mNil))) (mOpA dAll (mCons (mLc (mZip (mCons (mVar 0) (mCons (mVar 1) mNil))) (tTup 2 (tsCons (tName 2) (tsCons (tName 3) tsNil))) (mPure true) (mCall fm (mCons (mVar 2) (mCons (mVar 3) mNil))) [2, 3]) mNil))))
    mNx)) mNx)
    (mSeq (mIfS (mOr (mB (mOp2 (dIs false) (mVar 1) (mCon .non))) (mTruth (mOpA dIsi (mCons (mVar 1) (mCons (mTup (mCons (mCon (.ty .bool)) (mCons (mCon (.ty .str)) mNil))) mNil))))) (mSeq (mRet (mAndV (mOp2 (dEq false) (mVar 0) (mVar 1)) (mAndV (mOp2 (dEq false) (mOpA dIsi (mCons (mVar 0) (mCons (mCon (.ty .bool)) mNil))) (mOpA dIsi (mCons (mVar 1) (mCons (mCon (.ty .bool)) mNil)))) (mOp2 (dEq false) (mOp2 (dIs false) (mVar 0) (mCon .non)) (mOp2 (dIs false) (mVar 1) (mCon .non))))))
    mNx) mNx)
    (mSeq (mRet (mAndV (mOpA dIsi (mCons (mVar 0) (mCons (mCon (.ty .int)) mNil))) (mAndV (mNotV (mOpA dIsi (mCons (mVar 0) (mCons (mCon (.ty .bool)) mNil)))) (mOp2 (dEq false) (mVar 0) (mVar 1)))))
    mNx)))
def f__law_same : FM := fuelF N__law_same m__law_same 40
theorem sc__law_same : FnScope N__law_same ps__law_same (defScope st__law_same) := ⟨rfl, rfl, rfl, by decide +kernel, rfl, by decide +kernel, by decide +kernel⟩
abbrev st__law_lists : Stmt := top 25
abbrev N__law_lists : List Str := [(PySem.Str.ofString "matter"), (PySem.Str.ofString "own")]
abbrev ps__law_lists : List Str := [(PySem.Str.ofString "matter")]
def m__law_lists (fm : FM) : MS := (mSeq (mRet (mIf (mTruth (mOpA dIsi (mCons (mVar 0) (mCons (mTup (mCons (mCon (.ty .list)) (mCons (mCon (.ty .tuple)) mNil))) mNil)))) (mLc (mIter (mVar 0)) (tName 1) (mPure true) (mCall fm (mCons (mVar 1) mNil)) [1]) (mVar 0)))
    mNx)
def f__law_lists : FM := fuelF N__law_lists m__law_lists 40
theorem sc__law_lists : FnScope N__law_lists ps__law_lists (defScope st__law_lists) := ⟨rfl, rfl, rfl, by decide +kernel, rfl, by decide +kernel, by decide +kernel⟩
abbrev st__law_way : Stmt := top 26
abbrev N__law_way : List Str := []
abbrev ps__law_way : List Str := []
def m__law_way : MS := (mSeq (mRet (mTup (mCons (mTup (mCons (mCon (.int 0)) (mCons (mCon (.int 1)) mNil))) (mCons (mTup (mCons (mCon (.int 1)) (mCons (mCon (.int 2)) mNil))) (mCons (mTup (mCons (mCon (.int 1)) (mCons (mCon (.int 0)) mNil))) (mCons (mTup (mCons (mCon (.int 1)) (mCons (mCon (.int 3)) mNil))) (mCons (mTup (mCons (mCon (.int 0)) (mCons (mCon (.int 0)) mNil))) (mCons (mTup (mCons (mCon (.int 0)) (mCons (mCon (.int 1)) mNil))) mNil))))))))
    mNx)
def f__law_way : FM := runDef N__law_way.length m__law_way
theorem sc__law_way : FnScope N__law_way ps__law_way (defScope st__law_way) := ⟨rfl, rfl, rfl, by decide +kernel, rfl, by decide +kernel, by decide +kernel⟩
abbrev st__law_meet : Stmt := top 27
abbrev N__law_meet : List Str := []
abbrev ps__law_meet : List Str := []
def m__law_meet : MS := (mSeq (mRet (mTup (mCons (mTup (mCons (mCon (.int 1)) (mCons (mCon (.int 1)) mNil))) (mCons (mTup (mCons (mCon (.int 0)) (mCons (mCon (.int 2)) mNil))) (mCons (mTup (mCons (mCon (.int 0)) (mCons (mCon (.int 2)) mNil))) (mCons (mTup (mCons (mCon (.int 0)) (mCons (mCon (.int 0)) mNil))) (mCons (mTup (mCons (mCon (.int 1)) (mCons (mCon (.int 0)) mNil))) (mCons (mTup (mCons (mCon (.int 1)) (mCons (mCon (.int 3)) mNil))) (mCons (mTup (mCons (mCon (.int 0)) (mCons (mCon (.int 1)) mNil))) (mCons (mTup (mCons (mCon (.int 1)) (mCons (mCon (.int 0)) mNil))) mNil))))))))))
    mNx)
def f__law_meet : FM := runDef N__law_meet.length m__law_meet
theorem sc__law_meet : FnScope N__law_meet ps__law_meet (defScope st__law_meet) := ⟨rfl, rfl, rfl, by decide +kernel, rfl, by decide +kernel, by decide +kernel⟩
abbrev st__law_turns : Stmt := top 28
abbrev N__law_turns : List Str := []
abbrev ps__law_turns : List Str := []
def m__law_turns : MS := (mSeq (mRet (mTup (mCons (mTup (mCons (mCon (.int 0)) (mCons (mCon (.int 1)) mNil))) (mCons (mTup (mCons (mCon (.int 1)) (mCons (mCon (.int 0)) mNil))) (mCons (mTup (mCons (mCon (.int 1)) (mCons (mCon (.int 2)) mNil))) (mCons (mTup (mCons (mCon (.int 0)) (mCons (mCon (.int 0)) mNil))) (mCons (mTup (mCons (mCon (.int 0)) (mCons (mCon (.int 3)) mNil))) (mCons (mTup (mCons (mCon (.int 1)) (mCons (mCon (.int 0)) mNil))) (mCons (mTup (mCons (mCon (.int 1)) (mCons (mCon (.int 1)) mNil))) (mCons (mTup (mCons (mCon (.int 0)) (mCons (mCon (.int 0)) mNil))) (mCons (mTup (mCons (mCon (.int 0)) (mCons (mCon (.int 2)) mNil))) (mCons (mTup (mCons (mCon (.int 0)) (mCons (mCon (.int 2)) mNil))) mNil))))))))))))
    mNx)
def f__law_turns : FM := runDef N__law_turns.length m__law_turns
theorem sc__law_turns : FnScope N__law_turns ps__law_turns (defScope st__law_turns) := ⟨rfl, rfl, rfl, by decide +kernel, rfl, by decide +kernel, by decide +kernel⟩
abbrev st__law_heard : Stmt := top 29
abbrev N__law_heard : List Str := [(PySem.Str.ofString "row"), (PySem.Str.ofString "told"), (PySem.Str.ofString "error")]
abbrev ps__law_heard : List Str := [(PySem.Str.ofString "row"), (PySem.Str.ofString "told")]
def m__law_heard : MS := (mSeq (mTry ["CanNot"] (mSeq (mRet (mCallK f_ranked_run 0 2 [1, 0] 2 mNil (mCons (mVar 1) (mCons (mVar 0) mNil))))
    mNx) [⟨"CanNot", (some 2), (fun c fs => mRet (mXL (xCons (xC (.str "can not")) (xCons (xIsi "CanNot" true) xNil)) c fs))⟩])
    mNx)
def f__law_heard : FM := runDef N__law_heard.length m__law_heard
theorem sc__law_heard : FnScope N__law_heard ps__law_heard (defScope st__law_heard) := ⟨rfl, rfl, rfl, by decide +kernel, rfl, by decide +kernel, by decide +kernel⟩
abbrev st__law_runs_right : Stmt := top 30
abbrev N__law_runs_right : List Str := [(PySem.Str.ofString "got"), (PySem.Str.ofString "due"), (PySem.Str.ofString "late"), (PySem.Str.ofString "way"), (PySem.Str.ofString "meet"), (PySem.Str.ofString "turns"), (PySem.Str.ofString "alone"), (PySem.Str.ofString "own")]
abbrev ps__law_runs_right : List Str := []
def m__law_runs_right : MS := (mSeq (mAsg (tTup 4 (tsCons (tName 3) (tsCons (tName 4) (tsCons (tName 5) (tsCons (tName 6) tsNil))))) (mTup (mCons (mCall f__law_way mNil) (mCons (mCall f__law_meet mNil) (mCons (mCall f__law_turns mNil) (mCons (mTup (mCons (mTup (mCons (mCon (.int 1)) (mCons (mCon (.int 1)) mNil))) (mCons (mTup (mCons (mCon (.int 1)) (mCons (mCon (.int 1)) mNil))) (mCons (mTup (mCons (mCon (.int 1)) (mCons (mCon (.int 2)) mNil))) mNil)))) mNil))))))
    (mSeq (mSet 0 (mLst (mCons (mLc (mIter (mTup (mCons (mVar 3) (mCons (mVar 4) (mCons (mVar 5) (mCons (mVar 6) (mCons (mTup mNil) mNil))))))) (tName 7) (mPure true) (mCall f_ranks (mCons (mVar 7) mNil)) [7]) (mCons (mLc (mIter (mTup (mCons (mVar 3) (mCons (mVar 4) (mCons (mVar 5) (mCons (mVar 6) (mCons (mTup mNil) mNil))))))) (tName 7) (mPure true) (mCall f_bits (mCons (mVar 7) mNil)) [7]) mNil))))
    (mSeq (mSet 1 (mLst (mCons (mLst (mCons (mTup (mCons (mCon (.int 0)) (mCons (mCon (.int 1)) (mCons (mCon (.int 1)) (mCons (mCon (.int 2)) mNil))))) (mCons (mTup (mCons (mCon (.int 1)) (mCons (mCon (.int 0)) (mCons (mCon (.int 0)) (mCons (mCon (.int 1)) (mCons (mCon (.int 2)) mNil)))))) (mCons (mTup (mCons (mCon (.int 0)) (mCons (mCon (.int 1)) (mCons (mCon (.int 2)) (mCons (mCon (.int 3)) (mCons (mCon (.int 4)) (mCons (mCon (.int 4)) mNil))))))) (mCons (mTup (mCons (mCon (.int 1)) (mCons (mCon (.int 1)) (mCons (mCon (.int 1)) mNil)))) (mCons (mTup mNil) mNil)))))) (mCons (mLst (mCons (mTup (mCons (mCon (.int 0)) (mCons (mCon (.int 0)) (mCons (mCon (.int 0)) (mCons (mCon (.int 1)) mNil))))) (mCons (mTup (mCons (mCon (.int 0)) (mCons (mCon (.int 0)) (mCons (mCon (.int 0)) (mCons (mCon (.int 0)) (mCons (mCon (.int 1)) mNil)))))) (mCons (mTup (mCons (mCon (.int 0)) (mCons (mCon (.int 0)) (mCons (mCon (.int 1)) (mCons (mCon (.int 1)) (mCons (mCon (.int 0)) (mCons (mCon (.int 0)) mNil))))))) (mCons (mTup (mCons (mCon (.int 0)) (mCons (mCon (.int 0)) (mCons (mCon (.int 0)) mNil)))) (mCons (mTup mNil) mNil)))))) mNil))))
    (mSeq (mSet 0 (mOp2 dAdd (mVar 0) (mLst (mCons (mLc (mIter (mTup (mCons (mVar 3) (mCons (mVar 4) (mCons (mVar 5) (mCons (mVar 6) (mCons (mTup mNil) mNil))))))) (tName 7) (mPure true) (mCall f_ranks_now (mCons (mVar 7) mNil)) [7]) (mCons (mLc (mIter (mTup (mCons (mVar 3) (mCons (mVar 4) (mCons (mVar 5) (mCons (mVar 6) mNil)))))) (tName 7) (mPure true) (mCall f_moved (mCons (mVar 7) mNil)) [7]) mNil)))))
    (mSeq (mSet 1 (mOp2 dAdd (mVar 1) (mLst (mCons (mLst (mCons (mTup (mCons (mCon (.int 2)) (mCons (mCon (.int 1)) mNil))) (mCons (mTup (mCons (mCon (.int 2)) (mCons (mCon (.int 1)) mNil))) (mCons (mTup (mCons (mCon (.int 4)) (mCons (mCon (.int 3)) mNil))) (mCons (mTup (mCons (mCon (.int 0)) (mCons (mCon (.int 1)) mNil))) (mCons (mTup (mCons (mCon (.int 0)) (mCons (mCon (.int 1)) mNil))) mNil)))))) (mCons (mLst (mCons (mTup (mCons (mCon (.int 1)) (mCons (mCon (.int 0)) mNil))) (mCons (mTup (mCons (mCon (.int 0)) (mCons (mCon (.int 1)) (mCons (mCon (.int 2)) mNil)))) (mCons (mTup (mCons (mCon (.int 0)) (mCons (mCon (.int 0)) (mCons (mCon (.int 0)) (mCons (mCon (.int 0)) mNil))))) (mCons (mTup mNil) mNil))))) mNil)))))
    (mSeq (mSet 0 (mOp2 dAdd (mVar 0) (mLst (mCons (mCall f_laps (mCons (mVar 3) mNil)) (mCons (mCall f_laps (mCons (mVar 4) mNil)) (mCons (mCall f_laps (mCons (mVar 5) mNil)) (mCons (mCall f_laps (mCons (mVar 6) mNil)) (mCons (mCall f_laps (mCons (mTup mNil) mNil)) mNil))))))))
    (mSeq (mSet 1 (mOp2 dAdd (mVar 1) (mLst (mCons (mTup (mCons (mTup (mCons (mCon (.int 0)) (mCons (mTup (mCons (mCon (.int 0)) mNil)) mNil))) (mCons (mTup (mCons (mCon (.int 1)) (mCons (mTup (mCons (mCon (.int 1)) (mCons (mCon (.int 2)) mNil))) mNil))) (mCons (mTup (mCons (mCon (.int 2)) (mCons (mTup (mCons (mCon (.int 3)) mNil)) mNil))) mNil)))) (mCons (mTup (mCons (mTup (mCons (mCon (.int 0)) (mCons (mTup (mCons (mCon (.int 1)) (mCons (mCon (.int 2)) mNil))) mNil))) (mCons (mTup (mCons (mCon (.int 1)) (mCons (mTup (mCons (mCon (.int 0)) (mCons (mCon (.int 3)) mNil))) mNil))) (mCons (mTup (mCons (mCon (.int 2)) (mCons (mTup (mCons (mCon (.int 4)) mNil)) mNil))) mNil)))) (mCons (mTup (mCons (mTup (mCons (mCon (.int 0)) (mCons (mTup (mCons (mCon (.int 0)) mNil)) mNil))) (mCons (mTup (mCons (mCon (.int 1)) (mCons (mTup (mCons (mCon (.int 1)) mNil)) mNil))) (mCons (mTup (mCons (mCon (.int 2)) (mCons (mTup (mCons (mCon (.int 2)) mNil)) mNil))) (mCons (mTup (mCons (mCon (.int 3)) (mCons (mTup (mCons (mCon (.int 3)) mNil)) mNil))) (mCons (mTup (mCons (mCon (.int 4)) (mCons (mTup (mCons (mCon (.int 4)) (mCons (mCon (.int 5)) mNil))) mNil))) mNil)))))) (mCons (mTup (mCons (mTup (mCons (mCon (.int 1)) (mCons (mTup (mCons (mCon (.int 0)) (mCons (mCon (.int 1)) (mCons (mCon (.int 2)) mNil)))) mNil))) mNil)) (mCons (mTup mNil) mNil))))))))
    (mSeq (mSet 0 (mOp2 dAdd (mVar 0) (mLst (mCons (mLc (mIter (mTup (mCons (mVar 3) (mCons (mVar 4) (mCons (mVar 6) (mCons (mTup mNil) mNil)))))) (tName 7) (mPure true) (mCall f_rank_weaving (mCons (mVar 7) mNil)) [7]) (mCons (mLc (mIter (mTup (mCons (mVar 3) (mCons (mVar 4) (mCons (mVar 6) mNil))))) (tName 7) (mPure true) (mCall f_rank_order (mCons (mVar 7) (mCons (mCon (.int 0)) mNil))) [7]) (mCons (mLc (mIter (mTup (mCons (mVar 3) (mCons (mVar 4) (mCons (mVar 6) mNil))))) (tName 7) (mPure true) (mCall f_rank_order (mCons (mVar 7) (mCons (mCon (.int 1)) mNil))) [7]) mNil))))))
    (mSeq (mSet 1 (mOp2 dAdd (mVar 1) (mLst (mCons (mLst (mCons (mTup (mCons (mCon (.int 0)) (mCons (mCon (.int 1)) (mCons (mCon (.int 2)) (mCons (mCon (.int 3)) mNil))))) (mCons (mTup (mCons (mCon (.int 1)) (mCons (mCon (.int 2)) (mCons (mCon (.int 0)) (mCons (mCon (.int 3)) (mCons (mCon (.int 4)) mNil)))))) (mCons (mTup (mCons (mCon (.int 0)) (mCons (mCon (.int 1)) (mCons (mCon (.int 2)) mNil)))) (mCons (mTup mNil) mNil))))) (mCons (mLst (mCons (mTup (mCons (mCon (.int 0)) (mCons (mCon (.int 1)) (mCons (mCon (.int 3)) mNil)))) (mCons (mTup (mCons (mCon (.int 1)) (mCons (mCon (.int 2)) (mCons (mCon (.int 0)) (mCons (mCon (.int 4)) mNil))))) (mCons (mTup mNil) mNil)))) (mCons (mLst (mCons (mTup (mCons (mCon (.int 0)) (mCons (mCon (.int 1)) (mCons (mCon (.int 2)) mNil)))) (mCons (mTup (mCons (mCon (.int 1)) (mCons (mCon (.int 2)) (mCons (mCon (.int 0)) (mCons (mCon (.int 3)) mNil))))) (mCons (mTup (mCons (mCon (.int 0)) (mCons (mCon (.int 1)) (mCons (mCon (.int 2)) mNil)))) mNil)))) mNil))))))
    (mSeq (mSet 2 (mTup (mCons (mTup (mCons (mCon (.int 0)) (mCons (mCon (.int 1)) mNil))) (mCons (mTup (mCons (mCon (.int 1)) (mCons (mCon (.int 1)) mNil))) (mCons (mTup (mCons (mCon (.int 0)) (mCons (mCon (.int 0)) mNil))) (mCons (mTup (mCons (mCon (.int 1)) (mCons (mCon (.int 2)) mNil))) (mCons (mTup (mCons (mCon (.int 0)) (mCons (mCon (.int 3)) mNil))) (mCons (mTup (mCons (mCon (.int 1)) (mCons (mCon (.int 0)) mNil))) (mCons (mTup (mCons (mCon (.int 1)) (mCons (mCon (.int 0)) mNil))) (mCons (mTup (mCons (mCon (.int 1)) (mCons (mCon (.int 1)) mNil))) (mCons (mTup (mCons (mCon (.int 0)) (mCons (mCon (.int 0)) mNil))) (mCons (mTup (mCons (mCon (.int 0)) (mCons (mCon (.int 0)) mNil))) (mCons (mTup (mCons (mCon (.int 0)) (mCons (mCon (.int 1)) mNil))) mNil)))))))))))))
    (mSeq (mSet 0 (mOp2 dAdd (mVar 0) (mLst (mCons (mCall f_ranks (mCons (mVar 2) mNil)) (mCons (mCall f_moved (mCons (mVar 2) mNil)) (mCons (mCall f_rank_weaving (mCons (mVar 2) mNil)) (mCons (mCall f_ranks (mCons (mSl (mVar 2) (mPure none) (mPart (mCon (.int 8)))) mNil)) (mCons (mCall f_ranks_now (mCons (mSl (mVar 2) (mPure none) (mPart (mCon (.int 7)))) mNil)) mNil))))))))
    (mSeq (mRet (mCall f__law_same (mCons (mVar 0) (mCons (mOp2 dAdd (mVar 1) (mLst (mCons (mTup (mCons (mCon (.int 0)) (mCons (mCon (.int 1)) (mCons (mCon (.int 1)) (mCons (mCon (.int 2)) (mCons (mCon (.int 3)) (mCons (mCon (.int 4)) mNil))))))) (mCons (mTup (mCons (mCon (.int 0)) (mCons (mCon (.int 2)) (mCons (mCon (.int 0)) (mCons (mCon (.int 1)) (mCons (mCon (.int 0)) mNil)))))) (mCons (mTup (mCons (mCon (.int 0)) (mCons (mCon (.int 1)) (mCons (mCon (.int 2)) (mCons (mCon (.int 3)) (mCons (mCon (.int 4)) (mCons (mCon (.int 5)) mNil))))))) (mCons (mTup (mCons (mCon (.int 0)) (mCons (mCon (.int 1)) (mCons (mCon (.int 1)) (mCons (mCon (.int 2)) (mCons (mCon (.int 3)) mNil)))))) (mCons (mTup (mCons (mCon (.int 2)) (mCons (mCon (.int 1)) mNil))) mNil))))))) mNil))))
    mNx))))))))))))
def f__law_runs_right : FM := runDef N__law_runs_right.length m__law_runs_right
theorem sc__law_runs_right : FnScope N__law_runs_right ps__law_runs_right (defScope st__law_runs_right) := ⟨rfl, rfl, rfl, by decide +kernel, rfl, by decide +kernel, by decide +kernel⟩
abbrev st__law_rows_right : Stmt := top 31
abbrev N__law_rows_right : List Str := [(PySem.Str.ofString "got"), (PySem.Str.ofString "no"), (PySem.Str.ofString "due"), (PySem.Str.ofString "five"), (PySem.Str.ofString "things"), (PySem.Str.ofString "others"), (PySem.Str.ofString "three"), (PySem.Str.ofString "four"), (PySem.Str.ofString "own")]
abbrev ps__law_rows_right : List Str := []
def m__law_rows_right : MS := (mSeq (mAsg (tTup 2 (tsCons (tName 6) (tsCons (tName 7) tsNil))) (mTup (mCons (mTup (mCons (mTup (mCons (mCon (.int 0)) (mCons (mCon (.int 1)) mNil))) (mCons (mTup (mCons (mCon (.int 1)) (mCons (mCon (.int 2)) mNil))) (mCons (mTup (mCons (mCon (.int 0)) (mCons (mCon (.int 1)) mNil))) mNil)))) (mCons (mTup (mCons (mTup (mCons (mCon (.int 0)) (mCons (mCon (.int 1)) mNil))) (mCons (mTup (mCons (mCon (.int 1)) (mCons (mCon (.int 1)) mNil))) (mCons (mTup (mCons (mCon (.int 0)) (mCons (mCon (.int 1)) mNil))) (mCons (mTup (mCons (mCon (.int 1)) (mCons (mCon (.int 2)) mNil))) mNil))))) mNil))))
    (mSeq (mSet 0 (mLc (mIter (mTup (mCons (mTup (mCons (mCon (.int 0)) (mCons (mCon (.int 1)) (mCons (mCon (.int 2)) mNil)))) (mCons (mTup (mCons (mCon (.int 0)) (mCons (mCon (.int 1)) (mCons (mCon (.int 0)) mNil)))) (mCons (mTup (mCons (mCon (.int 0)) (mCons (mCon (.int 1)) (mCons (mCon (.int 1)) mNil)))) (mCons (mTup (mCons (mCon (.int 0)) (mCons (mCon (.int 3)) (mCons (mCon (.int 2)) mNil)))) (mCons (mTup (mCons (mCon (.int 0)) (mCons (mCon (.int 1)) mNil))) (mCons (mTup (mCons (mCon (.int 0)) (mCons (mCon (.int 1)) (mCons (mCon (.int 4)) mNil)))) (mCons (mTup (mCons (mCon (.int 2)) (mCons (mCon (.int 1)) (mCons (mCon (.int 2)) mNil)))) (mCons (mTup (mCons (mCon (.int 0)) (mCons (mCon (.int 1)) (mCons (mCon (.int 2)) (mCons (mCon (.int 2)) mNil))))) mNil)))))))))) (tName 8) (mPure true) (mCall f__law_heard (mCons (mVar 6) (mCons (mVar 8) mNil))) [8]))
    (mSeq (mSet 1 (mLst (mCons (mCon (.str "can not")) (mCons (mCon (.bl true)) mNil))))
    (mSeq (mSet 2 (mLst (mCons (mTup (mCons (mTup (mCons (mCon (.int 0)) (mCons (mCon (.int 1)) mNil))) (mCons (mTup (mCons (mCon (.int 1)) (mCons (mCon (.int 2)) mNil))) (mCons (mTup (mCons (mCon (.int 0)) (mCons (mCon (.int 0)) mNil))) (mCons (mTup (mCons (mCon (.int 0)) (mCons (mCon (.int 1)) mNil))) mNil))))) (mCons (mVar 6) (mCons (mVar 1) (mCons (mVar 1) (mCons (mVar 1) (mCons (mVar 1) (mCons (mVar 1) (mCons (mVar 1) mNil))))))))))
    (mSeq (mSet 0 (mOp2 dAdd (mVar 0) (mLst (mCons (mCall f__law_heard (mCons (mVar 7) (mCons (mTup (mCons (mCon (.int 0)) (mCons (mCon (.int 1)) (mCons (mCon (.int 2)) (mCons (mCon (.int 3)) mNil))))) mNil))) (mCons (mCall f__law_heard (mCons (mVar 7) (mCons (mTup (mCons (mCon (.int 0)) (mCons (mCon (.int 1)) (mCons (mCon (.int 2)) (mCons (mCon (.int 1)) mNil))))) mNil))) (mCons (mCall f__law_heard (mCons (mVar 7) (mCons (mTup (mCons (mCon (.int 0)) (mCons (mCon (.int 1)) (mCons (mCon (.int 0)) (mCons (mCon (.int 1)) mNil))))) mNil))) (mCons (mCall f__law_heard (mCons (mVar 7) (mCons (mTup (mCons (mCon (.int 0)) (mCons (mCon (.int 1)) (mCons (mCon (.int 0)) (mCons (mCon (.int 3)) mNil))))) mNil))) (mCons (mCall f__law_heard (mCons (mTup mNil) (mCons (mTup mNil) mNil))) mNil))))))))
    (mSeq (mSet 2 (mOp2 dAdd (mVar 2) (mLst (mCons (mTup (mCons (mTup (mCons (mCon (.int 0)) (mCons (mCon (.int 1)) mNil))) (mCons (mTup (mCons (mCon (.int 1)) (mCons (mCon (.int 1)) mNil))) (mCons (mTup (mCons (mCon (.int 0)) (mCons (mCon (.int 0)) mNil))) (mCons (mTup (mCons (mCon (.int 0)) (mCons (mCon (.int 1)) mNil))) (mCons (mTup (mCons (mCon (.int 1)) (mCons (mCon (.int 0)) mNil))) (mCons (mTup (mCons (mCon (.int 1)) (mCons (mCon (.int 0)) mNil))) (mCons (mTup (mCons (mCon (.int 1)) (mCons (mCon (.int 2)) mNil))) mNil)))))))) (mCons (mTup (mCons (mTup (mCons (mCon (.int 0)) (mCons (mCon (.int 1)) mNil))) (mCons (mTup (mCons (mCon (.int 1)) (mCons (mCon (.int 1)) mNil))) (mCons (mTup (mCons (mCon (.int 0)) (mCons (mCon (.int 0)) mNil))) (mCons (mTup (mCons (mCon (.int 0)) (mCons (mCon (.int 1)) mNil))) (mCons (mTup (mCons (mCon (.int 1)) (mCons (mCon (.int 2)) mNil))) mNil)))))) (mCons (mVar 7) (mCons (mVar 1) (mCons (mTup mNil) mNil))))))))
    (mSeq (mSet 3 (mTup (mCons (mTup (mCons (mCon (.int 1)) (mCons (mCon (.int 1)) mNil))) (mCons (mTup (mCons (mCon (.int 1)) (mCons (mCon (.int 2)) mNil))) (mCons (mTup (mCons (mCon (.int 0)) (mCons (mCon (.int 3)) mNil))) (mCons (mTup (mCons (mCon (.int 1)) (mCons (mCon (.int 1)) mNil))) (mCons (mTup (mCons (mCon (.int 0)) (mCons (mCon (.int 1)) mNil))) (mCons (mTup (mCons (mCon (.int 0)) (mCons (mCon (.int 2)) mNil))) mNil))))))))
    (mSeq (mSet 0 (mOp2 dAdd (mVar 0) (mLst (mCons (mCall f__law_heard (mCons (mVar 3) (mCons (mTup (mCons (mCon (.int 1)) (mCons (mCon (.int 1)) (mCons (mCon (.int 0)) (mCons (mCon (.int 1)) (mCons (mCon (.int 2)) (mCons (mCon (.int 2)) mNil))))))) mNil))) (mCons (mCall f__law_heard (mCons (mVar 3) (mCons (mTup (mCons (mCon (.int 1)) (mCons (mCon (.int 1)) (mCons (mCon (.int 2)) (mCons (mCon (.int 1)) (mCons (mCon (.int 2)) (mCons (mCon (.int 2)) mNil))))))) mNil))) (mCons (mCall f__law_heard (mCons (mVar 3) (mCons (mTup (mCons (mCon (.int 1)) (mCons (mCon (.int 1)) (mCons (mCon (.int 2)) (mCons (mCon (.int 3)) (mCons (mCon (.int 4)) (mCons (mCon (.int 4)) mNil))))))) mNil))) (mCons (mCall f__law_heard (mCons (mVar 3) (mCons (mTup (mCons (mCon (.int 1)) (mCons (mCon (.int 1)) (mCons (mCon (.int 2)) (mCons (mCon (.int 3)) (mCons (mCon (.int 2)) (mCons (mCon (.int 4)) mNil))))))) mNil))) mNil)))))))
    (mSeq (mSet 2 (mOp2 dAdd (mVar 2) (mLst (mCons (mOp2 dAdd (mOp2 dAdd (mSl (mVar 3) (mPure none) (mPart (mCon (.int 4)))) (mTup (mCons (mTup (mCons (mCon (.int 0)) (mCons (mCon (.int 0)) mNil))) mNil))) (mSl (mVar 3) (mPart (mCon (.int 4))) (mPure none))) (mCons (mOp2 dAdd (mOp2 dAdd (mSl (mVar 3) (mPure none) (mPart (mCon (.int 2)))) (mTup (mCons (mTup (mCons (mCon (.int 0)) (mCons (mCon (.int 0)) mNil))) mNil))) (mSl (mVar 3) (mPart (mCon (.int 2))) (mPure none))) mNil)))))
    (mSeq (mSet 2 (mOp2 dAdd (mVar 2) (mLst (mCons (mOp2 dAdd (mOp2 dAdd (mSl (mVar 3) (mPure none) (mPart (mCon (.int 2)))) (mTup (mCons (mTup (mCons (mCon (.int 0)) (mCons (mCon (.int 0)) mNil))) (mCons (mTup (mCons (mCon (.int 0)) (mCons (mCon (.int 3)) mNil))) (mCons (mTup (mCons (mCon (.int 1)) (mCons (mCon (.int 0)) mNil))) (mCons (mTup (mCons (mCon (.int 1)) (mCons (mCon (.int 1)) mNil))) (mCons (mTup (mCons (mCon (.int 0)) (mCons (mCon (.int 0)) mNil))) (mCons (mTup (mCons (mCon (.int 0)) (mCons (mCon (.int 0)) mNil))) mNil)))))))) (mSl (mVar 3) (mPart (mCon (.int 4))) (mPure none))) (mCons (mOp2 dAdd (mSl (mVar 3) (mPure none) (mPart (mCon (.int 2)))) (mTup (mCons (mTup (mCons (mCon (.int 0)) (mCons (mCon (.int 0)) mNil))) (mCons (mTup (mCons (mCon (.int 0)) (mCons (mCon (.int 3)) mNil))) (mCons (mTup (mCons (mCon (.int 1)) (mCons (mCon (.int 0)) mNil))) (mCons (mTup (mCons (mCon (.int 1)) (mCons (mCon (.int 1)) mNil))) (mCons (mTup (mCons (mCon (.int 0)) (mCons (mCon (.int 1)) mNil))) (mCons (mTup (mCons (mCon (.int 0)) (mCons (mCon (.int 0)) mNil))) (mCons (mTup (mCons (mCon (.int 0)) (mCons (mCon (.int 0)) mNil))) (mCons (mTup (mCons (mCon (.int 0)) (mCons (mCon (.int 2)) mNil))) mNil)))))))))) mNil)))))
    (mSeq (mSet 4 (mLst (mCons (mTup (mCons (mCon (.int 0)) (mCons (mCon (.int 1)) (mCons (mCon (.int 2)) (mCons (mCon (.int 3)) mNil))))) (mCons (mTup (mCons (mCon (.int 0)) (mCons (mCon (.int 1)) (mCons (mCon (.int 0)) (mCons (mCon (.int 1)) mNil))))) (mCons (mTup (mCons (mCon (.int 0)) (mCons (mCon (.int 1)) (mCons (mCon (.int 2)) (mCons (mCon (.int 1)) mNil))))) mNil)))))
    (mSeq (mSet 5 (mLst (mCons (mTup (mCons (mCon (.int 0)) (mCons (mCon (.int 1)) (mCons (mCon (.int 0)) (mCons (mCon (.int 3)) mNil))))) (mCons (mLst (mCons (mCon (.int 0)) (mCons (mCon (.int 1)) (mCons (mCon (.int 2)) (mCons (mCon (.int 3)) mNil))))) (mCons (mTup (mCons (mCon (.int 0)) (mCons (mCon (.bl true)) (mCons (mCon (.int 2)) (mCons (mCon (.int 3)) mNil))))) (mCons (mTup (mCons (mCon (.int 0)) (mCons (mCon (.int 1)) (mCons (mCon (.int 2)) mNil)))) (mCons (mTup (mCons (mCon (.int 0)) (mCons (mCon (.int 1)) (mCons (mCon (.int 2)) (mCons (mCon (.int 3)) (mCons (mCon (.int 4)) mNil)))))) (mCons (mCon .non) (mCons (mCon (.int 0)) (mCons (mCon (.str "0123")) (mCons (mTup (mCons (mCon (.int 0)) (mCons (mCon (.int 1)) (mCons (mCon (.int 2)) (mCons (mTup (mCons (mCon (.int 3)) mNil)) mNil))))) (mCons (mTup (mCons (mCon (.int 0)) (mCons (mCon (.int 1)) (mCons (mCon (.int 2)) (mCons (mCon (.int 5)) mNil))))) (mCons (mTup (mCons (mCon (.int 0)) (mCons (mOp1 dNeg (mCon (.int 1))) (mCons (mCon (.int 0)) (mCons (mCon (.int 1)) mNil))))) (mCons (mTup mNil) (mCons (mTup (mCons (mTup (mCons (mCon (.int 0)) (mCons (mCon (.int 1)) (mCons (mCon (.int 2)) (mCons (mCon (.int 3)) mNil))))) mNil)) (mCons (mTup (mCons (mCon (.bl false)) (mCons (mCon (.int 1)) (mCons (mCon (.int 2)) (mCons (mCon (.int 3)) mNil))))) mNil))))))))))))))))
    (mSeq (mSet 0 (mOp2 dAdd (mVar 0) (mLst (mCons (mLc (mIter (mVar 4)) (tName 8) (mPure true) (mCall f_is_ranked (mCons (mVar 7) (mCons (mVar 8) mNil))) [8]) (mCons (mLc (mIter (mVar 5)) (tName 8) (mPure true) (mCall f_is_ranked (mCons (mVar 7) (mCons (mVar 8) mNil))) [8]) (mCons (mCall f_is_ranked (mCons (mTup mNil) (mCons (mTup mNil) mNil))) (mCons (mCall f_is_ranked (mCons (mTup mNil) (mCons (mTup (mCons (mCon (.int 0)) mNil)) mNil))) mNil)))))))
    (mSeq (mSet 2 (mOp2 dAdd (mVar 2) (mLst (mCons (mOp2 dMulW (mLst (mCons (mCon (.bl true)) mNil)) (mCon (.int 3))) (mCons (mOp2 dMulW (mLst (mCons (mCon (.bl false)) mNil)) (mCon (.int 14))) (mCons (mCon (.bl true)) (mCons (mCon (.bl false)) mNil)))))))
    (mSeq (mSet 0 (mOp2 dAdd (mVar 0) (mLst (mCons (mCall f_ranks_told (mCons (mCon (.int 0)) (mCons (mTup (mCons (mCon (.int 0)) (mCons (mCon (.int 1)) (mCons (mCon (.int 1)) (mCons (mCon (.int 0)) mNil))))) mNil))) (mCons (mCall f_ranks_told (mCons (mCon (.int 1)) (mCons (mTup (mCons (mCon (.int 1)) mNil)) mNil))) (mCons (mCall f_ranks_told (mCons (mCon (.int 1)) (mCons (mTup (mCons (mCon (.int 0)) (mCons (mCon (.int 0)) (mCons (mCon (.int 1)) (mCons (mCon (.int 0)) (mCons (mCon (.int 1)) mNil)))))) mNil))) (mCons (mCall f_ranks_told (mCons (mCon (.int 0)) (mCons (mTup mNil) mNil))) (mCons (mCall f_ranks_told (mCons (mCon (.int 0)) (mCons (mTup (mCons (mCon (.int 1)) (mCons (mCon (.int 0)) (mCons (mCon (.int 1)) (mCons (mCon (.int 1)) mNil))))) mNil))) mNil))))))))
    (mSeq (mRet (mCall f__law_same (mCons (mVar 0) (mCons (mOp2 dAdd (mVar 2) (mLst (mCons (mTup (mCons (mCon (.int 0)) (mCons (mCon (.int 2)) (mCons (mCon (.int 2)) (mCons (mCon (.int 4)) mNil))))) (mCons (mTup (mCons (mCon (.int 3)) mNil)) (mCons (mTup (mCons (mCon (.int 1)) (mCons (mCon (.int 1)) (mCons (mCon (.int 3)) (mCons (mCon (.int 5)) (mCons (mCon (.int 7)) mNil)))))) (mCons (mTup mNil) (mCons (mTup (mCons (mCon (.int 2)) (mCons (mCon (.int 4)) (mCons (mCon (.int 6)) (mCons (mCon (.int 6)) mNil))))) mNil))))))) mNil))))
    mNx))))))))))))))))
def f__law_rows_right : FM := runDef N__law_rows_right.length m__law_rows_right
theorem sc__law_rows_right : FnScope N__law_rows_right ps__law_rows_right (defScope st__law_rows_right) := ⟨rfl, rfl, rfl, by decide +kernel, rfl, by decide +kernel, by decide +kernel⟩
abbrev st__law_listed_right : Stmt := top 32
abbrev N__law_listed_right : List Str := [(PySem.Str.ofString "got"), (PySem.Str.ofString "due"), (PySem.Str.ofString "way"), (PySem.Str.ofString "meet"), (PySem.Str.ofString "soft"), (PySem.Str.ofString "half"), (PySem.Str.ofString "three")]
abbrev ps__law_listed_right : List Str := []
def m__law_listed_right : MS := (mSeq (mPar [2, 3] (mCons (mCall f__law_way mNil) (mCons (mCall f__law_meet mNil) mNil)))
    (mSeq (mPar [4, 5, 6] (mCons (mCall f__law_lists (mCons (mVar 3) mNil)) (mCons (mLst (mCons (mTup (mCons (mCon (.int 0)) (mCons (mCon (.int 1)) mNil))) (mCons (mLst (mCons (mCon (.int 1)) (mCons (mCon (.int 2)) mNil))) (mCons (mTup (mCons (mCon (.int 1)) (mCons (mCon (.int 0)) mNil))) (mCons (mLst (mCons (mCon (.int 1)) (mCons (mCon (.int 3)) mNil))) (mCons (mTup (mCons (mCon (.int 0)) (mCons (mCon (.int 0)) mNil))) (mCons (mTup (mCons (mCon (.int 0)) (mCons (mCon (.int 1)) mNil))) mNil))))))) (mCons (mTup (mCons (mTup (mCons (mCon (.int 0)) (mCons (mCon (.int 1)) mNil))) (mCons (mTup (mCons (mCon (.int 1)) (mCons (mCon (.int 2)) mNil))) (mCons (mTup (mCons (mCon (.int 0)) (mCons (mCon (.int 1)) mNil))) mNil)))) mNil))))
    (mSeq (mSet 0 (mLst (mCons (mCallK f_ranks 0 1 [0] 1 mNil (mCons (mVar 4) mNil)) (mCons (mCallK f_bits 0 1 [0] 1 mNil (mCons (mVar 5) mNil)) (mCons (mCallK f_ranks_now 0 1 [0] 1 mNil (mCons (mVar 4) mNil)) (mCons (mCallK f_ranks_told 0 2 [1, 0] 2 mNil (mCons (mLst (mCons (mCon (.int 0)) (mCons (mCon (.int 1)) (mCons (mCon (.int 1)) (mCons (mCon (.int 0)) mNil))))) (mCons (mCon (.int 0)) mNil))) (mCons (mCallK f_laps 0 1 [0] 1 mNil (mCons (mVar 5) mNil)) mNil)))))))
    (mSeq (mSet 1 (mLst (mCons (mTup (mCons (mCon (.int 1)) (mCons (mCon (.int 0)) (mCons (mCon (.int 0)) (mCons (mCon (.int 1)) (mCons (mCon (.int 2)) mNil)))))) (mCons (mTup (mCons (mCon (.int 0)) (mCons (mCon (.int 0)) (mCons (mCon (.int 0)) (mCons (mCon (.int 1)) mNil))))) (mCons (mTup (mCons (mCon (.int 2)) (mCons (mCon (.int 1)) mNil))) (mCons (mTup (mCons (mCon (.int 0)) (mCons (mCon (.int 2)) (mCons (mCon (.int 2)) (mCons (mCon (.int 4)) mNil))))) (mCons (mTup (mCons (mTup (mCons (mCon (.int 0)) (mCons (mTup (mCons (mCon (.int 0)) mNil)) mNil))) (mCons (mTup (mCons (mCon (.int 1)) (mCons (mTup (mCons (mCon (.int 1)) (mCons (mCon (.int 2)) mNil))) mNil))) (mCons (mTup (mCons (mCon (.int 2)) (mCons (mTup (mCons (mCon (.int 3)) mNil)) mNil))) mNil)))) mNil)))))))
    (mSeq (mSet 0 (mOp2 dAdd (mVar 0) (mLst (mCons (mCallK f_rank_weaving 0 1 [0] 1 mNil (mCons (mVar 4) mNil)) (mCons (mCallK f_rank_order 0 2 [1, 0] 2 mNil (mCons (mCon (.int 1)) (mCons (mVar 5) mNil))) (mCons (mCallK f_moved 0 1 [0] 1 mNil (mCons (mVar 4) mNil)) (mCons (mCall f__law_heard (mCons (mCall f__law_lists (mCons (mVar 6) mNil)) (mCons (mLst (mCons (mCon (.int 0)) (mCons (mCon (.int 1)) (mCons (mCon (.int 2)) mNil)))) mNil))) (mCons (mCall f_bits (mCons (mVar 2) mNil)) mNil))))))))
    (mSeq (mSet 1 (mOp2 dAdd (mVar 1) (mLst (mCons (mTup (mCons (mCon (.int 1)) (mCons (mCon (.int 2)) (mCons (mCon (.int 0)) (mCons (mCon (.int 3)) (mCons (mCon (.int 4)) mNil)))))) (mCons (mTup (mCons (mCon (.int 0)) (mCons (mCon (.int 1)) (mCons (mCon (.int 2)) mNil)))) (mCons (mTup (mCons (mCon (.int 0)) (mCons (mCon (.int 1)) (mCons (mCon (.int 2)) mNil)))) (mCons (mTup (mCons (mTup (mCons (mCon (.int 0)) (mCons (mCon (.int 1)) mNil))) (mCons (mTup (mCons (mCon (.int 1)) (mCons (mCon (.int 2)) mNil))) (mCons (mTup (mCons (mCon (.int 0)) (mCons (mCon (.int 0)) mNil))) (mCons (mTup (mCons (mCon (.int 0)) (mCons (mCon (.int 1)) mNil))) mNil))))) (mCons (mTup (mCons (mCon (.int 0)) (mCons (mCon (.int 0)) (mCons (mCon (.int 0)) (mCons (mCon (.int 1)) mNil))))) mNil))))))))
    (mSeq (mSet 0 (mOp2 dAdd (mVar 0) (mLst (mCons (mCallK f_is_ranked 0 2 [1, 0] 2 mNil (mCons (mTup (mCons (mCon (.int 0)) (mCons (mCon (.int 1)) (mCons (mCon (.int 2)) mNil)))) (mCons (mCall f__law_lists (mCons (mVar 6) mNil)) mNil))) (mCons (mCallK f_is_ranked 0 2 [1, 0] 2 mNil (mCons (mLst (mCons (mCon (.int 0)) (mCons (mCon (.int 1)) (mCons (mCon (.int 2)) mNil)))) (mCons (mVar 6) mNil))) (mCons (mCall f_is_ranked (mCons (mVar 6) (mCons (mTup (mCons (mCon (.int 0)) (mCons (mCon (.int 1)) (mCons (mCon (.int 1)) mNil)))) mNil))) (mCons (mVar 4) mNil)))))))
    (mSeq (mExpr (mMeth ckL fAppend (mVar 0) (mCons (mCall f__law_heard (mCons (mTup (mCons (mTup (mCons (mCon (.int 0)) (mCons (mCon (.int 1)) mNil))) (mCons (mTup (mCons (mCon (.int 1)) (mCons (mCon (.int 1)) mNil))) (mCons (mTup (mCons (mCon (.int 0)) (mCons (mCon (.int 1)) mNil))) (mCons (mTup (mCons (mCon (.int 1)) (mCons (mCon (.int 2)) mNil))) mNil))))) (mCons (mTup (mCons (mCon (.int 0)) (mCons (mCon (.int 1)) (mCons (mCon (.int 2)) (mCons (mCon (.int 3)) mNil))))) mNil))) mNil)))
    (mSeq (mRet (mCall f__law_same (mCons (mVar 0) (mCons (mOp2 dAdd (mVar 1) (mLst (mCons (mCon (.bl true)) (mCons (mCon (.bl false)) (mCons (mCon (.bl false)) (mCons (mCall f__law_lists (mCons (mVar 3) mNil)) (mCons (mTup (mCons (mTup (mCons (mCon (.int 0)) (mCons (mCon (.int 1)) mNil))) (mCons (mTup (mCons (mCon (.int 1)) (mCons (mCon (.int 1)) mNil))) (mCons (mTup (mCons (mCon (.int 0)) (mCons (mCon (.int 0)) mNil))) (mCons (mTup (mCons (mCon (.int 0)) (mCons (mCon (.int 1)) mNil))) (mCons (mTup (mCons (mCon (.int 1)) (mCons (mCon (.int 0)) mNil))) (mCons (mTup (mCons (mCon (.int 1)) (mCons (mCon (.int 0)) mNil))) (mCons (mTup (mCons (mCon (.int 1)) (mCons (mCon (.int 2)) mNil))) mNil)))))))) mNil))))))) mNil))))
    mNx)))))))))
def f__law_listed_right : FM := runDef N__law_listed_right.length m__law_listed_right
theorem sc__law_listed_right : FnScope N__law_listed_right ps__law_listed_right (defScope st__law_listed_right) := ⟨rfl, rfl, rfl, by decide +kernel, rfl, by decide +kernel, by decide +kernel⟩
abbrev st_law : Stmt := top 33
abbrev N_law : List Str := [(PySem.Str.ofString "script")]
abbrev ps_law : List Str := [(PySem.Str.ofString "script")]
def m_law : MS := (mSeq (mIfS (mNot (mTruth (mCall (clF f__law_listed_right) mNil))) (mSeq (mRet (mCon (.bl false)))
    mNx) mNx)
    (mSeq (mRet (mIf (mB (mOp2 (dEq false) (mOp2 dMod (mOpA dInt1 (mCons (mOp2 dIx (mCall f__law_cells (mCons (mVar 0) (mCons (mCon (.int 1)) mNil))) (mCon (.int 0))) mNil)) (mCon (.int 2))) (mCon (.int 0)))) (mCall (clF f__law_runs_right) mNil) (mCall (clF f__law_rows_right) mNil)))
    mNx))
def f_law : FM := runDef N_law.length m_law
theorem sc_law : FnScope N_law ps_law (defScope st_law) := ⟨rfl, rfl, rfl, by decide +kernel, rfl, by decide +kernel, by decide +kernel⟩
section
variable {P : Program} {w : World} {K : PySem.W.Frag} {mg : Str → Option Value} {base : Heap} {a_is_number : Addr} {a_are_numbers_from : Addr} {a_learnings : Addr} {a_known : Addr} {a_bit_of : Addr} {a_ranked : Addr} {a_ranks : Addr} {a_bits : Addr} {a_ranks_now : Addr} {a_ranks_told : Addr} {a_laps : Addr} {a_by_ranks : Addr} {a_rank_weaving : Addr} {a_rank_order : Addr} {a_moved : Addr} {a_is_ranked : Addr} {a_ranked_run : Addr} {a__law_cells : Addr} {a__law_same : Addr} {a__law_lists : Addr} {a__law_way : Addr} {a__law_meet : Addr} {a__law_turns : Addr} {a__law_heard : Addr} {a__law_runs_right : Addr} {a__law_rows_right : Addr} {a__law_listed_right : Addr} {a_law : Addr} {a_CanNot : Addr} {fd_is_number : FuncData} {fd_are_numbers_from : FuncData} {fd_learnings : FuncData} {fd_known : FuncData} {fd_bit_of : FuncData} {fd_ranked : FuncData} {fd_ranks : FuncData} {fd_bits : FuncData} {fd_ranks_now : FuncData} {fd_ranks_told : FuncData} {fd_laps : FuncData} {fd_by_ranks : FuncData} {fd_rank_weaving : FuncData} {fd_rank_order : FuncData} {fd_moved : FuncData} {fd_is_ranked : FuncData} {fd_ranked_run : FuncData} {fd__law_cells : FuncData} {fd__law_same : FuncData} {fd__law_lists : FuncData} {fd__law_way : FuncData} {fd__law_meet : FuncData} {fd__law_turns : FuncData} {fd__law_heard : FuncData} {fd__law_runs_right : FuncData} {fd__law_rows_right : FuncData} {fd__law_listed_right : FuncData} {fd_law : FuncData}
theorem ok_is_number (T : Txt P w K mg a_is_number a_are_numbers_from a_learnings a_known a_bit_of a_ranked a_ranks a_bits a_ranks_now a_ranks_told a_laps a_by_ranks a_rank_weaving a_rank_order a_moved a_is_ranked a_ranked_run a__law_cells a__law_same a__law_lists a__law_way a__law_meet a__law_turns a__law_heard a__law_runs_right a__law_rows_right a__law_listed_right a_law a_CanNot) (F : Fun K (PySem.Str.ofString "is_number") (PySem.Str.ofString "is_number") st_is_number a_is_number fd_is_number) : FnOk P w K mg base (L2.CX P w) 1 a_is_number fd_is_number ps_is_number (spF ⟨w, K, mg⟩ 1 f_is_number) := by
  have sc := sc_is_number
  refine fn_ok F sc rfl (by decide) fun cdv A outer s H E hr => ?_
  exact (s_cons (s_ret (e_and (f_isi bt_isi rfl T.n_isinstance (a_cons (e_var (i := 0) rfl (by first | exact .inl rfl | exact .inr (.inl rfl) | exact .inr (.inr rfl))) (a_cons (e_ty (n := .int) rfl T.n_int bt_int) a_nil))) (e_one (e_not (f_isi bt_isi rfl T.n_isinstance (a_cons (e_var (i := 0) rfl (by first | exact .inl rfl | exact .inr (.inl rfl) | exact .inr (.inr rfl))) (a_cons (e_ty (n := .bool) rfl T.n_bool bt_bool) a_nil)))))))
    s_nil)
theorem ok_are_numbers_from (T : Txt P w K mg a_is_number a_are_numbers_from a_learnings a_known a_bit_of a_ranked a_ranks a_bits a_ranks_now a_ranks_told a_laps a_by_ranks a_rank_weaving a_rank_order a_moved a_is_ranked a_ranked_run a__law_cells a__law_same a__law_lists a__law_way a__law_meet a__law_turns a__law_heard a__law_runs_right a__law_rows_right a__law_listed_right a_law a_CanNot) (F : Fun K (PySem.Str.ofString "are_numbers_from") (PySem.Str.ofString "are_numbers_from") st_are_numbers_from a_are_numbers_from fd_are_numbers_from) (F_is_number : FnOk P w K mg base (L2.CX P w) 1 a_is_number fd_is_number ps_is_number (spF ⟨w, K, mg⟩ 1 f_is_number)) (B_is_number : Binds K fd_is_number ps_is_number []) : FnOk P w K mg base (L2.CX P w) 2 a_are_numbers_from fd_are_numbers_from ps_are_numbers_from (spF ⟨w, K, mg⟩ 2 f_are_numbers_from) := by
  have sc := sc_are_numbers_from
  refine fn_ok F sc rfl (by decide) fun cdv A outer s H E hr => ?_
  exact (s_cons (s_ret (e_and (f_isi bt_isi rfl T.n_isinstance (a_cons (e_var (i := 0) rfl (by first | exact .inl rfl | exact .inr (.inl rfl) | exact .inr (.inr rfl))) (a_cons (e_ty (n := .tuple) rfl T.n_tuple bt_tuple) a_nil))) (e_one (f_all rfl bt_all rfl T.n_all (a_cons (e_lc (own := [((PySem.Str.ofString "own"), 2)]) rfl sc.nd (blkOk_by (by first | rfl | kernel_rfl | with_unfolding_all rfl)) rfl (i_any (e_var (i := 0) rfl (by first | exact .inl rfl | exact .inr (.inl rfl) | exact .inr (.inr rfl)))) (fun s H C cl fp => (g_name (i := 2) sc.nd rfl (by first | exact .inl rfl | exact .inr rfl))) (fun s H C cl fp => ts_nil) (fun s H C cl fp => (e_and (e_call F_is_number (hr.mono (by first | decide | omega)) T.g_is_number T.k_is_number B_is_number tkF (len_cons len_nil) rfl (a_cons (e_var (i := 2) rfl (by first | exact .inl rfl | exact .inr (.inl rfl) | exact .inr (.inr rfl))) a_nil)) (e_one (e_cmpW w_ge (by with_unfolding_all rfl) (e_var (i := 2) rfl (by first | exact .inl rfl | exact .inr (.inl rfl) | exact .inr (.inr rfl))) (e_var (i := 1) rfl (by first | exact .inl rfl | exact .inr (.inl rfl) | exact .inr (.inr rfl)))))))) a_nil)))))
    s_nil)
theorem ok_learnings (T : Txt P w K mg a_is_number a_are_numbers_from a_learnings a_known a_bit_of a_ranked a_ranks a_bits a_ranks_now a_ranks_told a_laps a_by_ranks a_rank_weaving a_rank_order a_moved a_is_ranked a_ranked_run a__law_cells a__law_same a__law_lists a__law_way a__law_meet a__law_turns a__law_heard a__law_runs_right a__law_rows_right a__law_listed_right a_law a_CanNot) (F : Fun K (PySem.Str.ofString "learnings") (PySem.Str.ofString "learnings") st_learnings a_learnings fd_learnings) : FnOk P w K mg base (L2.CX P w) 1 a_learnings fd_learnings ps_learnings (spF ⟨w, K, mg⟩ 1 f_learnings) := by
  have sc := sc_learnings
  refine fn_ok F sc rfl (by decide) fun cdv A outer s H E hr => ?_
  exact (s_cons (s_set (i := 1) sc.nd rfl (by first | exact .inl rfl | exact .inr rfl) (e_tup (a_cons (e_lst a_nil) (a_cons (e_lst a_nil) a_nil))))
    (s_cons (s_set (i := 2) sc.nd rfl (by first | exact .inl rfl | exact .inr rfl) (e_lst (a_cons e_int (a_cons e_int a_nil))))
    (s_cons (s_set (i := 3) sc.nd rfl (by first | exact .inl rfl | exact .inr rfl) e_int)
    (s_cons (s_set (i := 4) sc.nd rfl (by first | exact .inl rfl | exact .inr rfl) (e_lst a_nil))
    (s_cons (s_for poD rfl (i_any (e_var (i := 0) rfl (by first | exact .inl rfl | exact .inr (.inl rfl) | exact .inr (.inr rfl)))) (g_tup rfl (gs_c (g_name (i := 5) sc.nd rfl (by first | exact .inl rfl | exact .inr rfl)) (gs_c (g_name (i := 6) sc.nd rfl (by first | exact .inl rfl | exact .inr rfl)) gs_nil))) (s_cons (s_if (t_cmpW w_gt (by with_unfolding_all rfl) (e_var (i := 6) rfl (by first | exact .inl rfl | exact .inr (.inl rfl) | exact .inr (.inr rfl))) e_int) (s_cons (s_expr (e_append (x_ix hr (e_var (i := 1) rfl (by first | exact .inl rfl | exact .inr (.inl rfl) | exact .inr (.inr rfl))) (e_var (i := 5) rfl (by first | exact .inl rfl | exact .inr (.inl rfl) | exact .inr (.inr rfl)))) (a_cons (e_var (i := 3) rfl (by first | exact .inl rfl | exact .inr (.inl rfl) | exact .inr (.inr rfl))) a_nil)))
    (s_cons (s_expr (e_append (e_var (i := 4) rfl (by first | exact .inl rfl | exact .inr (.inl rfl) | exact .inr (.inr rfl))) (a_cons (e_tup (a_cons (e_var (i := 5) rfl (by first | exact .inl rfl | exact .inr (.inl rfl) | exact .inr (.inr rfl))) (a_cons (e_var (i := 6) rfl (by first | exact .inl rfl | exact .inr (.inl rfl) | exact .inr (.inr rfl))) (a_cons (e_var (i := 3) rfl (by first | exact .inl rfl | exact .inr (.inl rfl) | exact .inr (.inr rfl))) a_nil)))) a_nil)))
    (s_cons (s_aug (i := 3) sc.nd rfl (by first | exact .inl rfl | exact .inr rfl) e_int L2.ip_add)
    s_nil))) (s_cons (s_expr (e_append (e_var (i := 4) rfl (by first | exact .inl rfl | exact .inr (.inl rfl) | exact .inr (.inr rfl))) (a_cons (e_tup (a_cons (e_var (i := 5) rfl (by first | exact .inl rfl | exact .inr (.inl rfl) | exact .inr (.inr rfl))) (a_cons (e_var (i := 6) rfl (by first | exact .inl rfl | exact .inr (.inl rfl) | exact .inr (.inr rfl))) (a_cons (x_ix hr (x_ix hr (e_var (i := 1) rfl (by first | exact .inl rfl | exact .inr (.inl rfl) | exact .inr (.inr rfl))) (b_sub e_int (e_var (i := 5) rfl (by first | exact .inl rfl | exact .inr (.inl rfl) | exact .inr (.inr rfl))))) (x_ix hr (e_var (i := 2) rfl (by first | exact .inl rfl | exact .inr (.inl rfl) | exact .inr (.inr rfl))) (e_var (i := 5) rfl (by first | exact .inl rfl | exact .inr (.inl rfl) | exact .inr (.inr rfl))))) a_nil)))) a_nil)))
    (s_cons (s_augS (hu_of hr) (e_var (i := 2) rfl (by first | exact .inl rfl | exact .inr (.inl rfl) | exact .inr (.inr rfl))) (e_var (i := 5) rfl (by first | exact .inl rfl | exact .inr (.inl rfl) | exact .inr (.inr rfl))) e_int L2.ip_add)
    s_nil)))
    s_nil))
    (s_cons (s_ret (e_var (i := 4) rfl (by first | exact .inl rfl | exact .inr (.inl rfl) | exact .inr (.inr rfl))))
    s_nil))))))
theorem ok_known (T : Txt P w K mg a_is_number a_are_numbers_from a_learnings a_known a_bit_of a_ranked a_ranks a_bits a_ranks_now a_ranks_told a_laps a_by_ranks a_rank_weaving a_rank_order a_moved a_is_ranked a_ranked_run a__law_cells a__law_same a__law_lists a__law_way a__law_meet a__law_turns a__law_heard a__law_runs_right a__law_rows_right a__law_listed_right a_law a_CanNot) (F : Fun K (PySem.Str.ofString "known") (PySem.Str.ofString "known") st_known a_known fd_known) (F_learnings : FnOk P w K mg base (L2.CX P w) 1 a_learnings fd_learnings ps_learnings (spF ⟨w, K, mg⟩ 1 f_learnings)) (B_learnings : Binds K fd_learnings ps_learnings []) : FnOk P w K mg base (L2.CX P w) 2 a_known fd_known ps_known (spF ⟨w, K, mg⟩ 2 f_known) := by
  have sc := sc_known
  refine fn_ok F sc rfl (by decide) fun cdv A outer s H E hr => ?_
  exact (s_cons (s_ret (f_tuple bt_tuple rfl T.n_tuple (a_cons (f_sortU rfl bt_sorted rfl T.n_sorted (a_cons (e_lc (own := [((PySem.Str.ofString "at"), 2), ((PySem.Str.ofString "_"), 3), ((PySem.Str.ofString "number"), 4)]) rfl sc.nd (blkOk_by (by first | rfl | kernel_rfl | with_unfolding_all rfl)) rfl (i_any (e_call F_learnings (hr.mono (by first | decide | omega)) T.g_learnings T.k_learnings B_learnings tkD (len_cons len_nil) rfl (a_cons (e_var (i := 0) rfl (by first | exact .inl rfl | exact .inr (.inl rfl) | exact .inr (.inr rfl))) a_nil))) (fun s H C cl fp => (g_tup rfl (gs_c (g_name (i := 2) sc.nd rfl (by first | exact .inl rfl | exact .inr rfl)) (gs_c (g_name (i := 3) sc.nd rfl (by first | exact .inl rfl | exact .inr rfl)) (gs_c (g_name (i := 4) sc.nd rfl (by first | exact .inl rfl | exact .inr rfl)) gs_nil))))) (fun s H C cl fp => (ts_one (t_cmpW (w_eq hr) (by with_unfolding_all rfl) (e_var (i := 2) rfl (by first | exact .inl rfl | exact .inr (.inl rfl) | exact .inr (.inr rfl))) (e_var (i := 1) rfl (by first | exact .inl rfl | exact .inr (.inl rfl) | exact .inr (.inr rfl)))))) (fun s H C cl fp => (e_var (i := 4) rfl (by first | exact .inl rfl | exact .inr (.inl rfl) | exact .inr (.inr rfl))))) a_nil)) a_nil)))
    s_nil)
theorem ok_bit_of (T : Txt P w K mg a_is_number a_are_numbers_from a_learnings a_known a_bit_of a_ranked a_ranks a_bits a_ranks_now a_ranks_told a_laps a_by_ranks a_rank_weaving a_rank_order a_moved a_is_ranked a_ranked_run a__law_cells a__law_same a__law_lists a__law_way a__law_meet a__law_turns a__law_heard a__law_runs_right a__law_rows_right a__law_listed_right a_law a_CanNot) (F : Fun K (PySem.Str.ofString "bit_of") (PySem.Str.ofString "bit_of") st_bit_of a_bit_of fd_bit_of) : FnOk P w K mg base (L2.CX P w) 1 a_bit_of fd_bit_of ps_bit_of (spF ⟨w, K, mg⟩ 1 f_bit_of) := by
  have sc := sc_bit_of
  refine fn_ok F sc rfl (by decide) fun cdv A outer s H E hr => ?_
  exact (s_cons (s_ret (b_mod (b_fdv (e_var (i := 0) rfl (by first | exact .inl rfl | exact .inr (.inl rfl) | exact .inr (.inr rfl))) e_int) e_int))
    s_nil)
theorem ok_ranked (T : Txt P w K mg a_is_number a_are_numbers_from a_learnings a_known a_bit_of a_ranked a_ranks a_bits a_ranks_now a_ranks_told a_laps a_by_ranks a_rank_weaving a_rank_order a_moved a_is_ranked a_ranked_run a__law_cells a__law_same a__law_lists a__law_way a__law_meet a__law_turns a__law_heard a__law_runs_right a__law_rows_right a__law_listed_right a_law a_CanNot) (F : Fun K (PySem.Str.ofString "ranked") (PySem.Str.ofString "ranked") st_ranked a_ranked fd_ranked) (F_learnings : FnOk P w K mg base (L2.CX P w) 1 a_learnings fd_learnings ps_learnings (spF ⟨w, K, mg⟩ 1 f_learnings)) (B_learnings : Binds K fd_learnings ps_learnings []) : FnOk P w K mg base (L2.CX P w) 2 a_ranked fd_ranked ps_ranked (spF ⟨w, K, mg⟩ 1 f_ranked) := by
  have sc := sc_ranked
  refine fn_ok F sc rfl (by decide) fun cdv A outer s H E hr => ?_
  exact (s_cons (s_set (i := 1) sc.nd rfl (by first | exact .inl rfl | exact .inr rfl) (e_lst a_nil))
    (s_cons (s_set (i := 2) sc.nd rfl (by first | exact .inl rfl | exact .inr rfl) (e_lst (a_cons e_int (a_cons e_int a_nil))))
    (s_cons (s_set (i := 3) sc.nd rfl (by first | exact .inl rfl | exact .inr rfl) (e_lst (a_cons (u_neg e_int) (a_cons (u_neg e_int) a_nil))))
    (s_cons (s_for poD rfl (i_any (e_call F_learnings (hr.mono (by first | decide | omega)) T.g_learnings T.k_learnings B_learnings tkD (len_cons len_nil) rfl (a_cons (e_var (i := 0) rfl (by first | exact .inl rfl | exact .inr (.inl rfl) | exact .inr (.inr rfl))) a_nil))) (g_tup rfl (gs_c (g_name (i := 4) sc.nd rfl (by first | exact .inl rfl | exact .inr rfl)) (gs_c (g_name (i := 5) sc.nd rfl (by first | exact .inl rfl | exact .inr rfl)) (gs_c (g_name (i := 6) sc.nd rfl (by first | exact .inl rfl | exact .inr rfl)) gs_nil)))) (s_cons (s_if (t_cmpW (w_eq hr) (by with_unfolding_all rfl) (e_var (i := 5) rfl (by first | exact .inl rfl | exact .inr (.inl rfl) | exact .inr (.inr rfl))) e_int) (s_cons (s_asg (f_max rfl rfl T.n_max (a_cons (x_ix hr (e_var (i := 3) rfl (by first | exact .inl rfl | exact .inr (.inl rfl) | exact .inr (.inr rfl))) (e_var (i := 4) rfl (by first | exact .inl rfl | exact .inr (.inl rfl) | exact .inr (.inr rfl)))) (a_cons (x_ix hr (e_var (i := 1) rfl (by first | exact .inl rfl | exact .inr (.inl rfl) | exact .inr (.inr rfl))) (e_var (i := 6) rfl (by first | exact .inl rfl | exact .inr (.inl rfl) | exact .inr (.inr rfl)))) a_nil))) (g_sub (W := WF) (hu_of hr) (e_var (i := 3) rfl (by first | exact .inl rfl | exact .inr (.inl rfl) | exact .inr (.inr rfl))) (e_var (i := 4) rfl (by first | exact .inl rfl | exact .inr (.inl rfl) | exact .inr (.inr rfl)))))
    s_nil) (s_cons (s_if (t_cmpW w_gt (by with_unfolding_all rfl) (x_ix hr (e_var (i := 3) rfl (by first | exact .inl rfl | exact .inr (.inl rfl) | exact .inr (.inr rfl))) (e_var (i := 4) rfl (by first | exact .inl rfl | exact .inr (.inl rfl) | exact .inr (.inr rfl)))) (x_ix hr (e_var (i := 2) rfl (by first | exact .inl rfl | exact .inr (.inl rfl) | exact .inr (.inr rfl))) (e_var (i := 4) rfl (by first | exact .inl rfl | exact .inr (.inl rfl) | exact .inr (.inr rfl))))) (s_cons (s_augS (hu_of hr) (e_var (i := 2) rfl (by first | exact .inl rfl | exact .inr (.inl rfl) | exact .inr (.inr rfl))) (e_var (i := 4) rfl (by first | exact .inl rfl | exact .inr (.inl rfl) | exact .inr (.inr rfl))) e_int L2.ip_add)
    s_nil) s_nil)
    (s_cons (s_expr (e_append (e_var (i := 1) rfl (by first | exact .inl rfl | exact .inr (.inl rfl) | exact .inr (.inr rfl))) (a_cons (x_ix hr (e_var (i := 2) rfl (by first | exact .inl rfl | exact .inr (.inl rfl) | exact .inr (.inr rfl))) (e_var (i := 4) rfl (by first | exact .inl rfl | exact .inr (.inl rfl) | exact .inr (.inr rfl)))) a_nil)))
    s_nil)))
    s_nil))
    (s_cons (s_ret (e_tup (a_cons (e_var (i := 1) rfl (by first | exact .inl rfl | exact .inr (.inl rfl) | exact .inr (.inr rfl))) (a_cons (e_var (i := 2) rfl (by first | exact .inl rfl | exact .inr (.inl rfl) | exact .inr (.inr rfl))) (a_cons (e_var (i := 3) rfl (by first | exact .inl rfl | exact .inr (.inl rfl) | exact .inr (.inr rfl))) a_nil)))))
    s_nil)))))
theorem ok_ranks (T : Txt P w K mg a_is_number a_are_numbers_from a_learnings a_known a_bit_of a_ranked a_ranks a_bits a_ranks_now a_ranks_told a_laps a_by_ranks a_rank_weaving a_rank_order a_moved a_is_ranked a_ranked_run a__law_cells a__law_same a__law_lists a__law_way a__law_meet a__law_turns a__law_heard a__law_runs_right a__law_rows_right a__law_listed_right a_law a_CanNot) (F : Fun K (PySem.Str.ofString "ranks") (PySem.Str.ofString "ranks") st_ranks a_ranks fd_ranks) (F_ranked : FnOk P w K mg base (L2.CX P w) 2 a_ranked fd_ranked ps_ranked (spF ⟨w, K, mg⟩ 1 f_ranked)) (B_ranked : Binds K fd_ranked ps_ranked []) : FnOk P w K mg base (L2.CX P w) 3 a_ranks fd_ranks ps_ranks (spF ⟨w, K, mg⟩ 1 f_ranks) := by
  have sc := sc_ranks
  refine fn_ok F sc rfl (by decide) fun cdv A outer s H E hr => ?_
  exact (s_cons (s_ret (f_tuple bt_tuple rfl T.n_tuple (a_cons (x_ix hr (e_call F_ranked (hr.mono (by first | decide | omega)) T.g_ranked T.k_ranked B_ranked tkD (len_cons len_nil) rfl (a_cons (e_var (i := 0) rfl (by first | exact .inl rfl | exact .inr (.inl rfl) | exact .inr (.inr rfl))) a_nil)) e_int) a_nil)))
    s_nil)
theorem ok_bits (T : Txt P w K mg a_is_number a_are_numbers_from a_learnings a_known a_bit_of a_ranked a_ranks a_bits a_ranks_now a_ranks_told a_laps a_by_ranks a_rank_weaving a_rank_order a_moved a_is_ranked a_ranked_run a__law_cells a__law_same a__law_lists a__law_way a__law_meet a__law_turns a__law_heard a__law_runs_right a__law_rows_right a__law_listed_right a_law a_CanNot) (F : Fun K (PySem.Str.ofString "bits") (PySem.Str.ofString "bits") st_bits a_bits fd_bits) (F_ranks : FnOk P w K mg base (L2.CX P w) 3 a_ranks fd_ranks ps_ranks (spF ⟨w, K, mg⟩ 1 f_ranks)) (B_ranks : Binds K fd_ranks ps_ranks []) (F_bit_of : FnOk P w K mg base (L2.CX P w) 1 a_bit_of fd_bit_of ps_bit_of (spF ⟨w, K, mg⟩ 1 f_bit_of)) (B_bit_of : Binds K fd_bit_of ps_bit_of []) : FnOk P w K mg base (L2.CX P w) 4 a_bits fd_bits ps_bits (spF ⟨w, K, mg⟩ 1 f_bits) := by
  have sc := sc_bits
  refine fn_ok F sc rfl (by decide) fun cdv A outer s H E hr => ?_
  exact (s_cons (s_ret (f_tuple bt_tuple rfl T.n_tuple (a_cons (e_lc (own := [((PySem.Str.ofString "rank"), 1)]) rfl sc.nd (blkOk_by (by first | rfl | kernel_rfl | with_unfolding_all rfl)) rfl (i_any (e_call F_ranks (hr.mono (by first | decide | omega)) T.g_ranks T.k_ranks B_ranks tkD (len_cons len_nil) rfl (a_cons (e_var (i := 0) rfl (by first | exact .inl rfl | exact .inr (.inl rfl) | exact .inr (.inr rfl))) a_nil))) (fun s H C cl fp => (g_name (i := 1) sc.nd rfl (by first | exact .inl rfl | exact .inr rfl))) (fun s H C cl fp => ts_nil) (fun s H C cl fp => (e_call F_bit_of (hr.mono (by first | decide | omega)) T.g_bit_of T.k_bit_of B_bit_of tkF (len_cons len_nil) rfl (a_cons (e_var (i := 1) rfl (by first | exact .inl rfl | exact .inr (.inl rfl) | exact .inr (.inr rfl))) a_nil)))) a_nil)))
    s_nil)
theorem ok_ranks_now (T : Txt P w K mg a_is_number a_are_numbers_from a_learnings a_known a_bit_of a_ranked a_ranks a_bits a_ranks_now a_ranks_told a_laps a_by_ranks a_rank_weaving a_rank_order a_moved a_is_ranked a_ranked_run a__law_cells a__law_same a__law_lists a__law_way a__law_meet a__law_turns a__law_heard a__law_runs_right a__law_rows_right a__law_listed_right a_law a_CanNot) (F : Fun K (PySem.Str.ofString "ranks_now") (PySem.Str.ofString "ranks_now") st_ranks_now a_ranks_now fd_ranks_now) (F_ranked : FnOk P w K mg base (L2.CX P w) 2 a_ranked fd_ranked ps_ranked (spF ⟨w, K, mg⟩ 1 f_ranked)) (B_ranked : Binds K fd_ranked ps_ranked []) : FnOk P w K mg base (L2.CX P w) 3 a_ranks_now fd_ranks_now ps_ranks_now (spF ⟨w, K, mg⟩ 1 f_ranks_now) := by
  have sc := sc_ranks_now
  refine fn_ok F sc rfl (by decide) fun cdv A outer s H E hr => ?_
  exact (s_cons (s_ret (f_tuple bt_tuple rfl T.n_tuple (a_cons (x_ix hr (e_call F_ranked (hr.mono (by first | decide | omega)) T.g_ranked T.k_ranked B_ranked tkD (len_cons len_nil) rfl (a_cons (e_var (i := 0) rfl (by first | exact .inl rfl | exact .inr (.inl rfl) | exact .inr (.inr rfl))) a_nil)) e_int) a_nil)))
    s_nil)
theorem ok_ranks_told (T : Txt P w K mg a_is_number a_are_numbers_from a_learnings a_known a_bit_of a_ranked a_ranks a_bits a_ranks_now a_ranks_told a_laps a_by_ranks a_rank_weaving a_rank_order a_moved a_is_ranked a_ranked_run a__law_cells a__law_same a__law_lists a__law_way a__law_meet a__law_turns a__law_heard a__law_runs_right a__law_rows_right a__law_listed_right a_law a_CanNot) (F : Fun K (PySem.Str.ofString "ranks_told") (PySem.Str.ofString "ranks_told") st_ranks_told a_ranks_told fd_ranks_told) (F_bit_of : FnOk P w K mg base (L2.CX P w) 1 a_bit_of fd_bit_of ps_bit_of (spF ⟨w, K, mg⟩ 1 f_bit_of)) (B_bit_of : Binds K fd_bit_of ps_bit_of []) : FnOk P w K mg base (L2.CX P w) 2 a_ranks_told fd_ranks_told ps_ranks_told (spF ⟨w, K, mg⟩ 2 f_ranks_told) := by
  have sc := sc_ranks_told
  refine fn_ok F sc rfl (by decide) fun cdv A outer s H E hr => ?_
  exact (s_cons (s_set (i := 2) sc.nd rfl (by first | exact .inl rfl | exact .inr rfl) (e_var (i := 0) rfl (by first | exact .inl rfl | exact .inr (.inl rfl) | exact .inr (.inr rfl))))
    (s_cons (s_set (i := 3) sc.nd rfl (by first | exact .inl rfl | exact .inr rfl) (e_lst a_nil))
    (s_cons (s_for poD rfl (i_any (e_var (i := 1) rfl (by first | exact .inl rfl | exact .inr (.inl rfl) | exact .inr (.inr rfl)))) (g_name (i := 4) sc.nd rfl (by first | exact .inl rfl | exact .inr rfl)) (s_cons (s_if (t_cmpW (w_ne hr) (by with_unfolding_all rfl) (e_var (i := 4) rfl (by first | exact .inl rfl | exact .inr (.inl rfl) | exact .inr (.inr rfl))) (e_call F_bit_of (hr.mono (by first | decide | omega)) T.g_bit_of T.k_bit_of B_bit_of tkD (len_cons len_nil) rfl (a_cons (e_var (i := 2) rfl (by first | exact .inl rfl | exact .inr (.inl rfl) | exact .inr (.inr rfl))) a_nil))) (s_cons (s_aug (i := 2) sc.nd rfl (by first | exact .inl rfl | exact .inr rfl) e_int L2.ip_add)
    s_nil) s_nil)
    (s_cons (s_expr (e_append (e_var (i := 3) rfl (by first | exact .inl rfl | exact .inr (.inl rfl) | exact .inr (.inr rfl))) (a_cons (e_var (i := 2) rfl (by first | exact .inl rfl | exact .inr (.inl rfl) | exact .inr (.inr rfl))) a_nil)))
    s_nil)))
    (s_cons (s_ret (f_tuple bt_tuple rfl T.n_tuple (a_cons (e_var (i := 3) rfl (by first | exact .inl rfl | exact .inr (.inl rfl) | exact .inr (.inr rfl))) a_nil)))
    s_nil))))
theorem ok_laps (T : Txt P w K mg a_is_number a_are_numbers_from a_learnings a_known a_bit_of a_ranked a_ranks a_bits a_ranks_now a_ranks_told a_laps a_by_ranks a_rank_weaving a_rank_order a_moved a_is_ranked a_ranked_run a__law_cells a__law_same a__law_lists a__law_way a__law_meet a__law_turns a__law_heard a__law_runs_right a__law_rows_right a__law_listed_right a_law a_CanNot) (F : Fun K (PySem.Str.ofString "laps") (PySem.Str.ofString "laps") st_laps a_laps fd_laps) (F_ranks : FnOk P w K mg base (L2.CX P w) 3 a_ranks fd_ranks ps_ranks (spF ⟨w, K, mg⟩ 1 f_ranks)) (B_ranks : Binds K fd_ranks ps_ranks []) : FnOk P w K mg base (L2.CX P w) 4 a_laps fd_laps ps_laps (spF ⟨w, K, mg⟩ 1 f_laps) := by
  have sc := sc_laps
  refine fn_ok F sc rfl (by decide) fun cdv A outer s H E hr => ?_
  exact (s_cons (s_set (i := 1) sc.nd rfl (by first | exact .inl rfl | exact .inr rfl) e_dict0)
    (s_cons (s_for poD rfl (i_enum0 rfl T.n_enumerate (e_call F_ranks (hr.mono (by first | decide | omega)) T.g_ranks T.k_ranks B_ranks tkD (len_cons len_nil) rfl (a_cons (e_var (i := 0) rfl (by first | exact .inl rfl | exact .inr (.inl rfl) | exact .inr (.inr rfl))) a_nil))) (g_tup rfl (gs_c (g_name (i := 2) sc.nd rfl (by first | exact .inl rfl | exact .inr rfl)) (gs_c (g_name (i := 3) sc.nd rfl (by first | exact .inl rfl | exact .inr rfl)) gs_nil))) (s_cons (s_expr (e_append (e_setdefault (e_var (i := 1) rfl (by first | exact .inl rfl | exact .inr (.inl rfl) | exact .inr (.inr rfl))) (a_cons (e_var (i := 3) rfl (by first | exact .inl rfl | exact .inr (.inl rfl) | exact .inr (.inr rfl))) (a_cons (e_lst a_nil) a_nil))) (a_cons (e_var (i := 2) rfl (by first | exact .inl rfl | exact .inr (.inl rfl) | exact .inr (.inr rfl))) a_nil)))
    s_nil))
    (s_cons (s_ret (f_tuple bt_tuple rfl T.n_tuple (a_cons (e_lc (own := [((PySem.Str.ofString "rank"), 3)]) rfl sc.nd (blkOk_by (by first | rfl | kernel_rfl | with_unfolding_all rfl)) rfl (i_any (f_sortU rfl bt_sorted rfl T.n_sorted (a_cons (e_var (i := 1) rfl (by first | exact .inl rfl | exact .inr (.inl rfl) | exact .inr (.inr rfl))) a_nil))) (fun s H C cl fp => (g_name (i := 3) sc.nd rfl (by first | exact .inl rfl | exact .inr rfl))) (fun s H C cl fp => ts_nil) (fun s H C cl fp => (e_tup (a_cons (e_var (i := 3) rfl (by first | exact .inl rfl | exact .inr (.inl rfl) | exact .inr (.inr rfl))) (a_cons (f_tuple bt_tuple rfl T.n_tuple (a_cons (x_ix hr (e_var (i := 1) rfl (by first | exact .inl rfl | exact .inr (.inl rfl) | exact .inr (.inr rfl))) (e_var (i := 3) rfl (by first | exact .inl rfl | exact .inr (.inl rfl) | exact .inr (.inr rfl)))) a_nil)) a_nil))))) a_nil)))
    s_nil)))
theorem ok_by_ranks (T : Txt P w K mg a_is_number a_are_numbers_from a_learnings a_known a_bit_of a_ranked a_ranks a_bits a_ranks_now a_ranks_told a_laps a_by_ranks a_rank_weaving a_rank_order a_moved a_is_ranked a_ranked_run a__law_cells a__law_same a__law_lists a__law_way a__law_meet a__law_turns a__law_heard a__law_runs_right a__law_rows_right a__law_listed_right a_law a_CanNot) (F : Fun K (PySem.Str.ofString "by_ranks") (PySem.Str.ofString "by_ranks") st_by_ranks a_by_ranks fd_by_ranks) : FnOk P w K mg base (L2.CX P w) 1 a_by_ranks fd_by_ranks ps_by_ranks (spF ⟨w, K, mg⟩ 2 f_by_ranks) := by
  have sc := sc_by_ranks
  refine fn_ok F sc rfl (by decide) fun cdv A outer s H E hr => ?_
  exact (s_cons (s_ret (f_tuple bt_tuple rfl T.n_tuple (a_cons (e_lc (own := [((PySem.Str.ofString "_"), 2), ((PySem.Str.ofString "number"), 3)]) rfl sc.nd (blkOk_by (by first | rfl | kernel_rfl | with_unfolding_all rfl)) rfl (i_any (f_sortU rfl bt_sorted rfl T.n_sorted (a_cons (e_lc (own := [((PySem.Str.ofString "number"), 3)]) rfl sc.nd (blkOk_by (by first | rfl | kernel_rfl | with_unfolding_all rfl)) rfl (i_any (e_var (i := 1) rfl (by first | exact .inl rfl | exact .inr (.inl rfl) | exact .inr (.inr rfl)))) (fun s H C cl fp => (g_name (i := 3) sc.nd rfl (by first | exact .inl rfl | exact .inr rfl))) (fun s H C cl fp => ts_nil) (fun s H C cl fp => (e_tup (a_cons (x_ix hr (e_var (i := 0) rfl (by first | exact .inl rfl | exact .inr (.inl rfl) | exact .inr (.inr rfl))) (e_var (i := 3) rfl (by first | exact .inl rfl | exact .inr (.inl rfl) | exact .inr (.inr rfl)))) (a_cons (e_var (i := 3) rfl (by first | exact .inl rfl | exact .inr (.inl rfl) | exact .inr (.inr rfl))) a_nil))))) a_nil))) (fun s H C cl fp => (g_tup rfl (gs_c (g_name (i := 2) sc.nd rfl (by first | exact .inl rfl | exact .inr rfl)) (gs_c (g_name (i := 3) sc.nd rfl (by first | exact .inl rfl | exact .inr rfl)) gs_nil)))) (fun s H C cl fp => ts_nil) (fun s H C cl fp => (e_var (i := 3) rfl (by first | exact .inl rfl | exact .inr (.inl rfl) | exact .inr (.inr rfl))))) a_nil)))
    s_nil)
theorem ok_rank_weaving (T : Txt P w K mg a_is_number a_are_numbers_from a_learnings a_known a_bit_of a_ranked a_ranks a_bits a_ranks_now a_ranks_told a_laps a_by_ranks a_rank_weaving a_rank_order a_moved a_is_ranked a_ranked_run a__law_cells a__law_same a__law_lists a__law_way a__law_meet a__law_turns a__law_heard a__law_runs_right a__law_rows_right a__law_listed_right a_law a_CanNot) (F : Fun K (PySem.Str.ofString "rank_weaving") (PySem.Str.ofString "rank_weaving") st_rank_weaving a_rank_weaving fd_rank_weaving) (F_ranks : FnOk P w K mg base (L2.CX P w) 3 a_ranks fd_ranks ps_ranks (spF ⟨w, K, mg⟩ 1 f_ranks)) (B_ranks : Binds K fd_ranks ps_ranks []) (F_by_ranks : FnOk P w K mg base (L2.CX P w) 1 a_by_ranks fd_by_ranks ps_by_ranks (spF ⟨w, K, mg⟩ 2 f_by_ranks)) (B_by_ranks : Binds K fd_by_ranks ps_by_ranks []) : FnOk P w K mg base (L2.CX P w) 4 a_rank_weaving fd_rank_weaving ps_rank_weaving (spF ⟨w, K, mg⟩ 1 f_rank_weaving) := by
  have sc := sc_rank_weaving
  refine fn_ok F sc rfl (by decide) fun cdv A outer s H E hr => ?_
  exact (s_cons (s_set (i := 1) sc.nd rfl (by first | exact .inl rfl | exact .inr rfl) (e_call F_ranks (hr.mono (by first | decide | omega)) T.g_ranks T.k_ranks B_ranks tkD (len_cons len_nil) rfl (a_cons (e_var (i := 0) rfl (by first | exact .inl rfl | exact .inr (.inl rfl) | exact .inr (.inr rfl))) a_nil)))
    (s_cons (s_ret (e_call F_by_ranks (hr.mono (by first | decide | omega)) T.g_by_ranks T.k_by_ranks B_by_ranks tkD (len_cons (len_cons len_nil)) rfl (a_cons (e_var (i := 1) rfl (by first | exact .inl rfl | exact .inr (.inl rfl) | exact .inr (.inr rfl))) (a_cons (f_listRg1 rfl rfl T.n_list rfl T.n_range (f_len rfl T.n_len (a_cons (e_var (i := 1) rfl (by first | exact .inl rfl | exact .inr (.inl rfl) | exact .inr (.inr rfl))) a_nil))) a_nil))))
    s_nil))
theorem ok_rank_order (T : Txt P w K mg a_is_number a_are_numbers_from a_learnings a_known a_bit_of a_ranked a_ranks a_bits a_ranks_now a_ranks_told a_laps a_by_ranks a_rank_weaving a_rank_order a_moved a_is_ranked a_ranked_run a__law_cells a__law_same a__law_lists a__law_way a__law_meet a__law_turns a__law_heard a__law_runs_right a__law_rows_right a__law_listed_right a_law a_CanNot) (F : Fun K (PySem.Str.ofString "rank_order") (PySem.Str.ofString "rank_order") st_rank_order a_rank_order fd_rank_order) (F_by_ranks : FnOk P w K mg base (L2.CX P w) 1 a_by_ranks fd_by_ranks ps_by_ranks (spF ⟨w, K, mg⟩ 2 f_by_ranks)) (B_by_ranks : Binds K fd_by_ranks ps_by_ranks []) (F_ranks : FnOk P w K mg base (L2.CX P w) 3 a_ranks fd_ranks ps_ranks (spF ⟨w, K, mg⟩ 1 f_ranks)) (B_ranks : Binds K fd_ranks ps_ranks []) (F_known : FnOk P w K mg base (L2.CX P w) 2 a_known fd_known ps_known (spF ⟨w, K, mg⟩ 2 f_known)) (B_known : Binds K fd_known ps_known []) : FnOk P w K mg base (L2.CX P w) 4 a_rank_order fd_rank_order ps_rank_order (spF ⟨w, K, mg⟩ 2 f_rank_order) := by
  have sc := sc_rank_order
  refine fn_ok F sc rfl (by decide) fun cdv A outer s H E hr => ?_
  exact (s_cons (s_ret (e_call F_by_ranks (hr.mono (by first | decide | omega)) T.g_by_ranks T.k_by_ranks B_by_ranks tkD (len_cons (len_cons len_nil)) rfl (a_cons (e_call F_ranks (hr.mono (by first | decide | omega)) T.g_ranks T.k_ranks B_ranks tkD (len_cons len_nil) rfl (a_cons (e_var (i := 0) rfl (by first | exact .inl rfl | exact .inr (.inl rfl) | exact .inr (.inr rfl))) a_nil)) (a_cons (e_call F_known (hr.mono (by first | decide | omega)) T.g_known T.k_known B_known tkD (len_cons (len_cons len_nil)) rfl (a_cons (e_var (i := 0) rfl (by first | exact .inl rfl | exact .inr (.inl rfl) | exact .inr (.inr rfl))) (a_cons (e_var (i := 1) rfl (by first | exact .inl rfl | exact .inr (.inl rfl) | exact .inr (.inr rfl))) a_nil))) a_nil))))
    s_nil)
theorem ok_moved (T : Txt P w K mg a_is_number a_are_numbers_from a_learnings a_known a_bit_of a_ranked a_ranks a_bits a_ranks_now a_ranks_told a_laps a_by_ranks a_rank_weaving a_rank_order a_moved a_is_ranked a_ranked_run a__law_cells a__law_same a__law_lists a__law_way a__law_meet a__law_turns a__law_heard a__law_runs_right a__law_rows_right a__law_listed_right a_law a_CanNot) (F : Fun K (PySem.Str.ofString "moved") (PySem.Str.ofString "moved") st_moved a_moved fd_moved) (F_ranks : FnOk P w K mg base (L2.CX P w) 3 a_ranks fd_ranks ps_ranks (spF ⟨w, K, mg⟩ 1 f_ranks)) (B_ranks : Binds K fd_ranks ps_ranks []) (F_learnings : FnOk P w K mg base (L2.CX P w) 1 a_learnings fd_learnings ps_learnings (spF ⟨w, K, mg⟩ 1 f_learnings)) (B_learnings : Binds K fd_learnings ps_learnings []) : FnOk P w K mg base (L2.CX P w) 4 a_moved fd_moved ps_moved (spF ⟨w, K, mg⟩ 1 f_moved) := by
  have sc := sc_moved
  refine fn_ok F sc rfl (by decide) fun cdv A outer s H E hr => ?_
  exact (s_cons (s_set (i := 1) sc.nd rfl (by first | exact .inl rfl | exact .inr rfl) (e_call F_ranks (hr.mono (by first | decide | omega)) T.g_ranks T.k_ranks B_ranks tkD (len_cons len_nil) rfl (a_cons (e_var (i := 0) rfl (by first | exact .inl rfl | exact .inr (.inl rfl) | exact .inr (.inr rfl))) a_nil)))
    (s_cons (s_set (i := 2) sc.nd rfl (by first | exact .inl rfl | exact .inr rfl) (e_tup (a_cons (e_lst a_nil) (a_cons (e_lst a_nil) a_nil))))
    (s_cons (s_set (i := 3) sc.nd rfl (by first | exact .inl rfl | exact .inr rfl) (e_lst a_nil))
    (s_cons (s_for poD rfl (i_any (e_call F_learnings (hr.mono (by first | decide | omega)) T.g_learnings T.k_learnings B_learnings tkD (len_cons len_nil) rfl (a_cons (e_var (i := 0) rfl (by first | exact .inl rfl | exact .inr (.inl rfl) | exact .inr (.inr rfl))) a_nil))) (g_tup rfl (gs_c (g_name (i := 4) sc.nd rfl (by first | exact .inl rfl | exact .inr rfl)) (gs_c (g_name (i := 5) sc.nd rfl (by first | exact .inl rfl | exact .inr rfl)) (gs_c (g_name (i := 6) sc.nd rfl (by first | exact .inl rfl | exact .inr rfl)) gs_nil)))) (s_cons (s_if (t_cmpW (w_eq hr) (by with_unfolding_all rfl) (e_var (i := 5) rfl (by first | exact .inl rfl | exact .inr (.inl rfl) | exact .inr (.inr rfl))) e_int) (s_cons (s_expr (e_append (e_var (i := 3) rfl (by first | exact .inl rfl | exact .inr (.inl rfl) | exact .inr (.inr rfl))) (a_cons (f_len rfl T.n_len (a_cons (e_lc (own := [((PySem.Str.ofString "rank"), 7)]) rfl sc.nd (blkOk_by (by first | rfl | kernel_rfl | with_unfolding_all rfl)) rfl (i_any (x_ix hr (e_var (i := 2) rfl (by first | exact .inl rfl | exact .inr (.inl rfl) | exact .inr (.inr rfl))) (e_var (i := 4) rfl (by first | exact .inl rfl | exact .inr (.inl rfl) | exact .inr (.inr rfl))))) (fun s H C cl fp => (g_name (i := 7) sc.nd rfl (by first | exact .inl rfl | exact .inr rfl))) (fun s H C cl fp => (ts_one (t_cmpW w_gt (by with_unfolding_all rfl) (e_var (i := 7) rfl (by first | exact .inl rfl | exact .inr (.inl rfl) | exact .inr (.inr rfl))) (x_ix hr (e_var (i := 1) rfl (by first | exact .inl rfl | exact .inr (.inl rfl) | exact .inr (.inr rfl))) (e_var (i := 6) rfl (by first | exact .inl rfl | exact .inr (.inl rfl) | exact .inr (.inr rfl))))))) (fun s H C cl fp => (e_var (i := 7) rfl (by first | exact .inl rfl | exact .inr (.inl rfl) | exact .inr (.inr rfl))))) a_nil)) a_nil)))
    s_nil) s_nil)
    (s_cons (s_expr (e_append (x_ix hr (e_var (i := 2) rfl (by first | exact .inl rfl | exact .inr (.inl rfl) | exact .inr (.inr rfl))) (e_var (i := 4) rfl (by first | exact .inl rfl | exact .inr (.inl rfl) | exact .inr (.inr rfl)))) (a_cons (x_ix hr (e_var (i := 1) rfl (by first | exact .inl rfl | exact .inr (.inl rfl) | exact .inr (.inr rfl))) (e_var (i := 6) rfl (by first | exact .inl rfl | exact .inr (.inl rfl) | exact .inr (.inr rfl)))) a_nil)))
    s_nil)))
    (s_cons (s_ret (f_tuple bt_tuple rfl T.n_tuple (a_cons (e_var (i := 3) rfl (by first | exact .inl rfl | exact .inr (.inl rfl) | exact .inr (.inr rfl))) a_nil)))
    s_nil)))))
theorem ok_is_ranked (T : Txt P w K mg a_is_number a_are_numbers_from a_learnings a_known a_bit_of a_ranked a_ranks a_bits a_ranks_now a_ranks_told a_laps a_by_ranks a_rank_weaving a_rank_order a_moved a_is_ranked a_ranked_run a__law_cells a__law_same a__law_lists a__law_way a__law_meet a__law_turns a__law_heard a__law_runs_right a__law_rows_right a__law_listed_right a_law a_CanNot) (F : Fun K (PySem.Str.ofString "is_ranked") (PySem.Str.ofString "is_ranked") st_is_ranked a_is_ranked fd_is_ranked) (F_are_numbers_from : FnOk P w K mg base (L2.CX P w) 2 a_are_numbers_from fd_are_numbers_from ps_are_numbers_from (spF ⟨w, K, mg⟩ 2 f_are_numbers_from)) (B_are_numbers_from : Binds K fd_are_numbers_from ps_are_numbers_from []) : FnOk P w K mg base (L2.CX P w) 3 a_is_ranked fd_is_ranked ps_is_ranked (spF ⟨w, K, mg⟩ 2 f_is_ranked) := by
  have sc := sc_is_ranked
  refine fn_ok F sc rfl (by decide) fun cdv A outer s H E hr => ?_
  exact (s_cons (s_if (t_pw (tw_or (t_not (t_val (e_call F_are_numbers_from (hr.mono (by first | decide | omega)) T.g_are_numbers_from T.k_are_numbers_from B_are_numbers_from tkD (len_cons (len_cons len_nil)) rfl (a_cons (e_var (i := 1) rfl (by first | exact .inl rfl | exact .inr (.inl rfl) | exact .inr (.inr rfl))) (a_cons e_int a_nil))))) (tw_or1 (t_cmpW (w_ne hr) (by with_unfolding_all rfl) (f_len rfl T.n_len (a_cons (e_var (i := 1) rfl (by first | exact .inl rfl | exact .inr (.inl rfl) | exact .inr (.inr rfl))) a_nil)) (f_len rfl T.n_len (a_cons (e_var (i := 0) rfl (by first | exact .inl rfl | exact .inr (.inl rfl) | exact .inr (.inr rfl))) a_nil)))))) (s_cons (s_ret e_bl)
    s_nil) s_nil)
    (s_cons (s_set (i := 2) sc.nd rfl (by first | exact .inl rfl | exact .inr rfl) (e_lst (a_cons e_int (a_cons e_int a_nil))))
    (s_cons (s_set (i := 3) sc.nd rfl (by first | exact .inl rfl | exact .inr rfl) (e_lst (a_cons (u_neg e_int) (a_cons (u_neg e_int) a_nil))))
    (s_cons (s_for poD rfl (i_zip rfl T.n_zip (a_cons (e_var (i := 0) rfl (by first | exact .inl rfl | exact .inr (.inl rfl) | exact .inr (.inr rfl))) (a_cons (e_var (i := 1) rfl (by first | exact .inl rfl | exact .inr (.inl rfl) | exact .inr (.inr rfl))) a_nil))) (g_tup rfl (gs_c (g_tup rfl (gs_c (g_name (i := 5) sc.nd rfl (by first | exact .inl rfl | exact .inr rfl)) (gs_c (g_name (i := 6) sc.nd rfl (by first | exact .inl rfl | exact .inr rfl)) gs_nil))) (gs_c (g_name (i := 4) sc.nd rfl (by first | exact .inl rfl | exact .inr rfl)) gs_nil))) (s_cons (s_if (t_pw (tw_and (t_cmpW (w_eq hr) (by with_unfolding_all rfl) (e_var (i := 4) rfl (by first | exact .inl rfl | exact .inr (.inl rfl) | exact .inr (.inr rfl))) (b_add (x_ix hr (e_var (i := 2) rfl (by first | exact .inl rfl | exact .inr (.inl rfl) | exact .inr (.inr rfl))) (e_var (i := 5) rfl (by first | exact .inl rfl | exact .inr (.inl rfl) | exact .inr (.inr rfl)))) e_int)) (tw_and1 (t_cmpW w_gt (by with_unfolding_all rfl) (x_ix hr (e_var (i := 3) rfl (by first | exact .inl rfl | exact .inr (.inl rfl) | exact .inr (.inr rfl))) (b_sub e_int (e_var (i := 5) rfl (by first | exact .inl rfl | exact .inr (.inl rfl) | exact .inr (.inr rfl))))) (x_ix hr (e_var (i := 2) rfl (by first | exact .inl rfl | exact .inr (.inl rfl) | exact .inr (.inr rfl))) (e_var (i := 5) rfl (by first | exact .inl rfl | exact .inr (.inl rfl) | exact .inr (.inr rfl)))))))) (s_cons (s_asg (e_var (i := 4) rfl (by first | exact .inl rfl | exact .inr (.inl rfl) | exact .inr (.inr rfl))) (g_sub (W := WF) (hu_of hr) (e_var (i := 2) rfl (by first | exact .inl rfl | exact .inr (.inl rfl) | exact .inr (.inr rfl))) (e_var (i := 5) rfl (by first | exact .inl rfl | exact .inr (.inl rfl) | exact .inr (.inr rfl)))))
    s_nil) (s_cons (s_if (t_cmpW (w_ne hr) (by with_unfolding_all rfl) (e_var (i := 4) rfl (by first | exact .inl rfl | exact .inr (.inl rfl) | exact .inr (.inr rfl))) (x_ix hr (e_var (i := 2) rfl (by first | exact .inl rfl | exact .inr (.inl rfl) | exact .inr (.inr rfl))) (e_var (i := 5) rfl (by first | exact .inl rfl | exact .inr (.inl rfl) | exact .inr (.inr rfl))))) (s_cons (s_ret e_bl)
    s_nil) s_nil)
    s_nil))
    (s_cons (s_asg (e_var (i := 4) rfl (by first | exact .inl rfl | exact .inr (.inl rfl) | exact .inr (.inr rfl))) (g_sub (W := WF) (hu_of hr) (e_var (i := 3) rfl (by first | exact .inl rfl | exact .inr (.inl rfl) | exact .inr (.inr rfl))) (e_var (i := 5) rfl (by first | exact .inl rfl | exact .inr (.inl rfl) | exact .inr (.inr rfl)))))
    s_nil)))
    (s_cons (s_ret e_bl)
    s_nil)))))
theorem ok_ranked_run (T : Txt P w K mg a_is_number a_are_numbers_from a_learnings a_known a_bit_of a_ranked a_ranks a_bits a_ranks_now a_ranks_told a_laps a_by_ranks a_rank_weaving a_rank_order a_moved a_is_ranked a_ranked_run a__law_cells a__law_same a__law_lists a__law_way a__law_meet a__law_turns a__law_heard a__law_runs_right a__law_rows_right a__law_listed_right a_law a_CanNot) (F : Fun K (PySem.Str.ofString "ranked_run") (PySem.Str.ofString "ranked_run") st_ranked_run a_ranked_run fd_ranked_run) (F_is_ranked : FnOk P w K mg base (L2.CX P w) 3 a_is_ranked fd_is_ranked ps_is_ranked (spF ⟨w, K, mg⟩ 2 f_is_ranked)) (B_is_ranked : Binds K fd_is_ranked ps_is_ranked []) : FnOk P w K mg base (L2.CX P w) 4 a_ranked_run fd_ranked_run ps_ranked_run (spF ⟨w, K, mg⟩ 2 f_ranked_run) := by
  have sc := sc_ranked_run
  refine fn_ok F sc rfl (by decide) fun cdv A outer s H E hr => ?_
  exact (s_cons (s_if (t_not (t_val (e_call F_is_ranked (hr.mono (by first | decide | omega)) T.g_is_ranked T.k_is_ranked B_is_ranked tkD (len_cons (len_cons len_nil)) rfl (a_cons (e_var (i := 0) rfl (by first | exact .inl rfl | exact .inr (.inl rfl) | exact .inr (.inr rfl))) (a_cons (f_tuple bt_tuple rfl T.n_tuple (a_cons (e_var (i := 1) rfl (by first | exact .inl rfl | exact .inr (.inl rfl) | exact .inr (.inr rfl))) a_nil)) a_nil))))) (s_cons (s_raise0 rfl tkD PySem.F.excBase_ValueError T.x_CanNot T.g_CanNot T.k_CanNot (raises_own T.b_CanNot T.t_CanNot) rfl)
    s_nil) s_nil)
    (s_cons (s_set (i := 2) sc.nd rfl (by first | exact .inl rfl | exact .inr rfl) (e_lst (a_cons e_int (a_cons e_int a_nil))))
    (s_cons (s_set (i := 3) sc.nd rfl (by first | exact .inl rfl | exact .inr rfl) (e_tup (a_cons (e_lst a_nil) (a_cons (e_lst a_nil) a_nil))))
    (s_cons (s_set (i := 4) sc.nd rfl (by first | exact .inl rfl | exact .inr rfl) (e_lst (a_cons e_int (a_cons e_int a_nil))))
    (s_cons (s_set (i := 5) sc.nd rfl (by first | exact .inl rfl | exact .inr rfl) (e_lst a_nil))
    (s_cons (s_for poD rfl (i_zip rfl T.n_zip (a_cons (e_var (i := 0) rfl (by first | exact .inl rfl | exact .inr (.inl rfl) | exact .inr (.inr rfl))) (a_cons (e_var (i := 1) rfl (by first | exact .inl rfl | exact .inr (.inl rfl) | exact .inr (.inr rfl))) a_nil))) (g_tup rfl (gs_c (g_tup rfl (gs_c (g_name (i := 7) sc.nd rfl (by first | exact .inl rfl | exact .inr rfl)) (gs_c (g_name (i := 8) sc.nd rfl (by first | exact .inl rfl | exact .inr rfl)) gs_nil))) (gs_c (g_name (i := 6) sc.nd rfl (by first | exact .inl rfl | exact .inr rfl)) gs_nil))) (s_cons (s_while 100000 poD (t_cmpW w_lt (by with_unfolding_all rfl) (x_ix hr (e_var (i := 2) rfl (by first | exact .inl rfl | exact .inr (.inl rfl) | exact .inr (.inr rfl))) (e_var (i := 7) rfl (by first | exact .inl rfl | exact .inr (.inl rfl) | exact .inr (.inr rfl)))) (e_var (i := 6) rfl (by first | exact .inl rfl | exact .inr (.inl rfl) | exact .inr (.inr rfl)))) (s_cons (s_set (i := 9) sc.nd rfl (by first | exact .inl rfl | exact .inr rfl) (x_ix hr (x_ix hr (e_var (i := 3) rfl (by first | exact .inl rfl | exact .inr (.inl rfl) | exact .inr (.inr rfl))) (b_sub e_int (e_var (i := 7) rfl (by first | exact .inl rfl | exact .inr (.inl rfl) | exact .inr (.inr rfl))))) (x_ix hr (e_var (i := 4) rfl (by first | exact .inl rfl | exact .inr (.inl rfl) | exact .inr (.inr rfl))) (e_var (i := 7) rfl (by first | exact .inl rfl | exact .inr (.inl rfl) | exact .inr (.inr rfl))))))
    (s_cons (s_augS (hu_of hr) (e_var (i := 4) rfl (by first | exact .inl rfl | exact .inr (.inl rfl) | exact .inr (.inr rfl))) (e_var (i := 7) rfl (by first | exact .inl rfl | exact .inr (.inl rfl) | exact .inr (.inr rfl))) e_int L2.ip_add)
    (s_cons (s_expr (e_append (e_var (i := 5) rfl (by first | exact .inl rfl | exact .inr (.inl rfl) | exact .inr (.inr rfl))) (a_cons (e_tup (a_cons (e_var (i := 7) rfl (by first | exact .inl rfl | exact .inr (.inl rfl) | exact .inr (.inr rfl))) (a_cons e_int a_nil))) a_nil)))
    (s_cons (s_if (t_cmpW w_gt (by with_unfolding_all rfl) (e_var (i := 9) rfl (by first | exact .inl rfl | exact .inr (.inl rfl) | exact .inr (.inr rfl))) (x_ix hr (e_var (i := 2) rfl (by first | exact .inl rfl | exact .inr (.inl rfl) | exact .inr (.inr rfl))) (e_var (i := 7) rfl (by first | exact .inl rfl | exact .inr (.inl rfl) | exact .inr (.inr rfl))))) (s_cons (s_asg (e_var (i := 6) rfl (by first | exact .inl rfl | exact .inr (.inl rfl) | exact .inr (.inr rfl))) (g_sub (W := WF) (hu_of hr) (e_var (i := 2) rfl (by first | exact .inl rfl | exact .inr (.inl rfl) | exact .inr (.inr rfl))) (e_var (i := 7) rfl (by first | exact .inl rfl | exact .inr (.inl rfl) | exact .inr (.inr rfl)))))
    s_nil) s_nil)
    s_nil)))))
    (s_cons (s_expr (e_append (x_ix hr (e_var (i := 3) rfl (by first | exact .inl rfl | exact .inr (.inl rfl) | exact .inr (.inr rfl))) (e_var (i := 7) rfl (by first | exact .inl rfl | exact .inr (.inl rfl) | exact .inr (.inr rfl)))) (a_cons (e_var (i := 6) rfl (by first | exact .inl rfl | exact .inr (.inl rfl) | exact .inr (.inr rfl))) a_nil)))
    (s_cons (s_expr (e_append (e_var (i := 5) rfl (by first | exact .inl rfl | exact .inr (.inl rfl) | exact .inr (.inr rfl))) (a_cons (e_tup (a_cons (e_var (i := 7) rfl (by first | exact .inl rfl | exact .inr (.inl rfl) | exact .inr (.inr rfl))) (a_cons (e_var (i := 8) rfl (by first | exact .inl rfl | exact .inr (.inl rfl) | exact .inr (.inr rfl))) a_nil))) a_nil)))
    s_nil))))
    (s_cons (s_ret (f_tuple bt_tuple rfl T.n_tuple (a_cons (e_var (i := 5) rfl (by first | exact .inl rfl | exact .inr (.inl rfl) | exact .inr (.inr rfl))) a_nil)))
    s_nil)))))))
theorem ok__law_cells (T : Txt P w K mg a_is_number a_are_numbers_from a_learnings a_known a_bit_of a_ranked a_ranks a_bits a_ranks_now a_ranks_told a_laps a_by_ranks a_rank_weaving a_rank_order a_moved a_is_ranked a_ranked_run a__law_cells a__law_same a__law_lists a__law_way a__law_meet a__law_turns a__law_heard a__law_runs_right a__law_rows_right a__law_listed_right a_law a_CanNot) (F : Fun K (PySem.Str.ofString "_law_cells") (PySem.Str.ofString "_law_cells") st__law_cells a__law_cells fd__law_cells) : FnOk P w K mg base (L2.CX P w) 1 a__law_cells fd__law_cells ps__law_cells (spF ⟨w, K, mg⟩ 2 f__law_cells) := by
  have sc := sc__law_cells
  refine fn_ok F sc rfl (by decide) fun cdv A outer s H E hr => ?_
  exact (s_cons (s_set (i := 2) sc.nd rfl (by first | exact .inl rfl | exact .inr rfl) (e_or (f_list rfl bt_list rfl T.n_list (a_cons (e_slice (e_var (i := 0) rfl (by first | exact .inl rfl | exact .inr (.inl rfl) | exact .inr (.inr rfl))) o_none (o_some (e_var (i := 1) rfl (by first | exact .inl rfl | exact .inr (.inl rfl) | exact .inr (.inr rfl))))) a_nil)) (e_one (e_lst (a_cons e_int a_nil)))))
    (s_cons (s_for poD rfl (i_enum0 rfl T.n_enumerate (e_slice (e_var (i := 0) rfl (by first | exact .inl rfl | exact .inr (.inl rfl) | exact .inr (.inr rfl))) (o_some (e_var (i := 1) rfl (by first | exact .inl rfl | exact .inr (.inl rfl) | exact .inr (.inr rfl)))) (o_some e_int))) (g_tup rfl (gs_c (g_name (i := 3) sc.nd rfl (by first | exact .inl rfl | exact .inr rfl)) (gs_c (g_name (i := 4) sc.nd rfl (by first | exact .inl rfl | exact .inr rfl)) gs_nil))) (s_cons (s_set (i := 5) sc.nd rfl (by first | exact .inl rfl | exact .inr rfl) (b_mod (f_int bt_int rfl T.n_int (a_cons (e_var (i := 3) rfl (by first | exact .inl rfl | exact .inr (.inl rfl) | exact .inr (.inr rfl))) a_nil)) (e_var (i := 1) rfl (by first | exact .inl rfl | exact .inr (.inl rfl) | exact .inr (.inr rfl)))))
    (s_cons (s_asg (b_add (x_ix hr (e_var (i := 2) rfl (by first | exact .inl rfl | exact .inr (.inl rfl) | exact .inr (.inr rfl))) (e_var (i := 5) rfl (by first | exact .inl rfl | exact .inr (.inl rfl) | exact .inr (.inr rfl)))) (b_mulW (e_var (i := 4) rfl (by first | exact .inl rfl | exact .inr (.inl rfl) | exact .inr (.inr rfl))) (b_add (e_var (i := 3) rfl (by first | exact .inl rfl | exact .inr (.inl rfl) | exact .inr (.inr rfl))) e_int))) (g_sub (W := WF) (hu_of hr) (e_var (i := 2) rfl (by first | exact .inl rfl | exact .inr (.inl rfl) | exact .inr (.inr rfl))) (e_var (i := 5) rfl (by first | exact .inl rfl | exact .inr (.inl rfl) | exact .inr (.inr rfl)))))
    s_nil)))
    (s_cons (s_ret (e_var (i := 2) rfl (by first | exact .inl rfl | exact .inr (.inl rfl) | exact .inr (.inr rfl))))
    s_nil)))
theorem ok__law_same (T : Txt P w K mg a_is_number a_are_numbers_from a_learnings a_known a_bit_of a_ranked a_ranks a_bits a_ranks_now a_ranks_told a_laps a_by_ranks a_rank_weaving a_rank_order a_moved a_is_ranked a_ranked_run a__law_cells a__law_same a__law_lists a__law_way a__law_meet a__law_turns a__law_heard a__law_runs_right a__law_rows_right a__law_listed_right a_law a_CanNot) (F : Fun K (PySem.Str.ofString "_law_same") (PySem.Str.ofString "_law_same") st__law_same a__law_same fd__law_same) (B__law_same : Binds K fd__law_same ps__law_same []) : FnOk P w K mg base (L2.CX P w) 41 a__law_same fd__law_same ps__law_same (spF ⟨w, K, mg⟩ 2 f__law_same) := by
  have sc := sc__law_same
  refine fn_recK (m := m__law_same) rfl 1 (fun j fm Fself => ?_) 40
  refine fn_ok F sc rfl (by decide) fun cdv A outer s H E hr => ?_
  exact (s_cons (s_if (t_val (f_isi bt_isi rfl T.n_isinstance (a_cons (e_var (i := 1) rfl (by first | exact .inl rfl | exact .inr (.inl rfl) | exact .inr (.inr rfl))) (a_cons (e_tup (a_cons (e_ty (n := .list) rfl T.n_list bt_list) (a_cons (e_ty (n := .tuple) rfl T.n_tuple bt_tuple) a_nil))) a_nil)))) (s_cons (s_if (t_pw (tw_or (t_cmpW (w_ne hr) (by with_unfolding_all rfl) (f_isi bt_isi rfl T.n_isinstance (a_cons (e_var (i := 0) rfl (by first | exact .inl rfl | exact .inr (.inl rfl) | exact .inr (.inr rfl))) (a_cons (e_ty (n := .list) rfl T.n_list bt_list) a_nil))) (f_isi bt_isi rfl T.n_isinstance (a_cons (e_var (i := 1) rfl (by first | exact .inl rfl | exact .inr (.inl rfl) | exact .inr (.inr rfl))) (a_cons (e_ty (n := .list) rfl T.n_list bt_list) a_nil)))) (tw_or1 (t_cmpW (w_ne hr) (by with_unfolding_all rfl) (f_isi bt_isi rfl T.n_isinstance (a_cons (e_var (i := 0) rfl (by first | exact .inl rfl | exact .inr (.inl rfl) | exact .inr (.inr rfl))) (a_cons (e_ty (n := .tuple) rfl T.n_tuple bt_tuple) a_nil))) (f_isi bt_isi rfl T.n_isinstance (a_cons (e_var (i := 1) rfl (by first | exact .inl rfl | exact .inr (.inl rfl) | exact .inr (.inr rfl))) (a_cons (e_ty (n := .tuple) rfl T.n_tuple bt_tuple) a_nil))))))) (s_cons (s_ret e_bl)
    s_nil) s_nil)
    (s_cons (s_ret (e_and (e_cmpW (w_eq hr) (by with_unfolding_all rfl) (f_len rfl T.n_len (a_cons (e_var (i := 0) rfl (by first | exact .inl rfl | exact .inr (.inl rfl) | exact .inr (.inr rfl))) a_nil)) (f_len rfl T.n_len (a_cons (e_var (i := 1) rfl (by first | exact .inl rfl | exact .inr (.inl rfl) | exact .inr (.inr rfl))) a_nil))) (e_one (f_all rfl bt_all rfl T.n_all (a_cons (e_lc (own := [((PySem.Str.ofString "mine_so"), 2), ((PySem.Str.ofString "own"), 3)]) rfl sc.nd (blkOk_by (by first | rfl | kernel_rfl | with_unfolding_all rfl)) rfl (i_zip rfl T.n_zip (a_cons (e_var (i := 0) rfl (by first | exact .inl rfl | exact .inr (.inl rfl) | exact .inr (.inr rfl))) (a_cons (e_var (i := 1) rfl (by first | exact .inl rfl | exact .inr (.inl rfl) | exact .inr (.inr rfl))) a_nil))) (fun s H C cl fp => (g_tup rfl (gs_c (g_name (i := 2) sc.nd rfl (by first | exact .inl rfl | exact .inr rfl)) (gs_c (g_name (i := 3) sc.nd rfl (by first | exact .inl rfl | exact .inr rfl)) gs_nil)))) (fun s H C cl fp => ts_nil) (fun s H C cl fp => (e_call Fself hr T.g__law_same T.k__law_same B__law_same tkF (len_cons (len_cons len_nil)) rfl (a_cons (e_var (i := 2) rfl (by first | exact .inl rfl | exact .inr (.inl rfl) | exact .inr (.inr rfl))) (a_cons (e_var (i := 3) rfl (by first | exact .inl rfl | exact .inr (.inl rfl) | exact .inr (.inr rfl))) a_nil))))) a_nil)))))
    s_nil)) s_nil)
    (s_cons (s_if (t_pw (tw_or (t_cmpW w_is (by with_unfolding_all rfl) (e_var (i := 1) rfl (by first | exact .inl rfl | exact .inr (.inl rfl) | exact .inr (.inr rfl))) e_non) (tw_or1 (t_val (f_isi bt_isi rfl T.n_isinstance (a_cons (e_var (i := 1) rfl (by first | exact .inl rfl | exact .inr (.inl rfl) | exact .inr (.inr rfl))) (a_cons (e_tup (a_cons (e_ty (n := .bool) rfl T.n_bool bt_bool) (a_cons (e_ty (n := .str) rfl T.n_str bt_str) a_nil))) a_nil))))))) (s_cons (s_ret (e_and (e_cmpW (w_eq hr) (by with_unfolding_all rfl) (e_var (i := 0) rfl (by first | exact .inl rfl | exact .inr (.inl rfl) | exact .inr (.inr rfl))) (e_var (i := 1) rfl (by first | exact .inl rfl | exact .inr (.inl rfl) | exact .inr (.inr rfl)))) (e_and (e_cmpW (w_eq hr) (by with_unfolding_all rfl) (f_isi bt_isi rfl T.n_isinstance (a_cons (e_var (i := 0) rfl (by first | exact .inl rfl | exact .inr (.inl rfl) | exact .inr (.inr rfl))) (a_cons (e_ty (n := .bool) rfl T.n_bool bt_bool) a_nil))) (f_isi bt_isi rfl T.n_isinstance (a_cons (e_var (i := 1) rfl (by first | exact .inl rfl | exact .inr (.inl rfl) | exact .inr (.inr rfl))) (a_cons (e_ty (n := .bool) rfl T.n_bool bt_bool) a_nil)))) (e_one (e_cmpW (w_eq hr) (by with_unfolding_all rfl) (e_cmpW w_is (by with_unfolding_all rfl) (e_var (i := 0) rfl (by first | exact .inl rfl | exact .inr (.inl rfl) | exact .inr (.inr rfl))) e_non) (e_cmpW w_is (by with_unfolding_all rfl) (e_var (i := 1) rfl (by first | exact .inl rfl | exact .inr (.inl rfl) | exact .inr (.inr rfl))) e_non))))))
    s_nil) s_nil)
    (s_cons (s_ret (e_and (f_isi bt_isi rfl T.n_isinstance (a_cons (e_var (i := 0) rfl (by first | exact .inl rfl | exact .inr (.inl rfl) | exact .inr (.inr rfl))) (a_cons (e_ty (n := .int) rfl T.n_int bt_int) a_nil))) (e_and (e_not (f_isi bt_isi rfl T.n_isinstance (a_cons (e_var (i := 0) rfl (by first | exact .inl rfl | exact .inr (.inl rfl) | exact .inr (.inr rfl))) (a_cons (e_ty (n := .bool) rfl T.n_bool bt_bool) a_nil)))) (e_one (e_cmpW (w_eq hr) (by with_unfolding_all rfl) (e_var (i := 0) rfl (by first | exact .inl rfl | exact .inr (.inl rfl) | exact .inr (.inr rfl))) (e_var (i := 1) rfl (by first | exact .inl rfl | exact .inr (.inl rfl) | exact .inr (.inr rfl))))))))
    s_nil)))
theorem ok__law_lists (T : Txt P w K mg a_is_number a_are_numbers_from a_learnings a_known a_bit_of a_ranked a_ranks a_bits a_ranks_now a_ranks_told a_laps a_by_ranks a_rank_weaving a_rank_order a_moved a_is_ranked a_ranked_run a__law_cells a__law_same a__law_lists a__law_way a__law_meet a__law_turns a__law_heard a__law_runs_right a__law_rows_right a__law_listed_right a_law a_CanNot) (F : Fun K (PySem.Str.ofString "_law_lists") (PySem.Str.ofString "_law_lists") st__law_lists a__law_lists fd__law_lists) (B__law_lists : Binds K fd__law_lists ps__law_lists []) : FnOk P w K mg base (L2.CX P w) 41 a__law_lists fd__law_lists ps__law_lists (spF ⟨w, K, mg⟩ 1 f__law_lists) := by
  have sc := sc__law_lists
  refine fn_recK (m := m__law_lists) rfl 1 (fun j fm Fself => ?_) 40
  refine fn_ok F sc rfl (by decide) fun cdv A outer s H E hr => ?_
  exact (s_cons (s_ret (e_ife (t_val (f_isi bt_isi rfl T.n_isinstance (a_cons (e_var (i := 0) rfl (by first | exact .inl rfl | exact .inr (.inl rfl) | exact .inr (.inr rfl))) (a_cons (e_tup (a_cons (e_ty (n := .list) rfl T.n_list bt_list) (a_cons (e_ty (n := .tuple) rfl T.n_tuple bt_tuple) a_nil))) a_nil)))) (e_lc (own := [((PySem.Str.ofString "own"), 1)]) rfl sc.nd (blkOk_by (by first | rfl | kernel_rfl | with_unfolding_all rfl)) rfl (i_any (e_var (i := 0) rfl (by first | exact .inl rfl | exact .inr (.inl rfl) | exact .inr (.inr rfl)))) (fun s H C cl fp => (g_name (i := 1) sc.nd rfl (by first | exact .inl rfl | exact .inr rfl))) (fun s H C cl fp => ts_nil) (fun s H C cl fp => (e_call Fself hr T.g__law_lists T.k__law_lists B__law_lists tkF (len_cons len_nil) rfl (a_cons (e_var (i := 1) rfl (by first | exact .inl rfl | exact .inr (.inl rfl) | exact .inr (.inr rfl))) a_nil)))) (e_var (i := 0) rfl (by first | exact .inl rfl | exact .inr (.inl rfl) | exact .inr (.inr rfl)))))
    s_nil)
theorem ok__law_way (T : Txt P w K mg a_is_number a_are_numbers_from a_learnings a_known a_bit_of a_ranked a_ranks a_bits a_ranks_now a_ranks_told a_laps a_by_ranks a_rank_weaving a_rank_order a_moved a_is_ranked a_ranked_run a__law_cells a__law_same a__law_lists a__law_way a__law_meet a__law_turns a__law_heard a__law_runs_right a__law_rows_right a__law_listed_right a_law a_CanNot) (F : Fun K (PySem.Str.ofString "_law_way") (PySem.Str.ofString "_law_way") st__law_way a__law_way fd__law_way) : FnOk P w K mg base (L2.CX P w) 1 a__law_way fd__law_way ps__law_way (spF ⟨w, K, mg⟩ 0 f__law_way) := by
  have sc := sc__law_way
  refine fn_ok F sc rfl (by decide) fun cdv A outer s H E hr => ?_
  exact (s_cons (s_ret (e_tup (a_cons (e_tup (a_cons e_int (a_cons e_int a_nil))) (a_cons (e_tup (a_cons e_int (a_cons e_int a_nil))) (a_cons (e_tup (a_cons e_int (a_cons e_int a_nil))) (a_cons (e_tup (a_cons e_int (a_cons e_int a_nil))) (a_cons (e_tup (a_cons e_int (a_cons e_int a_nil))) (a_cons (e_tup (a_cons e_int (a_cons e_int a_nil))) a_nil))))))))
    s_nil)
theorem ok__law_meet (T : Txt P w K mg a_is_number a_are_numbers_from a_learnings a_known a_bit_of a_ranked a_ranks a_bits a_ranks_now a_ranks_told a_laps a_by_ranks a_rank_weaving a_rank_order a_moved a_is_ranked a_ranked_run a__law_cells a__law_same a__law_lists a__law_way a__law_meet a__law_turns a__law_heard a__law_runs_right a__law_rows_right a__law_listed_right a_law a_CanNot) (F : Fun K (PySem.Str.ofString "_law_meet") (PySem.Str.ofString "_law_meet") st__law_meet a__law_meet fd__law_meet) : FnOk P w K mg base (L2.CX P w) 1 a__law_meet fd__law_meet ps__law_meet (spF ⟨w, K, mg⟩ 0 f__law_meet) := by
  have sc := sc__law_meet
  refine fn_ok F sc rfl (by decide) fun cdv A outer s H E hr => ?_
  exact (s_cons (s_ret (e_tup (a_cons (e_tup (a_cons e_int (a_cons e_int a_nil))) (a_cons (e_tup (a_cons e_int (a_cons e_int a_nil))) (a_cons (e_tup (a_cons e_int (a_cons e_int a_nil))) (a_cons (e_tup (a_cons e_int (a_cons e_int a_nil))) (a_cons (e_tup (a_cons e_int (a_cons e_int a_nil))) (a_cons (e_tup (a_cons e_int (a_cons e_int a_nil))) (a_cons (e_tup (a_cons e_int (a_cons e_int a_nil))) (a_cons (e_tup (a_cons e_int (a_cons e_int a_nil))) a_nil))))))))))
    s_nil)
theorem ok__law_turns (T : Txt P w K mg a_is_number a_are_numbers_from a_learnings a_known a_bit_of a_ranked a_ranks a_bits a_ranks_now a_ranks_told a_laps a_by_ranks a_rank_weaving a_rank_order a_moved a_is_ranked a_ranked_run a__law_cells a__law_same a__law_lists a__law_way a__law_meet a__law_turns a__law_heard a__law_runs_right a__law_rows_right a__law_listed_right a_law a_CanNot) (F : Fun K (PySem.Str.ofString "_law_turns") (PySem.Str.ofString "_law_turns") st__law_turns a__law_turns fd__law_turns) : FnOk P w K mg base (L2.CX P w) 1 a__law_turns fd__law_turns ps__law_turns (spF ⟨w, K, mg⟩ 0 f__law_turns) := by
  have sc := sc__law_turns
  refine fn_ok F sc rfl (by decide) fun cdv A outer s H E hr => ?_
  exact (s_cons (s_ret (e_tup (a_cons (e_tup (a_cons e_int (a_cons e_int a_nil))) (a_cons (e_tup (a_cons e_int (a_cons e_int a_nil))) (a_cons (e_tup (a_cons e_int (a_cons e_int a_nil))) (a_cons (e_tup (a_cons e_int (a_cons e_int a_nil))) (a_cons (e_tup (a_cons e_int (a_cons e_int a_nil))) (a_cons (e_tup (a_cons e_int (a_cons e_int a_nil))) (a_cons (e_tup (a_cons e_int (a_cons e_int a_nil))) (a_cons (e_tup (a_cons e_int (a_cons e_int a_nil))) (a_cons (e_tup (a_cons e_int (a_cons e_int a_nil))) (a_cons (e_tup (a_cons e_int (a_cons e_int a_nil))) a_nil))))))))))))
    s_nil)
theorem ok__law_heard (T : Txt P w K mg a_is_number a_are_numbers_from a_learnings a_known a_bit_of a_ranked a_ranks a_bits a_ranks_now a_ranks_told a_laps a_by_ranks a_rank_weaving a_rank_order a_moved a_is_ranked a_ranked_run a__law_cells a__law_same a__law_lists a__law_way a__law_meet a__law_turns a__law_heard a__law_runs_right a__law_rows_right a__law_listed_right a_law a_CanNot) (F : Fun K (PySem.Str.ofString "_law_heard") (PySem.Str.ofString "_law_heard") st__law_heard a__law_heard fd__law_heard) (F_ranked_run : FnOk P w K mg base (L2.CX P w) 4 a_ranked_run fd_ranked_run ps_ranked_run (spF ⟨w, K, mg⟩ 2 f_ranked_run)) (B_ranked_run : Binds K fd_ranked_run ps_ranked_run []) (KC_ranked_run_0_told_puts : KwC K fd_ranked_run ps_ranked_run [(PySem.Str.ofString "told"), (PySem.Str.ofString "puts")] 0 2 [1, 0]) : FnOk P w K mg base (L2.CX P w) 5 a__law_heard fd__law_heard ps__law_heard (spF ⟨w, K, mg⟩ 2 f__law_heard) := by
  have sc := sc__law_heard
  refine fn_ok F sc rfl (by decide) fun cdv A outer s H E hr => ?_
  exact (s_cons (s_try (cs := ["CanNot"]) (l := [⟨"CanNot", (some 2), (fun c fs => mRet (mXL (xCons (xC (.str "can not")) (xCons (xIsi "CanNot" true) xNil)) c fs))⟩]) T.ek rfl rfl sc.nd tkD (fun W1 pn xe tk1 po1 => (s_cons (s_ret (e_kwc0 F_ranked_run (hr.mono (by first | decide | omega)) T.g_ranked_run T.k_ranked_run KC_ranked_run_0_told_puts tk1 rfl (kk_cons (e_var (i := 1) rfl (by first | exact .inl rfl | exact .inr (.inl rfl) | exact .inr (.inr rfl))) (kk_cons (e_var (i := 0) rfl (by first | exact .inl rfl | exact .inr (.inl rfl) | exact .inr (.inr rfl))) kk_nil))))
    s_nil)) (ClsOk.named (i := 2) (names_of rfl T.g_CanNot) rfl rfl (fun a oe cls d pn hz hf => (xs_ret (xe_lst (xa_cons x_str (xa_cons (x_isi (j := 2) T.g_CanNot T.ie_CanNot T.iv_CanNot_ValueError rfl T.n_isinstance rfl T.n_ValueError bt_ValueError bt_isi rfl (by first | exact .inl rfl | exact .inr (.inl rfl) | exact .inr (.inr rfl)) hz hf) xa_nil))))) ClsOk.nil))
    s_nil)
theorem ok__law_runs_right (T : Txt P w K mg a_is_number a_are_numbers_from a_learnings a_known a_bit_of a_ranked a_ranks a_bits a_ranks_now a_ranks_told a_laps a_by_ranks a_rank_weaving a_rank_order a_moved a_is_ranked a_ranked_run a__law_cells a__law_same a__law_lists a__law_way a__law_meet a__law_turns a__law_heard a__law_runs_right a__law_rows_right a__law_listed_right a_law a_CanNot) (F : Fun K (PySem.Str.ofString "_law_runs_right") (PySem.Str.ofString "_law_runs_right") st__law_runs_right a__law_runs_right fd__law_runs_right) (F__law_way : FnOk P w K mg base (L2.CX P w) 1 a__law_way fd__law_way ps__law_way (spF ⟨w, K, mg⟩ 0 f__law_way)) (B__law_way : Binds K fd__law_way ps__law_way []) (F__law_meet : FnOk P w K mg base (L2.CX P w) 1 a__law_meet fd__law_meet ps__law_meet (spF ⟨w, K, mg⟩ 0 f__law_meet)) (B__law_meet : Binds K fd__law_meet ps__law_meet []) (F__law_turns : FnOk P w K mg base (L2.CX P w) 1 a__law_turns fd__law_turns ps__law_turns (spF ⟨w, K, mg⟩ 0 f__law_turns)) (B__law_turns : Binds K fd__law_turns ps__law_turns []) (F_ranks : FnOk P w K mg base (L2.CX P w) 3 a_ranks fd_ranks ps_ranks (spF ⟨w, K, mg⟩ 1 f_ranks)) (B_ranks : Binds K fd_ranks ps_ranks []) (F_bits : FnOk P w K mg base (L2.CX P w) 4 a_bits fd_bits ps_bits (spF ⟨w, K, mg⟩ 1 f_bits)) (B_bits : Binds K fd_bits ps_bits []) (F_ranks_now : FnOk P w K mg base (L2.CX P w) 3 a_ranks_now fd_ranks_now ps_ranks_now (spF ⟨w, K, mg⟩ 1 f_ranks_now)) (B_ranks_now : Binds K fd_ranks_now ps_ranks_now []) (F_moved : FnOk P w K mg base (L2.CX P w) 4 a_moved fd_moved ps_moved (spF ⟨w, K, mg⟩ 1 f_moved)) (B_moved : Binds K fd_moved ps_moved []) (F_laps : FnOk P w K mg base (L2.CX P w) 4 a_laps fd_laps ps_laps (spF ⟨w, K, mg⟩ 1 f_laps)) (B_laps : Binds K fd_laps ps_laps []) (F_rank_weaving : FnOk P w K mg base (L2.CX P w) 4 a_rank_weaving fd_rank_weaving ps_rank_weaving (spF ⟨w, K, mg⟩ 1 f_rank_weaving)) (B_rank_weaving : Binds K fd_rank_weaving ps_rank_weaving []) (F_rank_order : FnOk P w K mg base (L2.CX P w) 4 a_rank_order fd_rank_order ps_rank_order (spF ⟨w, K, mg⟩ 2 f_rank_order)) (B_rank_order : Binds K fd_rank_order ps_rank_order []) (F__law_same : FnOk P w K mg base (L2.CX P w) 41 a__law_same fd__law_same ps__law_same (spF ⟨w, K, mg⟩ 2 f__law_same)) (B__law_same : Binds K fd__law_same ps__law_same []) : FnOk P w K mg base (L2.CX P w) 42 a__law_runs_right fd__law_runs_right ps__law_runs_right (spF ⟨w, K, mg⟩ 0 f__law_runs_right) := by
  have sc := sc__law_runs_right
  refine fn_ok F sc rfl (by decide) fun cdv A outer s H E hr => ?_
  exact (s_cons (s_asg (e_tup (a_cons (e_call0 F__law_way (hr.mono (by first | decide | omega)) T.g__law_way T.k__law_way B__law_way tkD rfl) (a_cons (e_call0 F__law_meet (hr.mono (by first | decide | omega)) T.g__law_meet T.k__law_meet B__law_meet tkD rfl) (a_cons (e_call0 F__law_turns (hr.mono (by first | decide | omega)) T.g__law_turns T.k__law_turns B__law_turns tkD rfl) (a_cons (e_tup (a_cons (e_tup (a_cons e_int (a_cons e_int a_nil))) (a_cons (e_tup (a_cons e_int (a_cons e_int a_nil))) (a_cons (e_tup (a_cons e_int (a_cons e_int a_nil))) a_nil)))) a_nil))))) (g_tup rfl (gs_c (g_name (i := 3) sc.nd rfl (by first | exact .inl rfl | exact .inr rfl)) (gs_c (g_name (i := 4) sc.nd rfl (by first | exact .inl rfl | exact .inr rfl)) (gs_c (g_name (i := 5) sc.nd rfl (by first | exact .inl rfl | exact .inr rfl)) (gs_c (g_name (i := 6) sc.nd rfl (by first | exact .inl rfl | exact .inr rfl)) gs_nil))))))
    (s_cons (s_set (i := 0) sc.nd rfl (by first | exact .inl rfl | exact .inr rfl) (e_lst (a_cons (e_lc (own := [((PySem.Str.ofString "own"), 7)]) rfl sc.nd (blkOk_by (by first | rfl | kernel_rfl | with_unfolding_all rfl)) rfl (i_any (e_tup (a_cons (e_var (i := 3) rfl (by first | exact .inl rfl | exact .inr (.inl rfl) | exact .inr (.inr rfl))) (a_cons (e_var (i := 4) rfl (by first | exact .inl rfl | exact .inr (.inl rfl) | exact .inr (.inr rfl))) (a_cons (e_var (i := 5) rfl (by first | exact .inl rfl | exact .inr (.inl rfl) | exact .inr (.inr rfl))) (a_cons (e_var (i := 6) rfl (by first | exact .inl rfl | exact .inr (.inl rfl) | exact .inr (.inr rfl))) (a_cons (e_tup a_nil) a_nil))))))) (fun s H C cl fp => (g_name (i := 7) sc.nd rfl (by first | exact .inl rfl | exact .inr rfl))) (fun s H C cl fp => ts_nil) (fun s H C cl fp => (e_call F_ranks (hr.mono (by first | decide | omega)) T.g_ranks T.k_ranks B_ranks tkF (len_cons len_nil) rfl (a_cons (e_var (i := 7) rfl (by first | exact .inl rfl | exact .inr (.inl rfl) | exact .inr (.inr rfl))) a_nil)))) (a_cons (e_lc (own := [((PySem.Str.ofString "own"), 7)]) rfl sc.nd (blkOk_by (by first | rfl | kernel_rfl | with_unfolding_all rfl)) rfl (i_any (e_tup (a_cons (e_var (i := 3) rfl (by first | exact .inl rfl | exact .inr (.inl rfl) | exact .inr (.inr rfl))) (a_cons (e_var (i := 4) rfl (by first | exact .inl rfl | exact .inr (.inl rfl) | exact .inr (.inr rfl))) (a_cons (e_var (i := 5) rfl (by first | exact .inl rfl | exact .inr (.inl rfl) | exact .inr (.inr rfl))) (a_cons (e_var (i := 6) rfl (by first | exact .inl rfl | exact .inr (.inl rfl) | exact .inr (.inr rfl))) (a_cons (e_tup a_nil) a_nil))))))) (fun s H C cl fp => (g_name (i := 7) sc.nd rfl (by first | exact .inl rfl | exact .inr rfl))) (fun s H C cl fp => ts_nil) (fun s H C cl fp => (e_call F_bits (hr.mono (by first | decide | omega)) T.g_bits T.k_bits B_bits tkF (len_cons len_nil) rfl (a_cons (e_var (i := 7) rfl (by first | exact .inl rfl | exact .inr (.inl rfl) | exact .inr (.inr rfl))) a_nil)))) a_nil))))
    (s_cons (s_set (i := 1) sc.nd rfl (by first | exact .inl rfl | exact .inr rfl) (e_lst (a_cons (e_lst (a_cons (e_tup (a_cons e_int (a_cons e_int (a_cons e_int (a_cons e_int a_nil))))) (a_cons (e_tup (a_cons e_int (a_cons e_int (a_cons e_int (a_cons e_int (a_cons e_int a_nil)))))) (a_cons (e_tup (a_cons e_int (a_cons e_int (a_cons e_int (a_cons e_int (a_cons e_int (a_cons e_int a_nil))))))) (a_cons (e_tup (a_cons e_int (a_cons e_int (a_cons e_int a_nil)))) (a_cons (e_tup a_nil) a_nil)))))) (a_cons (e_lst (a_cons (e_tup (a_cons e_int (a_cons e_int (a_cons e_int (a_cons e_int a_nil))))) (a_cons (e_tup (a_cons e_int (a_cons e_int (a_cons e_int (a_cons e_int (a_cons e_int a_nil)))))) (a_cons (e_tup (a_cons e_int (a_cons e_int (a_cons e_int (a_cons e_int (a_cons e_int (a_cons e_int a_nil))))))) (a_cons (e_tup (a_cons e_int (a_cons e_int (a_cons e_int a_nil)))) (a_cons (e_tup a_nil) a_nil)))))) a_nil))))
    (s_cons (s_set (i := 0) sc.nd rfl (by first | exact .inl rfl | exact .inr rfl) (b_add (e_var (i := 0) rfl (by first | exact .inl rfl | exact .inr (.inl rfl) | exact .inr (.inr rfl))) (e_lst (a_cons (e_lc (own := [((PySem.Str.ofString "own"), 7)]) rfl sc.nd (blkOk_by (by first | rfl | kernel_rfl | with_unfolding_all rfl)) rfl (i_any (e_tup (a_cons (e_var (i := 3) rfl (by first | exact .inl rfl | exact .inr (.inl rfl) | exact .inr (.inr rfl))) (a_cons (e_var (i := 4) rfl (by first | exact .inl rfl | exact .inr (.inl rfl) | exact .inr (.inr rfl))) (a_cons (e_var (i := 5) rfl (by first | exact .inl rfl | exact .inr (.inl rfl) | exact .inr (.inr rfl))) (a_cons (e_var (i := 6) rfl (by first | exact .inl rfl | exact .inr (.inl rfl) | exact .inr (.inr rfl))) (a_cons (e_tup a_nil) a_nil))))))) (fun s H C cl fp => (g_name (i := 7) sc.nd rfl (by first | exact .inl rfl | exact .inr rfl))) (fun s H C cl fp => ts_nil) (fun s H C cl fp => (e_call F_ranks_now (hr.mono (by first | decide | omega)) T.g_ranks_now T.k_ranks_now B_ranks_now tkF (len_cons len_nil) rfl (a_cons (e_var (i := 7) rfl (by first | exact .inl rfl | exact .inr (.inl rfl) | exact .inr (.inr rfl))) a_nil)))) (a_cons (e_lc (own := [((PySem.Str.ofString "own"), 7)]) rfl sc.nd (blkOk_by (by first | rfl | kernel_rfl | with_unfolding_all rfl)) rfl (i_any (e_tup (a_cons (e_var (i := 3) rfl (by first | exact .inl rfl | exact .inr (.inl rfl) | exact .inr (.inr rfl))) (a_cons (e_var (i := 4) rfl (by first | exact .inl rfl | exact .inr (.inl rfl) | exact .inr (.inr rfl))) (a_cons (e_var (i := 5) rfl (by first | exact .inl rfl | exact .inr (.inl rfl) | exact .inr (.inr rfl))) (a_cons (e_var (i := 6) rfl (by first | exact .inl rfl | exact .inr (.inl rfl) | exact .inr (.inr rfl))) a_nil)))))) (fun s H C cl fp => (g_name (i := 7) sc.nd rfl (by first | exact .inl rfl | exact .inr rfl))) (fun s H C cl fp => ts_nil) (fun s H C cl fp => (e_call F_moved (hr.mono (by first | decide | omega)) T.g_moved T.k_moved B_moved tkF (len_cons len_nil) rfl (a_cons (e_var (i := 7) rfl (by first | exact .inl rfl | exact .inr (.inl rfl) | exact .inr (.inr rfl))) a_nil)))) a_nil)))))
    (s_cons (s_set (i := 1) sc.nd rfl (by first | exact .inl rfl | exact .inr rfl) (b_add (e_var (i := 1) rfl (by first | exact .inl rfl | exact .inr (.inl rfl) | exact .inr (.inr rfl))) (e_lst (a_cons (e_lst (a_cons (e_tup (a_cons e_int (a_cons e_int a_nil))) (a_cons (e_tup (a_cons e_int (a_cons e_int a_nil))) (a_cons (e_tup (a_cons e_int (a_cons e_int a_nil))) (a_cons (e_tup (a_cons e_int (a_cons e_int a_nil))) (a_cons (e_tup (a_cons e_int (a_cons e_int a_nil))) a_nil)))))) (a_cons (e_lst (a_cons (e_tup (a_cons e_int (a_cons e_int a_nil))) (a_cons (e_tup (a_cons e_int (a_cons e_int (a_cons e_int a_nil)))) (a_cons (e_tup (a_cons e_int (a_cons e_int (a_cons e_int (a_cons e_int a_nil))))) (a_cons (e_tup a_nil) a_nil))))) a_nil)))))
    (s_cons (s_set (i := 0) sc.nd rfl (by first | exact .inl rfl | exact .inr rfl) (b_add (e_var (i := 0) rfl (by first | exact .inl rfl | exact .inr (.inl rfl) | exact .inr (.inr rfl))) (e_lst (a_cons (e_call F_laps (hr.mono (by first | decide | omega)) T.g_laps T.k_laps B_laps tkD (len_cons len_nil) rfl (a_cons (e_var (i := 3) rfl (by first | exact .inl rfl | exact .inr (.inl rfl) | exact .inr (.inr rfl))) a_nil)) (a_cons (e_call F_laps (hr.mono (by first | decide | omega)) T.g_laps T.k_laps B_laps tkD (len_cons len_nil) rfl (a_cons (e_var (i := 4) rfl (by first | exact .inl rfl | exact .inr (.inl rfl) | exact .inr (.inr rfl))) a_nil)) (a_cons (e_call F_laps (hr.mono (by first | decide | omega)) T.g_laps T.k_laps B_laps tkD (len_cons len_nil) rfl (a_cons (e_var (i := 5) rfl (by first | exact .inl rfl | exact .inr (.inl rfl) | exact .inr (.inr rfl))) a_nil)) (a_cons (e_call F_laps (hr.mono (by first | decide | omega)) T.g_laps T.k_laps B_laps tkD (len_cons len_nil) rfl (a_cons (e_var (i := 6) rfl (by first | exact .inl rfl | exact .inr (.inl rfl) | exact .inr (.inr rfl))) a_nil)) (a_cons (e_call F_laps (hr.mono (by first | decide | omega)) T.g_laps T.k_laps B_laps tkD (len_cons len_nil) rfl (a_cons (e_tup a_nil) a_nil)) a_nil))))))))
    (s_cons (s_set (i := 1) sc.nd rfl (by first | exact .inl rfl | exact .inr rfl) (b_add (e_var (i := 1) rfl (by first | exact .inl rfl | exact .inr (.inl rfl) | exact .inr (.inr rfl))) (e_lst (a_cons (e_tup (a_cons (e_tup (a_cons e_int (a_cons (e_tup (a_cons e_int a_nil)) a_nil))) (a_cons (e_tup (a_cons e_int (a_cons (e_tup (a_cons e_int (a_cons e_int a_nil))) a_nil))) (a_cons (e_tup (a_cons e_int (a_cons (e_tup (a_cons e_int a_nil)) a_nil))) a_nil)))) (a_cons (e_tup (a_cons (e_tup (a_cons e_int (a_cons (e_tup (a_cons e_int (a_cons e_int a_nil))) a_nil))) (a_cons (e_tup (a_cons e_int (a_cons (e_tup (a_cons e_int (a_cons e_int a_nil))) a_nil))) (a_cons (e_tup (a_cons e_int (a_cons (e_tup (a_cons e_int a_nil)) a_nil))) a_nil)))) (a_cons (e_tup (a_cons (e_tup (a_cons e_int (a_cons (e_tup (a_cons e_int a_nil)) a_nil))) (a_cons (e_tup (a_cons e_int (a_cons (e_tup (a_cons e_int a_nil)) a_nil))) (a_cons (e_tup (a_cons e_int (a_cons (e_tup (a_cons e_int a_nil)) a_nil))) (a_cons (e_tup (a_cons e_int (a_cons (e_tup (a_cons e_int a_nil)) a_nil))) (a_cons (e_tup (a_cons e_int (a_cons (e_tup (a_cons e_int (a_cons e_int a_nil))) a_nil))) a_nil)))))) (a_cons (e_tup (a_cons (e_tup (a_cons e_int (a_cons (e_tup (a_cons e_int (a_cons e_int (a_cons e_int a_nil)))) a_nil))) a_nil)) (a_cons (e_tup a_nil) a_nil))))))))
    (s_cons (s_set (i := 0) sc.nd rfl (by first | exact .inl rfl | exact .inr rfl) (b_add (e_var (i := 0) rfl (by first | exact .inl rfl | exact .inr (.inl rfl) | exact .inr (.inr rfl))) (e_lst (a_cons (e_lc (own := [((PySem.Str.ofString "own"), 7)]) rfl sc.nd (blkOk_by (by first | rfl | kernel_rfl | with_unfolding_all rfl)) rfl (i_any (e_tup (a_cons (e_var (i := 3) rfl (by first | exact .inl rfl | exact .inr (.inl rfl) | exact .inr (.inr rfl))) (a_cons (e_var (i := 4) rfl (by first | exact .inl rfl | exact .inr (.inl rfl) | exact .inr (.inr rfl))) (a_cons (e_var (i := 6) rfl (by first | exact .inl rfl | exact .inr (.inl rfl) | exact .inr (.inr rfl))) (a_cons (e_tup a_nil) a_nil)))))) (fun s H C cl fp => (g_name (i := 7) sc.nd rfl (by first | exact .inl rfl | exact .inr rfl))) (fun s H C cl fp => ts_nil) (fun s H C cl fp => (e_call F_rank_weaving (hr.mono (by first | decide | omega)) T.g_rank_weaving T.k_rank_weaving B_rank_weaving tkF (len_cons len_nil) rfl (a_cons (e_var (i := 7) rfl (by first | exact .inl rfl | exact .inr (.inl rfl) | exact .inr (.inr rfl))) a_nil)))) (a_cons (e_lc (own := [((PySem.Str.ofString "own"), 7)]) rfl sc.nd (blkOk_by (by first | rfl | kernel_rfl | with_unfolding_all rfl)) rfl (i_any (e_tup (a_cons (e_var (i := 3) rfl (by first | exact .inl rfl | exact .inr (.inl rfl) | exact .inr (.inr rfl))) (a_cons (e_var (i := 4) rfl (by first | exact .inl rfl | exact .inr (.inl rfl) | exact .inr (.inr rfl))) (a_cons (e_var (i := 6) rfl (by first | exact .inl rfl | exact .inr (.inl rfl) | exact .inr (.inr rfl))) a_nil))))) (fun s H C cl fp => (g_name (i := 7) sc.nd rfl (by first | exact .inl rfl | exact .inr rfl))) (fun s H C cl fp => ts_nil) (fun s H C cl fp => (e_call F_rank_order (hr.mono (by first | decide | omega)) T.g_rank_order T.k_rank_order B_rank_order tkF (len_cons (len_cons len_nil)) rfl (a_cons (e_var (i := 7) rfl (by first | exact .inl rfl | exact .inr (.inl rfl) | exact .inr (.inr rfl))) (a_cons e_int a_nil))))) (a_cons (e_lc (own := [((PySem.Str.ofString "own"), 7)]) rfl sc.nd (blkOk_by (by first | rfl | kernel_rfl | with_unfolding_all rfl)) rfl (i_any (e_tup (a_cons (e_var (i := 3) rfl (by first | exact .inl rfl | exact .inr (.inl rfl) | exact .inr (.inr rfl))) (a_cons (e_var (i := 4) rfl (by first | exact .inl rfl | exact .inr (.inl rfl) | exact .inr (.inr rfl))) (a_cons (e_var (i := 6) rfl (by first | exact .inl rfl | exact .inr (.inl rfl) | exact .inr (.inr rfl))) a_nil))))) (fun s H C cl fp => (g_name (i := 7) sc.nd rfl (by first | exact .inl rfl | exact .inr rfl))) (fun s H C cl fp => ts_nil) (fun s H C cl fp => (e_call F_rank_order (hr.mono (by first | decide | omega)) T.g_rank_order T.k_rank_order B_rank_order tkF (len_cons (len_cons len_nil)) rfl (a_cons (e_var (i := 7) rfl (by first | exact .inl rfl | exact .inr (.inl rfl) | exact .inr (.inr rfl))) (a_cons e_int a_nil))))) a_nil))))))
    (s_cons (s_set (i := 1) sc.nd rfl (by first | exact .inl rfl | exact .inr rfl) (b_add (e_var (i := 1) rfl (by first | exact .inl rfl | exact .inr (.inl rfl) | exact .inr (.inr rfl))) (e_lst (a_cons (e_lst (a_cons (e_tup (a_cons e_int (a_cons e_int (a_cons e_int (a_cons e_int a_nil))))) (a_cons (e_tup (a_cons e_int (a_cons e_int (a_cons e_int (a_cons e_int (a_cons e_int a_nil)))))) (a_cons (e_tup (a_cons e_int (a_cons e_int (a_cons e_int a_nil)))) (a_cons (e_tup a_nil) a_nil))))) (a_cons (e_lst (a_cons (e_tup (a_cons e_int (a_cons e_int (a_cons e_int a_nil)))) (a_cons (e_tup (a_cons e_int (a_cons e_int (a_cons e_int (a_cons e_int a_nil))))) (a_cons (e_tup a_nil) a_nil)))) (a_cons (e_lst (a_cons (e_tup (a_cons e_int (a_cons e_int (a_cons e_int a_nil)))) (a_cons (e_tup (a_cons e_int (a_cons e_int (a_cons e_int (a_cons e_int a_nil))))) (a_cons (e_tup (a_cons e_int (a_cons e_int (a_cons e_int a_nil)))) a_nil)))) a_nil))))))
    (s_cons (s_set (i := 2) sc.nd rfl (by first | exact .inl rfl | exact .inr rfl) (e_tup (a_cons (e_tup (a_cons e_int (a_cons e_int a_nil))) (a_cons (e_tup (a_cons e_int (a_cons e_int a_nil))) (a_cons (e_tup (a_cons e_int (a_cons e_int a_nil))) (a_cons (e_tup (a_cons e_int (a_cons e_int a_nil))) (a_cons (e_tup (a_cons e_int (a_cons e_int a_nil))) (a_cons (e_tup (a_cons e_int (a_cons e_int a_nil))) (a_cons (e_tup (a_cons e_int (a_cons e_int a_nil))) (a_cons (e_tup (a_cons e_int (a_cons e_int a_nil))) (a_cons (e_tup (a_cons e_int (a_cons e_int a_nil))) (a_cons (e_tup (a_cons e_int (a_cons e_int a_nil))) (a_cons (e_tup (a_cons e_int (a_cons e_int a_nil))) a_nil)))))))))))))
    (s_cons (s_set (i := 0) sc.nd rfl (by first | exact .inl rfl | exact .inr rfl) (b_add (e_var (i := 0) rfl (by first | exact .inl rfl | exact .inr (.inl rfl) | exact .inr (.inr rfl))) (e_lst (a_cons (e_call F_ranks (hr.mono (by first | decide | omega)) T.g_ranks T.k_ranks B_ranks tkD (len_cons len_nil) rfl (a_cons (e_var (i := 2) rfl (by first | exact .inl rfl | exact .inr (.inl rfl) | exact .inr (.inr rfl))) a_nil)) (a_cons (e_call F_moved (hr.mono (by first | decide | omega)) T.g_moved T.k_moved B_moved tkD (len_cons len_nil) rfl (a_cons (e_var (i := 2) rfl (by first | exact .inl rfl | exact .inr (.inl rfl) | exact .inr (.inr rfl))) a_nil)) (a_cons (e_call F_rank_weaving (hr.mono (by first | decide | omega)) T.g_rank_weaving T.k_rank_weaving B_rank_weaving tkD (len_cons len_nil) rfl (a_cons (e_var (i := 2) rfl (by first | exact .inl rfl | exact .inr (.inl rfl) | exact .inr (.inr rfl))) a_nil)) (a_cons (e_call F_ranks (hr.mono (by first | decide | omega)) T.g_ranks T.k_ranks B_ranks tkD (len_cons len_nil) rfl (a_cons (e_slice (e_var (i := 2) rfl (by first | exact .inl rfl | exact .inr (.inl rfl) | exact .inr (.inr rfl))) o_none (o_some e_int)) a_nil)) (a_cons (e_call F_ranks_now (hr.mono (by first | decide | omega)) T.g_ranks_now T.k_ranks_now B_ranks_now tkD (len_cons len_nil) rfl (a_cons (e_slice (e_var (i := 2) rfl (by first | exact .inl rfl | exact .inr (.inl rfl) | exact .inr (.inr rfl))) o_none (o_some e_int)) a_nil)) a_nil))))))))
    (s_cons (s_ret (e_call F__law_same (hr.mono (by first | decide | omega)) T.g__law_same T.k__law_same B__law_same tkD (len_cons (len_cons len_nil)) rfl (a_cons (e_var (i := 0) rfl (by first | exact .inl rfl | exact .inr (.inl rfl) | exact .inr (.inr rfl))) (a_cons (b_add (e_var (i := 1) rfl (by first | exact .inl rfl | exact .inr (.inl rfl) | exact .inr (.inr rfl))) (e_lst (a_cons (e_tup (a_cons e_int (a_cons e_int (a_cons e_int (a_cons e_int (a_cons e_int (a_cons e_int a_nil))))))) (a_cons (e_tup (a_cons e_int (a_cons e_int (a_cons e_int (a_cons e_int (a_cons e_int a_nil)))))) (a_cons (e_tup (a_cons e_int (a_cons e_int (a_cons e_int (a_cons e_int (a_cons e_int (a_cons e_int a_nil))))))) (a_cons (e_tup (a_cons e_int (a_cons e_int (a_cons e_int (a_cons e_int (a_cons e_int a_nil)))))) (a_cons (e_tup (a_cons e_int (a_cons e_int a_nil))) a_nil))))))) a_nil))))
    s_nil))))))))))))
theorem ok__law_rows_right (T : Txt P w K mg a_is_number a_are_numbers_from a_learnings a_known a_bit_of a_ranked a_ranks a_bits a_ranks_now a_ranks_told a_laps a_by_ranks a_rank_weaving a_rank_order a_moved a_is_ranked a_ranked_run a__law_cells a__law_same a__law_lists a__law_way a__law_meet a__law_turns a__law_heard a__law_runs_right a__law_rows_right a__law_listed_right a_law a_CanNot) (F : Fun K (PySem.Str.ofString "_law_rows_right") (PySem.Str.ofString "_law_rows_right") st__law_rows_right a__law_rows_right fd__law_rows_right) (F__law_heard : FnOk P w K mg base (L2.CX P w) 5 a__law_heard fd__law_heard ps__law_heard (spF ⟨w, K, mg⟩ 2 f__law_heard)) (B__law_heard : Binds K fd__law_heard ps__law_heard []) (F_is_ranked : FnOk P w K mg base (L2.CX P w) 3 a_is_ranked fd_is_ranked ps_is_ranked (spF ⟨w, K, mg⟩ 2 f_is_ranked)) (B_is_ranked : Binds K fd_is_ranked ps_is_ranked []) (F_ranks_told : FnOk P w K mg base (L2.CX P w) 2 a_ranks_told fd_ranks_told ps_ranks_told (spF ⟨w, K, mg⟩ 2 f_ranks_told)) (B_ranks_told : Binds K fd_ranks_told ps_ranks_told []) (F__law_same : FnOk P w K mg base (L2.CX P w) 41 a__law_same fd__law_same ps__law_same (spF ⟨w, K, mg⟩ 2 f__law_same)) (B__law_same : Binds K fd__law_same ps__law_same []) : FnOk P w K mg base (L2.CX P w) 42 a__law_rows_right fd__law_rows_right ps__law_rows_right (spF ⟨w, K, mg⟩ 0 f__law_rows_right) := by
  have sc := sc__law_rows_right
  refine fn_ok F sc rfl (by decide) fun cdv A outer s H E hr => ?_
  exact (s_cons (s_asg (e_tup (a_cons (e_tup (a_cons (e_tup (a_cons e_int (a_cons e_int a_nil))) (a_cons (e_tup (a_cons e_int (a_cons e_int a_nil))) (a_cons (e_tup (a_cons e_int (a_cons e_int a_nil))) a_nil)))) (a_cons (e_tup (a_cons (e_tup (a_cons e_int (a_cons e_int a_nil))) (a_cons (e_tup (a_cons e_int (a_cons e_int a_nil))) (a_cons (e_tup (a_cons e_int (a_cons e_int a_nil))) (a_cons (e_tup (a_cons e_int (a_cons e_int a_nil))) a_nil))))) a_nil))) (g_tup rfl (gs_c (g_name (i := 6) sc.nd rfl (by first | exact .inl rfl | exact .inr rfl)) (gs_c (g_name (i := 7) sc.nd rfl (by first | exact .inl rfl | exact .inr rfl)) gs_nil))))
    (s_cons (s_setLc (i := 0) (own := [((PySem.Str.ofString "own"), 8)]) rfl sc.nd rfl rfl rfl (blkOk_by (by first | rfl | kernel_rfl | with_unfolding_all rfl)) rfl (i_any (e_tup (a_cons (e_tup (a_cons e_int (a_cons e_int (a_cons e_int a_nil)))) (a_cons (e_tup (a_cons e_int (a_cons e_int (a_cons e_int a_nil)))) (a_cons (e_tup (a_cons e_int (a_cons e_int (a_cons e_int a_nil)))) (a_cons (e_tup (a_cons e_int (a_cons e_int (a_cons e_int a_nil)))) (a_cons (e_tup (a_cons e_int (a_cons e_int a_nil))) (a_cons (e_tup (a_cons e_int (a_cons e_int (a_cons e_int a_nil)))) (a_cons (e_tup (a_cons e_int (a_cons e_int (a_cons e_int a_nil)))) (a_cons (e_tup (a_cons e_int (a_cons e_int (a_cons e_int (a_cons e_int a_nil))))) a_nil)))))))))) (fun s H C cl fp => (g_name (i := 8) sc.nd rfl (by first | exact .inl rfl | exact .inr rfl))) (fun s H C cl fp => ts_nil) (fun s H C cl fp => (e_call F__law_heard (hr.mono (by first | decide | omega)) T.g__law_heard T.k__law_heard B__law_heard tkF (len_cons (len_cons len_nil)) rfl (a_cons (e_var (i := 6) rfl (by first | exact .inl rfl | exact .inr (.inl rfl) | exact .inr (.inr rfl))) (a_cons (e_var (i := 8) rfl (by first | exact .inl rfl | exact .inr (.inl rfl) | exact .inr (.inr rfl))) a_nil)))))
    (s_cons (s_set (i := 1) sc.nd rfl (by first | exact .inl rfl | exact .inr rfl) (e_lst (a_cons e_str (a_cons e_bl a_nil))))
    (s_cons (s_set (i := 2) sc.nd rfl (by first | exact .inl rfl | exact .inr rfl) (e_lst (a_cons (e_tup (a_cons (e_tup (a_cons e_int (a_cons e_int a_nil))) (a_cons (e_tup (a_cons e_int (a_cons e_int a_nil))) (a_cons (e_tup (a_cons e_int (a_cons e_int a_nil))) (a_cons (e_tup (a_cons e_int (a_cons e_int a_nil))) a_nil))))) (a_cons (e_var (i := 6) rfl (by first | exact .inl rfl | exact .inr (.inl rfl) | exact .inr (.inr rfl))) (a_cons (e_var (i := 1) rfl (by first | exact .inl rfl | exact .inr (.inl rfl) | exact .inr (.inr rfl))) (a_cons (e_var (i := 1) rfl (by first | exact .inl rfl | exact .inr (.inl rfl) | exact .inr (.inr rfl))) (a_cons (e_var (i := 1) rfl (by first | exact .inl rfl | exact .inr (.inl rfl) | exact .inr (.inr rfl))) (a_cons (e_var (i := 1) rfl (by first | exact .inl rfl | exact .inr (.inl rfl) | exact .inr (.inr rfl))) (a_cons (e_var (i := 1) rfl (by first | exact .inl rfl | exact .inr (.inl rfl) | exact .inr (.inr rfl))) (a_cons (e_var (i := 1) rfl (by first | exact .inl rfl | exact .inr (.inl rfl) | exact .inr (.inr rfl))) a_nil))))))))))
    (s_cons (s_set (i := 0) sc.nd rfl (by first | exact .inl rfl | exact .inr rfl) (b_add (e_var (i := 0) rfl (by first | exact .inl rfl | exact .inr (.inl rfl) | exact .inr (.inr rfl))) (e_lst (a_cons (e_call F__law_heard (hr.mono (by first | decide | omega)) T.g__law_heard T.k__law_heard B__law_heard tkD (len_cons (len_cons len_nil)) rfl (a_cons (e_var (i := 7) rfl (by first | exact .inl rfl | exact .inr (.inl rfl) | exact .inr (.inr rfl))) (a_cons (e_tup (a_cons e_int (a_cons e_int (a_cons e_int (a_cons e_int a_nil))))) a_nil))) (a_cons (e_call F__law_heard (hr.mono (by first | decide | omega)) T.g__law_heard T.k__law_heard B__law_heard tkD (len_cons (len_cons len_nil)) rfl (a_cons (e_var (i := 7) rfl (by first | exact .inl rfl | exact .inr (.inl rfl) | exact .inr (.inr rfl))) (a_cons (e_tup (a_cons e_int (a_cons e_int (a_cons e_int (a_cons e_int a_nil))))) a_nil))) (a_cons (e_call F__law_heard (hr.mono (by first | decide | omega)) T.g__law_heard T.k__law_heard B__law_heard tkD (len_cons (len_cons len_nil)) rfl (a_cons (e_var (i := 7) rfl (by first | exact .inl rfl | exact .inr (.inl rfl) | exact .inr (.inr rfl))) (a_cons (e_tup (a_cons e_int (a_cons e_int (a_cons e_int (a_cons e_int a_nil))))) a_nil))) (a_cons (e_call F__law_heard (hr.mono (by first | decide | omega)) T.g__law_heard T.k__law_heard B__law_heard tkD (len_cons (len_cons len_nil)) rfl (a_cons (e_var (i := 7) rfl (by first | exact .inl rfl | exact .inr (.inl rfl) | exact .inr (.inr rfl))) (a_cons (e_tup (a_cons e_int (a_cons e_int (a_cons e_int (a_cons e_int a_nil))))) a_nil))) (a_cons (e_call F__law_heard (hr.mono (by first | decide | omega)) T.g__law_heard T.k__law_heard B__law_heard tkD (len_cons (len_cons len_nil)) rfl (a_cons (e_tup a_nil) (a_cons (e_tup a_nil) a_nil))) a_nil))))))))
    (s_cons (s_set (i := 2) sc.nd rfl (by first | exact .inl rfl | exact .inr rfl) (b_add (e_var (i := 2) rfl (by first | exact .inl rfl | exact .inr (.inl rfl) | exact .inr (.inr rfl))) (e_lst (a_cons (e_tup (a_cons (e_tup (a_cons e_int (a_cons e_int a_nil))) (a_cons (e_tup (a_cons e_int (a_cons e_int a_nil))) (a_cons (e_tup (a_cons e_int (a_cons e_int a_nil))) (a_cons (e_tup (a_cons e_int (a_cons e_int a_nil))) (a_cons (e_tup (a_cons e_int (a_cons e_int a_nil))) (a_cons (e_tup (a_cons e_int (a_cons e_int a_nil))) (a_cons (e_tup (a_cons e_int (a_cons e_int a_nil))) a_nil)))))))) (a_cons (e_tup (a_cons (e_tup (a_cons e_int (a_cons e_int a_nil))) (a_cons (e_tup (a_cons e_int (a_cons e_int a_nil))) (a_cons (e_tup (a_cons e_int (a_cons e_int a_nil))) (a_cons (e_tup (a_cons e_int (a_cons e_int a_nil))) (a_cons (e_tup (a_cons e_int (a_cons e_int a_nil))) a_nil)))))) (a_cons (e_var (i := 7) rfl (by first | exact .inl rfl | exact .inr (.inl rfl) | exact .inr (.inr rfl))) (a_cons (e_var (i := 1) rfl (by first | exact .inl rfl | exact .inr (.inl rfl) | exact .inr (.inr rfl))) (a_cons (e_tup a_nil) a_nil))))))))
    (s_cons (s_set (i := 3) sc.nd rfl (by first | exact .inl rfl | exact .inr rfl) (e_tup (a_cons (e_tup (a_cons e_int (a_cons e_int a_nil))) (a_cons (e_tup (a_cons e_int (a_cons e_int a_nil))) (a_cons (e_tup (a_cons e_int (a_cons e_int a_nil))) (a_cons (e_tup (a_cons e_int (a_cons e_int a_nil))) (a_cons (e_tup (a_cons e_int (a_cons e_int a_nil))) (a_cons (e_tup (a_cons e_int (a_cons e_int a_nil))) a_nil))))))))
    (s_cons (s_set (i := 0) sc.nd rfl (by first | exact .inl rfl | exact .inr rfl) (b_add (e_var (i := 0) rfl (by first | exact .inl rfl | exact .inr (.inl rfl) | exact .inr (.inr rfl))) (e_lst (a_cons (e_call F__law_heard (hr.mono (by first | decide | omega)) T.g__law_heard T.k__law_heard B__law_heard tkD (len_cons (len_cons len_nil)) rfl (a_cons (e_var (i := 3) rfl (by first | exact .inl rfl | exact .inr (.inl rfl) | exact .inr (.inr rfl))) (a_cons (e_tup (a_cons e_int (a_cons e_int (a_cons e_int (a_cons e_int (a_cons e_int (a_cons e_int a_nil))))))) a_nil))) (a_cons (e_call F__law_heard (hr.mono (by first | decide | omega)) T.g__law_heard T.k__law_heard B__law_heard tkD (len_cons (len_cons len_nil)) rfl (a_cons (e_var (i := 3) rfl (by first | exact .inl rfl | exact .inr (.inl rfl) | exact .inr (.inr rfl))) (a_cons (e_tup (a_cons e_int (a_cons e_int (a_cons e_int (a_cons e_int (a_cons e_int (a_cons e_int a_nil))))))) a_nil))) (a_cons (e_call F__law_heard (hr.mono (by first | decide | omega)) T.g__law_heard T.k__law_heard B__law_heard tkD (len_cons (len_cons len_nil)) rfl (a_cons (e_var (i := 3) rfl (by first | exact .inl rfl | exact .inr (.inl rfl) | exact .inr (.inr rfl))) (a_cons (e_tup (a_cons e_int (a_cons e_int (a_cons e_int (a_cons e_int (a_cons e_int (a_cons e_int a_nil))))))) a_nil))) (a_cons (e_call F__law_heard (hr.mono (by first | decide | omega)) T.g__law_heard T.k__law_heard B__law_heard tkD (len_cons (len_cons len_nil)) rfl (a_cons (e_var (i := 3) rfl (by first | exact .inl rfl | exact .inr (.inl rfl) | exact .inr (.inr rfl))) (a_cons (e_tup (a_cons e_int (a_cons e_int (a_cons e_int (a_cons e_int (a_cons e_int (a_cons e_int a_nil))))))) a_nil))) a_nil)))))))
    (s_cons (s_set (i := 2) sc.nd rfl (by first | exact .inl rfl | exact .inr rfl) (b_add (e_var (i := 2) rfl (by first | exact .inl rfl | exact .inr (.inl rfl) | exact .inr (.inr rfl))) (e_lst (a_cons (b_add (b_add (e_slice (e_var (i := 3) rfl (by first | exact .inl rfl | exact .inr (.inl rfl) | exact .inr (.inr rfl))) o_none (o_some e_int)) (e_tup (a_cons (e_tup (a_cons e_int (a_cons e_int a_nil))) a_nil))) (e_slice (e_var (i := 3) rfl (by first | exact .inl rfl | exact .inr (.inl rfl) | exact .inr (.inr rfl))) (o_some e_int) o_none)) (a_cons (b_add (b_add (e_slice (e_var (i := 3) rfl (by first | exact .inl rfl | exact .inr (.inl rfl) | exact .inr (.inr rfl))) o_none (o_some e_int)) (e_tup (a_cons (e_tup (a_cons e_int (a_cons e_int a_nil))) a_nil))) (e_slice (e_var (i := 3) rfl (by first | exact .inl rfl | exact .inr (.inl rfl) | exact .inr (.inr rfl))) (o_some e_int) o_none)) a_nil)))))
    (s_cons (s_set (i := 2) sc.nd rfl (by first | exact .inl rfl | exact .inr rfl) (b_add (e_var (i := 2) rfl (by first | exact .inl rfl | exact .inr (.inl rfl) | exact .inr (.inr rfl))) (e_lst (a_cons (b_add (b_add (e_slice (e_var (i := 3) rfl (by first | exact .inl rfl | exact .inr (.inl rfl) | exact .inr (.inr rfl))) o_none (o_some e_int)) (e_tup (a_cons (e_tup (a_cons e_int (a_cons e_int a_nil))) (a_cons (e_tup (a_cons e_int (a_cons e_int a_nil))) (a_cons (e_tup (a_cons e_int (a_cons e_int a_nil))) (a_cons (e_tup (a_cons e_int (a_cons e_int a_nil))) (a_cons (e_tup (a_cons e_int (a_cons e_int a_nil))) (a_cons (e_tup (a_cons e_int (a_cons e_int a_nil))) a_nil)))))))) (e_slice (e_var (i := 3) rfl (by first | exact .inl rfl | exact .inr (.inl rfl) | exact .inr (.inr rfl))) (o_some e_int) o_none)) (a_cons (b_add (e_slice (e_var (i := 3) rfl (by first | exact .inl rfl | exact .inr (.inl rfl) | exact .inr (.inr rfl))) o_none (o_some e_int)) (e_tup (a_cons (e_tup (a_cons e_int (a_cons e_int a_nil))) (a_cons (e_tup (a_cons e_int (a_cons e_int a_nil))) (a_cons (e_tup (a_cons e_int (a_cons e_int a_nil))) (a_cons (e_tup (a_cons e_int (a_cons e_int a_nil))) (a_cons (e_tup (a_cons e_int (a_cons e_int a_nil))) (a_cons (e_tup (a_cons e_int (a_cons e_int a_nil))) (a_cons (e_tup (a_cons e_int (a_cons e_int a_nil))) (a_cons (e_tup (a_cons e_int (a_cons e_int a_nil))) a_nil)))))))))) a_nil)))))
    (s_cons (s_set (i := 4) sc.nd rfl (by first | exact .inl rfl | exact .inr rfl) (e_lst (a_cons (e_tup (a_cons e_int (a_cons e_int (a_cons e_int (a_cons e_int a_nil))))) (a_cons (e_tup (a_cons e_int (a_cons e_int (a_cons e_int (a_cons e_int a_nil))))) (a_cons (e_tup (a_cons e_int (a_cons e_int (a_cons e_int (a_cons e_int a_nil))))) a_nil)))))
    (s_cons (s_set (i := 5) sc.nd rfl (by first | exact .inl rfl | exact .inr rfl) (e_lst (a_cons (e_tup (a_cons e_int (a_cons e_int (a_cons e_int (a_cons e_int a_nil))))) (a_cons (e_lst (a_cons e_int (a_cons e_int (a_cons e_int (a_cons e_int a_nil))))) (a_cons (e_tup (a_cons e_int (a_cons e_bl (a_cons e_int (a_cons e_int a_nil))))) (a_cons (e_tup (a_cons e_int (a_cons e_int (a_cons e_int a_nil)))) (a_cons (e_tup (a_cons e_int (a_cons e_int (a_cons e_int (a_cons e_int (a_cons e_int a_nil)))))) (a_cons e_non (a_cons e_int (a_cons e_str (a_cons (e_tup (a_cons e_int (a_cons e_int (a_cons e_int (a_cons (e_tup (a_cons e_int a_nil)) a_nil))))) (a_cons (e_tup (a_cons e_int (a_cons e_int (a_cons e_int (a_cons e_int a_nil))))) (a_cons (e_tup (a_cons e_int (a_cons (u_neg e_int) (a_cons e_int (a_cons e_int a_nil))))) (a_cons (e_tup a_nil) (a_cons (e_tup (a_cons (e_tup (a_cons e_int (a_cons e_int (a_cons e_int (a_cons e_int a_nil))))) a_nil)) (a_cons (e_tup (a_cons e_bl (a_cons e_int (a_cons e_int (a_cons e_int a_nil))))) a_nil))))))))))))))))
    (s_cons (s_set (i := 0) sc.nd rfl (by first | exact .inl rfl | exact .inr rfl) (b_add (e_var (i := 0) rfl (by first | exact .inl rfl | exact .inr (.inl rfl) | exact .inr (.inr rfl))) (e_lst (a_cons (e_lc (own := [((PySem.Str.ofString "own"), 8)]) rfl sc.nd (blkOk_by (by first | rfl | kernel_rfl | with_unfolding_all rfl)) rfl (i_any (e_var (i := 4) rfl (by first | exact .inl rfl | exact .inr (.inl rfl) | exact .inr (.inr rfl)))) (fun s H C cl fp => (g_name (i := 8) sc.nd rfl (by first | exact .inl rfl | exact .inr rfl))) (fun s H C cl fp => ts_nil) (fun s H C cl fp => (e_call F_is_ranked (hr.mono (by first | decide | omega)) T.g_is_ranked T.k_is_ranked B_is_ranked tkF (len_cons (len_cons len_nil)) rfl (a_cons (e_var (i := 7) rfl (by first | exact .inl rfl | exact .inr (.inl rfl) | exact .inr (.inr rfl))) (a_cons (e_var (i := 8) rfl (by first | exact .inl rfl | exact .inr (.inl rfl) | exact .inr (.inr rfl))) a_nil))))) (a_cons (e_lc (own := [((PySem.Str.ofString "own"), 8)]) rfl sc.nd (blkOk_by (by first | rfl | kernel_rfl | with_unfolding_all rfl)) rfl (i_any (e_var (i := 5) rfl (by first | exact .inl rfl | exact .inr (.inl rfl) | exact .inr (.inr rfl)))) (fun s H C cl fp => (g_name (i := 8) sc.nd rfl (by first | exact .inl rfl | exact .inr rfl))) (fun s H C cl fp => ts_nil) (fun s H C cl fp => (e_call F_is_ranked (hr.mono (by first | decide | omega)) T.g_is_ranked T.k_is_ranked B_is_ranked tkF (len_cons (len_cons len_nil)) rfl (a_cons (e_var (i := 7) rfl (by first | exact .inl rfl | exact .inr (.inl rfl) | exact .inr (.inr rfl))) (a_cons (e_var (i := 8) rfl (by first | exact .inl rfl | exact .inr (.inl rfl) | exact .inr (.inr rfl))) a_nil))))) (a_cons (e_call F_is_ranked (hr.mono (by first | decide | omega)) T.g_is_ranked T.k_is_ranked B_is_ranked tkD (len_cons (len_cons len_nil)) rfl (a_cons (e_tup a_nil) (a_cons (e_tup a_nil) a_nil))) (a_cons (e_call F_is_ranked (hr.mono (by first | decide | omega)) T.g_is_ranked T.k_is_ranked B_is_ranked tkD (len_cons (len_cons len_nil)) rfl (a_cons (e_tup a_nil) (a_cons (e_tup (a_cons e_int a_nil)) a_nil))) a_nil)))))))
    (s_cons (s_set (i := 2) sc.nd rfl (by first | exact .inl rfl | exact .inr rfl) (b_add (e_var (i := 2) rfl (by first | exact .inl rfl | exact .inr (.inl rfl) | exact .inr (.inr rfl))) (e_lst (a_cons (b_mulW (e_lst (a_cons e_bl a_nil)) e_int) (a_cons (b_mulW (e_lst (a_cons e_bl a_nil)) e_int) (a_cons e_bl (a_cons e_bl a_nil)))))))
    (s_cons (s_set (i := 0) sc.nd rfl (by first | exact .inl rfl | exact .inr rfl) (b_add (e_var (i := 0) rfl (by first | exact .inl rfl | exact .inr (.inl rfl) | exact .inr (.inr rfl))) (e_lst (a_cons (e_call F_ranks_told (hr.mono (by first | decide | omega)) T.g_ranks_told T.k_ranks_told B_ranks_told tkD (len_cons (len_cons len_nil)) rfl (a_cons e_int (a_cons (e_tup (a_cons e_int (a_cons e_int (a_cons e_int (a_cons e_int a_nil))))) a_nil))) (a_cons (e_call F_ranks_told (hr.mono (by first | decide | omega)) T.g_ranks_told T.k_ranks_told B_ranks_told tkD (len_cons (len_cons len_nil)) rfl (a_cons e_int (a_cons (e_tup (a_cons e_int a_nil)) a_nil))) (a_cons (e_call F_ranks_told (hr.mono (by first | decide | omega)) T.g_ranks_told T.k_ranks_told B_ranks_told tkD (len_cons (len_cons len_nil)) rfl (a_cons e_int (a_cons (e_tup (a_cons e_int (a_cons e_int (a_cons e_int (a_cons e_int (a_cons e_int a_nil)))))) a_nil))) (a_cons (e_call F_ranks_told (hr.mono (by first | decide | omega)) T.g_ranks_told T.k_ranks_told B_ranks_told tkD (len_cons (len_cons len_nil)) rfl (a_cons e_int (a_cons (e_tup a_nil) a_nil))) (a_cons (e_call F_ranks_told (hr.mono (by first | decide | omega)) T.g_ranks_told T.k_ranks_told B_ranks_told tkD (len_cons (len_cons len_nil)) rfl (a_cons e_int (a_cons (e_tup (a_cons e_int (a_cons e_int (a_cons e_int (a_cons e_int a_nil))))) a_nil))) a_nil))))))))
    (s_cons (s_ret (e_call F__law_same (hr.mono (by first | decide | omega)) T.g__law_same T.k__law_same B__law_same tkD (len_cons (len_cons len_nil)) rfl (a_cons (e_var (i := 0) rfl (by first | exact .inl rfl | exact .inr (.inl rfl) | exact .inr (.inr rfl))) (a_cons (b_add (e_var (i := 2) rfl (by first | exact .inl rfl | exact .inr (.inl rfl) | exact .inr (.inr rfl))) (e_lst (a_cons (e_tup (a_cons e_int (a_cons e_int (a_cons e_int (a_cons e_int a_nil))))) (a_cons (e_tup (a_cons e_int a_nil)) (a_cons (e_tup (a_cons e_int (a_cons e_int (a_cons e_int (a_cons e_int (a_cons e_int a_nil)))))) (a_cons (e_tup a_nil) (a_cons (e_tup (a_cons e_int (a_cons e_int (a_cons e_int (a_cons e_int a_nil))))) a_nil))))))) a_nil))))
    s_nil))))))))))))))))
theorem ok__law_listed_right (T : Txt P w K mg a_is_number a_are_numbers_from a_learnings a_known a_bit_of a_ranked a_ranks a_bits a_ranks_now a_ranks_told a_laps a_by_ranks a_rank_weaving a_rank_order a_moved a_is_ranked a_ranked_run a__law_cells a__law_same a__law_lists a__law_way a__law_meet a__law_turns a__law_heard a__law_runs_right a__law_rows_right a__law_listed_right a_law a_CanNot) (F : Fun K (PySem.Str.ofString "_law_listed_right") (PySem.Str.ofString "_law_listed_right") st__law_listed_right a__law_listed_right fd__law_listed_right) (F__law_way : FnOk P w K mg base (L2.CX P w) 1 a__law_way fd__law_way ps__law_way (spF ⟨w, K, mg⟩ 0 f__law_way)) (B__law_way : Binds K fd__law_way ps__law_way []) (F__law_meet : FnOk P w K mg base (L2.CX P w) 1 a__law_meet fd__law_meet ps__law_meet (spF ⟨w, K, mg⟩ 0 f__law_meet)) (B__law_meet : Binds K fd__law_meet ps__law_meet []) (F__law_lists : FnOk P w K mg base (L2.CX P w) 41 a__law_lists fd__law_lists ps__law_lists (spF ⟨w, K, mg⟩ 1 f__law_lists)) (B__law_lists : Binds K fd__law_lists ps__law_lists []) (F_ranks : FnOk P w K mg base (L2.CX P w) 3 a_ranks fd_ranks ps_ranks (spF ⟨w, K, mg⟩ 1 f_ranks)) (B_ranks : Binds K fd_ranks ps_ranks []) (F_bits : FnOk P w K mg base (L2.CX P w) 4 a_bits fd_bits ps_bits (spF ⟨w, K, mg⟩ 1 f_bits)) (B_bits : Binds K fd_bits ps_bits []) (F_ranks_now : FnOk P w K mg base (L2.CX P w) 3 a_ranks_now fd_ranks_now ps_ranks_now (spF ⟨w, K, mg⟩ 1 f_ranks_now)) (B_ranks_now : Binds K fd_ranks_now ps_ranks_now []) (F_ranks_told : FnOk P w K mg base (L2.CX P w) 2 a_ranks_told fd_ranks_told ps_ranks_told (spF ⟨w, K, mg⟩ 2 f_ranks_told)) (B_ranks_told : Binds K fd_ranks_told ps_ranks_told []) (F_laps : FnOk P w K mg base (L2.CX P w) 4 a_laps fd_laps ps_laps (spF ⟨w, K, mg⟩ 1 f_laps)) (B_laps : Binds K fd_laps ps_laps []) (F_rank_weaving : FnOk P w K mg base (L2.CX P w) 4 a_rank_weaving fd_rank_weaving ps_rank_weaving (spF ⟨w, K, mg⟩ 1 f_rank_weaving)) (B_rank_weaving : Binds K fd_rank_weaving ps_rank_weaving []) (F_rank_order : FnOk P w K mg base (L2.CX P w) 4 a_rank_order fd_rank_order ps_rank_order (spF ⟨w, K, mg⟩ 2 f_rank_order)) (B_rank_order : Binds K fd_rank_order ps_rank_order []) (F_moved : FnOk P w K mg base (L2.CX P w) 4 a_moved fd_moved ps_moved (spF ⟨w, K, mg⟩ 1 f_moved)) (B_moved : Binds K fd_moved ps_moved []) (F__law_heard : FnOk P w K mg base (L2.CX P w) 5 a__law_heard fd__law_heard ps__law_heard (spF ⟨w, K, mg⟩ 2 f__law_heard)) (B__law_heard : Binds K fd__law_heard ps__law_heard []) (F_is_ranked : FnOk P w K mg base (L2.CX P w) 3 a_is_ranked fd_is_ranked ps_is_ranked (spF ⟨w, K, mg⟩ 2 f_is_ranked)) (B_is_ranked : Binds K fd_is_ranked ps_is_ranked []) (F__law_same : FnOk P w K mg base (L2.CX P w) 41 a__law_same fd__law_same ps__law_same (spF ⟨w, K, mg⟩ 2 f__law_same)) (B__law_same : Binds K fd__law_same ps__law_same []) (KC_ranks_0_run : KwC K fd_ranks ps_ranks [(PySem.Str.ofString "run")] 0 1 [0]) (KC_bits_0_run : KwC K fd_bits ps_bits [(PySem.Str.ofString "run")] 0 1 [0]) (KC_ranks_now_0_run : KwC K fd_ranks_now ps_ranks_now [(PySem.Str.ofString "run")] 0 1 [0]) (KC_ranks_told_0_told_side : KwC K fd_ranks_told ps_ranks_told [(PySem.Str.ofString "told"), (PySem.Str.ofString "side")] 0 2 [1, 0]) (KC_laps_0_run : KwC K fd_laps ps_laps [(PySem.Str.ofString "run")] 0 1 [0]) (KC_rank_weaving_0_run : KwC K fd_rank_weaving ps_rank_weaving [(PySem.Str.ofString "run")] 0 1 [0]) (KC_rank_order_0_side_run : KwC K fd_rank_order ps_rank_order [(PySem.Str.ofString "side"), (PySem.Str.ofString "run")] 0 2 [1, 0]) (KC_moved_0_run : KwC K fd_moved ps_moved [(PySem.Str.ofString "run")] 0 1 [0]) (KC_is_ranked_0_thing_puts : KwC K fd_is_ranked ps_is_ranked [(PySem.Str.ofString "thing"), (PySem.Str.ofString "puts")] 0 2 [1, 0]) : FnOk P w K mg base (L2.CX P w) 42 a__law_listed_right fd__law_listed_right ps__law_listed_right (spF ⟨w, K, mg⟩ 0 f__law_listed_right) := by
  have sc := sc__law_listed_right
  refine fn_ok F sc rfl (by decide) fun cdv A outer s H E hr => ?_
  exact (s_cons (s_par (i := 2) (j := 3) rfl sc.nd rfl rfl (by decide) rfl rfl (a_cons (e_call0 F__law_way (hr.mono (by first | decide | omega)) T.g__law_way T.k__law_way B__law_way tkD rfl) (a_cons (e_call0 F__law_meet (hr.mono (by first | decide | omega)) T.g__law_meet T.k__law_meet B__law_meet tkD rfl) a_nil)))
    (s_cons (s_par3 (i := 4) (j := 5) (l := 6) rfl sc.nd rfl rfl rfl (by decide) (by decide) (by decide) rfl rfl rfl (a_cons (e_call F__law_lists (hr.mono (by first | decide | omega)) T.g__law_lists T.k__law_lists B__law_lists tkD (len_cons len_nil) rfl (a_cons (e_var (i := 3) rfl (by first | exact .inl rfl | exact .inr (.inl rfl) | exact .inr (.inr rfl))) a_nil)) (a_cons (e_lst (a_cons (e_tup (a_cons e_int (a_cons e_int a_nil))) (a_cons (e_lst (a_cons e_int (a_cons e_int a_nil))) (a_cons (e_tup (a_cons e_int (a_cons e_int a_nil))) (a_cons (e_lst (a_cons e_int (a_cons e_int a_nil))) (a_cons (e_tup (a_cons e_int (a_cons e_int a_nil))) (a_cons (e_tup (a_cons e_int (a_cons e_int a_nil))) a_nil))))))) (a_cons (e_tup (a_cons (e_tup (a_cons e_int (a_cons e_int a_nil))) (a_cons (e_tup (a_cons e_int (a_cons e_int a_nil))) (a_cons (e_tup (a_cons e_int (a_cons e_int a_nil))) a_nil)))) a_nil))))
    (s_cons (s_set (i := 0) sc.nd rfl (by first | exact .inl rfl | exact .inr rfl) (e_lst (a_cons (e_kwc0 F_ranks (hr.mono (by first | decide | omega)) T.g_ranks T.k_ranks KC_ranks_0_run tkD rfl (kk_cons (e_var (i := 4) rfl (by first | exact .inl rfl | exact .inr (.inl rfl) | exact .inr (.inr rfl))) kk_nil)) (a_cons (e_kwc0 F_bits (hr.mono (by first | decide | omega)) T.g_bits T.k_bits KC_bits_0_run tkD rfl (kk_cons (e_var (i := 5) rfl (by first | exact .inl rfl | exact .inr (.inl rfl) | exact .inr (.inr rfl))) kk_nil)) (a_cons (e_kwc0 F_ranks_now (hr.mono (by first | decide | omega)) T.g_ranks_now T.k_ranks_now KC_ranks_now_0_run tkD rfl (kk_cons (e_var (i := 4) rfl (by first | exact .inl rfl | exact .inr (.inl rfl) | exact .inr (.inr rfl))) kk_nil)) (a_cons (e_kwc0 F_ranks_told (hr.mono (by first | decide | omega)) T.g_ranks_told T.k_ranks_told KC_ranks_told_0_told_side tkD rfl (kk_cons (e_lst (a_cons e_int (a_cons e_int (a_cons e_int (a_cons e_int a_nil))))) (kk_cons e_int kk_nil))) (a_cons (e_kwc0 F_laps (hr.mono (by first | decide | omega)) T.g_laps T.k_laps KC_laps_0_run tkD rfl (kk_cons (e_var (i := 5) rfl (by first | exact .inl rfl | exact .inr (.inl rfl) | exact .inr (.inr rfl))) kk_nil)) a_nil)))))))
    (s_cons (s_set (i := 1) sc.nd rfl (by first | exact .inl rfl | exact .inr rfl) (e_lst (a_cons (e_tup (a_cons e_int (a_cons e_int (a_cons e_int (a_cons e_int (a_cons e_int a_nil)))))) (a_cons (e_tup (a_cons e_int (a_cons e_int (a_cons e_int (a_cons e_int a_nil))))) (a_cons (e_tup (a_cons e_int (a_cons e_int a_nil))) (a_cons (e_tup (a_cons e_int (a_cons e_int (a_cons e_int (a_cons e_int a_nil))))) (a_cons (e_tup (a_cons (e_tup (a_cons e_int (a_cons (e_tup (a_cons e_int a_nil)) a_nil))) (a_cons (e_tup (a_cons e_int (a_cons (e_tup (a_cons e_int (a_cons e_int a_nil))) a_nil))) (a_cons (e_tup (a_cons e_int (a_cons (e_tup (a_cons e_int a_nil)) a_nil))) a_nil)))) a_nil)))))))
    (s_cons (s_set (i := 0) sc.nd rfl (by first | exact .inl rfl | exact .inr rfl) (b_add (e_var (i := 0) rfl (by first | exact .inl rfl | exact .inr (.inl rfl) | exact .inr (.inr rfl))) (e_lst (a_cons (e_kwc0 F_rank_weaving (hr.mono (by first | decide | omega)) T.g_rank_weaving T.k_rank_weaving KC_rank_weaving_0_run tkD rfl (kk_cons (e_var (i := 4) rfl (by first | exact .inl rfl | exact .inr (.inl rfl) | exact .inr (.inr rfl))) kk_nil)) (a_cons (e_kwc0 F_rank_order (hr.mono (by first | decide | omega)) T.g_rank_order T.k_rank_order KC_rank_order_0_side_run tkD rfl (kk_cons e_int (kk_cons (e_var (i := 5) rfl (by first | exact .inl rfl | exact .inr (.inl rfl) | exact .inr (.inr rfl))) kk_nil))) (a_cons (e_kwc0 F_moved (hr.mono (by first | decide | omega)) T.g_moved T.k_moved KC_moved_0_run tkD rfl (kk_cons (e_var (i := 4) rfl (by first | exact .inl rfl | exact .inr (.inl rfl) | exact .inr (.inr rfl))) kk_nil)) (a_cons (e_call F__law_heard (hr.mono (by first | decide | omega)) T.g__law_heard T.k__law_heard B__law_heard tkD (len_cons (len_cons len_nil)) rfl (a_cons (e_call F__law_lists (hr.mono (by first | decide | omega)) T.g__law_lists T.k__law_lists B__law_lists tkD (len_cons len_nil) rfl (a_cons (e_var (i := 6) rfl (by first | exact .inl rfl | exact .inr (.inl rfl) | exact .inr (.inr rfl))) a_nil)) (a_cons (e_lst (a_cons e_int (a_cons e_int (a_cons e_int a_nil)))) a_nil))) (a_cons (e_call F_bits (hr.mono (by first | decide | omega)) T.g_bits T.k_bits B_bits tkD (len_cons len_nil) rfl (a_cons (e_var (i := 2) rfl (by first | exact .inl rfl | exact .inr (.inl rfl) | exact .inr (.inr rfl))) a_nil)) a_nil))))))))
    (s_cons (s_set (i := 1) sc.nd rfl (by first | exact .inl rfl | exact .inr rfl) (b_add (e_var (i := 1) rfl (by first | exact .inl rfl | exact .inr (.inl rfl) | exact .inr (.inr rfl))) (e_lst (a_cons (e_tup (a_cons e_int (a_cons e_int (a_cons e_int (a_cons e_int (a_cons e_int a_nil)))))) (a_cons (e_tup (a_cons e_int (a_cons e_int (a_cons e_int a_nil)))) (a_cons (e_tup (a_cons e_int (a_cons e_int (a_cons e_int a_nil)))) (a_cons (e_tup (a_cons (e_tup (a_cons e_int (a_cons e_int a_nil))) (a_cons (e_tup (a_cons e_int (a_cons e_int a_nil))) (a_cons (e_tup (a_cons e_int (a_cons e_int a_nil))) (a_cons (e_tup (a_cons e_int (a_cons e_int a_nil))) a_nil))))) (a_cons (e_tup (a_cons e_int (a_cons e_int (a_cons e_int (a_cons e_int a_nil))))) a_nil))))))))
    (s_cons (s_set (i := 0) sc.nd rfl (by first | exact .inl rfl | exact .inr rfl) (b_add (e_var (i := 0) rfl (by first | exact .inl rfl | exact .inr (.inl rfl) | exact .inr (.inr rfl))) (e_lst (a_cons (e_kwc0 F_is_ranked (hr.mono (by first | decide | omega)) T.g_is_ranked T.k_is_ranked KC_is_ranked_0_thing_puts tkD rfl (kk_cons (e_tup (a_cons e_int (a_cons e_int (a_cons e_int a_nil)))) (kk_cons (e_call F__law_lists (hr.mono (by first | decide | omega)) T.g__law_lists T.k__law_lists B__law_lists tkD (len_cons len_nil) rfl (a_cons (e_var (i := 6) rfl (by first | exact .inl rfl | exact .inr (.inl rfl) | exact .inr (.inr rfl))) a_nil)) kk_nil))) (a_cons (e_kwc0 F_is_ranked (hr.mono (by first | decide | omega)) T.g_is_ranked T.k_is_ranked KC_is_ranked_0_thing_puts tkD rfl (kk_cons (e_lst (a_cons e_int (a_cons e_int (a_cons e_int a_nil)))) (kk_cons (e_var (i := 6) rfl (by first | exact .inl rfl | exact .inr (.inl rfl) | exact .inr (.inr rfl))) kk_nil))) (a_cons (e_call F_is_ranked (hr.mono (by first | decide | omega)) T.g_is_ranked T.k_is_ranked B_is_ranked tkD (len_cons (len_cons len_nil)) rfl (a_cons (e_var (i := 6) rfl (by first | exact .inl rfl | exact .inr (.inl rfl) | exact .inr (.inr rfl))) (a_cons (e_tup (a_cons e_int (a_cons e_int (a_cons e_int a_nil)))) a_nil))) (a_cons (e_var (i := 4) rfl (by first | exact .inl rfl | exact .inr (.inl rfl) | exact .inr (.inr rfl))) a_nil)))))))
    (s_cons (s_expr (e_append (e_var (i := 0) rfl (by first | exact .inl rfl | exact .inr (.inl rfl) | exact .inr (.inr rfl))) (a_cons (e_call F__law_heard (hr.mono (by first | decide | omega)) T.g__law_heard T.k__law_heard B__law_heard tkD (len_cons (len_cons len_nil)) rfl (a_cons (e_tup (a_cons (e_tup (a_cons e_int (a_cons e_int a_nil))) (a_cons (e_tup (a_cons e_int (a_cons e_int a_nil))) (a_cons (e_tup (a_cons e_int (a_cons e_int a_nil))) (a_cons (e_tup (a_cons e_int (a_cons e_int a_nil))) a_nil))))) (a_cons (e_tup (a_cons e_int (a_cons e_int (a_cons e_int (a_cons e_int a_nil))))) a_nil))) a_nil)))
    (s_cons (s_ret (e_call F__law_same (hr.mono (by first | decide | omega)) T.g__law_same T.k__law_same B__law_same tkD (len_cons (len_cons len_nil)) rfl (a_cons (e_var (i := 0) rfl (by first | exact .inl rfl | exact .inr (.inl rfl) | exact .inr (.inr rfl))) (a_cons (b_add (e_var (i := 1) rfl (by first | exact .inl rfl | exact .inr (.inl rfl) | exact .inr (.inr rfl))) (e_lst (a_cons e_bl (a_cons e_bl (a_cons e_bl (a_cons (e_call F__law_lists (hr.mono (by first | decide | omega)) T.g__law_lists T.k__law_lists B__law_lists tkD (len_cons len_nil) rfl (a_cons (e_var (i := 3) rfl (by first | exact .inl rfl | exact .inr (.inl rfl) | exact .inr (.inr rfl))) a_nil)) (a_cons (e_tup (a_cons (e_tup (a_cons e_int (a_cons e_int a_nil))) (a_cons (e_tup (a_cons e_int (a_cons e_int a_nil))) (a_cons (e_tup (a_cons e_int (a_cons e_int a_nil))) (a_cons (e_tup (a_cons e_int (a_cons e_int a_nil))) (a_cons (e_tup (a_cons e_int (a_cons e_int a_nil))) (a_cons (e_tup (a_cons e_int (a_cons e_int a_nil))) (a_cons (e_tup (a_cons e_int (a_cons e_int a_nil))) a_nil)))))))) a_nil))))))) a_nil))))
    s_nil)))))))))
theorem ok_law (T : Txt P w K mg a_is_number a_are_numbers_from a_learnings a_known a_bit_of a_ranked a_ranks a_bits a_ranks_now a_ranks_told a_laps a_by_ranks a_rank_weaving a_rank_order a_moved a_is_ranked a_ranked_run a__law_cells a__law_same a__law_lists a__law_way a__law_meet a__law_turns a__law_heard a__law_runs_right a__law_rows_right a__law_listed_right a_law a_CanNot) (F : Fun K (PySem.Str.ofString "law") (PySem.Str.ofString "law") st_law a_law fd_law) (F__law_listed_right : FnOk P w K mg base (L2.CX P w) 42 a__law_listed_right fd__law_listed_right ps__law_listed_right (spF ⟨w, K, mg⟩ 0 f__law_listed_right)) (B__law_listed_right : Binds K fd__law_listed_right ps__law_listed_right []) (F__law_cells : FnOk P w K mg base (L2.CX P w) 1 a__law_cells fd__law_cells ps__law_cells (spF ⟨w, K, mg⟩ 2 f__law_cells)) (B__law_cells : Binds K fd__law_cells ps__law_cells []) (F__law_runs_right : FnOk P w K mg base (L2.CX P w) 42 a__law_runs_right fd__law_runs_right ps__law_runs_right (spF ⟨w, K, mg⟩ 0 f__law_runs_right)) (B__law_runs_right : Binds K fd__law_runs_right ps__law_runs_right []) (F__law_rows_right : FnOk P w K mg base (L2.CX P w) 42 a__law_rows_right fd__law_rows_right ps__law_rows_right (spF ⟨w, K, mg⟩ 0 f__law_rows_right)) (B__law_rows_right : Binds K fd__law_rows_right ps__law_rows_right []) : FnOk P w K mg base (L2.CX P w) 43 a_law fd_law ps_law (spF ⟨w, K, mg⟩ 1 f_law) := by
  have sc := sc_law
  refine fn_ok F sc rfl (by decide) fun cdv A outer s H E hr => ?_
  exact (s_cons (s_if (t_not (t_val (e_call0 (fn_cl F__law_listed_right) (hr.mono (by first | decide | omega)) T.g__law_listed_right T.k__law_listed_right B__law_listed_right tkD rfl))) (s_cons (s_ret e_bl)
    s_nil) s_nil)
    (s_cons (s_ret (e_ife (t_cmpW (w_eq hr) (by with_unfolding_all rfl) (b_mod (f_int bt_int rfl T.n_int (a_cons (x_ix hr (e_call F__law_cells (hr.mono (by first | decide | omega)) T.g__law_cells T.k__law_cells B__law_cells tkD (len_cons (len_cons len_nil)) rfl (a_cons (e_var (i := 0) rfl (by first | exact .inl rfl | exact .inr (.inl rfl) | exact .inr (.inr rfl))) (a_cons e_int a_nil))) e_int) a_nil)) e_int) e_int) (e_call0 (fn_cl F__law_runs_right) (hr.mono (by first | decide | omega)) T.g__law_runs_right T.k__law_runs_right B__law_runs_right tkD rfl) (e_call0 (fn_cl F__law_rows_right) (hr.mono (by first | decide | omega)) T.g__law_rows_right T.k__law_rows_right B__law_rows_right tkD rfl)))
    s_nil))
open PySem.W in
theorem top_mk {P : Program} {w : World} {K : PySem.W.Frag} {h : Heap} {mg : Str → Option Value} {a_is_number : Addr} {a_are_numbers_from : Addr} {a_learnings : Addr} {a_known : Addr} {a_bit_of : Addr} {a_ranked : Addr} {a_ranks : Addr} {a_bits : Addr} {a_ranks_now : Addr} {a_ranks_told : Addr} {a_laps : Addr} {a_by_ranks : Addr} {a_rank_weaving : Addr} {a_rank_order : Addr} {a_moved : Addr} {a_is_ranked : Addr} {a_ranked_run : Addr} {a__law_cells : Addr} {a__law_same : Addr} {a__law_lists : Addr} {a__law_way : Addr} {a__law_meet : Addr} {a__law_turns : Addr} {a__law_heard : Addr} {a__law_runs_right : Addr} {a__law_rows_right : Addr} {a__law_listed_right : Addr} {a_law : Addr} {a_CanNot : Addr} {od_is_number an_is_number : Option Addr} {sl_is_number : Array (Option Value)} {oc_is_number kV_is_number dc_is_number pm_is_number cd_is_number ct_is_number : Value} {od_are_numbers_from an_are_numbers_from : Option Addr} {sl_are_numbers_from : Array (Option Value)} {oc_are_numbers_from kV_are_numbers_from dc_are_numbers_from pm_are_numbers_from cd_are_numbers_from ct_are_numbers_from : Value} {od_learnings an_learnings : Option Addr} {sl_learnings : Array (Option Value)} {oc_learnings kV_learnings dc_learnings pm_learnings cd_learnings ct_learnings : Value} {od_known an_known : Option Addr} {sl_known : Array (Option Value)} {oc_known kV_known dc_known pm_known cd_known ct_known : Value} {od_bit_of an_bit_of : Option Addr} {sl_bit_of : Array (Option Value)} {oc_bit_of kV_bit_of dc_bit_of pm_bit_of cd_bit_of ct_bit_of : Value} {od_ranked an_ranked : Option Addr} {sl_ranked : Array (Option Value)} {oc_ranked kV_ranked dc_ranked pm_ranked cd_ranked ct_ranked : Value} {od_ranks an_ranks : Option Addr} {sl_ranks : Array (Option Value)} {oc_ranks kV_ranks dc_ranks pm_ranks cd_ranks ct_ranks : Value} {od_bits an_bits : Option Addr} {sl_bits : Array (Option Value)} {oc_bits kV_bits dc_bits pm_bits cd_bits ct_bits : Value} {od_ranks_now an_ranks_now : Option Addr} {sl_ranks_now : Array (Option Value)} {oc_ranks_now kV_ranks_now dc_ranks_now pm_ranks_now cd_ranks_now ct_ranks_now : Value} {od_ranks_told an_ranks_told : Option Addr} {sl_ranks_told : Array (Option Value)} {oc_ranks_told kV_ranks_told dc_ranks_told pm_ranks_told cd_ranks_told ct_ranks_told : Value} {od_laps an_laps : Option Addr} {sl_laps : Array (Option Value)} {oc_laps kV_laps dc_laps pm_laps cd_laps ct_laps : Value} {od_by_ranks an_by_ranks : Option Addr} {sl_by_ranks : Array (Option Value)} {oc_by_ranks kV_by_ranks dc_by_ranks pm_by_ranks cd_by_ranks ct_by_ranks : Value} {od_rank_weaving an_rank_weaving : Option Addr} {sl_rank_weaving : Array (Option Value)} {oc_rank_weaving kV_rank_weaving dc_rank_weaving pm_rank_weaving cd_rank_weaving ct_rank_weaving : Value} {od_rank_order an_rank_order : Option Addr} {sl_rank_order : Array (Option Value)} {oc_rank_order kV_rank_order dc_rank_order pm_rank_order cd_rank_order ct_rank_order : Value} {od_moved an_moved : Option Addr} {sl_moved : Array (Option Value)} {oc_moved kV_moved dc_moved pm_moved cd_moved ct_moved : Value} {od_is_ranked an_is_ranked : Option Addr} {sl_is_ranked : Array (Option Value)} {oc_is_ranked kV_is_ranked dc_is_ranked pm_is_ranked cd_is_ranked ct_is_ranked : Value} {od_ranked_run an_ranked_run : Option Addr} {sl_ranked_run : Array (Option Value)} {oc_ranked_run kV_ranked_run dc_ranked_run pm_ranked_run cd_ranked_run ct_ranked_run : Value} {od__law_cells an__law_cells : Option Addr} {sl__law_cells : Array (Option Value)} {oc__law_cells kV__law_cells dc__law_cells pm__law_cells cd__law_cells ct__law_cells : Value} {od__law_same an__law_same : Option Addr} {sl__law_same : Array (Option Value)} {oc__law_same kV__law_same dc__law_same pm__law_same cd__law_same ct__law_same : Value} {od__law_lists an__law_lists : Option Addr} {sl__law_lists : Array (Option Value)} {oc__law_lists kV__law_lists dc__law_lists pm__law_lists cd__law_lists ct__law_lists : Value} {od__law_way an__law_way : Option Addr} {sl__law_way : Array (Option Value)} {oc__law_way kV__law_way dc__law_way pm__law_way cd__law_way ct__law_way : Value} {od__law_meet an__law_meet : Option Addr} {sl__law_meet : Array (Option Value)} {oc__law_meet kV__law_meet dc__law_meet pm__law_meet cd__law_meet ct__law_meet : Value} {od__law_turns an__law_turns : Option Addr} {sl__law_turns : Array (Option Value)} {oc__law_turns kV__law_turns dc__law_turns pm__law_turns cd__law_turns ct__law_turns : Value} {od__law_heard an__law_heard : Option Addr} {sl__law_heard : Array (Option Value)} {oc__law_heard kV__law_heard dc__law_heard pm__law_heard cd__law_heard ct__law_heard : Value} {od__law_runs_right an__law_runs_right : Option Addr} {sl__law_runs_right : Array (Option Value)} {oc__law_runs_right kV__law_runs_right dc__law_runs_right pm__law_runs_right cd__law_runs_right ct__law_runs_right : Value} {od__law_rows_right an__law_rows_right : Option Addr} {sl__law_rows_right : Array (Option Value)} {oc__law_rows_right kV__law_rows_right dc__law_rows_right pm__law_rows_right cd__law_rows_right ct__law_rows_right : Value} {od__law_listed_right an__law_listed_right : Option Addr} {sl__law_listed_right : Array (Option Value)} {oc__law_listed_right kV__law_listed_right dc__law_listed_right pm__law_listed_right cd__law_listed_right ct__law_listed_right : Value} {od_law an_law : Option Addr} {sl_law : Array (Option Value)} {oc_law kV_law dc_law pm_law cd_law ct_law : Value} (X : K.In h) (G : h.Ns mainGlobals mg)
    (a1_is_number : PySem.W.nsIn K mainGlobals (PySem.Str.ofString "is_number") = some (some (.ref a_is_number)))
    (l1_is_number : K.lookup a_is_number = some ⟨oc_is_number, od_is_number, .func (PySem.W.fnOf (PySem.Str.ofString "is_number") (PySem.Str.ofString "is_number") (defArgs st_is_number) (defBody st_is_number) (defScope st_is_number) .none kV_is_number dc_is_number pm_is_number an_is_number cd_is_number ct_is_number), sl_is_number⟩)
    (c1_is_number : PySem.W.codeIn K cd_is_number (PySem.Str.ofString "is_number") = true)
    (k1_is_number : PySem.W.keepIn K (.ref a_is_number) = true)
    (a1_are_numbers_from : PySem.W.nsIn K mainGlobals (PySem.Str.ofString "are_numbers_from") = some (some (.ref a_are_numbers_from)))
    (l1_are_numbers_from : K.lookup a_are_numbers_from = some ⟨oc_are_numbers_from, od_are_numbers_from, .func (PySem.W.fnOf (PySem.Str.ofString "are_numbers_from") (PySem.Str.ofString "are_numbers_from") (defArgs st_are_numbers_from) (defBody st_are_numbers_from) (defScope st_are_numbers_from) .none kV_are_numbers_from dc_are_numbers_from pm_are_numbers_from an_are_numbers_from cd_are_numbers_from ct_are_numbers_from), sl_are_numbers_from⟩)
    (c1_are_numbers_from : PySem.W.codeIn K cd_are_numbers_from (PySem.Str.ofString "are_numbers_from") = true)
    (k1_are_numbers_from : PySem.W.keepIn K (.ref a_are_numbers_from) = true)
    (a1_learnings : PySem.W.nsIn K mainGlobals (PySem.Str.ofString "learnings") = some (some (.ref a_learnings)))
    (l1_learnings : K.lookup a_learnings = some ⟨oc_learnings, od_learnings, .func (PySem.W.fnOf (PySem.Str.ofString "learnings") (PySem.Str.ofString "learnings") (defArgs st_learnings) (defBody st_learnings) (defScope st_learnings) .none kV_learnings dc_learnings pm_learnings an_learnings cd_learnings ct_learnings), sl_learnings⟩)
    (c1_learnings : PySem.W.codeIn K cd_learnings (PySem.Str.ofString "learnings") = true)
    (k1_learnings : PySem.W.keepIn K (.ref a_learnings) = true)
    (a1_known : PySem.W.nsIn K mainGlobals (PySem.Str.ofString "known") = some (some (.ref a_known)))
    (l1_known : K.lookup a_known = some ⟨oc_known, od_known, .func (PySem.W.fnOf (PySem.Str.ofString "known") (PySem.Str.ofString "known") (defArgs st_known) (defBody st_known) (defScope st_known) .none kV_known dc_known pm_known an_known cd_known ct_known), sl_known⟩)
    (c1_known : PySem.W.codeIn K cd_known (PySem.Str.ofString "known") = true)
    (k1_known : PySem.W.keepIn K (.ref a_known) = true)
    (a1_bit_of : PySem.W.nsIn K mainGlobals (PySem.Str.ofString "bit_of") = some (some (.ref a_bit_of)))
    (l1_bit_of : K.lookup a_bit_of = some ⟨oc_bit_of, od_bit_of, .func (PySem.W.fnOf (PySem.Str.ofString "bit_of") (PySem.Str.ofString "bit_of") (defArgs st_bit_of) (defBody st_bit_of) (defScope st_bit_of) .none kV_bit_of dc_bit_of pm_bit_of an_bit_of cd_bit_of ct_bit_of), sl_bit_of⟩)
    (c1_bit_of : PySem.W.codeIn K cd_bit_of (PySem.Str.ofString "bit_of") = true)
    (k1_bit_of : PySem.W.keepIn K (.ref a_bit_of) = true)
    (a1_ranked : PySem.W.nsIn K mainGlobals (PySem.Str.ofString "ranked") = some (some (.ref a_ranked)))
    (l1_ranked : K.lookup a_ranked = some ⟨oc_ranked, od_ranked, .func (PySem.W.fnOf (PySem.Str.ofString "ranked") (PySem.Str.ofString "ranked") (defArgs st_ranked) (defBody st_ranked) (defScope st_ranked) .none kV_ranked dc_ranked pm_ranked an_ranked cd_ranked ct_ranked), sl_ranked⟩)
    (c1_ranked : PySem.W.codeIn K cd_ranked (PySem.Str.ofString "ranked") = true)
    (k1_ranked : PySem.W.keepIn K (.ref a_ranked) = true)
    (a1_ranks : PySem.W.nsIn K mainGlobals (PySem.Str.ofString "ranks") = some (some (.ref a_ranks)))
    (l1_ranks : K.lookup a_ranks = some ⟨oc_ranks, od_ranks, .func (PySem.W.fnOf (PySem.Str.ofString "ranks") (PySem.Str.ofString "ranks") (defArgs st_ranks) (defBody st_ranks) (defScope st_ranks) .none kV_ranks dc_ranks pm_ranks an_ranks cd_ranks ct_ranks), sl_ranks⟩)
    (c1_ranks : PySem.W.codeIn K cd_ranks (PySem.Str.ofString "ranks") = true)
    (k1_ranks : PySem.W.keepIn K (.ref a_ranks) = true)
    (a1_bits : PySem.W.nsIn K mainGlobals (PySem.Str.ofString "bits") = some (some (.ref a_bits)))
    (l1_bits : K.lookup a_bits = some ⟨oc_bits, od_bits, .func (PySem.W.fnOf (PySem.Str.ofString "bits") (PySem.Str.ofString "bits") (defArgs st_bits) (defBody st_bits) (defScope st_bits) .none kV_bits dc_bits pm_bits an_bits cd_bits ct_bits), sl_bits⟩)
    (c1_bits : PySem.W.codeIn K cd_bits (PySem.Str.ofString "bits") = true)
    (k1_bits : PySem.W.keepIn K (.ref a_bits) = true)
    (a1_ranks_now : PySem.W.nsIn K mainGlobals (PySem.Str.ofString "ranks_now") = some (some (.ref a_ranks_now)))
    (l1_ranks_now : K.lookup a_ranks_now = some ⟨oc_ranks_now, od_ranks_now, .func (PySem.W.fnOf (PySem.Str.ofString "ranks_now") (PySem.Str.ofString "ranks_now") (defArgs st_ranks_now) (defBody st_ranks_now) (defScope st_ranks_now) .none kV_ranks_now dc_ranks_now pm_ranks_now an_ranks_now cd_ranks_now ct_ranks_now), sl_ranks_now⟩)
    (c1_ranks_now : PySem.W.codeIn K cd_ranks_now (PySem.Str.ofString "ranks_now") = true)
    (k1_ranks_now : PySem.W.keepIn K (.ref a_ranks_now) = true)
    (a1_ranks_told : PySem.W.nsIn K mainGlobals (PySem.Str.ofString "ranks_told") = some (some (.ref a_ranks_told)))
    (l1_ranks_told : K.lookup a_ranks_told = some ⟨oc_ranks_told, od_ranks_told, .func (PySem.W.fnOf (PySem.Str.ofString "ranks_told") (PySem.Str.ofString "ranks_told") (defArgs st_ranks_told) (defBody st_ranks_told) (defScope st_ranks_told) .none kV_ranks_told dc_ranks_told pm_ranks_told an_ranks_told cd_ranks_told ct_ranks_told), sl_ranks_told⟩)
    (c1_ranks_told : PySem.W.codeIn K cd_ranks_told (PySem.Str.ofString "ranks_told") = true)
    (k1_ranks_told : PySem.W.keepIn K (.ref a_ranks_told) = true)
    (a1_laps : PySem.W.nsIn K mainGlobals (PySem.Str.ofString "laps") = some (some (.ref a_laps)))
    (l1_laps : K.lookup a_laps = some ⟨oc_laps, od_laps, .func (PySem.W.fnOf (PySem.Str.ofString "laps") (PySem.Str.ofString "laps") (defArgs st_laps) (defBody st_laps) (defScope st_laps) .none kV_laps dc_laps pm_laps an_laps cd_laps ct_laps), sl_laps⟩)
    (c1_laps : PySem.W.codeIn K cd_laps (PySem.Str.ofString "laps") = true)
    (k1_laps : PySem.W.keepIn K (.ref a_laps) = true)
    (a1_by_ranks : PySem.W.nsIn K mainGlobals (PySem.Str.ofString "by_ranks") = some (some (.ref a_by_ranks)))
    (l1_by_ranks : K.lookup a_by_ranks = some ⟨oc_by_ranks, od_by_ranks, .func (PySem.W.fnOf (PySem.Str.ofString "by_ranks") (PySem.Str.ofString "by_ranks") (defArgs st_by_ranks) (defBody st_by_ranks) (defScope st_by_ranks) .none kV_by_ranks dc_by_ranks pm_by_ranks an_by_ranks cd_by_ranks ct_by_ranks), sl_by_ranks⟩)
    (c1_by_ranks : PySem.W.codeIn K cd_by_ranks (PySem.Str.ofString "by_ranks") = true)
    (k1_by_ranks : PySem.W.keepIn K (.ref a_by_ranks) = true)
    (a1_rank_weaving : PySem.W.nsIn K mainGlobals (PySem.Str.ofString "rank_weaving") = some (some (.ref a_rank_weaving)))
    (l1_rank_weaving : K.lookup a_rank_weaving = some ⟨oc_rank_weaving, od_rank_weaving, .func (PySem.W.fnOf (PySem.Str.ofString "rank_weaving") (PySem.Str.ofString "rank_weaving") (defArgs st_rank_weaving) (defBody st_rank_weaving) (defScope st_rank_weaving) .none kV_rank_weaving dc_rank_weaving pm_rank_weaving an_rank_weaving cd_rank_weaving ct_rank_weaving), sl_rank_weaving⟩)
    (c1_rank_weaving : PySem.W.codeIn K cd_rank_weaving (PySem.Str.ofString "rank_weaving") = true)
    (k1_rank_weaving : PySem.W.keepIn K (.ref a_rank_weaving) = true)
    (a1_rank_order : PySem.W.nsIn K mainGlobals (PySem.Str.ofString "rank_order") = some (some (.ref a_rank_order)))
    (l1_rank_order : K.lookup a_rank_order = some ⟨oc_rank_order, od_rank_order, .func (PySem.W.fnOf (PySem.Str.ofString "rank_order") (PySem.Str.ofString "rank_order") (defArgs st_rank_order) (defBody st_rank_order) (defScope st_rank_order) .none kV_rank_order dc_rank_order pm_rank_order an_rank_order cd_rank_order ct_rank_order), sl_rank_order⟩)
    (c1_rank_order : PySem.W.codeIn K cd_rank_order (PySem.Str.ofString "rank_order") = true)
    (k1_rank_order : PySem.W.keepIn K (.ref a_rank_order) = true)
    (a1_moved : PySem.W.nsIn K mainGlobals (PySem.Str.ofString "moved") = some (some (.ref a_moved)))
    (l1_moved : K.lookup a_moved = some ⟨oc_moved, od_moved, .func (PySem.W.fnOf (PySem.Str.ofString "moved") (PySem.Str.ofString "moved") (defArgs st_moved) (defBody st_moved) (defScope st_moved) .none kV_moved dc_moved pm_moved an_moved cd_moved ct_moved), sl_moved⟩)
    (c1_moved : PySem.W.codeIn K cd_moved (PySem.Str.ofString "moved") = true)
    (k1_moved : PySem.W.keepIn K (.ref a_moved) = true)
    (a1_is_ranked : PySem.W.nsIn K mainGlobals (PySem.Str.ofString "is_ranked") = some (some (.ref a_is_ranked)))
    (l1_is_ranked : K.lookup a_is_ranked = some ⟨oc_is_ranked, od_is_ranked, .func (PySem.W.fnOf (PySem.Str.ofString "is_ranked") (PySem.Str.ofString "is_ranked") (defArgs st_is_ranked) (defBody st_is_ranked) (defScope st_is_ranked) .none kV_is_ranked dc_is_ranked pm_is_ranked an_is_ranked cd_is_ranked ct_is_ranked), sl_is_ranked⟩)
    (c1_is_ranked : PySem.W.codeIn K cd_is_ranked (PySem.Str.ofString "is_ranked") = true)
    (k1_is_ranked : PySem.W.keepIn K (.ref a_is_ranked) = true)
    (a1_ranked_run : PySem.W.nsIn K mainGlobals (PySem.Str.ofString "ranked_run") = some (some (.ref a_ranked_run)))
    (l1_ranked_run : K.lookup a_ranked_run = some ⟨oc_ranked_run, od_ranked_run, .func (PySem.W.fnOf (PySem.Str.ofString "ranked_run") (PySem.Str.ofString "ranked_run") (defArgs st_ranked_run) (defBody st_ranked_run) (defScope st_ranked_run) .none kV_ranked_run dc_ranked_run pm_ranked_run an_ranked_run cd_ranked_run ct_ranked_run), sl_ranked_run⟩)
    (c1_ranked_run : PySem.W.codeIn K cd_ranked_run (PySem.Str.ofString "ranked_run") = true)
    (k1_ranked_run : PySem.W.keepIn K (.ref a_ranked_run) = true)
    (a1__law_cells : PySem.W.nsIn K mainGlobals (PySem.Str.ofString "_law_cells") = some (some (.ref a__law_cells)))
    (l1__law_cells : K.lookup a__law_cells = some ⟨oc__law_cells, od__law_cells, .func (PySem.W.fnOf (PySem.Str.ofString "_law_cells") (PySem.Str.ofString "_law_cells") (defArgs st__law_cells) (defBody st__law_cells) (defScope st__law_cells) .none kV__law_cells dc__law_cells pm__law_cells an__law_cells cd__law_cells ct__law_cells), sl__law_cells⟩)
    (c1__law_cells : PySem.W.codeIn K cd__law_cells (PySem.Str.ofString "_law_cells") = true)
    (k1__law_cells : PySem.W.keepIn K (.ref a__law_cells) = true)
    (a1__law_same : PySem.W.nsIn K mainGlobals (PySem.Str.ofString "_law_same") = some (some (.ref a__law_same)))
    (l1__law_same : K.lookup a__law_same = some ⟨oc__law_same, od__law_same, .func (PySem.W.fnOf (PySem.Str.ofString "_law_same") (PySem.Str.ofString "_law_same") (defArgs st__law_same) (defBody st__law_same) (defScope st__law_same) .none kV__law_same dc__law_same pm__law_same an__law_same cd__law_same ct__law_same), sl__law_same⟩)
    (c1__law_same : PySem.W.codeIn K cd__law_same (PySem.Str.ofString "_law_same") = true)
    (k1__law_same : PySem.W.keepIn K (.ref a__law_same) = true)
    (a1__law_lists : PySem.W.nsIn K mainGlobals (PySem.Str.ofString "_law_lists") = some (some (.ref a__law_lists)))
    (l1__law_lists : K.lookup a__law_lists = some ⟨oc__law_lists, od__law_lists, .func (PySem.W.fnOf (PySem.Str.ofString "_law_lists") (PySem.Str.ofString "_law_lists") (defArgs st__law_lists) (defBody st__law_lists) (defScope st__law_lists) .none kV__law_lists dc__law_lists pm__law_lists an__law_lists cd__law_lists ct__law_lists), sl__law_lists⟩)
    (c1__law_lists : PySem.W.codeIn K cd__law_lists (PySem.Str.ofString "_law_lists") = true)
    (k1__law_lists : PySem.W.keepIn K (.ref a__law_lists) = true)
    (a1__law_way : PySem.W.nsIn K mainGlobals (PySem.Str.ofString "_law_way") = some (some (.ref a__law_way)))
    (l1__law_way : K.lookup a__law_way = some ⟨oc__law_way, od__law_way, .func (PySem.W.fnOf (PySem.Str.ofString "_law_way") (PySem.Str.ofString "_law_way") (defArgs st__law_way) (defBody st__law_way) (defScope st__law_way) .none kV__law_way dc__law_way pm__law_way an__law_way cd__law_way ct__law_way), sl__law_way⟩)
    (c1__law_way : PySem.W.codeIn K cd__law_way (PySem.Str.ofString "_law_way") = true)
    (k1__law_way : PySem.W.keepIn K (.ref a__law_way) = true)
    (a1__law_meet : PySem.W.nsIn K mainGlobals (PySem.Str.ofString "_law_meet") = some (some (.ref a__law_meet)))
    (l1__law_meet : K.lookup a__law_meet = some ⟨oc__law_meet, od__law_meet, .func (PySem.W.fnOf (PySem.Str.ofString "_law_meet") (PySem.Str.ofString "_law_meet") (defArgs st__law_meet) (defBody st__law_meet) (defScope st__law_meet) .none kV__law_meet dc__law_meet pm__law_meet an__law_meet cd__law_meet ct__law_meet), sl__law_meet⟩)
    (c1__law_meet : PySem.W.codeIn K cd__law_meet (PySem.Str.ofString "_law_meet") = true)
    (k1__law_meet : PySem.W.keepIn K (.ref a__law_meet) = true)
    (a1__law_turns : PySem.W.nsIn K mainGlobals (PySem.Str.ofString "_law_turns") = some (some (.ref a__law_turns)))
    (l1__law_turns : K.lookup a__law_turns = some ⟨oc__law_turns, od__law_turns, .func (PySem.W.fnOf (PySem.Str.ofString "_law_turns") (PySem.Str.ofString "_law_turns") (defArgs st__law_turns) (defBody st__law_turns) (defScope st__law_turns) .none kV__law_turns dc__law_turns pm__law_turns an__law_turns cd__law_turns ct__law_turns), sl__law_turns⟩)
    (c1__law_turns : PySem.W.codeIn K cd__law_turns (PySem.Str.ofString "_law_turns") = true)
    (k1__law_turns : PySem.W.keepIn K (.ref a__law_turns) = true)
    (a1__law_heard : PySem.W.nsIn K mainGlobals (PySem.Str.ofString "_law_heard") = some (some (.ref a__law_heard)))
    (l1__law_heard : K.lookup a__law_heard = some ⟨oc__law_heard, od__law_heard, .func (PySem.W.fnOf (PySem.Str.ofString "_law_heard") (PySem.Str.ofString "_law_heard") (defArgs st__law_heard) (defBody st__law_heard) (defScope st__law_heard) .none kV__law_heard dc__law_heard pm__law_heard an__law_heard cd__law_heard ct__law_heard), sl__law_heard⟩)
    (c1__law_heard : PySem.W.codeIn K cd__law_heard (PySem.Str.ofString "_law_heard") = true)
    (k1__law_heard : PySem.W.keepIn K (.ref a__law_heard) = true)
    (a1__law_runs_right : PySem.W.nsIn K mainGlobals (PySem.Str.ofString "_law_runs_right") = some (some (.ref a__law_runs_right)))
    (l1__law_runs_right : K.lookup a__law_runs_right = some ⟨oc__law_runs_right, od__law_runs_right, .func (PySem.W.fnOf (PySem.Str.ofString "_law_runs_right") (PySem.Str.ofString "_law_runs_right") (defArgs st__law_runs_right) (defBody st__law_runs_right) (defScope st__law_runs_right) .none kV__law_runs_right dc__law_runs_right pm__law_runs_right an__law_runs_right cd__law_runs_right ct__law_runs_right), sl__law_runs_right⟩)
    (c1__law_runs_right : PySem.W.codeIn K cd__law_runs_right (PySem.Str.ofString "_law_runs_right") = true)
    (k1__law_runs_right : PySem.W.keepIn K (.ref a__law_runs_right) = true)
    (a1__law_rows_right : PySem.W.nsIn K mainGlobals (PySem.Str.ofString "_law_rows_right") = some (some (.ref a__law_rows_right)))
    (l1__law_rows_right : K.lookup a__law_rows_right = some ⟨oc__law_rows_right, od__law_rows_right, .func (PySem.W.fnOf (PySem.Str.ofString "_law_rows_right") (PySem.Str.ofString "_law_rows_right") (defArgs st__law_rows_right) (defBody st__law_rows_right) (defScope st__law_rows_right) .none kV__law_rows_right dc__law_rows_right pm__law_rows_right an__law_rows_right cd__law_rows_right ct__law_rows_right), sl__law_rows_right⟩)
    (c1__law_rows_right : PySem.W.codeIn K cd__law_rows_right (PySem.Str.ofString "_law_rows_right") = true)
    (k1__law_rows_right : PySem.W.keepIn K (.ref a__law_rows_right) = true)
    (a1__law_listed_right : PySem.W.nsIn K mainGlobals (PySem.Str.ofString "_law_listed_right") = some (some (.ref a__law_listed_right)))
    (l1__law_listed_right : K.lookup a__law_listed_right = some ⟨oc__law_listed_right, od__law_listed_right, .func (PySem.W.fnOf (PySem.Str.ofString "_law_listed_right") (PySem.Str.ofString "_law_listed_right") (defArgs st__law_listed_right) (defBody st__law_listed_right) (defScope st__law_listed_right) .none kV__law_listed_right dc__law_listed_right pm__law_listed_right an__law_listed_right cd__law_listed_right ct__law_listed_right), sl__law_listed_right⟩)
    (c1__law_listed_right : PySem.W.codeIn K cd__law_listed_right (PySem.Str.ofString "_law_listed_right") = true)
    (k1__law_listed_right : PySem.W.keepIn K (.ref a__law_listed_right) = true)
    (a1_law : PySem.W.nsIn K mainGlobals (PySem.Str.ofString "law") = some (some (.ref a_law)))
    (l1_law : K.lookup a_law = some ⟨oc_law, od_law, .func (PySem.W.fnOf (PySem.Str.ofString "law") (PySem.Str.ofString "law") (defArgs st_law) (defBody st_law) (defScope st_law) .none kV_law dc_law pm_law an_law cd_law ct_law), sl_law⟩)
    (c1_law : PySem.W.codeIn K cd_law (PySem.Str.ofString "law") = true)
    (k1_law : PySem.W.keepIn K (.ref a_law) = true)
    (z1_ValueError : PySem.W.nsIn K mainGlobals (PySem.Str.ofString "ValueError") = some none)
    (z1_all : PySem.W.nsIn K mainGlobals (PySem.Str.ofString "all") = some none)
    (z1_bool : PySem.W.nsIn K mainGlobals (PySem.Str.ofString "bool") = some none)
    (z1_enumerate : PySem.W.nsIn K mainGlobals (PySem.Str.ofString "enumerate") = some none)
    (z1_int : PySem.W.nsIn K mainGlobals (PySem.Str.ofString "int") = some none)
    (z1_isinstance : PySem.W.nsIn K mainGlobals (PySem.Str.ofString "isinstance") = some none)
    (z1_len : PySem.W.nsIn K mainGlobals (PySem.Str.ofString "len") = some none)
    (z1_list : PySem.W.nsIn K mainGlobals (PySem.Str.ofString "list") = some none)
    (z1_max : PySem.W.nsIn K mainGlobals (PySem.Str.ofString "max") = some none)
    (z1_range : PySem.W.nsIn K mainGlobals (PySem.Str.ofString "range") = some none)
    (z1_sorted : PySem.W.nsIn K mainGlobals (PySem.Str.ofString "sorted") = some none)
    (z1_str : PySem.W.nsIn K mainGlobals (PySem.Str.ofString "str") = some none)
    (z1_tuple : PySem.W.nsIn K mainGlobals (PySem.Str.ofString "tuple") = some none)
    (z1_zip : PySem.W.nsIn K mainGlobals (PySem.Str.ofString "zip") = some none)
    (a1_CanNot : PySem.W.nsIn K mainGlobals (PySem.Str.ofString "CanNot") = some (some (.ref a_CanNot)))
    (k1_CanNot : PySem.W.keepIn K (.ref a_CanNot) = true)
    (b1_CanNot : PySem.W.subIn K (.ref a_CanNot) (.type "BaseException") = some true)
    (t1_CanNot : PySem.W.typeIn K (.ref a_CanNot) = some (.type "type"))
    (d1_CanNot : PySem.W.hasDictIn K a_CanNot = true)
    (s1_CanNot_CanNot : PySem.W.subIn K (.ref a_CanNot) (.ref a_CanNot) = some true)
    (x1_CanNot : PySem.W.excIn K a_CanNot [.type "ValueError", .type "Exception", .type "BaseException", .type "object"] "ValueError.__new__" = true)
    (ga_CanNot : PySem.W.findIn K (.ref a_CanNot) "__getattribute__" = some (some (.builtin "BaseException.__getattribute__")))
    (gg_CanNot : PySem.W.findIn K (.ref a_CanNot) "__getattr__" = some none)
    (ca_CanNot : PySem.W.findIn K (.ref a_CanNot) "__class__" = some (some (.builtin "object.__class__")))
    (mo_CanNot : PySem.W.mroIn K a_CanNot (.type "object") = some true)
    (iv_CanNot_ValueError : PySem.W.kitOne K (.ref a_CanNot) (.type "ValueError") = some true)
    (oc_get : PySem.W.specialIn K (.builtin "object.__class__") "__get__" = some (some (.builtin "getset_descriptor.__get__")))
    (oc_tk : PySem.W.takesIn K (.builtin "object.__class__") = some true)
    : Txt P w K mg a_is_number a_are_numbers_from a_learnings a_known a_bit_of a_ranked a_ranks a_bits a_ranks_now a_ranks_told a_laps a_by_ranks a_rank_weaving a_rank_order a_moved a_is_ranked a_ranked_run a__law_cells a__law_same a__law_lists a__law_way a__law_meet a__law_turns a__law_heard a__law_runs_right a__law_rows_right a__law_listed_right a_law a_CanNot where
  g_is_number := PySem.W.mg_of X G a1_is_number
  k_is_number := k1_is_number
  g_are_numbers_from := PySem.W.mg_of X G a1_are_numbers_from
  k_are_numbers_from := k1_are_numbers_from
  g_learnings := PySem.W.mg_of X G a1_learnings
  k_learnings := k1_learnings
  g_known := PySem.W.mg_of X G a1_known
  k_known := k1_known
  g_bit_of := PySem.W.mg_of X G a1_bit_of
  k_bit_of := k1_bit_of
  g_ranked := PySem.W.mg_of X G a1_ranked
  k_ranked := k1_ranked
  g_ranks := PySem.W.mg_of X G a1_ranks
  k_ranks := k1_ranks
  g_bits := PySem.W.mg_of X G a1_bits
  k_bits := k1_bits
  g_ranks_now := PySem.W.mg_of X G a1_ranks_now
  k_ranks_now := k1_ranks_now
  g_ranks_told := PySem.W.mg_of X G a1_ranks_told
  k_ranks_told := k1_ranks_told
  g_laps := PySem.W.mg_of X G a1_laps
  k_laps := k1_laps
  g_by_ranks := PySem.W.mg_of X G a1_by_ranks
  k_by_ranks := k1_by_ranks
  g_rank_weaving := PySem.W.mg_of X G a1_rank_weaving
  k_rank_weaving := k1_rank_weaving
  g_rank_order := PySem.W.mg_of X G a1_rank_order
  k_rank_order := k1_rank_order
  g_moved := PySem.W.mg_of X G a1_moved
  k_moved := k1_moved
  g_is_ranked := PySem.W.mg_of X G a1_is_ranked
  k_is_ranked := k1_is_ranked
  g_ranked_run := PySem.W.mg_of X G a1_ranked_run
  k_ranked_run := k1_ranked_run
  g__law_cells := PySem.W.mg_of X G a1__law_cells
  k__law_cells := k1__law_cells
  g__law_same := PySem.W.mg_of X G a1__law_same
  k__law_same := k1__law_same
  g__law_lists := PySem.W.mg_of X G a1__law_lists
  k__law_lists := k1__law_lists
  g__law_way := PySem.W.mg_of X G a1__law_way
  k__law_way := k1__law_way
  g__law_meet := PySem.W.mg_of X G a1__law_meet
  k__law_meet := k1__law_meet
  g__law_turns := PySem.W.mg_of X G a1__law_turns
  k__law_turns := k1__law_turns
  g__law_heard := PySem.W.mg_of X G a1__law_heard
  k__law_heard := k1__law_heard
  g__law_runs_right := PySem.W.mg_of X G a1__law_runs_right
  k__law_runs_right := k1__law_runs_right
  g__law_rows_right := PySem.W.mg_of X G a1__law_rows_right
  k__law_rows_right := k1__law_rows_right
  g__law_listed_right := PySem.W.mg_of X G a1__law_listed_right
  k__law_listed_right := k1__law_listed_right
  g_law := PySem.W.mg_of X G a1_law
  k_law := k1_law
  n_ValueError := PySem.W.mg_none_of X G z1_ValueError
  n_all := PySem.W.mg_none_of X G z1_all
  n_bool := PySem.W.mg_none_of X G z1_bool
  n_enumerate := PySem.W.mg_none_of X G z1_enumerate
  n_int := PySem.W.mg_none_of X G z1_int
  n_isinstance := PySem.W.mg_none_of X G z1_isinstance
  n_len := PySem.W.mg_none_of X G z1_len
  n_list := PySem.W.mg_none_of X G z1_list
  n_max := PySem.W.mg_none_of X G z1_max
  n_range := PySem.W.mg_none_of X G z1_range
  n_sorted := PySem.W.mg_none_of X G z1_sorted
  n_str := PySem.W.mg_none_of X G z1_str
  n_tuple := PySem.W.mg_none_of X G z1_tuple
  n_zip := PySem.W.mg_none_of X G z1_zip
  g_CanNot := PySem.W.mg_of X G a1_CanNot
  k_CanNot := k1_CanNot
  b_CanNot := b1_CanNot
  t_CanNot := t1_CanNot
  x_CanNot := x1_CanNot
  ie_CanNot := ⟨ga_CanNot, gg_CanNot, b1_CanNot, d1_CanNot, ca_CanNot, oc_get, oc_tk, mo_CanNot⟩
  iv_CanNot_ValueError := iv_CanNot_ValueError
  ek := by
    intro c hc k hk C e
    have g_CanNot := PySem.W.mg_of X G a1_CanNot
    simp only [List.mem_cons, List.not_mem_nil, or_false] at hc hk
    rcases hc with rfl <;> rcases hk with rfl
    · rw [g_CanNot] at e; cases e; rw [g_CanNot]; exact PySem.W.exm_ref b1_CanNot d1_CanNot t1_CanNot s1_CanNot_CanNot
end
end Gn

set_option Elab.async false
set_option linter.all false
set_option maxRecDepth 100000
set_option maxHeartbeats 4000000
set_option autoImplicit false
namespace Gn
open PySem PySem.Spec PyProof.Rows L2 Rh
theorem test14 (ns : List Int) (hl : ns.length ≤ 63) (hb : ∀ z ∈ ns, Builtin.Int.intBits z ≤ 1048576) : ∃ k h', (mB (mOp2 (dEq false) (mOp2 dMod (mOpA dInt1 (mCons (mOp2 dIx (mCall f__law_cells (mCons (mVar 0) (mCons (mCon (.int 1)) mNil))) (mCon (.int 0))) mNil)) (mCon (.int 2))) (mCon (.int 0)))) [some (.scr (ns.map .int))] h0 = some (.ok k h') := by
  obtain ⟨b, h', cs, e, g, l1, _, _⟩ := cells_ok (top := 1) (by decide) (by decide) ns hl hb h0 (by decide) rfl
  obtain ⟨c, r, rfl⟩ : ∃ c r, cs = c :: r := by
    cases cs with
    | nil => simp at l1
    | cons c r => exact ⟨c, r, rfl⟩
  have e1 : mCall f__law_cells (mCons (mVar 0) (mCons (mCon (.int 1)) mNil)) [some (.scr (ns.map .int))] h0 = some (.ok (.box b) h') := mCall_ok (mCons_ok (mVar_ok rfl) (mCons_ok mCon_ok mNil_ok)) e
  have e2 : dIx h' (.box b) (.int 0) = some (.v (.int c)) := dIx_lst g atI_zero
  exact ⟨_, h', mB_ok (mOp2_ok (mOp2_ok (mOpA1_ok (mOp2_ok e1 mCon_ok e2) (d := .int c) rfl) mCon_ok (dMod_int (by decide))) mCon_ok (dEq_ints ..))⟩
theorem law_true (ns : List Int) (hl : ns.length ≤ 63) (hb : ∀ z ∈ ns, Builtin.Int.intBits z ≤ 1048576) : ∃ h, f_law [.scr (ns.map D.int)] h0 = some (.rt (.bl true) h) := by
  obtain ⟨k, h', e⟩ := test14 ns hl hb
  refine ⟨h', runDef_rt ?_⟩
  have t1 : isTrue (f__law_listed_right [] h0) = true := by kernel_rfl
  have t2 : isTrue (f__law_runs_right [] h0) = true := by kernel_rfl
  have t3 : isTrue (f__law_rows_right [] h0) = true := by kernel_rfl
  unfold m_law
  rw [mSeq_nx (guard_ok t1)]
  refine mSeq_rt (mRet_ok ?_)
  refine (mIf_ok e).trans ?_
  cases k with
  | true => exact mCall0_true t2
  | false => exact mCall0_true t3
section
open PySem.W in
theorem all_mkT {l : PySem.W.OpenLaw} {w : World} {fa : Addr} {K : PySem.W.Frag} {h : Heap} {mg : Str → Option Value} {a_is_number : Addr} {a_are_numbers_from : Addr} {a_learnings : Addr} {a_known : Addr} {a_bit_of : Addr} {a_ranked : Addr} {a_ranks : Addr} {a_bits : Addr} {a_ranks_now : Addr} {a_ranks_told : Addr} {a_laps : Addr} {a_by_ranks : Addr} {a_rank_weaving : Addr} {a_rank_order : Addr} {a_moved : Addr} {a_is_ranked : Addr} {a_ranked_run : Addr} {a__law_cells : Addr} {a__law_same : Addr} {a__law_lists : Addr} {a__law_way : Addr} {a__law_meet : Addr} {a__law_turns : Addr} {a__law_heard : Addr} {a__law_runs_right : Addr} {a__law_rows_right : Addr} {a__law_listed_right : Addr} {a_law : Addr} {a_CanNot : Addr} {od_is_number an_is_number : Option Addr} {sl_is_number : Array (Option Value)} {oc_is_number kV_is_number dc_is_number pm_is_number cd_is_number ct_is_number : Value} {od_are_numbers_from an_are_numbers_from : Option Addr} {sl_are_numbers_from : Array (Option Value)} {oc_are_numbers_from kV_are_numbers_from dc_are_numbers_from pm_are_numbers_from cd_are_numbers_from ct_are_numbers_from : Value} {od_learnings an_learnings : Option Addr} {sl_learnings : Array (Option Value)} {oc_learnings kV_learnings dc_learnings pm_learnings cd_learnings ct_learnings : Value} {od_known an_known : Option Addr} {sl_known : Array (Option Value)} {oc_known kV_known dc_known pm_known cd_known ct_known : Value} {od_bit_of an_bit_of : Option Addr} {sl_bit_of : Array (Option Value)} {oc_bit_of kV_bit_of dc_bit_of pm_bit_of cd_bit_of ct_bit_of : Value} {od_ranked an_ranked : Option Addr} {sl_ranked : Array (Option Value)} {oc_ranked kV_ranked dc_ranked pm_ranked cd_ranked ct_ranked : Value} {od_ranks an_ranks : Option Addr} {sl_ranks : Array (Option Value)} {oc_ranks kV_ranks dc_ranks pm_ranks cd_ranks ct_ranks : Value} {od_bits an_bits : Option Addr} {sl_bits : Array (Option Value)} {oc_bits kV_bits dc_bits pm_bits cd_bits ct_bits : Value} {od_ranks_now an_ranks_now : Option Addr} {sl_ranks_now : Array (Option Value)} {oc_ranks_now kV_ranks_now dc_ranks_now pm_ranks_now cd_ranks_now ct_ranks_now : Value} {od_ranks_told an_ranks_told : Option Addr} {sl_ranks_told : Array (Option Value)} {oc_ranks_told kV_ranks_told dc_ranks_told pm_ranks_told cd_ranks_told ct_ranks_told : Value} {od_laps an_laps : Option Addr} {sl_laps : Array (Option Value)} {oc_laps kV_laps dc_laps pm_laps cd_laps ct_laps : Value} {od_by_ranks an_by_ranks : Option Addr} {sl_by_ranks : Array (Option Value)} {oc_by_ranks kV_by_ranks dc_by_ranks pm_by_ranks cd_by_ranks ct_by_ranks : Value} {od_rank_weaving an_rank_weaving : Option Addr} {sl_rank_weaving : Array (Option Value)} {oc_rank_weaving kV_rank_weaving dc_rank_weaving pm_rank_weaving cd_rank_weaving ct_rank_weaving : Value} {od_rank_order an_rank_order : Option Addr} {sl_rank_order : Array (Option Value)} {oc_rank_order kV_rank_order dc_rank_order pm_rank_order cd_rank_order ct_rank_order : Value} {od_moved an_moved : Option Addr} {sl_moved : Array (Option Value)} {oc_moved kV_moved dc_moved pm_moved cd_moved ct_moved : Value} {od_is_ranked an_is_ranked : Option Addr} {sl_is_ranked : Array (Option Value)} {oc_is_ranked kV_is_ranked dc_is_ranked pm_is_ranked cd_is_ranked ct_is_ranked : Value} {od_ranked_run an_ranked_run : Option Addr} {sl_ranked_run : Array (Option Value)} {oc_ranked_run kV_ranked_run dc_ranked_run pm_ranked_run cd_ranked_run ct_ranked_run : Value} {od__law_cells an__law_cells : Option Addr} {sl__law_cells : Array (Option Value)} {oc__law_cells kV__law_cells dc__law_cells pm__law_cells cd__law_cells ct__law_cells : Value} {od__law_same an__law_same : Option Addr} {sl__law_same : Array (Option Value)} {oc__law_same kV__law_same dc__law_same pm__law_same cd__law_same ct__law_same : Value} {od__law_lists an__law_lists : Option Addr} {sl__law_lists : Array (Option Value)} {oc__law_lists kV__law_lists dc__law_lists pm__law_lists cd__law_lists ct__law_lists : Value} {od__law_way an__law_way : Option Addr} {sl__law_way : Array (Option Value)} {oc__law_way kV__law_way dc__law_way pm__law_way cd__law_way ct__law_way : Value} {od__law_meet an__law_meet : Option Addr} {sl__law_meet : Array (Option Value)} {oc__law_meet kV__law_meet dc__law_meet pm__law_meet cd__law_meet ct__law_meet : Value} {od__law_turns an__law_turns : Option Addr} {sl__law_turns : Array (Option Value)} {oc__law_turns kV__law_turns dc__law_turns pm__law_turns cd__law_turns ct__law_turns : Value} {od__law_heard an__law_heard : Option Addr} {sl__law_heard : Array (Option Value)} {oc__law_heard kV__law_heard dc__law_heard pm__law_heard cd__law_heard ct__law_heard : Value} {od__law_runs_right an__law_runs_right : Option Addr} {sl__law_runs_right : Array (Option Value)} {oc__law_runs_right kV__law_runs_right dc__law_runs_right pm__law_runs_right cd__law_runs_right ct__law_runs_right : Value} {od__law_rows_right an__law_rows_right : Option Addr} {sl__law_rows_right : Array (Option Value)} {oc__law_rows_right kV__law_rows_right dc__law_rows_right pm__law_rows_right cd__law_rows_right ct__law_rows_right : Value} {od__law_listed_right an__law_listed_right : Option Addr} {sl__law_listed_right : Array (Option Value)} {oc__law_listed_right kV__law_listed_right dc__law_listed_right pm__law_listed_right cd__law_listed_right ct__law_listed_right : Value} {od_law an_law : Option Addr} {sl_law : Array (Option Value)} {oc_law kV_law dc_law pm_law cd_law ct_law : Value} (X : K.In h) (G : h.Ns mainGlobals mg) (hfa : mg (PySem.Str.ofString "law") = some (.ref fa))
    (a1_is_number : PySem.W.nsIn K mainGlobals (PySem.Str.ofString "is_number") = some (some (.ref a_is_number)))
    (l1_is_number : K.lookup a_is_number = some ⟨oc_is_number, od_is_number, .func (PySem.W.fnOf (PySem.Str.ofString "is_number") (PySem.Str.ofString "is_number") (defArgs st_is_number) (defBody st_is_number) (defScope st_is_number) .none kV_is_number dc_is_number pm_is_number an_is_number cd_is_number ct_is_number), sl_is_number⟩)
    (c1_is_number : PySem.W.codeIn K cd_is_number (PySem.Str.ofString "is_number") = true)
    (k1_is_number : PySem.W.keepIn K (.ref a_is_number) = true)
    (a1_are_numbers_from : PySem.W.nsIn K mainGlobals (PySem.Str.ofString "are_numbers_from") = some (some (.ref a_are_numbers_from)))
    (l1_are_numbers_from : K.lookup a_are_numbers_from = some ⟨oc_are_numbers_from, od_are_numbers_from, .func (PySem.W.fnOf (PySem.Str.ofString "are_numbers_from") (PySem.Str.ofString "are_numbers_from") (defArgs st_are_numbers_from) (defBody st_are_numbers_from) (defScope st_are_numbers_from) .none kV_are_numbers_from dc_are_numbers_from pm_are_numbers_from an_are_numbers_from cd_are_numbers_from ct_are_numbers_from), sl_are_numbers_from⟩)
    (c1_are_numbers_from : PySem.W.codeIn K cd_are_numbers_from (PySem.Str.ofString "are_numbers_from") = true)
    (k1_are_numbers_from : PySem.W.keepIn K (.ref a_are_numbers_from) = true)
    (a1_learnings : PySem.W.nsIn K mainGlobals (PySem.Str.ofString "learnings") = some (some (.ref a_learnings)))
    (l1_learnings : K.lookup a_learnings = some ⟨oc_learnings, od_learnings, .func (PySem.W.fnOf (PySem.Str.ofString "learnings") (PySem.Str.ofString "learnings") (defArgs st_learnings) (defBody st_learnings) (defScope st_learnings) .none kV_learnings dc_learnings pm_learnings an_learnings cd_learnings ct_learnings), sl_learnings⟩)
    (c1_learnings : PySem.W.codeIn K cd_learnings (PySem.Str.ofString "learnings") = true)
    (k1_learnings : PySem.W.keepIn K (.ref a_learnings) = true)
    (a1_known : PySem.W.nsIn K mainGlobals (PySem.Str.ofString "known") = some (some (.ref a_known)))
    (l1_known : K.lookup a_known = some ⟨oc_known, od_known, .func (PySem.W.fnOf (PySem.Str.ofString "known") (PySem.Str.ofString "known") (defArgs st_known) (defBody st_known) (defScope st_known) .none kV_known dc_known pm_known an_known cd_known ct_known), sl_known⟩)
    (c1_known : PySem.W.codeIn K cd_known (PySem.Str.ofString "known") = true)
    (k1_known : PySem.W.keepIn K (.ref a_known) = true)
    (a1_bit_of : PySem.W.nsIn K mainGlobals (PySem.Str.ofString "bit_of") = some (some (.ref a_bit_of)))
    (l1_bit_of : K.lookup a_bit_of = some ⟨oc_bit_of, od_bit_of, .func (PySem.W.fnOf (PySem.Str.ofString "bit_of") (PySem.Str.ofString "bit_of") (defArgs st_bit_of) (defBody st_bit_of) (defScope st_bit_of) .none kV_bit_of dc_bit_of pm_bit_of an_bit_of cd_bit_of ct_bit_of), sl_bit_of⟩)
    (c1_bit_of : PySem.W.codeIn K cd_bit_of (PySem.Str.ofString "bit_of") = true)
    (k1_bit_of : PySem.W.keepIn K (.ref a_bit_of) = true)
    (a1_ranked : PySem.W.nsIn K mainGlobals (PySem.Str.ofString "ranked") = some (some (.ref a_ranked)))
    (l1_ranked : K.lookup a_ranked = some ⟨oc_ranked, od_ranked, .func (PySem.W.fnOf (PySem.Str.ofString "ranked") (PySem.Str.ofString "ranked") (defArgs st_ranked) (defBody st_ranked) (defScope st_ranked) .none kV_ranked dc_ranked pm_ranked an_ranked cd_ranked ct_ranked), sl_ranked⟩)
    (c1_ranked : PySem.W.codeIn K cd_ranked (PySem.Str.ofString "ranked") = true)
    (k1_ranked : PySem.W.keepIn K (.ref a_ranked) = true)
    (a1_ranks : PySem.W.nsIn K mainGlobals (PySem.Str.ofString "ranks") = some (some (.ref a_ranks)))
    (l1_ranks : K.lookup a_ranks = some ⟨oc_ranks, od_ranks, .func (PySem.W.fnOf (PySem.Str.ofString "ranks") (PySem.Str.ofString "ranks") (defArgs st_ranks) (defBody st_ranks) (defScope st_ranks) .none kV_ranks dc_ranks pm_ranks an_ranks cd_ranks ct_ranks), sl_ranks⟩)
    (c1_ranks : PySem.W.codeIn K cd_ranks (PySem.Str.ofString "ranks") = true)
    (k1_ranks : PySem.W.keepIn K (.ref a_ranks) = true)
    (a1_bits : PySem.W.nsIn K mainGlobals (PySem.Str.ofString "bits") = some (some (.ref a_bits)))
    (l1_bits : K.lookup a_bits = some ⟨oc_bits, od_bits, .func (PySem.W.fnOf (PySem.Str.ofString "bits") (PySem.Str.ofString "bits") (defArgs st_bits) (defBody st_bits) (defScope st_bits) .none kV_bits dc_bits pm_bits an_bits cd_bits ct_bits), sl_bits⟩)
    (c1_bits : PySem.W.codeIn K cd_bits (PySem.Str.ofString "bits") = true)
    (k1_bits : PySem.W.keepIn K (.ref a_bits) = true)
    (a1_ranks_now : PySem.W.nsIn K mainGlobals (PySem.Str.ofString "ranks_now") = some (some (.ref a_ranks_now)))
    (l1_ranks_now : K.lookup a_ranks_now = some ⟨oc_ranks_now, od_ranks_now, .func (PySem.W.fnOf (PySem.Str.ofString "ranks_now") (PySem.Str.ofString "ranks_now") (defArgs st_ranks_now) (defBody st_ranks_now) (defScope st_ranks_now) .none kV_ranks_now dc_ranks_now pm_ranks_now an_ranks_now cd_ranks_now ct_ranks_now), sl_ranks_now⟩)
    (c1_ranks_now : PySem.W.codeIn K cd_ranks_now (PySem.Str.ofString "ranks_now") = true)
    (k1_ranks_now : PySem.W.keepIn K (.ref a_ranks_now) = true)
    (a1_ranks_told : PySem.W.nsIn K mainGlobals (PySem.Str.ofString "ranks_told") = some (some (.ref a_ranks_told)))
    (l1_ranks_told : K.lookup a_ranks_told = some ⟨oc_ranks_told, od_ranks_told, .func (PySem.W.fnOf (PySem.Str.ofString "ranks_told") (PySem.Str.ofString "ranks_told") (defArgs st_ranks_told) (defBody st_ranks_told) (defScope st_ranks_told) .none kV_ranks_told dc_ranks_told pm_ranks_told an_ranks_told cd_ranks_told ct_ranks_told), sl_ranks_told⟩)
    (c1_ranks_told : PySem.W.codeIn K cd_ranks_told (PySem.Str.ofString "ranks_told") = true)
    (k1_ranks_told : PySem.W.keepIn K (.ref a_ranks_told) = true)
    (a1_laps : PySem.W.nsIn K mainGlobals (PySem.Str.ofString "laps") = some (some (.ref a_laps)))
    (l1_laps : K.lookup a_laps = some ⟨oc_laps, od_laps, .func (PySem.W.fnOf (PySem.Str.ofString "laps") (PySem.Str.ofString "laps") (defArgs st_laps) (defBody st_laps) (defScope st_laps) .none kV_laps dc_laps pm_laps an_laps cd_laps ct_laps), sl_laps⟩)
    (c1_laps : PySem.W.codeIn K cd_laps (PySem.Str.ofString "laps") = true)
    (k1_laps : PySem.W.keepIn K (.ref a_laps) = true)
    (a1_by_ranks : PySem.W.nsIn K mainGlobals (PySem.Str.ofString "by_ranks") = some (some (.ref a_by_ranks)))
    (l1_by_ranks : K.lookup a_by_ranks = some ⟨oc_by_ranks, od_by_ranks, .func (PySem.W.fnOf (PySem.Str.ofString "by_ranks") (PySem.Str.ofString "by_ranks") (defArgs st_by_ranks) (defBody st_by_ranks) (defScope st_by_ranks) .none kV_by_ranks dc_by_ranks pm_by_ranks an_by_ranks cd_by_ranks ct_by_ranks), sl_by_ranks⟩)
    (c1_by_ranks : PySem.W.codeIn K cd_by_ranks (PySem.Str.ofString "by_ranks") = true)
    (k1_by_ranks : PySem.W.keepIn K (.ref a_by_ranks) = true)
    (a1_rank_weaving : PySem.W.nsIn K mainGlobals (PySem.Str.ofString "rank_weaving") = some (some (.ref a_rank_weaving)))
    (l1_rank_weaving : K.lookup a_rank_weaving = some ⟨oc_rank_weaving, od_rank_weaving, .func (PySem.W.fnOf (PySem.Str.ofString "rank_weaving") (PySem.Str.ofString "rank_weaving") (defArgs st_rank_weaving) (defBody st_rank_weaving) (defScope st_rank_weaving) .none kV_rank_weaving dc_rank_weaving pm_rank_weaving an_rank_weaving cd_rank_weaving ct_rank_weaving), sl_rank_weaving⟩)
    (c1_rank_weaving : PySem.W.codeIn K cd_rank_weaving (PySem.Str.ofString "rank_weaving") = true)
    (k1_rank_weaving : PySem.W.keepIn K (.ref a_rank_weaving) = true)
    (a1_rank_order : PySem.W.nsIn K mainGlobals (PySem.Str.ofString "rank_order") = some (some (.ref a_rank_order)))
    (l1_rank_order : K.lookup a_rank_order = some ⟨oc_rank_order, od_rank_order, .func (PySem.W.fnOf (PySem.Str.ofString "rank_order") (PySem.Str.ofString "rank_order") (defArgs st_rank_order) (defBody st_rank_order) (defScope st_rank_order) .none kV_rank_order dc_rank_order pm_rank_order an_rank_order cd_rank_order ct_rank_order), sl_rank_order⟩)
    (c1_rank_order : PySem.W.codeIn K cd_rank_order (PySem.Str.ofString "rank_order") = true)
    (k1_rank_order : PySem.W.keepIn K (.ref a_rank_order) = true)
    (a1_moved : PySem.W.nsIn K mainGlobals (PySem.Str.ofString "moved") = some (some (.ref a_moved)))
    (l1_moved : K.lookup a_moved = some ⟨oc_moved, od_moved, .func (PySem.W.fnOf (PySem.Str.ofString "moved") (PySem.Str.ofString "moved") (defArgs st_moved) (defBody st_moved) (defScope st_moved) .none kV_moved dc_moved pm_moved an_moved cd_moved ct_moved), sl_moved⟩)
    (c1_moved : PySem.W.codeIn K cd_moved (PySem.Str.ofString "moved") = true)
    (k1_moved : PySem.W.keepIn K (.ref a_moved) = true)
    (a1_is_ranked : PySem.W.nsIn K mainGlobals (PySem.Str.ofString "is_ranked") = some (some (.ref a_is_ranked)))
    (l1_is_ranked : K.lookup a_is_ranked = some ⟨oc_is_ranked, od_is_ranked, .func (PySem.W.fnOf (PySem.Str.ofString "is_ranked") (PySem.Str.ofString "is_ranked") (defArgs st_is_ranked) (defBody st_is_ranked) (defScope st_is_ranked) .none kV_is_ranked dc_is_ranked pm_is_ranked an_is_ranked cd_is_ranked ct_is_ranked), sl_is_ranked⟩)
    (c1_is_ranked : PySem.W.codeIn K cd_is_ranked (PySem.Str.ofString "is_ranked") = true)
    (k1_is_ranked : PySem.W.keepIn K (.ref a_is_ranked) = true)
    (a1_ranked_run : PySem.W.nsIn K mainGlobals (PySem.Str.ofString "ranked_run") = some (some (.ref a_ranked_run)))
    (l1_ranked_run : K.lookup a_ranked_run = some ⟨oc_ranked_run, od_ranked_run, .func (PySem.W.fnOf (PySem.Str.ofString "ranked_run") (PySem.Str.ofString "ranked_run") (defArgs st_ranked_run) (defBody st_ranked_run) (defScope st_ranked_run) .none kV_ranked_run dc_ranked_run pm_ranked_run an_ranked_run cd_ranked_run ct_ranked_run), sl_ranked_run⟩)
    (c1_ranked_run : PySem.W.codeIn K cd_ranked_run (PySem.Str.ofString "ranked_run") = true)
    (k1_ranked_run : PySem.W.keepIn K (.ref a_ranked_run) = true)
    (a1__law_cells : PySem.W.nsIn K mainGlobals (PySem.Str.ofString "_law_cells") = some (some (.ref a__law_cells)))
    (l1__law_cells : K.lookup a__law_cells = some ⟨oc__law_cells, od__law_cells, .func (PySem.W.fnOf (PySem.Str.ofString "_law_cells") (PySem.Str.ofString "_law_cells") (defArgs st__law_cells) (defBody st__law_cells) (defScope st__law_cells) .none kV__law_cells dc__law_cells pm__law_cells an__law_cells cd__law_cells ct__law_cells), sl__law_cells⟩)
    (c1__law_cells : PySem.W.codeIn K cd__law_cells (PySem.Str.ofString "_law_cells") = true)
    (k1__law_cells : PySem.W.keepIn K (.ref a__law_cells) = true)
    (a1__law_same : PySem.W.nsIn K mainGlobals (PySem.Str.ofString "_law_same") = some (some (.ref a__law_same)))
    (l1__law_same : K.lookup a__law_same = some ⟨oc__law_same, od__law_same, .func (PySem.W.fnOf (PySem.Str.ofString "_law_same") (PySem.Str.ofString "_law_same") (defArgs st__law_same) (defBody st__law_same) (defScope st__law_same) .none kV__law_same dc__law_same pm__law_same an__law_same cd__law_same ct__law_same), sl__law_same⟩)
    (c1__law_same : PySem.W.codeIn K cd__law_same (PySem.Str.ofString "_law_same") = true)
    (k1__law_same : PySem.W.keepIn K (.ref a__law_same) = true)
    (a1__law_lists : PySem.W.nsIn K mainGlobals (PySem.Str.ofString "_law_lists") = some (some (.ref a__law_lists)))
    (l1__law_lists : K.lookup a__law_lists = some ⟨oc__law_lists, od__law_lists, .func (PySem.W.fnOf (PySem.Str.ofString "_law_lists") (PySem.Str.ofString "_law_lists") (defArgs st__law_lists) (defBody st__law_lists) (defScope st__law_lists) .none kV__law_lists dc__law_lists pm__law_lists an__law_lists cd__law_lists ct__law_lists), sl__law_lists⟩)
    (c1__law_lists : PySem.W.codeIn K cd__law_lists (PySem.Str.ofString "_law_lists") = true)
    (k1__law_lists : PySem.W.keepIn K (.ref a__law_lists) = true)
    (a1__law_way : PySem.W.nsIn K mainGlobals (PySem.Str.ofString "_law_way") = some (some (.ref a__law_way)))
    (l1__law_way : K.lookup a__law_way = some ⟨oc__law_way, od__law_way, .func (PySem.W.fnOf (PySem.Str.ofString "_law_way") (PySem.Str.ofString "_law_way") (defArgs st__law_way) (defBody st__law_way) (defScope st__law_way) .none kV__law_way dc__law_way pm__law_way an__law_way cd__law_way ct__law_way), sl__law_way⟩)
    (c1__law_way : PySem.W.codeIn K cd__law_way (PySem.Str.ofString "_law_way") = true)
    (k1__law_way : PySem.W.keepIn K (.ref a__law_way) = true)
    (a1__law_meet : PySem.W.nsIn K mainGlobals (PySem.Str.ofString "_law_meet") = some (some (.ref a__law_meet)))
    (l1__law_meet : K.lookup a__law_meet = some ⟨oc__law_meet, od__law_meet, .func (PySem.W.fnOf (PySem.Str.ofString "_law_meet") (PySem.Str.ofString "_law_meet") (defArgs st__law_meet) (defBody st__law_meet) (defScope st__law_meet) .none kV__law_meet dc__law_meet pm__law_meet an__law_meet cd__law_meet ct__law_meet), sl__law_meet⟩)
    (c1__law_meet : PySem.W.codeIn K cd__law_meet (PySem.Str.ofString "_law_meet") = true)
    (k1__law_meet : PySem.W.keepIn K (.ref a__law_meet) = true)
    (a1__law_turns : PySem.W.nsIn K mainGlobals (PySem.Str.ofString "_law_turns") = some (some (.ref a__law_turns)))
    (l1__law_turns : K.lookup a__law_turns = some ⟨oc__law_turns, od__law_turns, .func (PySem.W.fnOf (PySem.Str.ofString "_law_turns") (PySem.Str.ofString "_law_turns") (defArgs st__law_turns) (defBody st__law_turns) (defScope st__law_turns) .none kV__law_turns dc__law_turns pm__law_turns an__law_turns cd__law_turns ct__law_turns), sl__law_turns⟩)
    (c1__law_turns : PySem.W.codeIn K cd__law_turns (PySem.Str.ofString "_law_turns") = true)
    (k1__law_turns : PySem.W.keepIn K (.ref a__law_turns) = true)
    (a1__law_heard : PySem.W.nsIn K mainGlobals (PySem.Str.ofString "_law_heard") = some (some (.ref a__law_heard)))
    (l1__law_heard : K.lookup a__law_heard = some ⟨oc__law_heard, od__law_heard, .func (PySem.W.fnOf (PySem.Str.ofString "_law_heard") (PySem.Str.ofString "_law_heard") (defArgs st__law_heard) (defBody st__law_heard) (defScope st__law_heard) .none kV__law_heard dc__law_heard pm__law_heard an__law_heard cd__law_heard ct__law_heard), sl__law_heard⟩)
    (c1__law_heard : PySem.W.codeIn K cd__law_heard (PySem.Str.ofString "_law_heard") = true)
    (k1__law_heard : PySem.W.keepIn K (.ref a__law_heard) = true)
    (a1__law_runs_right : PySem.W.nsIn K mainGlobals (PySem.Str.ofString "_law_runs_right") = some (some (.ref a__law_runs_right)))
    (l1__law_runs_right : K.lookup a__law_runs_right = some ⟨oc__law_runs_right, od__law_runs_right, .func (PySem.W.fnOf (PySem.Str.ofString "_law_runs_right") (PySem.Str.ofString "_law_runs_right") (defArgs st__law_runs_right) (defBody st__law_runs_right) (defScope st__law_runs_right) .none kV__law_runs_right dc__law_runs_right pm__law_runs_right an__law_runs_right cd__law_runs_right ct__law_runs_right), sl__law_runs_right⟩)
    (c1__law_runs_right : PySem.W.codeIn K cd__law_runs_right (PySem.Str.ofString "_law_runs_right") = true)
    (k1__law_runs_right : PySem.W.keepIn K (.ref a__law_runs_right) = true)
    (a1__law_rows_right : PySem.W.nsIn K mainGlobals (PySem.Str.ofString "_law_rows_right") = some (some (.ref a__law_rows_right)))
    (l1__law_rows_right : K.lookup a__law_rows_right = some ⟨oc__law_rows_right, od__law_rows_right, .func (PySem.W.fnOf (PySem.Str.ofString "_law_rows_right") (PySem.Str.ofString "_law_rows_right") (defArgs st__law_rows_right) (defBody st__law_rows_right) (defScope st__law_rows_right) .none kV__law_rows_right dc__law_rows_right pm__law_rows_right an__law_rows_right cd__law_rows_right ct__law_rows_right), sl__law_rows_right⟩)
    (c1__law_rows_right : PySem.W.codeIn K cd__law_rows_right (PySem.Str.ofString "_law_rows_right") = true)
    (k1__law_rows_right : PySem.W.keepIn K (.ref a__law_rows_right) = true)
    (a1__law_listed_right : PySem.W.nsIn K mainGlobals (PySem.Str.ofString "_law_listed_right") = some (some (.ref a__law_listed_right)))
    (l1__law_listed_right : K.lookup a__law_listed_right = some ⟨oc__law_listed_right, od__law_listed_right, .func (PySem.W.fnOf (PySem.Str.ofString "_law_listed_right") (PySem.Str.ofString "_law_listed_right") (defArgs st__law_listed_right) (defBody st__law_listed_right) (defScope st__law_listed_right) .none kV__law_listed_right dc__law_listed_right pm__law_listed_right an__law_listed_right cd__law_listed_right ct__law_listed_right), sl__law_listed_right⟩)
    (c1__law_listed_right : PySem.W.codeIn K cd__law_listed_right (PySem.Str.ofString "_law_listed_right") = true)
    (k1__law_listed_right : PySem.W.keepIn K (.ref a__law_listed_right) = true)
    (a1_law : PySem.W.nsIn K mainGlobals (PySem.Str.ofString "law") = some (some (.ref a_law)))
    (l1_law : K.lookup a_law = some ⟨oc_law, od_law, .func (PySem.W.fnOf (PySem.Str.ofString "law") (PySem.Str.ofString "law") (defArgs st_law) (defBody st_law) (defScope st_law) .none kV_law dc_law pm_law an_law cd_law ct_law), sl_law⟩)
    (c1_law : PySem.W.codeIn K cd_law (PySem.Str.ofString "law") = true)
    (k1_law : PySem.W.keepIn K (.ref a_law) = true)
    (z1_ValueError : PySem.W.nsIn K mainGlobals (PySem.Str.ofString "ValueError") = some none)
    (z1_all : PySem.W.nsIn K mainGlobals (PySem.Str.ofString "all") = some none)
    (z1_bool : PySem.W.nsIn K mainGlobals (PySem.Str.ofString "bool") = some none)
    (z1_enumerate : PySem.W.nsIn K mainGlobals (PySem.Str.ofString "enumerate") = some none)
    (z1_int : PySem.W.nsIn K mainGlobals (PySem.Str.ofString "int") = some none)
    (z1_isinstance : PySem.W.nsIn K mainGlobals (PySem.Str.ofString "isinstance") = some none)
    (z1_len : PySem.W.nsIn K mainGlobals (PySem.Str.ofString "len") = some none)
    (z1_list : PySem.W.nsIn K mainGlobals (PySem.Str.ofString "list") = some none)
    (z1_max : PySem.W.nsIn K mainGlobals (PySem.Str.ofString "max") = some none)
    (z1_range : PySem.W.nsIn K mainGlobals (PySem.Str.ofString "range") = some none)
    (z1_sorted : PySem.W.nsIn K mainGlobals (PySem.Str.ofString "sorted") = some none)
    (z1_str : PySem.W.nsIn K mainGlobals (PySem.Str.ofString "str") = some none)
    (z1_tuple : PySem.W.nsIn K mainGlobals (PySem.Str.ofString "tuple") = some none)
    (z1_zip : PySem.W.nsIn K mainGlobals (PySem.Str.ofString "zip") = some none)
    (a1_CanNot : PySem.W.nsIn K mainGlobals (PySem.Str.ofString "CanNot") = some (some (.ref a_CanNot)))
    (k1_CanNot : PySem.W.keepIn K (.ref a_CanNot) = true)
    (b1_CanNot : PySem.W.subIn K (.ref a_CanNot) (.type "BaseException") = some true)
    (t1_CanNot : PySem.W.typeIn K (.ref a_CanNot) = some (.type "type"))
    (d1_CanNot : PySem.W.hasDictIn K a_CanNot = true)
    (s1_CanNot_CanNot : PySem.W.subIn K (.ref a_CanNot) (.ref a_CanNot) = some true)
    (x1_CanNot : PySem.W.excIn K a_CanNot [.type "ValueError", .type "Exception", .type "BaseException", .type "object"] "ValueError.__new__" = true)
    (ga_CanNot : PySem.W.findIn K (.ref a_CanNot) "__getattribute__" = some (some (.builtin "BaseException.__getattribute__")))
    (gg_CanNot : PySem.W.findIn K (.ref a_CanNot) "__getattr__" = some none)
    (ca_CanNot : PySem.W.findIn K (.ref a_CanNot) "__class__" = some (some (.builtin "object.__class__")))
    (mo_CanNot : PySem.W.mroIn K a_CanNot (.type "object") = some true)
    (iv_CanNot_ValueError : PySem.W.kitOne K (.ref a_CanNot) (.type "ValueError") = some true)
    (oc_get : PySem.W.specialIn K (.builtin "object.__class__") "__get__" = some (some (.builtin "getset_descriptor.__get__")))
    (oc_tk : PySem.W.takesIn K (.builtin "object.__class__") = some true)
    : ∃ fd : FuncData, (∀ (s : Shared) (v : Value), BindsTo s fd ⟨[v], []⟩ [("script", v)]) ∧ ∀ base : Heap, K.In base → base.Ns mainGlobals mg → FnOk l.prog w K mg base (L2.CX l.prog w) 43 fa fd ["script"] (spLaw K) := by
  have T := top_mk (P := l.prog) (w := w) X G a1_is_number l1_is_number c1_is_number k1_is_number a1_are_numbers_from l1_are_numbers_from c1_are_numbers_from k1_are_numbers_from a1_learnings l1_learnings c1_learnings k1_learnings a1_known l1_known c1_known k1_known a1_bit_of l1_bit_of c1_bit_of k1_bit_of a1_ranked l1_ranked c1_ranked k1_ranked a1_ranks l1_ranks c1_ranks k1_ranks a1_bits l1_bits c1_bits k1_bits a1_ranks_now l1_ranks_now c1_ranks_now k1_ranks_now a1_ranks_told l1_ranks_told c1_ranks_told k1_ranks_told a1_laps l1_laps c1_laps k1_laps a1_by_ranks l1_by_ranks c1_by_ranks k1_by_ranks a1_rank_weaving l1_rank_weaving c1_rank_weaving k1_rank_weaving a1_rank_order l1_rank_order c1_rank_order k1_rank_order a1_moved l1_moved c1_moved k1_moved a1_is_ranked l1_is_ranked c1_is_ranked k1_is_ranked a1_ranked_run l1_ranked_run c1_ranked_run k1_ranked_run a1__law_cells l1__law_cells c1__law_cells k1__law_cells a1__law_same l1__law_same c1__law_same k1__law_same a1__law_lists l1__law_lists c1__law_lists k1__law_lists a1__law_way l1__law_way c1__law_way k1__law_way a1__law_meet l1__law_meet c1__law_meet k1__law_meet a1__law_turns l1__law_turns c1__law_turns k1__law_turns a1__law_heard l1__law_heard c1__law_heard k1__law_heard a1__law_runs_right l1__law_runs_right c1__law_runs_right k1__law_runs_right a1__law_rows_right l1__law_rows_right c1__law_rows_right k1__law_rows_right a1__law_listed_right l1__law_listed_right c1__law_listed_right k1__law_listed_right a1_law l1_law c1_law k1_law z1_ValueError z1_all z1_bool z1_enumerate z1_int z1_isinstance z1_len z1_list z1_max z1_range z1_sorted z1_str z1_tuple z1_zip a1_CanNot k1_CanNot b1_CanNot t1_CanNot d1_CanNot s1_CanNot_CanNot x1_CanNot ga_CanNot gg_CanNot ca_CanNot mo_CanNot iv_CanNot_ValueError oc_get oc_tk
  have ef := T.g_law
  rw [hfa] at ef
  cases ef
  refine ⟨PySem.W.fnOf (PySem.Str.ofString "law") (PySem.Str.ofString "law") (defArgs st_law) (defBody st_law) (defScope st_law) .none kV_law dc_law pm_law an_law cd_law ct_law, fun s v => .of_eq ?_, fun base hK hG => ?_⟩
  rotate_left
  have F_is_number := fun_mk (K := K) (st := st_is_number) l1_is_number c1_is_number k1_is_number
  have F_are_numbers_from := fun_mk (K := K) (st := st_are_numbers_from) l1_are_numbers_from c1_are_numbers_from k1_are_numbers_from
  have F_learnings := fun_mk (K := K) (st := st_learnings) l1_learnings c1_learnings k1_learnings
  have F_known := fun_mk (K := K) (st := st_known) l1_known c1_known k1_known
  have F_bit_of := fun_mk (K := K) (st := st_bit_of) l1_bit_of c1_bit_of k1_bit_of
  have F_ranked := fun_mk (K := K) (st := st_ranked) l1_ranked c1_ranked k1_ranked
  have F_ranks := fun_mk (K := K) (st := st_ranks) l1_ranks c1_ranks k1_ranks
  have F_bits := fun_mk (K := K) (st := st_bits) l1_bits c1_bits k1_bits
  have F_ranks_now := fun_mk (K := K) (st := st_ranks_now) l1_ranks_now c1_ranks_now k1_ranks_now
  have F_ranks_told := fun_mk (K := K) (st := st_ranks_told) l1_ranks_told c1_ranks_told k1_ranks_told
  have F_laps := fun_mk (K := K) (st := st_laps) l1_laps c1_laps k1_laps
  have F_by_ranks := fun_mk (K := K) (st := st_by_ranks) l1_by_ranks c1_by_ranks k1_by_ranks
  have F_rank_weaving := fun_mk (K := K) (st := st_rank_weaving) l1_rank_weaving c1_rank_weaving k1_rank_weaving
  have F_rank_order := fun_mk (K := K) (st := st_rank_order) l1_rank_order c1_rank_order k1_rank_order
  have F_moved := fun_mk (K := K) (st := st_moved) l1_moved c1_moved k1_moved
  have F_is_ranked := fun_mk (K := K) (st := st_is_ranked) l1_is_ranked c1_is_ranked k1_is_ranked
  have F_ranked_run := fun_mk (K := K) (st := st_ranked_run) l1_ranked_run c1_ranked_run k1_ranked_run
  have F__law_cells := fun_mk (K := K) (st := st__law_cells) l1__law_cells c1__law_cells k1__law_cells
  have F__law_same := fun_mk (K := K) (st := st__law_same) l1__law_same c1__law_same k1__law_same
  have F__law_lists := fun_mk (K := K) (st := st__law_lists) l1__law_lists c1__law_lists k1__law_lists
  have F__law_way := fun_mk (K := K) (st := st__law_way) l1__law_way c1__law_way k1__law_way
  have F__law_meet := fun_mk (K := K) (st := st__law_meet) l1__law_meet c1__law_meet k1__law_meet
  have F__law_turns := fun_mk (K := K) (st := st__law_turns) l1__law_turns c1__law_turns k1__law_turns
  have F__law_heard := fun_mk (K := K) (st := st__law_heard) l1__law_heard c1__law_heard k1__law_heard
  have F__law_runs_right := fun_mk (K := K) (st := st__law_runs_right) l1__law_runs_right c1__law_runs_right k1__law_runs_right
  have F__law_rows_right := fun_mk (K := K) (st := st__law_rows_right) l1__law_rows_right c1__law_rows_right k1__law_rows_right
  have F__law_listed_right := fun_mk (K := K) (st := st__law_listed_right) l1__law_listed_right c1__law_listed_right k1__law_listed_right
  have F_law := fun_mk (K := K) (st := st_law) l1_law c1_law k1_law
  have B_is_number := F_is_number.binds (ps := ps_is_number) fun _ _ _ _ _ _ us hl => match us, hl with | [_], _ => by first | rfl | with_unfolding_all rfl
  have B_are_numbers_from := F_are_numbers_from.binds (ps := ps_are_numbers_from) fun _ _ _ _ _ _ us hl => match us, hl with | [_, _], _ => by first | rfl | with_unfolding_all rfl
  have B_learnings := F_learnings.binds (ps := ps_learnings) fun _ _ _ _ _ _ us hl => match us, hl with | [_], _ => by first | rfl | with_unfolding_all rfl
  have B_known := F_known.binds (ps := ps_known) fun _ _ _ _ _ _ us hl => match us, hl with | [_, _], _ => by first | rfl | with_unfolding_all rfl
  have B_bit_of := F_bit_of.binds (ps := ps_bit_of) fun _ _ _ _ _ _ us hl => match us, hl with | [_], _ => by first | rfl | with_unfolding_all rfl
  have B_ranked := F_ranked.binds (ps := ps_ranked) fun _ _ _ _ _ _ us hl => match us, hl with | [_], _ => by first | rfl | with_unfolding_all rfl
  have B_ranks := F_ranks.binds (ps := ps_ranks) fun _ _ _ _ _ _ us hl => match us, hl with | [_], _ => by first | rfl | with_unfolding_all rfl
  have B_bits := F_bits.binds (ps := ps_bits) fun _ _ _ _ _ _ us hl => match us, hl with | [_], _ => by first | rfl | with_unfolding_all rfl
  have B_ranks_now := F_ranks_now.binds (ps := ps_ranks_now) fun _ _ _ _ _ _ us hl => match us, hl with | [_], _ => by first | rfl | with_unfolding_all rfl
  have B_ranks_told := F_ranks_told.binds (ps := ps_ranks_told) fun _ _ _ _ _ _ us hl => match us, hl with | [_, _], _ => by first | rfl | with_unfolding_all rfl
  have B_laps := F_laps.binds (ps := ps_laps) fun _ _ _ _ _ _ us hl => match us, hl with | [_], _ => by first | rfl | with_unfolding_all rfl
  have B_by_ranks := F_by_ranks.binds (ps := ps_by_ranks) fun _ _ _ _ _ _ us hl => match us, hl with | [_, _], _ => by first | rfl | with_unfolding_all rfl
  have B_rank_weaving := F_rank_weaving.binds (ps := ps_rank_weaving) fun _ _ _ _ _ _ us hl => match us, hl with | [_], _ => by first | rfl | with_unfolding_all rfl
  have B_rank_order := F_rank_order.binds (ps := ps_rank_order) fun _ _ _ _ _ _ us hl => match us, hl with | [_, _], _ => by first | rfl | with_unfolding_all rfl
  have B_moved := F_moved.binds (ps := ps_moved) fun _ _ _ _ _ _ us hl => match us, hl with | [_], _ => by first | rfl | with_unfolding_all rfl
  have B_is_ranked := F_is_ranked.binds (ps := ps_is_ranked) fun _ _ _ _ _ _ us hl => match us, hl with | [_, _], _ => by first | rfl | with_unfolding_all rfl
  have B_ranked_run := F_ranked_run.binds (ps := ps_ranked_run) fun _ _ _ _ _ _ us hl => match us, hl with | [_, _], _ => by first | rfl | with_unfolding_all rfl
  have B__law_cells := F__law_cells.binds (ps := ps__law_cells) fun _ _ _ _ _ _ us hl => match us, hl with | [_, _], _ => by first | rfl | with_unfolding_all rfl
  have B__law_same := F__law_same.binds (ps := ps__law_same) fun _ _ _ _ _ _ us hl => match us, hl with | [_, _], _ => by first | rfl | with_unfolding_all rfl
  have B__law_lists := F__law_lists.binds (ps := ps__law_lists) fun _ _ _ _ _ _ us hl => match us, hl with | [_], _ => by first | rfl | with_unfolding_all rfl
  have B__law_way := F__law_way.binds (ps := ps__law_way) fun _ _ _ _ _ _ us hl => match us, hl with | [], _ => by first | rfl | with_unfolding_all rfl
  have B__law_meet := F__law_meet.binds (ps := ps__law_meet) fun _ _ _ _ _ _ us hl => match us, hl with | [], _ => by first | rfl | with_unfolding_all rfl
  have B__law_turns := F__law_turns.binds (ps := ps__law_turns) fun _ _ _ _ _ _ us hl => match us, hl with | [], _ => by first | rfl | with_unfolding_all rfl
  have B__law_heard := F__law_heard.binds (ps := ps__law_heard) fun _ _ _ _ _ _ us hl => match us, hl with | [_, _], _ => by first | rfl | with_unfolding_all rfl
  have B__law_runs_right := F__law_runs_right.binds (ps := ps__law_runs_right) fun _ _ _ _ _ _ us hl => match us, hl with | [], _ => by first | rfl | with_unfolding_all rfl
  have B__law_rows_right := F__law_rows_right.binds (ps := ps__law_rows_right) fun _ _ _ _ _ _ us hl => match us, hl with | [], _ => by first | rfl | with_unfolding_all rfl
  have B__law_listed_right := F__law_listed_right.binds (ps := ps__law_listed_right) fun _ _ _ _ _ _ us hl => match us, hl with | [], _ => by first | rfl | with_unfolding_all rfl
  have B_law := F_law.binds (ps := ps_law) fun _ _ _ _ _ _ us hl => match us, hl with | [_], _ => by first | rfl | with_unfolding_all rfl
  have KC_ranked_run_0_told_puts : KwC K _ ps_ranked_run [(PySem.Str.ofString "told"), (PySem.Str.ofString "puts")] 0 2 [1, 0] := kwc_of F_ranked_run (by decide) fun _ _ _ _ _ _ us ws h1 h2 => match us, ws, h1, h2 with | [], [_, _], _, _ => by first | rfl | with_unfolding_all rfl
  have KC_ranks_0_run : KwC K _ ps_ranks [(PySem.Str.ofString "run")] 0 1 [0] := kwc_of F_ranks (by decide) fun _ _ _ _ _ _ us ws h1 h2 => match us, ws, h1, h2 with | [], [_], _, _ => by first | rfl | with_unfolding_all rfl
  have KC_bits_0_run : KwC K _ ps_bits [(PySem.Str.ofString "run")] 0 1 [0] := kwc_of F_bits (by decide) fun _ _ _ _ _ _ us ws h1 h2 => match us, ws, h1, h2 with | [], [_], _, _ => by first | rfl | with_unfolding_all rfl
  have KC_ranks_now_0_run : KwC K _ ps_ranks_now [(PySem.Str.ofString "run")] 0 1 [0] := kwc_of F_ranks_now (by decide) fun _ _ _ _ _ _ us ws h1 h2 => match us, ws, h1, h2 with | [], [_], _, _ => by first | rfl | with_unfolding_all rfl
  have KC_ranks_told_0_told_side : KwC K _ ps_ranks_told [(PySem.Str.ofString "told"), (PySem.Str.ofString "side")] 0 2 [1, 0] := kwc_of F_ranks_told (by decide) fun _ _ _ _ _ _ us ws h1 h2 => match us, ws, h1, h2 with | [], [_, _], _, _ => by first | rfl | with_unfolding_all rfl
  have KC_laps_0_run : KwC K _ ps_laps [(PySem.Str.ofString "run")] 0 1 [0] := kwc_of F_laps (by decide) fun _ _ _ _ _ _ us ws h1 h2 => match us, ws, h1, h2 with | [], [_], _, _ => by first | rfl | with_unfolding_all rfl
  have KC_rank_weaving_0_run : KwC K _ ps_rank_weaving [(PySem.Str.ofString "run")] 0 1 [0] := kwc_of F_rank_weaving (by decide) fun _ _ _ _ _ _ us ws h1 h2 => match us, ws, h1, h2 with | [], [_], _, _ => by first | rfl | with_unfolding_all rfl
  have KC_rank_order_0_side_run : KwC K _ ps_rank_order [(PySem.Str.ofString "side"), (PySem.Str.ofString "run")] 0 2 [1, 0] := kwc_of F_rank_order (by decide) fun _ _ _ _ _ _ us ws h1 h2 => match us, ws, h1, h2 with | [], [_, _], _, _ => by first | rfl | with_unfolding_all rfl
  have KC_moved_0_run : KwC K _ ps_moved [(PySem.Str.ofString "run")] 0 1 [0] := kwc_of F_moved (by decide) fun _ _ _ _ _ _ us ws h1 h2 => match us, ws, h1, h2 with | [], [_], _, _ => by first | rfl | with_unfolding_all rfl
  have KC_is_ranked_0_thing_puts : KwC K _ ps_is_ranked [(PySem.Str.ofString "thing"), (PySem.Str.ofString "puts")] 0 2 [1, 0] := kwc_of F_is_ranked (by decide) fun _ _ _ _ _ _ us ws h1 h2 => match us, ws, h1, h2 with | [], [_, _], _, _ => by first | rfl | with_unfolding_all rfl
  have G_is_number := ok_is_number (P := l.prog) (w := w) (base := base) T F_is_number
  have G_are_numbers_from := ok_are_numbers_from (P := l.prog) (w := w) (base := base) T F_are_numbers_from G_is_number B_is_number
  have G_learnings := ok_learnings (P := l.prog) (w := w) (base := base) T F_learnings
  have G_known := ok_known (P := l.prog) (w := w) (base := base) T F_known G_learnings B_learnings
  have G_bit_of := ok_bit_of (P := l.prog) (w := w) (base := base) T F_bit_of
  have G_ranked := ok_ranked (P := l.prog) (w := w) (base := base) T F_ranked G_learnings B_learnings
  have G_ranks := ok_ranks (P := l.prog) (w := w) (base := base) T F_ranks G_ranked B_ranked
  have G_bits := ok_bits (P := l.prog) (w := w) (base := base) T F_bits G_ranks B_ranks G_bit_of B_bit_of
  have G_ranks_now := ok_ranks_now (P := l.prog) (w := w) (base := base) T F_ranks_now G_ranked B_ranked
  have G_ranks_told := ok_ranks_told (P := l.prog) (w := w) (base := base) T F_ranks_told G_bit_of B_bit_of
  have G_laps := ok_laps (P := l.prog) (w := w) (base := base) T F_laps G_ranks B_ranks
  have G_by_ranks := ok_by_ranks (P := l.prog) (w := w) (base := base) T F_by_ranks
  have G_rank_weaving := ok_rank_weaving (P := l.prog) (w := w) (base := base) T F_rank_weaving G_ranks B_ranks G_by_ranks B_by_ranks
  have G_rank_order := ok_rank_order (P := l.prog) (w := w) (base := base) T F_rank_order G_by_ranks B_by_ranks G_ranks B_ranks G_known B_known
  have G_moved := ok_moved (P := l.prog) (w := w) (base := base) T F_moved G_ranks B_ranks G_learnings B_learnings
  have G_is_ranked := ok_is_ranked (P := l.prog) (w := w) (base := base) T F_is_ranked G_are_numbers_from B_are_numbers_from
  have G_ranked_run := ok_ranked_run (P := l.prog) (w := w) (base := base) T F_ranked_run G_is_ranked B_is_ranked
  have G__law_cells := ok__law_cells (P := l.prog) (w := w) (base := base) T F__law_cells
  have G__law_same := ok__law_same (P := l.prog) (w := w) (base := base) T F__law_same B__law_same
  have G__law_lists := ok__law_lists (P := l.prog) (w := w) (base := base) T F__law_lists B__law_lists
  have G__law_way := ok__law_way (P := l.prog) (w := w) (base := base) T F__law_way
  have G__law_meet := ok__law_meet (P := l.prog) (w := w) (base := base) T F__law_meet
  have G__law_turns := ok__law_turns (P := l.prog) (w := w) (base := base) T F__law_turns
  have G__law_heard := ok__law_heard (P := l.prog) (w := w) (base := base) T F__law_heard G_ranked_run B_ranked_run KC_ranked_run_0_told_puts
  have G__law_runs_right := ok__law_runs_right (P := l.prog) (w := w) (base := base) T F__law_runs_right G__law_way B__law_way G__law_meet B__law_meet G__law_turns B__law_turns G_ranks B_ranks G_bits B_bits G_ranks_now B_ranks_now G_moved B_moved G_laps B_laps G_rank_weaving B_rank_weaving G_rank_order B_rank_order G__law_same B__law_same
  have G__law_rows_right := ok__law_rows_right (P := l.prog) (w := w) (base := base) T F__law_rows_right G__law_heard B__law_heard G_is_ranked B_is_ranked G_ranks_told B_ranks_told G__law_same B__law_same
  have G__law_listed_right := ok__law_listed_right (P := l.prog) (w := w) (base := base) T F__law_listed_right G__law_way B__law_way G__law_meet B__law_meet G__law_lists B__law_lists G_ranks B_ranks G_bits B_bits G_ranks_now B_ranks_now G_ranks_told B_ranks_told G_laps B_laps G_rank_weaving B_rank_weaving G_rank_order B_rank_order G_moved B_moved G__law_heard B__law_heard G_is_ranked B_is_ranked G__law_same B__law_same KC_ranks_0_run KC_bits_0_run KC_ranks_now_0_run KC_ranks_told_0_told_side KC_laps_0_run KC_rank_weaving_0_run KC_rank_order_0_side_run KC_moved_0_run KC_is_ranked_0_thing_puts
  have G_law := ok_law (P := l.prog) (w := w) (base := base) T F_law G__law_listed_right B__law_listed_right G__law_cells B__law_cells G__law_runs_right B__law_runs_right G__law_rows_right B__law_rows_right
  exact law_ok G_law law_true
  first | rfl | with_unfolding_all rfl
end
end Gn
open PySem PySem.W PyProof.Rows
set_option maxRecDepth 100000 in
set_option maxHeartbeats 0 in
theorem PySem.Challenge.cw_bothroads_k14_ranks_by_hand_and_refused_holds : PySem.Challenge.rw_bothroads_k14_ranks_by_hand_and_refused.Holds := by
  w_on; o_law; k_head; (case hw => w_witness2)
  k_fill
  refine L2.walk_ofB (l := PySem.Challenge.rw_bothroads_k14_ranks_by_hand_and_refused) (n := 63) (k := 43) (x := "script") (CX := fun w => L2.CX PySem.Challenge.pw_bothroads_k14_ranks_by_hand_and_refused w) (sp := fun w => Rh.spLaw _) rfl (by decide) rfl ⟨rfl, by decide, by decide⟩ (fun w h Y => by first | exact PySem.W.kIn_of Y | exact PySem.W.km_in_of Y) ?F (fun _ _ a ns hl hb hO hS => ⟨a, ns, rfl, hl, hb, hO, hS, fun _ => rfl⟩) (fun _ _ _ _ _ h => Rh.cx_false h)
  case F =>
    intro w mg fa h KX G hmg
    refine' Gn.all_mkT (l := PySem.Challenge.rw_bothroads_k14_ranks_by_hand_and_refused) (fa := fa) KX G hmg ?a1_is_number ?l1_is_number ?c1_is_number ?k1_is_number ?a1_are_numbers_from ?l1_are_numbers_from ?c1_are_numbers_from ?k1_are_numbers_from ?a1_learnings ?l1_learnings ?c1_learnings ?k1_learnings ?a1_known ?l1_known ?c1_known ?k1_known ?a1_bit_of ?l1_bit_of ?c1_bit_of ?k1_bit_of ?a1_ranked ?l1_ranked ?c1_ranked ?k1_ranked ?a1_ranks ?l1_ranks ?c1_ranks ?k1_ranks ?a1_bits ?l1_bits ?c1_bits ?k1_bits ?a1_ranks_now ?l1_ranks_now ?c1_ranks_now ?k1_ranks_now ?a1_ranks_told ?l1_ranks_told ?c1_ranks_told ?k1_ranks_told ?a1_laps ?l1_laps ?c1_laps ?k1_laps ?a1_by_ranks ?l1_by_ranks ?c1_by_ranks ?k1_by_ranks ?a1_rank_weaving ?l1_rank_weaving ?c1_rank_weaving ?k1_rank_weaving ?a1_rank_order ?l1_rank_order ?c1_rank_order ?k1_rank_order ?a1_moved ?l1_moved ?c1_moved ?k1_moved ?a1_is_ranked ?l1_is_ranked ?c1_is_ranked ?k1_is_ranked ?a1_ranked_run ?l1_ranked_run ?c1_ranked_run ?k1_ranked_run ?a1__law_cells ?l1__law_cells ?c1__law_cells ?k1__law_cells ?a1__law_same ?l1__law_same ?c1__law_same ?k1__law_same ?a1__law_lists ?l1__law_lists ?c1__law_lists ?k1__law_lists ?a1__law_way ?l1__law_way ?c1__law_way ?k1__law_way ?a1__law_meet ?l1__law_meet ?c1__law_meet ?k1__law_meet ?a1__law_turns ?l1__law_turns ?c1__law_turns ?k1__law_turns ?a1__law_heard ?l1__law_heard ?c1__law_heard ?k1__law_heard ?a1__law_runs_right ?l1__law_runs_right ?c1__law_runs_right ?k1__law_runs_right ?a1__law_rows_right ?l1__law_rows_right ?c1__law_rows_right ?k1__law_rows_right ?a1__law_listed_right ?l1__law_listed_right ?c1__law_listed_right ?k1__law_listed_right ?a1_law ?l1_law ?c1_law ?k1_law ?z1_ValueError ?z1_all ?z1_bool ?z1_enumerate ?z1_int ?z1_isinstance ?z1_len ?z1_list ?z1_max ?z1_range ?z1_sorted ?z1_str ?z1_tuple ?z1_zip ?a1_CanNot ?k1_CanNot ?b1_CanNot ?t1_CanNot ?d1_CanNot ?s1_CanNot_CanNot ?x1_CanNot ?ga_CanNot ?gg_CanNot ?ca_CanNot ?mo_CanNot ?iv_CanNot_ValueError ?oc_get ?oc_tk
    (case a1_is_number => k_is)
    (case a1_are_numbers_from => k_is)
    (case a1_learnings => k_is)
    (case a1_known => k_is)
    (case a1_bit_of => k_is)
    (case a1_ranked => k_is)
    (case a1_ranks => k_is)
    (case a1_bits => k_is)
    (case a1_ranks_now => k_is)
    (case a1_ranks_told => k_is)
    (case a1_laps => k_is)
    (case a1_by_ranks => k_is)
    (case a1_rank_weaving => k_is)
    (case a1_rank_order => k_is)
    (case a1_moved => k_is)
    (case a1_is_ranked => k_is)
    (case a1_ranked_run => k_is)
    (case a1__law_cells => k_is)
    (case a1__law_same => k_is)
    (case a1__law_lists => k_is)
    (case a1__law_way => k_is)
    (case a1__law_meet => k_is)
    (case a1__law_turns => k_is)
    (case a1__law_heard => k_is)
    (case a1__law_runs_right => k_is)
    (case a1__law_rows_right => k_is)
    (case a1__law_listed_right => k_is)
    (case a1_law => k_is)
    (case a1_CanNot => k_is)
    (case l1_is_number => k_is)
    (case l1_are_numbers_from => k_is)
    (case l1_learnings => k_is)
    (case l1_known => k_is)
    (case l1_bit_of => k_is)
    (case l1_ranked => k_is)
    (case l1_ranks => k_is)
    (case l1_bits => k_is)
    (case l1_ranks_now => k_is)
    (case l1_ranks_told => k_is)
    (case l1_laps => k_is)
    (case l1_by_ranks => k_is)
    (case l1_rank_weaving => k_is)
    (case l1_rank_order => k_is)
    (case l1_moved => k_is)
    (case l1_is_ranked => k_is)
    (case l1_ranked_run => k_is)
    (case l1__law_cells => k_is)
    (case l1__law_same => k_is)
    (case l1__law_lists => k_is)
    (case l1__law_way => k_is)
    (case l1__law_meet => k_is)
    (case l1__law_turns => k_is)
    (case l1__law_heard => k_is)
    (case l1__law_runs_right => k_is)
    (case l1__law_rows_right => k_is)
    (case l1__law_listed_right => k_is)
    (case l1_law => k_is)
    (case c1_is_number => k_is)
    (case k1_is_number => k_is)
    (case c1_are_numbers_from => k_is)
    (case k1_are_numbers_from => k_is)
    (case c1_learnings => k_is)
    (case k1_learnings => k_is)
    (case c1_known => k_is)
    (case k1_known => k_is)
    (case c1_bit_of => k_is)
    (case k1_bit_of => k_is)
    (case c1_ranked => k_is)
    (case k1_ranked => k_is)
    (case c1_ranks => k_is)
    (case k1_ranks => k_is)
    (case c1_bits => k_is)
    (case k1_bits => k_is)
    (case c1_ranks_now => k_is)
    (case k1_ranks_now => k_is)
    (case c1_ranks_told => k_is)
    (case k1_ranks_told => k_is)
    (case c1_laps => k_is)
    (case k1_laps => k_is)
    (case c1_by_ranks => k_is)
    (case k1_by_ranks => k_is)
    (case c1_rank_weaving => k_is)
    (case k1_rank_weaving => k_is)
    (case c1_rank_order => k_is)
    (case k1_rank_order => k_is)
    (case c1_moved => k_is)
    (case k1_moved => k_is)
    (case c1_is_ranked => k_is)
    (case k1_is_ranked => k_is)
    (case c1_ranked_run => k_is)
    (case k1_ranked_run => k_is)
    (case c1__law_cells => k_is)
    (case k1__law_cells => k_is)
    (case c1__law_same => k_is)
    (case k1__law_same => k_is)
    (case c1__law_lists => k_is)
    (case k1__law_lists => k_is)
    (case c1__law_way => k_is)
    (case k1__law_way => k_is)
    (case c1__law_meet => k_is)
    (case k1__law_meet => k_is)
    (case c1__law_turns => k_is)
    (case k1__law_turns => k_is)
    (case c1__law_heard => k_is)
    (case k1__law_heard => k_is)
    (case c1__law_runs_right => k_is)
    (case k1__law_runs_right => k_is)
    (case c1__law_rows_right => k_is)
    (case k1__law_rows_right => k_is)
    (case c1__law_listed_right => k_is)
    (case k1__law_listed_right => k_is)
    (case c1_law => k_is)
    (case k1_law => k_is)
    (case z1_ValueError => k_is)
    (case z1_all => k_is)
    (case z1_bool => k_is)
    (case z1_enumerate => k_is)
    (case z1_int => k_is)
    (case z1_isinstance => k_is)
    (case z1_len => k_is)
    (case z1_list => k_is)
    (case z1_max => k_is)
    (case z1_range => k_is)
    (case z1_sorted => k_is)
    (case z1_str => k_is)
    (case z1_tuple => k_is)
    (case z1_zip => k_is)
    (case k1_CanNot => k_is)
    (case b1_CanNot => k_is)
    (case t1_CanNot => k_is)
    (case d1_CanNot => k_is)
    (case s1_CanNot_CanNot => k_is)
    (case x1_CanNot => k_exc)
    (case ga_CanNot => k_is)
    (case gg_CanNot => k_is)
    (case ca_CanNot => k_is)
    (case mo_CanNot => k_is)
    (case iv_CanNot_ValueError => kit_is)
    (case oc_get => k_is)
    (case oc_tk => k_is)
