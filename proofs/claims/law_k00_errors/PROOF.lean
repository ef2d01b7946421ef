import PyProof.Rows.All
import Wide.All
import OpenK.AllK
import Wide.FinOn
import PySem.Challenge.RW_bothroads_k00_errors
import HandS.ForMost
import HandS.ForExc
import HandS.TryMany
import HandS.CallSlots
import KE.KDictKeyed
import KE.KDictCopyH
import HandS.Lambda
import HandS.TupAny
import HandS.TupMul
import HandS.Conv
import HandS.IsInst
import HandS.Exc
import KE.KExcInit
import HandS.Flow
import HandS.Deep
import HandS.WideBits
import PyProof.P3In
import HandS.Words
import HandS.Iter
import KE.GoesZip
import KE.GoesEnum
import KE.GoesEnumKw
import HandS.NoneIn
import HandS.DictComp
import KE.KExcIs
import HandS.ExcIs
import HandS.List
import HandS.SortInts
import HandS.Style
import HandS.TupSets
import HandS.Wide
import HandS.EndBits
import HandS.EndTab
import HandS.More
import HandS.Rev
import KE.DatumOrd
import KE.GoesCell
import KE.KEqDict
import KE.KDictZip
import KE.KItemsList
import HandS.MapObj
import HandS.SetBool
import KE.IntBitsLaws
import HandS.Strs
import HandS.SetFor
import HandS.Keys
import KE.SortData
import KE.DataMinKey
import HandS.SortKw
import PyProof.Transfer
import PyProof.DictMoreH
import KE.KDictWalk
import PyProof.SeqIndex
import HandS.TupLe
import HandS.ExcValue
set_option Elab.async false
set_option linter.all false
set_option maxRecDepth 100000
set_option maxHeartbeats 2000000
set_option autoImplicit false
noncomputable section
namespace Rh
open PySem PySem.Spec PyProof.Rows L2
/-! ### tuples that keep their own object (no dict hangs on it) -/
abbrev NewT (H : Hp) (vs : List V) (Q : VK) : Prop := ∀ (p : Addr) (o : Obj), H p = none → o.dict = none → Q (.ref p) (upd H p (.frz o (.tup vs)))
section
variable {X : Cx} {pins : List (Addr × Obj)} {σ : L2.St} {H : Hp} {s : Shared} {vs : List V} {its : List Value} {tk : Nat} {Q : VK}
theorem ft_new (J : L2.Inv X pins σ H s) (r : Vals vs its) (hz : vs.length ≤ sizeLine) (q : NewT H vs Q) :
    ∃ x H', L2.Inv X pins σ H' { s with heap := s.heap.push { cls := .type "tuple", data := .seq its.toArray }, toks := tk } ∧ RelV x (.ref s.heap.objs.size) ∧ Q x H' :=
  ⟨.ref s.heap.objs.size, _, J.laid (o := .frz { cls := .type "tuple", data := .seq its.toArray } (.tup vs)) (fun b u e => Heap.get?_push_of_some _ e) (Nat.le_refl _) ⟨Heap.get?_push_size _ rfl, hz, its, r, ⟨_, Heap.get?_push_size _ rfl, rfl, _, rfl⟩⟩, rfl, q _ _ (J.hok.fresh (Nat.le_refl _)) rfl⟩
def tTupF (t : TA) : TE := fun σ H Q => t σ H fun xs H1 => xs.length ≤ sizeLine ∧ NewT H1 xs Q
theorem pe_tupF {es : List Expr} {t : TA} {x1} {pos : Pos} (ha : PA X es t) : PE X (.Tuple es x1 pos) (tTupF t) :=
  ⟨fun pins s σ H Q J w => wpAny_Tuple_spliced (thn (ha.run pos pins s σ H _ J w) fun us s1 ⟨xs, H1, J1, r, z, q⟩ => ⟨by rw [← r.length]; exact z, ft_new (tk := s1.toks) J1 r z q⟩)⟩
def rCatF (K : PySem.W.Frag) : R2 := fun x y H Q => ∃ a b xs ys, x = .ref a ∧ y = .ref b ∧ SqT K H a xs ∧ SqT K H b ys ∧ xs.length + ys.length ≤ sizeLine ∧
  (xs = [] → Q (.ref b) H) ∧ (xs ≠ [] → ys = [] → Q (.ref a) H) ∧ (xs ≠ [] → ys ≠ [] → NewT H (xs ++ ys) Q)
theorem op_catF : OpR X (binaryOp .Add) (rCatF X.K) := by
  intro pins s σ H x y v u Q J rx ry w
  obtain ⟨a, b, xs, ys, rfl, rfl, ta, tb, z, k0, k1, k2⟩ := w
  cases rx
  cases ry
  obtain ⟨its1, r1, p1, _⟩ := J.tuple ta
  obtain ⟨its2, r2, p2, _⟩ := J.tuple tb
  by_cases hx : xs = []
  · subst hx
    cases r1
    exact cat_tup0 p1 p2 ⟨.ref b, H, J, rfl, k0 rfl⟩
  · exact HT.cat_tup p1 p2 (fun e => hx (r1.nil_iff.mp e)) (fun e => ⟨.ref a, H, J, rfl, k1 hx (r2.nil_iff.mp e)⟩) (fun e => ft_new (tk := s.toks) J (r1.append r2) (by rw [List.length_append]; exact z) (k2 hx fun e' => e (r2.nil_iff.mpr e'))) (by rw [← r1.length, ← r2.length]; exact z)
def rSlF (K : PySem.W.Frag) : V → Option Int → Option Int → Hp → VK → Prop := fun x lo hi H Q => ∃ a xs, x = .ref a ∧ SqT K H a xs ∧
  (HT.sIx xs.length 0 lo = 0 ∧ HT.sIx xs.length xs.length hi = xs.length → Q (.ref a) H) ∧ (¬ (HT.sIx xs.length 0 lo = 0 ∧ HT.sIx xs.length xs.length hi = xs.length) → NewT H (cutV xs lo hi) Q)
theorem sl_tupF : SlR X (rSlF X.K) := by
  intro pins s σ H x v vl vu lo hi sl Q J rx hs pl pu w
  obtain ⟨a, xs, rfl, t, k1, k2⟩ := w
  by_cases hw : HT.sIx xs.length 0 lo = 0 ∧ HT.sIx xs.length xs.length hi = xs.length
  · exact sl_tupA pins s σ H _ v vl vu lo hi sl Q J rx hs pl pu ⟨a, xs, rfl, t, k1, fun e => absurd hw e⟩
  · cases rx
    obtain ⟨its, r, ht, z⟩ := J.tuple t
    have e : its.toArray.size = xs.length := by rw [List.size_toArray]; exact r.length.symm
    refine ⟨"tuple", _, PyProof.Rows.slot_tuple_getitem.lookup, ht.typeIs, HT.getItem_tuple_cut ht hs pl pu (by rw [e]; exact hw) ?_ (by rw [e]; exact z)⟩
    rw [e]
    exact ft_new (tk := s.toks) J ((r.drop (HT.sIx xs.length 0 lo)).take (HT.sIx xs.length xs.length hi - HT.sIx xs.length 0 lo)) (Nat.le_trans (cutV_length xs lo hi) z) (k2 hw)
def rRepF (K : PySem.W.Frag) : R2 := fun x y H Q => ∃ l k xs, x = .ref l ∧ y = .int k ∧ SqT K H l xs ∧ xs ≠ [] ∧ 2 ≤ k ∧ k ≤ 1000 ∧ xs.length ≤ 1000 ∧ NewT H (List.replicate k.toNat xs).flatten Q
theorem op_repF : OpR X (binaryOp .Mult) (rRepF X.K) := by
  intro pins s σ H x y v u Q J rx ry w
  obtain ⟨l, k, xs, rfl, rfl, t1, ne, k1, k2, z, q⟩ := w
  cases rx
  obtain ⟨t, rfl⟩ := ry
  obtain ⟨its, r, ⟨⟨cls, dd, data, sl⟩, ho, e1, n, e2⟩, _⟩ := J.tuple t1
  simp only at e1 e2
  subst e1 e2
  have hl : its.length = xs.length := r.length.symm
  have hi : its.toArray.isEmpty = false := by
    cases its with
    | nil => exact absurd (List.eq_nil_of_length_eq_zero hl.symm) ne
    | cons a b => rfl
  have hs : its.toArray.size = xs.length := by rw [List.size_toArray, hl]
  have hm : ((its.toArray.size : Nat) : Int) * k ≤ 1000000 := by
    rw [hs]
    have : ((xs.length : Nat) : Int) * k ≤ 1000 * k := Int.mul_le_mul_of_nonneg_right (by omega) (by omega)
    omega
  have f1 : k.toNat * xs.length ≤ 1000 * 1000 := Nat.mul_le_mul (by omega) z
  have fl : (List.replicate k.toNat its).flatten.length ≤ sizeLine := by
    rw [PyProof.Rows.lm_len_rep_flat, hl, sizeLine_eq]; omega
  have c0 : (decide (k < -(2 ^ 63)) || decide (k ≥ 2 ^ 63)) = false := by rw [decide_eq_false (by omega), decide_eq_false (by omega)]; rfl
  have c1 : (its.toArray.isEmpty || k == 1) = false := by rw [hi, Bool.false_or]; exact beq_eq_false_iff_ne.mpr (by omega)
  have c2 : (decide (k ≤ 0) || its.toArray.isEmpty) = false := by rw [hi, Bool.or_false]; exact decide_eq_false (by omega)
  have c4 : Builtin.Tuple.tupleTooMany (((its.toArray.size : Nat) : Int) * k) = false := by
    unfold Builtin.Tuple.tupleTooMany
    rw [sizeLine_eq]; exact decide_eq_false (by omega)
  refine wpAny_binaryOp_repeat_ref (T := "tuple") (U := "int") (by decide) ⟨_, ho, rfl⟩ (fun s' => typeIs_int s' k t) noFill_tuple_mul F.fills_int_mul F.slot_int_rmul repeat_tuple F.slot_int_index.lookup (call_meets F.slot_int_rmul (typeIs_int s k t) F.entry_int_rmul (F.args_int_rmul_2 _ _) (int_rmul_tuple k t l its.toArray n dd sl)
    ⟨ho, rfl, ⟨_, ho, rfl⟩, call_meets F.slot_tuple_mul ⟨_, ho, rfl⟩ F.entry_tuple_mul (F.args_tuple_mul_2 _ _) (tuple_mulW l its.toArray n dd sl k t c0 c1 c2 (by omega) c4 (by rw [size_rep, List.size_toArray]; exact fl)) ⟨ho, ?_⟩⟩)
  rw [size_rep]
  exact ft_new (tk := s.toks) J (r.rep k.toNat) (by rw [PyProof.Rows.lm_len_rep_flat, sizeLine_eq]; omega) q
/-- isinstance(x, (c1, c2, ..)), the tuple as above -/
def rIsiF (K : PySem.W.Frag) : List V → Hp → VK → Prop := fun xs H Q => ∃ (x : V) (tp : Addr) (cs : List V) (ob : Obj) (t : Value) (us : List Value) (b : Bool), xs = [x, .ref tp] ∧ H tp = some (.frz ob (.tup cs)) ∧ Paired ClsV cs us ∧ TyX K H x t ∧ PySem.W.kitAny K t us = some b ∧ Q (.bl b) H
theorem call_isiF : CallR X (.builtin "isinstance") (rIsiF X.K) := by
  intro pins s σ H xs us Q J r w
  obtain ⟨x, tp, cs, ob, t, ws, b, rfl, hT, k, ty, e, q⟩ := w
  obtain ⟨u1, u2, rfl, r1, r2⟩ := vals2 r
  cases (show u2 = Value.ref tp from r2)
  obtain ⟨P, Z, p, hx⟩ := kit_of J r1 ty
  obtain ⟨_, _, its, rv, ⟨oc, od, dt, sl⟩, e1, e2, n, e3⟩ := (show ObjOk X.prog X.w H s.heap tp (.frz ob (.tup cs)) from J.hok tp _ hT)
  have e4 := ClsV.all k rv
  subst e4
  simp only at e2 e3
  subst e2 e3
  exact PySem.W.kia_tup Z J.kIn p e1 e hx fun tk => ⟨.bl b, H, J.tok tk, rfl, q⟩
end
end Rh

set_option Elab.async false
set_option linter.all false
set_option maxRecDepth 100000
set_option maxHeartbeats 2000000
set_option autoImplicit false
namespace Rh
open PySem PySem.Spec PyProof.Rows L2
open PySem.W PySem.Calls PySem.HandSPX
section
variable {prog : Program} {w : World} {M : Model} {A : Around} {E : Value → Shared → Prop} {R : Result → Shared → Prop} {h : Heap} {g : Array GenState} {d : Drawn} {t : Nat} {os : OsState}
variable {nm q : Str} {C N : Addr} {bs bm bmB : List Value} {hdct : Bool} {sn : List Str} {sub : List Value} {ab : Bool} {col : Option Bool} {dd : Option Addr} {k0 k1 k2 k3 k5 : Option Value} {B newId initId : String}
theorem check_newK (F : ExcBaseFacts B newId initId bmB) (hT : ∀ X : String, bm.contains (.type X) = bmB.contains (.type X)) {f : Str} {v : Value} {Q : Unit → Shared → Prop}
    (hC : h.get? C = some (excClassObj nm q C N bs bm hdct sn sub ab col dd k0 k1 k2 k3 k5 newId)) (hq : Q () ⟨h, g, d, t, os⟩) : wpAny M A (checkBuiltinCall newId ⟨[.ref C], [(f, v)]⟩) Q E ⟨h, g, d, t, os⟩ := by
  have c1 : (Value.ref C :: bm).contains (.type B) = true := by rw [List.contains_cons, hT, F.hasB, Bool.or_true]
  have c2 := F.noStar
  simp only [checkBuiltinCall, F.newKind, F.newSplit, F.newRow]
  repeat (first | refine wpAny_loadPart_at hC ?_ | (refine wpAny_isSubtype_exc hC ?_; rw [c1]) | refine wpAny_staticBase_exc hC ?_ | refine wpAny_madeBy_exc hC ?_ | simp only [bne_self_eq_false, Bool.false_eq_true, if_false] | wp_step)
  exact hq
theorem newK (F : ExcBaseFacts B newId initId bmB) (hT : ∀ X : String, bm.contains (.type X) = bmB.contains (.type X)) {f : Str} {v : Value}
    (hC : h.get? C = some (excClassObj nm q C N bs bm hdct sn sub ab col dd k0 k1 k2 k3 k5 newId))
    (hq : R (.ok (.ret (.ref (h.objs.size + 1)))) ⟨(h.push { cls := .type "tuple", data := .seq #[] }).push (excO C h.objs.size), g, d, t, os⟩) :
    codeAny (model prog w) A (.builtin newId ⟨[.ref C], [(f, v)]⟩) R ⟨h, g, d, t, os⟩ := by
  have h0 := F.ends
  have c1 : (Value.ref C :: bm).contains (.type B) = true := by rw [List.contains_cons, hT, F.hasB, Bool.or_true]
  have c2 : (Value.ref C :: bm).contains (.type "AttributeError") = false := by rw [List.contains_cons, hT, F.noAttr]; rfl
  have c3 : (Value.ref C :: bm).contains (.type "NameError") = false := by rw [List.contains_cons, hT, F.noName]; rfl
  have hrest : ([] : List Value).length ≤ sizeLine := Nat.zero_le _
  refine codeAny_builtinAt F.entry ?_
  unfold Builtin.«BaseException.__new__»
  refine PySem.wpAt_bind ?_
  show PySem.wpAt _ _ _ (stack >>= _) _ _ _
  refine PySem.wpAt_bind (PySem.wpAt_stack fun p below => PySem.wpAt_of_wpAny ?_)
  wp_walk
  refine PySem.wpAt_of_wpAny ?_
  rw [F.owner]
  repeat (first | with_reducible refine wpAny_madeHere_exc F.canon hC ?_ | with_reducible refine wpAny_loadPart_at hC ?_ | (with_reducible refine wpAny_isSubtype_exc hC ?_; first | rw [c1] | rw [c2] | rw [c3]) | wp_step)
  show R _ _
  rw [Heap.size_push]
  exact hq
theorem type_callK (F : ExcBaseFacts B newId initId bmB) (hT : ∀ X : String, bm.contains (.type X) = bmB.contains (.type X)) {f : Str} {v : Value} {fI : Addr} {Q : Fin → Shared → Prop}
    (hC : h.get? C = some (excClassObj nm q C N bs bm hdct sn sub ab col dd k0 k1 k2 k3 k5 newId))
    (hi : W.Looks (model prog w) h (typeLookup (.ref C) "__init__") (some (.ref fI))) (hb : ∀ self, W.Looks (model prog w) h (bindSpecial (.ref fI) self) (.ref fI, [self]))
    (hq : codeAny (model prog w) A (.call (.ref fI) ⟨[.ref (h.objs.size + 1)], [(f, v)]⟩)
      (fun r s' => match r with | .ok (.ret v) => v = .none ∧ Q (.done (.ret (.ref (h.objs.size + 1)))) s' | .ok _ => False | .error e => E e s')
      ⟨(h.push (W.kdv_tup [])).push (excO C h.objs.size), g, d, t, os⟩) :
    wpAny (model prog w) A (Builtin.«type.__call__» ⟨[.ref C], [(f, v)]⟩) Q E ⟨h, g, d, t, os⟩ := by
  repeat (first | with_reducible refine wpAny_loadPart_at hC ?_ | with_reducible refine wpAny_madeBy_exc hC ?_ | wp_step)
  refine codeAny_call_builtin_code (Code.quiet_builtin _ F.quiet) (check_newK F hT hC ?_)
  refine newK F hT hC ?_
  show wpAny _ _ _ _ _ _
  have k : ∀ b o, h.get? b = some o → ((h.push (W.kdv_tup [])).push (excO C h.objs.size)).get? b = some o := fun b o e => Heap.get?_push_of_some _ (Heap.get?_push_of_some _ e)
  have e1 := k _ _ hC
  have e2 : ((h.push (W.kdv_tup [])).push (excO C h.objs.size)).get? (h.objs.size + 1) = some (excO C h.objs.size) := by heap_get
  have e3 : (Value.ref C :: bm).contains (.ref C) = true := by simp
  have i1 := hi.keeps k
  have b1 := (hb (.ref (h.objs.size + 1))).keeps k
  unfold isInstance
  repeat (first | with_reducible refine wpAny_loadPart_at e2 ?_ | (with_reducible refine wpAny_isSubtype_exc e1 ?_; rw [e3]) | wp_step)
  show wpAny _ _ (typeLookup (.ref C) _) _ _ _
  refine i1.at ?_
  refine wpAny_holding (wpAny_bind (b1.at ?_))
  refine wpAny_bind (wpAny_call (codeAny_mono hq fun r s' z => ?_))
  rcases r with e | (v | _ | _ | _) <;> first | exact z | exact z.elim | skip
  obtain ⟨rfl, z⟩ := z
  first
    | exact wpAny_pure (wpAny_pure z)
    | (wp_walk; exact z)
theorem check_typeK {f : Str} {v : Value} {Q : Unit → Shared → Prop} (hC : h.get? C = some (excClassObj nm q C N bs bm hdct sn sub ab col dd k0 k1 k2 k3 k5 newId))
    (hq : Q () ⟨h, g, d, t, os⟩) : wpAny M A (checkBuiltinCall "type.__call__" ⟨[.ref C], [(f, v)]⟩) Q E ⟨h, g, d, t, os⟩ := by
  have f3 := tc_sub
  have hT : (⟨h, g, d, t, os⟩ : Shared).TypeIs (.ref C) "type" := ⟨_, hC, rfl⟩
  simp only [checkBuiltinCall, tc_kind, tc_split]
  repeat (any_goals (first | assumption | with_reducible refine wpAny_loadPart_at hC ?_ | with_reducible refine wpAny_onRaise ?_ | with_reducible refine wpAny_map ?_ | wp_step))
theorem call_ownK (F : ExcBaseFacts B newId initId bmB) (hT : ∀ X : String, bm.contains (.type X) = bmB.contains (.type X)) {f : Str} {v : Value} {fI : Addr}
    (hC : h.get? C = some (excClassObj nm q C N bs bm hdct sn sub ab col dd k0 k1 k2 k3 k5 newId))
    (hi : W.Looks (model prog w) h (typeLookup (.ref C) "__init__") (some (.ref fI))) (hb : ∀ self, W.Looks (model prog w) h (bindSpecial (.ref fI) self) (.ref fI, [self]))
    (hq : codeAny (model prog w) (A.under (.builtin "type.__call__" ⟨[.ref C], [(f, v)]⟩)) (.call (.ref fI) ⟨[.ref (h.objs.size + 1)], [(f, v)]⟩) (W.InitBack (h.objs.size + 1) R)
      ⟨(h.push (W.kdv_tup [])).push (excO C h.objs.size), g, d, t, os⟩) :
    codeAny (model prog w) A (.call (.ref C) ⟨[], [(f, v)]⟩) R ⟨h, g, d, t, os⟩ := by
  have f1 := tc_lookup
  have f2 := tc_bind (.ref C)
  have hTy : (⟨h, g, d, t, os⟩ : Shared).TypeIs (.ref C) "type" := ⟨_, hC, rfl⟩
  refine codeAny_of_tree ?_
  show wpAny _ _ (callAny (.ref C) _) _ _ _
  repeat (any_goals (first | assumption | with_reducible refine wpAny_loadPart_at hC ?_ | wp_step))
  refine ⟨rfl, ?_⟩
  refine codeAny_call_builtin_at (Code.quiet_builtin _ (by decide +kernel)) entry_typeCall (check_typeK hC (type_callK F hT hC hi hb ?_))
  refine codeAny_mono hq fun r s' z => ?_
  rcases r with e | (v | _ | _ | _) <;> exact z
end
end Rh

set_option Elab.async false
set_option linter.all false
set_option maxRecDepth 100000
set_option autoImplicit false
namespace Rh
open PySem PySem.Spec PyProof.Rows L2

/-! ### data: values are trees over numbered boxes; boxes (what can change) stand in a table -/
inductive Ty where | int | bool | str | tuple | list | dict | none
  deriving DecidableEq
def Ty.name : Ty → String
  | .int => "int" | .bool => "bool" | .str => "str" | .tuple => "tuple" | .list => "list" | .dict => "dict" | .none => "NoneType"
/-- values; `gl x` is what the module's name x holds -/
inductive D where
  | non | bl (b : Bool) | int (i : Int) | str (x : Str)
  | tup (ds : List D) | box (n : Nat) | ty (n : Ty) | scr (ds : List D) | gl (x : Str)
  /-- the lambda that was handed in: only a slot holds it -/
  | lm
/-- what stands in a box -/
inductive O where
  | lst (ds : List D)
  | dct (nks : List NestedKey) (ks vs : List D)
  | lam (q : Nat) (cs : List D)
  | exo (c : Str) (fs : List (Str × D))

/-! a table by binary places -/
inductive Tr (α : Type) where
  | nil
  | node (v : Option α) (l r : Tr α)
def Tr.get {α : Type} (t : Tr α) : Nat → Option α := Tr.rec (motive := fun _ => Nat → Option α) (fun _ => none) (fun v _ _ pl pr i => match Nat.beq i 0 with
  | true => v
  | false => match Nat.beq (Nat.mod i 2) 1 with
    | true => pl (Nat.div i 2)
    | false => pr (Nat.sub (Nat.div i 2) 1)) t
def Tr.put0 {α : Type} (a : α) : Nat → Tr α → Nat → Option (Tr α)
  | 0, _, _ => none
  | f + 1, .nil, i => match Nat.beq i 0 with
    | true => some (.node (some a) .nil .nil)
    | false => match Nat.beq (i % 2) 1 with
      | true => match Tr.put0 a f .nil (i / 2) with
        | some t => some (.node none t .nil)
        | none => none
      | false => match Tr.put0 a f .nil (i / 2 - 1) with
        | some t => some (.node none .nil t)
        | none => none
  | f + 1, .node v l r, i => match Nat.beq i 0 with
    | true => some (.node (some a) l r)
    | false => match Nat.beq (i % 2) 1 with
      | true => match Tr.put0 a f l (i / 2) with
        | some t => some (.node v t r)
        | none => none
      | false => match Tr.put0 a f r (i / 2 - 1) with
        | some t => some (.node v l t)
        | none => none
theorem beq_dec (i j : Nat) : Nat.beq i j = decide (i = j) := by
  by_cases h : i = j
  · subst h; simp [Nat.beq_refl]
  · rw [decide_eq_false h]; exact Bool.eq_false_iff.mpr fun q => h (Nat.eq_of_beq_eq_true q)
theorem Tr.get_node {α : Type} (v : Option α) (l r : Tr α) (i : Nat) : (Tr.node v l r).get i = if i = 0 then v else if i % 2 = 1 then l.get (i / 2) else r.get (i / 2 - 1) := by
  show (match Nat.beq i 0 with | true => v | false => match Nat.beq (i % 2) 1 with | true => l.get (i / 2) | false => r.get (i / 2 - 1)) = _
  rw [beq_dec, beq_dec]
  by_cases h : i = 0
  · simp [h]
  · by_cases q : i % 2 = 1 <;> simp [h, q]
theorem Tr.get_nil {α : Type} (i : Nat) : (Tr.nil : Tr α).get i = none := rfl
theorem Tr.put0_get {α : Type} {a : α} : ∀ {f : Nat} {t t' : Tr α} {i : Nat}, Tr.put0 a f t i = some t' → ∀ j, t'.get j = if j = i then some a else t.get j
  | 0, _, _, _, h, _ => by cases h
  | f + 1, .nil, t', i, h, j => by
    unfold Tr.put0 at h
    rw [beq_dec, beq_dec] at h
    by_cases h0 : i = 0
    · subst h0
      simp at h; subst h
      rw [Tr.get_node, Tr.get_nil, Tr.get_nil]
      by_cases hj : j = 0 <;> simp [hj, Tr.get_nil]
    · by_cases h1 : i % 2 = 1
      · simp only [h0, h1, decide_false, decide_true] at h
        cases e : Tr.put0 a f .nil (i / 2) with
        | none => rw [e] at h; cases h
        | some u =>
          rw [e] at h; cases h
          rw [Tr.get_node, Tr.put0_get e, Tr.get_nil]
          by_cases hj : j = 0
          · subst hj; simp [Tr.get_nil, Ne.symm h0]
          · by_cases hp : j % 2 = 1
            · simp only [hj, hp, if_true, if_false]
              by_cases q : j / 2 = i / 2
              · have : j = i := by omega
                simp [this]
              · have : j ≠ i := fun z => q (by rw [z])
                simp [q, this, Tr.get_nil]
            · have : j ≠ i := fun z => hp (by rw [z]; exact h1)
              simp [hj, hp, this, Tr.get_nil]
      · simp only [h0, h1, decide_false] at h
        cases e : Tr.put0 a f .nil (i / 2 - 1) with
        | none => rw [e] at h; cases h
        | some u =>
          rw [e] at h; cases h
          rw [Tr.get_node, Tr.put0_get e, Tr.get_nil]
          by_cases hj : j = 0
          · subst hj; simp [Tr.get_nil, Ne.symm h0]
          · by_cases hp : j % 2 = 1
            · have : j ≠ i := fun z => h1 (by rw [← z]; exact hp)
              simp [hj, hp, this, Tr.get_nil]
            · simp only [hj, hp, if_false]
              by_cases q : j / 2 - 1 = i / 2 - 1
              · have : j = i := by omega
                simp [this]
              · have : j ≠ i := fun z => q (by rw [z])
                simp [q, this, Tr.get_nil]
  | f + 1, .node v l r, t', i, h, j => by
    unfold Tr.put0 at h
    rw [beq_dec, beq_dec] at h
    by_cases h0 : i = 0
    · subst h0
      simp at h; subst h
      rw [Tr.get_node, Tr.get_node]
      by_cases hj : j = 0 <;> simp [hj]
    · by_cases h1 : i % 2 = 1
      · simp only [h0, h1, decide_false, decide_true] at h
        cases e : Tr.put0 a f l (i / 2) with
        | none => rw [e] at h; cases h
        | some u =>
          rw [e] at h; cases h
          rw [Tr.get_node, Tr.put0_get e, Tr.get_node]
          by_cases hj : j = 0
          · subst hj; simp [Ne.symm h0]
          · by_cases hp : j % 2 = 1
            · simp only [hj, hp, if_true, if_false]
              by_cases q : j / 2 = i / 2
              · have : j = i := by omega
                simp [this]
              · have : j ≠ i := fun z => q (by rw [z])
                simp [q, this, Tr.get_nil]
            · have : j ≠ i := fun z => hp (by rw [z]; exact h1)
              simp [hj, hp, this]
      · simp only [h0, h1, decide_false] at h
        cases e : Tr.put0 a f r (i / 2 - 1) with
        | none => rw [e] at h; cases h
        | some u =>
          rw [e] at h; cases h
          rw [Tr.get_node, Tr.put0_get e, Tr.get_node]
          by_cases hj : j = 0
          · subst hj; simp [Ne.symm h0]
          · by_cases hp : j % 2 = 1
            · have : j ≠ i := fun z => h1 (by rw [← z]; exact hp)
              simp [hj, hp, this]
            · simp only [hj, hp, if_false]
              by_cases q : j / 2 - 1 = i / 2 - 1
              · have : j = i := by omega
                simp [this]
              · have : j ≠ i := fun z => q (by rw [z])
                simp [q, this, Tr.get_nil]
def Tr.put {α : Type} (a : α) (f : Nat) (t : Tr α) : Nat → Option (Tr α) := Tr.rec (motive := fun _ => Nat → Option (Tr α)) (fun i => match Nat.beq i 0 with
  | true => some (.node (some a) .nil .nil)
  | false => Tr.put0 a f .nil i) (fun v l r pl pr i => match Nat.beq i 0 with
  | true => some (.node (some a) l r)
  | false => match Nat.beq (Nat.mod i 2) 1 with
    | true => match pl (Nat.div i 2) with
      | some t => some (.node v t r)
      | none => none
    | false => match pr (Nat.sub (Nat.div i 2) 1) with
      | some t => some (.node v l t)
      | none => none) t
theorem Tr.put_nil {α : Type} {a : α} {f i : Nat} : Tr.put a f .nil i = if i = 0 then some (.node (some a) .nil .nil) else Tr.put0 a f .nil i := by
  show (match Nat.beq i 0 with | true => some (Tr.node (some a) .nil .nil) | false => Tr.put0 a f .nil i) = _
  rw [beq_dec]
  by_cases h : i = 0 <;> simp [h]
theorem Tr.put_node {α : Type} {a : α} {f i : Nat} {v : Option α} {l r : Tr α} : Tr.put a f (.node v l r) i = if i = 0 then some (.node (some a) l r) else if i % 2 = 1 then (Tr.put a f l (i / 2)).map (fun t => Tr.node v t r) else (Tr.put a f r (i / 2 - 1)).map fun t => Tr.node v l t := by
  show (match Nat.beq i 0 with
    | true => some (Tr.node (some a) l r)
    | false => match Nat.beq (i % 2) 1 with
      | true => match Tr.put a f l (i / 2) with
        | some t => some (Tr.node v t r)
        | none => none
      | false => match Tr.put a f r (i / 2 - 1) with
        | some t => some (Tr.node v l t)
        | none => none) = _
  rw [beq_dec, beq_dec]
  by_cases h : i = 0
  · simp [h]
  · by_cases q : i % 2 = 1
    · simp only [h, q, decide_false, decide_true, if_true, if_false]
      cases Tr.put a f l (i / 2) <;> rfl
    · simp only [h, q, decide_false, if_false]
      cases Tr.put a f r (i / 2 - 1) <;> rfl
theorem Tr.put_get {α : Type} {a : α} {f : Nat} : ∀ {t t' : Tr α} {i : Nat}, Tr.put a f t i = some t' → ∀ j, t'.get j = if j = i then some a else t.get j
  | .nil, t', i, h, j => by
    rw [Tr.put_nil] at h
    by_cases h0 : i = 0
    · rw [if_pos h0] at h
      cases h
      subst h0
      rw [Tr.get_node, Tr.get_nil, Tr.get_nil]
      by_cases hj : j = 0 <;> simp [hj, Tr.get_nil]
    · rw [if_neg h0] at h
      exact Tr.put0_get h j
  | .node v l r, t', i, h, j => by
    rw [Tr.put_node] at h
    by_cases h0 : i = 0
    · rw [if_pos h0] at h
      cases h
      subst h0
      rw [Tr.get_node, Tr.get_node]
      by_cases hj : j = 0 <;> simp [hj]
    · rw [if_neg h0] at h
      by_cases h1 : i % 2 = 1
      · rw [if_pos h1] at h
        obtain ⟨u, e, rfl⟩ := Option.map_eq_some_iff.mp h
        rw [Tr.get_node, Tr.get_node, Tr.put_get e]
        by_cases hj : j = 0
        · subst hj; simp [Ne.symm h0]
        · by_cases hp : j % 2 = 1
          · simp only [hj, hp, if_true, if_false]
            by_cases q : j / 2 = i / 2
            · have : j = i := by omega
              simp [this]
            · have : j ≠ i := fun z => q (by rw [z])
              simp [q, this]
          · have : j ≠ i := fun z => hp (by rw [z]; exact h1)
            simp [hj, hp, this]
      · rw [if_neg h1] at h
        obtain ⟨u, e, rfl⟩ := Option.map_eq_some_iff.mp h
        rw [Tr.get_node, Tr.get_node, Tr.put_get e]
        by_cases hj : j = 0
        · subst hj; simp [Ne.symm h0]
        · by_cases hp : j % 2 = 1
          · have : j ≠ i := fun z => h1 (by rw [← z]; exact hp)
            simp [hj, hp, this]
          · simp only [hj, hp, if_false]
            by_cases q : j / 2 - 1 = i / 2 - 1
            · have : j = i := by omega
              simp [this]
            · have : j ≠ i := fun z => q (by rw [z])
              simp [q, this]
/-- all boxes -/
structure Hs where
  n : Nat
  t : Tr O
  /-- boxes that are walked: not to be changed -/
  lk : List Nat
def Hs.get (h : Hs) (i : Nat) : Option O := h.t.get i
def Hs.set (h : Hs) (i : Nat) (o : O) : Option Hs := match h.lk.all fun j => !Nat.beq j i with
  | false => none
  | true => match Tr.put o 40 h.t i with
    | some t => some ⟨h.n, t, h.lk⟩
    | none => none
def Hs.new (h : Hs) (o : O) : Option Hs := match Tr.put o 40 h.t h.n with
  | some t => some ⟨h.n + 1, t, h.lk⟩
  | none => none
theorem Hs.set_ok {h h' : Hs} {i : Nat} {o : O} (e : h.set i o = some h') : i ∉ h.lk ∧ h'.lk = h.lk ∧ h'.n = h.n ∧ ∀ j, h'.get j = if j = i then some o else h.get j := by
  unfold Hs.set at e
  split at e
  · cases e
  · rename_i hl
    split at e
    · rename_i t q
      cases e
      refine ⟨fun m => ?_, rfl, rfl, Tr.put_get q⟩
      have := List.all_eq_true.mp hl i m
      rw [Nat.beq_refl] at this
      cases this
    · cases e
theorem Hs.new_lk {h h' : Hs} {o : O} (e : h.new o = some h') : h'.lk = h.lk := by
  unfold Hs.new at e; split at e <;> cases e; rfl
theorem Hs.new_n {h h' : Hs} {o : O} (e : h.new o = some h') : h'.n = h.n + 1 := by
  unfold Hs.new at e; split at e <;> cases e; rfl
theorem Hs.new_get {h h' : Hs} {o : O} (e : h.new o = some h') (j : Nat) : h'.get j = if j = h.n then some o else h.get j := by
  unfold Hs.new at e
  split at e
  · rename_i t q; cases e; exact Tr.put_get q j
  · cases e

/-! ### keys -/
mutual
def keyD : D → Option NestedKey
  | .non => some .none
  | .bl b => some (.num (if b = true then 1 else 0))
  | .int i => some (.num i)
  | .str x => some (.text x)
  | .tup ds => (keysD ds).map .tup
  | .box _ => none
  | .gl _ => none
  | .ty _ => none
  | .scr _ => none
  | .lm => none
def keysD : List D → Option (List NestedKey)
  | [] => some []
  | d :: ds => match keyD d, keysD ds with
    | some k, some ks => some (k :: ks)
    | _, _ => none
end
/-- keys of one kind: plain ones alone, or tuples not too deep -/
def leafK : NestedKey → Bool
  | .tup _ => false
  | _ => true
def homK (ks : List NestedKey) : Bool := ks.all leafK || ks.all fun x => !leafK x && decide (x.depth ≤ 8)
/-- a dict's raw object: entries with the keys' kinds -/
def DicO (w : World) (a : Addr) (es : Nat × List (NestedKey × V × V)) : HO := .ext fun h => (a == sysModules) = false ∧ es.2.length ≤ sizeLine ∧ ∃ (o : Obj) (ents : Array DictEntry), h.get? a = some o ∧ o.ExactDict ∧ o.data = .dict ents es.1 ∧
  Paired (fun (e : NestedKey × V × V) (d : DictEntry) => d.hash = e.1.hash w ∧ RelV e.2.1 d.key ∧ RelV e.2.2 d.val) es.2 ents.toList ∧ (es.2.map (·.1)).Nodup ∧ homK (es.2.map (·.1)) = true

/-- an exception object of the class cls, made and not raised -/
def XoO (cls : Value) (d : Option Addr) (a : Addr) : HO := .ext fun h => ∃ (oe : Obj) (vs : Array Value), h.get? a = some oe ∧ oe.cls = cls ∧ oe.dict = d ∧ oe.data = .fields vs
/-- a tuple: tracked, or of the written part -/
def TupAt (K : PySem.W.Frag) (H : Hp) (a : Addr) (vs : List V) : Prop := (∃ o : Obj, H a = some (.frz o (.tup vs)) ∧ o.dict = none) ∨
    ∃ (o : Obj) (its : Array Value) (n : Nat), K.lookup a = some o ∧ o.cls = .type "tuple" ∧ o.dict = none ∧ o.data = .seq its n ∧ its.size ≤ sizeLine ∧ Vals vs its.toList
theorem TupAt.sq {K : PySem.W.Frag} {H : Hp} {a : Addr} {vs : List V} (h : TupAt K H a vs) : SqT K H a vs := by
  rcases h with ⟨o, h, _⟩ | ⟨o, its, n, e1, e2, _, r⟩
  · exact .inl (.inr ⟨o, h⟩)
  · exact .inr ⟨o, its, n, e1, e2, r⟩
/-- the script's list: kept by the law's head, never changed -/
def ScrAt (K : PySem.W.Frag) (H : Hp) (a : Addr) (vs : List V) : Prop := (∃ o, H a = some (.frz o (.lst vs))) ∨
    ∃ (o : Obj) (its : Array Value) (n : Nat), K.lookup a = some o ∧ o.cls = .type "list" ∧ o.dict = none ∧ o.data = .seq its n ∧ its.size ≤ sizeLine ∧ Vals vs its.toList
theorem ScrAt.sqL {K : PySem.W.Frag} {H : Hp} {a : Addr} {vs : List V} (h : ScrAt K H a vs) : SqL K H a vs := by
  rcases h with h | h
  · exact .inl (.inr h)
  · exact .inr h
/-- the tables of code objects that a lambda's making writes, and the names of the defs that make them -/
abbrev Mu0 := List Addr
class Tbs where
  T : List (Addr × Str)
  /-- where the lambda stands that was handed in -/
  fn : Option Addr
  /-- the boxes that stood where a def with a lambda began -/
  base : Mu0
  /-- code objects that stand -/
  cod : List (Addr × Str)
/-- the surroundings that values are read in -/
structure Ct where
  w : World
  K : PySem.W.Frag
  mg : Str → Option Value
abbrev Mu := List Addr
section
variable (C : Ct) (μ : Mu) (H : Hp)
mutual
def RepV : D → V → Prop
  | .non, v => v = .non
  | .bl b, v => v = .bl b
  | .int i, v => v = .int i
  | .str x, v => v = .str x
  | .tup ds, v => ∃ a vs, v = .ref a ∧ TupAt C.K H a vs ∧ RepL ds vs
  | .scr ds, v => ∃ a vs, v = .ref a ∧ ScrAt C.K H a vs ∧ RepL ds vs
  | .box n, v => ∃ a, v = .ref a ∧ μ[n]? = some a
  | .gl x, v => ∃ a, v = .ref a ∧ C.mg x = some (.ref a)
  | .ty n, v => v = .ty n.name
  | .lm, _ => False
def RepL : List D → List V → Prop
  | [], vs => vs = []
  | d :: ds, vs => ∃ v r, vs = v :: r ∧ RepV d v ∧ RepL ds r
end
/-- a box's content at its address -/
def ObR (a : Addr) : O → Prop
  | .lst ds => ∃ vs, H a = some (.lst vs) ∧ RepL C μ H ds vs
  | .dct nks ks vs => ∃ es, H a = some (DicO C.w a es) ∧ es.2.map (·.1) = nks ∧ keysD ks = some nks ∧ RepL C μ H ks (es.2.map (·.2.1)) ∧ RepL C μ H vs (es.2.map (·.2.2))
  | .lam _ _ => False
  | .exo c _ => ∃ (ac : Addr) (d : Option Addr), C.mg c = some (.ref ac) ∧ H a = some (XoO (.ref ac) d a) ∧ ∀ dx, d = some dx → ∃ od, H dx = some (.frz od (.own a))
/-- the tables, the code objects -/
def TbA [Tbs] (H : Hp) : Prop := LamX.Tabs Tbs.T H ∧ ∀ p ∈ Tbs.cod, H p.1 = some (LamX.CodeO p.1 p.2)
theorem TbA.ext [Tbs] {H H' : Hp} (t : TbA H) (s : ∀ b o, H b = some o → H' b = some o) : TbA H' := ⟨t.1.ext s, fun p hp => s _ _ (t.2 p hp)⟩
structure HR [Tbs] (L : List Nat) (μ : Mu) (H : Hp) (h : Hs) : Prop where
  lk : h.lk = L
  len : μ.length = h.n
  nd : μ.Nodup ∧ Tbs.base <+: μ
  tb : TbA H
  ob : ∀ (i : Nat) (a : Addr), μ[i]? = some a → ∃ o, h.get i = some o ∧ ObR C μ H a o
end
variable [Tbs]
/-- nothing, or a table -/
def NoT (o : Option HO) : Prop := ∀ u, o = some u → ∃ ps, u = .tbl ps
theorem NoT.none {o : Option HO} (e : o = none) : NoT o := fun u z => by rw [e] at z; cases z
theorem NoT.not {o : Option HO} {u : HO} (n : NoT o) (e : o = some u) (nt : ∀ ps, u ≠ .tbl ps) : False := let ⟨ps, z⟩ := n u e; nt ps z
theorem Mut.noT {u : HO} (m : Mut (some u)) : ∀ ps, u ≠ .tbl ps := fun ps z => by rw [z] at m; exact m
/-- from one heap to a later one: boxes are only added; what is no box stays, the tables aside -/
structure Go (L : List Nat) (μ : Mu) (H : Hp) (μ' : Mu) (H' : Hp) : Prop where
  lk : ∀ i ∈ L, ∀ a, μ[i]? = some a → H' a = H a
  keep : ∀ a o, H a = some o → (∀ ps, o ≠ .tbl ps) → a ∉ μ → H' a = some o
  dom : ∀ a, NoT (H' a) → NoT (H a)
  ext : ∃ r, μ' = μ ++ r
  new : ∀ a, a ∈ μ' → a ∈ μ ∨ NoT (H a)
section
variable {C : Ct} {L : List Nat} {μ μ' μ1 μ2 : Mu} {H H' H1 H2 : Hp} {h h' h1 h2 : Hs}
theorem Go.at_ (g : Go L μ H μ' H') {i : Nat} {a : Addr} (e : μ[i]? = some a) : μ'[i]? = some a := by
  obtain ⟨r, rfl⟩ := g.ext
  rw [List.getElem?_append_left (List.getElem?_eq_some_iff.mp e).1]; exact e
theorem noT_same (s : Same H H') : ∀ a, NoT (H' a) → NoT (H a) := fun a n u e => n u (s _ _ e)
theorem Go.refl : Go L μ H μ H := ⟨fun _ _ _ _ => rfl, fun _ _ e _ _ => e, fun _ e => e, ⟨[], (List.append_nil _).symm⟩, fun _ m => .inl m⟩
theorem Go.trans (g : Go L μ H μ1 H1) (g2 : Go L μ1 H1 μ2 H2) : Go L μ H μ2 H2 := by
  refine ⟨fun i m a e => (g2.lk i m a (g.at_ e)).trans (g.lk i m a e), fun a o e nt n => ?_, fun a e => g.dom a (g2.dom a e), ?_, fun a m => ?_⟩
  · refine g2.keep a o (g.keep a o e nt n) nt fun m => ?_
    rcases g.new a m with q | q
    · exact n q
    · exact q.not e nt
  · obtain ⟨r, rfl⟩ := g.ext
    obtain ⟨r2, rfl⟩ := g2.ext
    exact ⟨r ++ r2, by rw [List.append_assoc]⟩
  · rcases g2.new a m with q | q
    · exact g.new a q
    · exact .inr (g.dom a q)
theorem Go.mem (g : Go L μ H μ' H') {a : Addr} (e : a ∈ μ) : a ∈ μ' := by
  obtain ⟨r, rfl⟩ := g.ext
  exact List.mem_append_left _ e
theorem HR.mut (r : HR C L μ H h) {a : Addr} (m : a ∈ μ) : ∃ o, H a = some o ∧ Mut (some o) := by
  obtain ⟨i, e⟩ := List.mem_iff_getElem?.mp m
  obtain ⟨o, _, q⟩ := r.ob i a e
  cases o with
  | lst ds => obtain ⟨vs, e, _⟩ := q; exact ⟨_, e, True.intro⟩
  | dct nks ks vs => obtain ⟨es, e, _⟩ := q; exact ⟨_, e, True.intro⟩
  | lam _ _ => exact q.elim
  | exo _ _ => obtain ⟨ac, d, _, e, _⟩ := q; exact ⟨_, e, True.intro⟩
theorem HR.some_at (r : HR C L μ H h) {i : Nat} {a : Addr} (e : μ[i]? = some a) : ∃ u, H a = some u := let ⟨o, q, _⟩ := r.mut (List.mem_of_getElem? e); ⟨o, q⟩
/-- new objects alone -/
theorem Go.same (r : HR C L μ H h) (s : Same H H') (d : ∀ a, H' a = none → H a = none) : Go L μ H μ H' := ⟨fun i _ a e => by obtain ⟨u, q⟩ := r.some_at e; rw [q, s _ _ q], fun a o e _ _ => s _ _ e, noT_same s, ⟨[], (List.append_nil _).symm⟩, fun _ m => .inl m⟩
theorem HR.not_mem (r : HR C L μ H h) {a : Addr} {o : HO} (e : H a = some o) (nm : ¬ Mut (some o)) : a ∉ μ := fun m => by
  obtain ⟨u, e2, q⟩ := r.mut m
  rw [e] at e2; cases e2
  exact nm q
/-- what is immutable stays -/
structure Stay (μ : Mu) (H : Hp) (μ' : Mu) (H' : Hp) : Prop where
  b : ∀ (i : Nat) (a : Addr), μ[i]? = some a → μ'[i]? = some a
  t : ∀ a xs, H a = some (.tup xs) → H' a = some (.tup xs)
  f : ∀ a o u, H a = some (.frz o u) → H' a = some (.frz o u)
theorem Stay.refl : Stay μ H μ H := ⟨fun _ _ e => e, fun _ _ e => e, fun _ _ _ e => e⟩
theorem Stay.trans (s : Stay μ H μ1 H1) (s2 : Stay μ1 H1 μ2 H2) : Stay μ H μ2 H2 := ⟨fun i a e => s2.b i a (s.b i a e), fun a xs e => s2.t a xs (s.t a xs e), fun a o u e => s2.f a o u (s.f a o u e)⟩
theorem Go.stay (r : HR C L μ H h) (g : Go L μ H μ' H') : Stay μ H μ' H' :=
  ⟨fun i a e => g.at_ e, fun a xs e => g.keep a _ e (fun _ z => nomatch z) (r.not_mem e fun q => q), fun a o u e => g.keep a _ e (fun _ z => nomatch z) (r.not_mem e fun q => q)⟩
theorem Same.stay (s : Same H H') : Stay μ H μ H' := ⟨fun _ _ e => e, fun a xs e => s _ _ e, fun a o u e => s _ _ e⟩
theorem Stay.tupAt {K : PySem.W.Frag} (s : Stay μ H μ' H') {a : Addr} {vs : List V} (h : TupAt K H a vs) : TupAt K H' a vs := by
  rcases h with ⟨o, h, d⟩ | h
  · exact .inl ⟨o, s.f _ _ _ h, d⟩
  · exact .inr h
theorem Stay.scr {K : PySem.W.Frag} (s : Stay μ H μ' H') {a : Addr} {vs : List V} (h : ScrAt K H a vs) : ScrAt K H' a vs := by
  rcases h with ⟨o, h⟩ | h
  · exact .inl ⟨o, s.f _ _ _ h⟩
  · exact .inr h
mutual
theorem RepV.stay (s : Stay μ H μ' H') : ∀ (d : D) (v : V), RepV C μ H d v → RepV C μ' H' d v
  | .non, _, h => h
  | .bl _, _, h => h
  | .int _, _, h => h
  | .str _, _, h => h
  | .gl _, _, h => h
  | .ty _, _, h => h
  | .lm, _, h => h
  | .tup ds, _, ⟨a, vs, e, q, r⟩ => ⟨a, vs, e, s.tupAt q, RepL.stay s ds vs r⟩
  | .scr ds, _, ⟨a, vs, e, q, r⟩ => ⟨a, vs, e, s.scr q, RepL.stay s ds vs r⟩
  | .box n, _, ⟨a, e, q⟩ => ⟨a, e, s.b _ _ q⟩
theorem RepL.stay (s : Stay μ H μ' H') : ∀ (ds : List D) (vs : List V), RepL C μ H ds vs → RepL C μ' H' ds vs
  | [], _, h => h
  | d :: ds, _, ⟨v, r, e, h1, h2⟩ => ⟨v, r, e, RepV.stay s d v h1, RepL.stay s ds r h2⟩
end
theorem RepV.go {d : D} {v : V} (q : RepV C μ H d v) (r : HR C L μ H h) (g : Go L μ H μ' H') : RepV C μ' H' d v := q.stay (g.stay r)
theorem RepL.go {d : List D} {v : List V} (q : RepL C μ H d v) (r : HR C L μ H h) (g : Go L μ H μ' H') : RepL C μ' H' d v := q.stay (g.stay r)
theorem RepL.length : ∀ {ds : List D} {vs : List V}, RepL C μ H ds vs → vs.length = ds.length
  | [], _, h => by rw [show _ = [] from h]; rfl
  | d :: ds, _, ⟨v, r, e, h1, h2⟩ => by rw [e, List.length_cons, List.length_cons, RepL.length h2]
theorem RepL.get : ∀ {ds : List D} {vs : List V} {i : Nat} {d : D}, RepL C μ H ds vs → ds[i]? = some d → ∃ v, vs[i]? = some v ∧ RepV C μ H d v
  | [], _, _, _, _, e => by simp at e
  | d :: ds, _, 0, _, ⟨v, r, e, h1, h2⟩, q => by simp at q; subst q; subst e; exact ⟨v, rfl, h1⟩
  | d :: ds, _, i + 1, _, ⟨v, r, e, h1, h2⟩, q => by
    subst e
    obtain ⟨u, a, b⟩ := RepL.get (i := i) h2 (by simpa using q)
    exact ⟨u, by simpa using a, b⟩
theorem RepL.append : ∀ {ds es : List D} {vs us : List V}, RepL C μ H ds vs → RepL C μ H es us → RepL C μ H (ds ++ es) (vs ++ us)
  | [], _, _, _, h, g => by rw [show _ = [] from h]; exact g
  | d :: ds, _, _, _, ⟨v, r, e, h1, h2⟩, g => by subst e; exact ⟨v, _, rfl, h1, RepL.append h2 g⟩
theorem RepL.set : ∀ {ds : List D} {vs : List V} {d : D} {v : V} (i : Nat), RepL C μ H ds vs → RepV C μ H d v → RepL C μ H (ds.set i d) (vs.set i v)
  | [], _, _, _, _, h, _ => by rw [show _ = [] from h]; rfl
  | d :: ds, _, _, _, 0, ⟨v, r, e, h1, h2⟩, g => by subst e; exact ⟨_, _, rfl, g, h2⟩
  | d :: ds, _, _, _, i + 1, ⟨v, r, e, h1, h2⟩, g => by subst e; exact ⟨v, _, rfl, h1, RepL.set i h2 g⟩
theorem RepL.drop : ∀ {ds : List D} {vs : List V} (i : Nat), RepL C μ H ds vs → RepL C μ H (ds.drop i) (vs.drop i)
  | _, _, 0, h => h
  | [], _, i + 1, h => by rw [show _ = [] from h]; rfl
  | d :: ds, _, i + 1, ⟨v, r, e, h1, h2⟩ => by subst e; exact RepL.drop i h2
theorem RepL.take : ∀ {ds : List D} {vs : List V} (i : Nat), RepL C μ H ds vs → RepL C μ H (ds.take i) (vs.take i)
  | _, _, 0, h => rfl
  | [], _, i + 1, h => by rw [show _ = [] from h]; rfl
  | d :: ds, _, i + 1, ⟨v, r, e, h1, h2⟩ => by subst e; exact ⟨v, _, rfl, h1, RepL.take i h2⟩
theorem RepL.nil_iff {ds : List D} {vs : List V} (h : RepL C μ H ds vs) : vs = [] ↔ ds = [] := by
  cases ds with
  | nil => exact ⟨fun _ => rfl, fun _ => h⟩
  | cons d ds => obtain ⟨v, r, rfl, _⟩ := h; exact ⟨fun e => (nomatch e), fun e => (nomatch e)⟩
theorem ObR.stay {a : Addr} {o : O} (s : Stay μ H μ' H') (q : ObR C μ H a o) (e : H' a = H a) : ObR C μ' H' a o := by
  cases o with
  | lst ds => obtain ⟨vs, e1, r⟩ := q; exact ⟨vs, e.trans e1, r.stay s⟩
  | dct nks ks vs => obtain ⟨es, e1, k1, k2, r1, r2⟩ := q; exact ⟨es, e.trans e1, k1, k2, r1.stay s, r2.stay s⟩
  | lam _ _ => exact q.elim
  | exo _ _ => obtain ⟨ac, d, k, e1, e2⟩ := q; exact ⟨ac, d, k, e.trans e1, fun dx ed => let ⟨od, e3⟩ := e2 dx ed; ⟨od, s.f _ _ _ e3⟩⟩
theorem ObR.there {a : Addr} {o : O} (q : ObR C μ H a o) : ∃ u, H a = some u ∧ Mut (some u) := by
  cases o with
  | lst ds => obtain ⟨vs, e, _⟩ := q; exact ⟨_, e, True.intro⟩
  | dct nks ks vs => obtain ⟨es, e, _⟩ := q; exact ⟨_, e, True.intro⟩
  | lam _ _ => exact q.elim
  | exo _ _ => obtain ⟨ac, d, _, e, _⟩ := q; exact ⟨_, e, True.intro⟩
/-- new objects alone, none of them a box -/
theorem HR.same (r : HR C L μ H h) (s : Same H H') : HR C L μ H' h :=
  ⟨r.lk, r.len, r.nd, r.tb.ext s, fun i a e => let ⟨o, e1, q⟩ := r.ob i a e; ⟨o, e1, q.stay (Same.stay s) (by obtain ⟨u, e2, _⟩ := q.there; rw [e2, s _ _ e2])⟩⟩
/-- no code object is a box -/
def heapN : Nat → Heap
  | 0 => { objs := #[] }
  | n + 1 => (heapN n).push { cls := .none, data := .fields #[] }
theorem heapN_size : ∀ n, (heapN n).objs.size = n
  | 0 => rfl
  | n + 1 => by
    show ((heapN n).push _).objs.size = n + 1
    rw [size_push', heapN_size n]
theorem codeO_ne_dic {c a : Addr} {q : Str} {w : World} {es : Nat × List (NestedKey × V × V)} (h : LamX.CodeO c q = DicO w c es) : False := by
  have ho : ((heapN c).push { cls := .none, data := .fields #[.none, .str q 0] }).get? c = some { cls := .none, data := .fields #[.none, .str q 0] } := by
    have := Heap.get?_push_size (heapN c) (o := { cls := .none, data := .fields #[.none, .str q 0] }) rfl
    rw [heapN_size] at this
    exact this
  unfold LamX.CodeO DicO at h
  injection h with h
  have h2 := congrFun h ((heapN c).push { cls := .none, data := .fields #[.none, .str q 0] })
  obtain ⟨_, _, o, ents, e1, e2, e3, _⟩ := h2.mp ⟨_, #[.none, .str q 0], 0, ho, rfl, rfl⟩
  rw [ho] at e1
  cases e1
  cases e3
theorem codeO_ne_exo {c ac : Addr} {d : Option Addr} {q : Str} (h : LamX.CodeO c q = XoO (.ref ac) d c) : False := by
  have ho : ((heapN c).push { cls := .none, data := .fields #[.none, .str q 0] }).get? c = some { cls := .none, data := .fields #[.none, .str q 0] } := by
    have := Heap.get?_push_size (heapN c) (o := { cls := .none, data := .fields #[.none, .str q 0] }) rfl
    rw [heapN_size] at this
    exact this
  unfold LamX.CodeO XoO at h
  injection h with h
  have h2 := congrFun h ((heapN c).push { cls := .none, data := .fields #[.none, .str q 0] })
  obtain ⟨oe, vs, e1, e2, _⟩ := h2.mp ⟨_, #[.none, .str q 0], 0, ho, rfl, rfl⟩
  rw [ho] at e1
  cases e1
  cases e2
theorem HR.code (r : HR C L μ H h) {c : Addr} {q : Str} (e : H c = some (LamX.CodeO c q)) : c ∉ μ := fun m => by
  obtain ⟨i, ei⟩ := List.mem_iff_getElem?.mp m
  obtain ⟨o, _, b⟩ := r.ob i c ei
  cases o with
  | lst ds => obtain ⟨vs, e1, _⟩ := b; rw [e] at e1; cases e1
  | dct nks ks vs => obtain ⟨es, e1, _⟩ := b; rw [e] at e1; exact codeO_ne_dic (a := c) (Option.some.inj e1)
  | lam _ _ => exact b.elim
  | exo _ _ => obtain ⟨ac, d, _, e1, _⟩ := b; rw [e] at e1; exact codeO_ne_exo (Option.some.inj e1)
/-- the tables, where no more than boxes change -/
theorem HR.tabs (r : HR C L μ H h) (k : ∀ b, b ∉ μ → H' b = H b) : TbA H' := by
  refine ⟨fun p hp => ?_, fun p hp => (k _ (r.code (r.tb.2 p hp))).trans (r.tb.2 p hp)⟩
  obtain ⟨ps, h1, h2, h3⟩ := r.tb.1 p hp
  refine ⟨ps, (k _ (r.not_mem h1 fun q => q)).trans h1, h2, fun pos cv hc => ?_⟩
  obtain ⟨c, e1, e2⟩ := h3 pos cv hc
  exact ⟨c, e1, (k _ (r.code e2)).trans e2⟩
/-- a new box -/
theorem HR.new {a : Addr} {o : O} (r : HR C L μ H h) (s : Same H H') (d : ∀ b, H' b = none → H b = none) (ha : H a = none) (q : ObR C (μ ++ [a]) H' a o) (e : h.new o = some h') : HR C L (μ ++ [a]) H' h' ∧ Go L μ H (μ ++ [a]) H' := by
  have na : a ∉ μ := fun m => by obtain ⟨u, e2, _⟩ := r.mut m; rw [ha] at e2; cases e2
  have st : Stay μ H (μ ++ [a]) H' := ⟨fun i b e => by rw [List.getElem?_append_left (List.getElem?_eq_some_iff.mp e).1]; exact e, fun _ _ e => s _ _ e, fun _ _ _ e => s _ _ e⟩
  refine ⟨⟨(Hs.new_lk e).trans r.lk, by rw [List.length_append, r.len, Hs.new_n e]; rfl, ⟨?_, r.nd.2.trans ⟨[a], rfl⟩⟩, r.tb.ext s, fun i b eb => ?_⟩, fun i _ b eb => by obtain ⟨u, q⟩ := r.some_at eb; rw [q, s _ _ q], fun b u eb _ _ => s _ _ eb, noT_same s, ⟨[a], rfl⟩, fun b m => ?_⟩
  · rw [List.nodup_append]
    exact ⟨r.nd.1, by simp, fun x hx y hy => by rw [List.mem_singleton] at hy; subst hy; exact fun z => na (z ▸ hx)⟩
  · rw [Hs.new_get e]
    by_cases hi : i = h.n
    · subst hi
      rw [if_pos rfl]
      rw [← r.len, List.getElem?_append_right (Nat.le_refl _)] at eb
      simp at eb; subst eb
      exact ⟨o, rfl, q⟩
    · rw [if_neg hi]
      have hl := (List.getElem?_eq_some_iff.mp eb).1
      rw [List.length_append, List.length_singleton, r.len] at hl
      rw [List.getElem?_append_left (by rw [r.len]; omega)] at eb
      obtain ⟨u, e1, q1⟩ := r.ob i b eb
      exact ⟨u, e1, q1.stay st (by obtain ⟨y, e2, _⟩ := q1.there; rw [e2, s _ _ e2])⟩
  · rcases List.mem_append.mp m with m | m
    · exact .inl m
    · rw [List.mem_singleton] at m; subst m; exact .inr (NoT.none ha)
/-- a box changed -/
theorem HR.set {a : Addr} {o : O} {i : Nat} (r : HR C L μ H h) (ha : μ[i]? = some a) (hb : ∀ b, b ≠ a → H' b = H b) (hs : ∃ u, H' a = some u) (q : ObR C μ H' a o) (e : h.set i o = some h') : HR C L μ H' h' ∧ Go L μ H μ H' := by
  have ma : a ∈ μ := List.mem_of_getElem? ha
  have st : Stay μ H μ H' := ⟨fun _ _ e => e, fun b xs e => by rw [hb b fun z => r.not_mem e (fun q => q) (z ▸ ma)]; exact e, fun b u v e => by rw [hb b fun z => r.not_mem e (fun q => q) (z ▸ ma)]; exact e⟩
  obtain ⟨nl, el, en, eg⟩ := Hs.set_ok e
  have na : ∀ j b, μ[j]? = some b → j ≠ i → b ≠ a := fun j b eb hj z => by
    subst z
    exact hj ((List.getElem?_inj (List.getElem?_eq_some_iff.mp eb).1 r.nd.1).mp (eb.trans ha.symm))
  refine ⟨⟨el.trans r.lk, by rw [r.len, en], r.nd, r.tabs fun b nb => hb b fun z => nb (z ▸ ma), fun j b eb => ?_⟩, fun j m b eb => hb b (na j b eb fun z => nl (by rw [r.lk]; exact z ▸ m)), fun b u eb _ nb => by rw [hb b fun z => nb (z ▸ ma)]; exact eb, fun b eb => ?_, ⟨[], (List.append_nil _).symm⟩, fun _ m => .inl m⟩
  · rw [eg]
    by_cases hj : j = i
    · subst hj
      rw [if_pos rfl]
      rw [ha] at eb; cases eb
      exact ⟨o, rfl, q⟩
    · rw [if_neg hj]
      have nb : b ≠ a := na j b eb hj
      obtain ⟨u, e1, q1⟩ := r.ob j b eb
      exact ⟨u, e1, q1.stay st (hb b nb)⟩
  · by_cases z : b = a
    · subst z; obtain ⟨u, e2, m2⟩ := q.there; exact (NoT.not eb e2 (Mut.noT m2)).elim
    · rw [← hb b z]; exact eb
end

/-! ### the frame -/
abbrev En := List (Option D)
/-- a slot's value -/
def RepS (C : Ct) (μ : Mu) (H : Hp) : D → V → Prop
  | .lm, v => ∃ a, Tbs.fn = some a ∧ v = .ref a
  | d, v => RepV C μ H d v
structure Rel (C : Ct) (L : List Nat) (ρ : En) (σ : L2.St) (μ : Mu) (H : Hp) (h : Hs) : Prop where
  len : ρ.length = σ.length
  val : ∀ (i : Nat) (d : D), ρ[i]? = some (some d) → ∃ v, σ[i]? = some (some v) ∧ RepS C μ H d v
  hr : HR C L μ H h
section
variable {C : Ct} {L : List Nat} {ρ : En} {σ : L2.St} {μ μ' : Mu} {H H' : Hp} {h h' : Hs}
theorem RepV.s {d : D} {v : V} (q : RepV C μ H d v) : RepS C μ H d v := by
  cases d <;> first | exact q | exact False.elim q
theorem RepS.v {d : D} {v : V} (q : RepS C μ H d v) (n : d ≠ .lm) : RepV C μ H d v := by
  cases d <;> first | exact q | exact absurd rfl n
theorem RepS.stay {d : D} {v : V} (q : RepS C μ H d v) (s : Stay μ H μ' H') : RepS C μ' H' d v := by
  cases d <;> first | exact RepV.stay s _ _ q | exact q
theorem RepS.go {d : D} {v : V} (q : RepS C μ H d v) (r : HR C L μ H h) (g : Go L μ H μ' H') : RepS C μ' H' d v := q.stay (g.stay r)
theorem Rel.go (r : Rel C L ρ σ μ H h) (g : Go L μ H μ' H') (r' : HR C L μ' H' h') : Rel C L ρ σ μ' H' h' :=
  ⟨r.len, fun i d e => let ⟨v, a, b⟩ := r.val i d e; ⟨v, a, b.go r.hr g⟩, r'⟩
theorem Rel.set (r : Rel C L ρ σ μ H h) {i : Nat} {d : D} {x : V} (q : RepV C μ H d x) : Rel C L (ρ.set i (some d)) (σ.set i (some x)) μ H h := by
  refine ⟨by rw [List.length_set, List.length_set]; exact r.len, fun j e ej => ?_, r.hr⟩
  by_cases hj : i = j
  · subst hj
    have hl : i < ρ.length := by
      have := (List.getElem?_eq_some_iff.mp ej).1
      rwa [List.length_set] at this
    rw [List.getElem?_set_self hl] at ej; cases ej
    exact ⟨x, List.getElem?_set_self (r.len ▸ hl), q.s⟩
  · rw [List.getElem?_set_ne hj] at ej ⊢
    exact r.val j e ej
end
end Rh

set_option Elab.async false
set_option linter.all false
set_option maxRecDepth 100000
set_option autoImplicit false
namespace Rh
open PySem PySem.Spec PyProof.Rows L2
variable [Tbs]

abbrev ctX (X : Cx) : Ct := ⟨X.w, X.K, X.mg⟩
inductive R (α : Type) where
  | ok (a : α) (h : Hs)
  | ex (c : Str) (fs : List (Str × D)) (h : Hs)
abbrev M (α : Type) := En → Hs → Option (R α)
def mPure {α : Type} (a : α) : M α := fun _ h => some (.ok a h)
def mBind {α β : Type} (m : M α) (g : α → M β) : M β := fun ρ h => match m ρ h with
  | none => none
  | some (.ok a h1) => g a ρ h1
  | some (.ex c fs h1) => some (.ex c fs h1)
/-- an exception -/
def RepX (C : Ct) (μ : Mu) (H : Hp) (c : Str) (fs : List (Str × D)) (cls : Value) (d : Option Addr) : Prop :=
  (∃ a, C.mg c = some (.ref a) ∧ cls = .ref a) ∧ match fs with
    | [] => d = none
    | fs => ∃ dx vs, d = some dx ∧ H dx = some (.xd vs) ∧ vs.map (·.1) = fs.map (·.1) ∧ RepL C μ H (fs.map (·.2)) (vs.map (·.2))
section
variable (X : Cx) (W : WX)
def Sat {α : Type} (L : List Nat) (σ : L2.St) (μ : Mu) (H : Hp) (o : Option (R α)) (P : α → Hs → Mu → Hp → Prop) : Prop := match o with
  | none => False
  | some (.ok a h') => ∀ μ' H', Go L μ H μ' H' → HR (ctX X) L μ' H' h' → P a h' μ' H'
  | some (.ex c fs h') => ∀ cls d μ' H', Go L μ H μ' H' → HR (ctX X) L μ' H' h' → RepX (ctX X) μ' H' c fs cls d → W cls d σ H'
/-- a mirror's reading, from some frame and boxes -/
def rdG {α : Type} (m : M α) (σ : L2.St) (H : Hp) (P : En → List Nat → α → Hs → Mu → Hp → Prop) : Prop := ∃ ρ L μ h, Rel (ctX X) L ρ σ μ H h ∧ Sat X W L σ μ H (m ρ h) (P ρ L)
def rd (m : M D) : TE := fun σ H Q => rdG X W m σ H fun _ _ d _ μ' H' => ∀ x, RepV (ctX X) μ' H' d x → Q x H'
def rdA (m : M (List D)) : TA := fun σ H Q => rdG X W m σ H fun _ _ ds _ μ' H' => ∀ xs, RepL (ctX X) μ' H' ds xs → Q xs H'
def rdT (m : M Bool) : TT := fun σ H Q => rdG X W m σ H fun _ _ b _ _ H' => Q b H'
end
section
variable {X : Cx} {W : WX} {L : List Nat} {ρ : En} {σ : L2.St} {H H' H1 H2 : Hp} {μ μ' μ1 μ2 : Mu} {h h' h1 h2 : Hs}
theorem Sat.none {α : Type} {P : α → Hs → Mu → Hp → Prop} (q : Sat X W L σ μ H none P) {C : Prop} : C := False.elim q
/-- sequence, the later part in a later state -/
theorem Sat.bind {α β : Type} {m : M α} {g : α → M β} {P : β → Hs → Mu → Hp → Prop} (r : Rel (ctX X) L ρ σ μ H h) (q : Sat X W L σ μ H (mBind m g ρ h) P) :
    Sat X W L σ μ H (m ρ h) fun a h1 μ1 H1 => Go L μ H μ1 H1 ∧ Rel (ctX X) L ρ σ μ1 H1 h1 ∧ Sat X W L σ μ1 H1 (g a ρ h1) P := by
  unfold mBind at q
  cases e : m ρ h with
  | none => rw [e] at q; exact q.none
  | some o =>
    rw [e] at q
    cases o with
    | ex c fs ρ1 => exact q
    | ok a h1 =>
      intro μ1 H1 g1 r1
      have q : Sat X W L σ μ H (g a ρ h1) P := q
      refine ⟨g1, r.go g1 r1, ?_⟩
      cases e2 : g a ρ h1 with
      | none => rw [e2] at q; exact q.none
      | some o =>
        rw [e2] at q
        cases o with
        | ok b h2 => exact fun μ2 H2 g2 r2 => q μ2 H2 (g1.trans g2) r2
        | ex c fs h2 => exact fun cls d μ2 H2 g2 r2 x => q cls d μ2 H2 (g1.trans g2) r2 x
theorem Sat.imp {α : Type} {o : Option (R α)} {P P' : α → Hs → Mu → Hp → Prop} (q : Sat X W L σ μ H o P) (k : ∀ a h' μ' H', Go L μ H μ' H' → HR (ctX X) L μ' H' h' → P a h' μ' H' → P' a h' μ' H') : Sat X W L σ μ H o P' := by
  cases o with
  | none => exact q.none
  | some o =>
    cases o with
    | ok a h1 => exact fun μ1 H1 g r => k _ _ _ _ g r (q μ1 H1 g r)
    | ex c fs ρ1 => exact q
theorem Sat.start {α : Type} {o : Option (R α)} {P : α → Hs → Mu → Hp → Prop} (q : Sat X W L σ μ H o P) (g : Go L μ H μ1 H1) : Sat X W L σ μ1 H1 o P := by
  cases o with
  | none => exact q.none
  | some o =>
    cases o with
    | ok a h1 => exact fun μ2 H2 g2 r => q μ2 H2 (g.trans g2) r
    | ex c fs h1 => exact fun cls d μ2 H2 g2 r x => q cls d μ2 H2 (g.trans g2) r x
theorem rdG_bind {α β : Type} {m : M α} {g : α → M β} {P : En → List Nat → β → Hs → Mu → Hp → Prop} (q : rdG X W (mBind m g) σ H P) :
    rdG X W m σ H fun ρ L a h1 μ1 H1 => Rel (ctX X) L ρ σ μ1 H1 h1 ∧ Sat X W L σ μ1 H1 (g a ρ h1) (P ρ L) := by
  obtain ⟨ρ, L, μ, h, rel, q⟩ := q
  exact ⟨ρ, L, μ, h, rel, (q.bind rel).imp fun a h1 μ1 H1 _ _ p => p.2⟩
theorem rdG_imp {α : Type} {m : M α} {P P' : En → List Nat → α → Hs → Mu → Hp → Prop} (q : rdG X W m σ H P) (k : ∀ ρ L a h' μ' H', P ρ L a h' μ' H' → P' ρ L a h' μ' H') : rdG X W m σ H P' := by
  obtain ⟨ρ, L, μ, h, rel, q⟩ := q
  exact ⟨ρ, L, μ, h, rel, q.imp fun a h1 μ1 H1 _ _ p => k _ _ _ _ _ _ p⟩
theorem rdG_pure {α : Type} {a : α} {P : En → List Nat → α → Hs → Mu → Hp → Prop} (q : rdG X W (mPure a) σ H P) : ∃ ρ L μ h, Rel (ctX X) L ρ σ μ H h ∧ P ρ L a h μ H := by
  obtain ⟨ρ, L, μ, h, rel, q⟩ := q
  exact ⟨ρ, L, μ, h, rel, q μ H .refl rel.hr⟩
end

/-! ### values from values -/
/-- a value, or what a new box holds -/
inductive Nv where | v (d : D) | n (o : O)
def Nv.lift (n : Nv) (h : Hs) : Option (R D) := match n with
  | .v d => some (.ok d h)
  | .n o => match h.new o with
    | some h' => some (.ok (.box h.n) h')
    | none => none
def RepN (C : Ct) (μ : Mu) (H H' : Hp) (n : Nv) (x : V) : Prop := match n with
  | .v d => RepV C μ H' d x
  | .n o => ∃ a, x = .ref a ∧ H a = none ∧ ∀ r, ObR C (μ ++ r) H' a o
/-- what is wanted of a value rule: new objects alone -/
abbrev Want (C : Ct) (μ : Mu) (H : Hp) (n : Nv) (Q : VK) : Prop := ∀ x H', Same H H' → (∀ a, H' a = none → H a = none) → RepN C μ H H' n x → Q x H'
def Cov2 (C : Ct) (r : R2) (f : Hs → D → D → Option Nv) : Prop := ∀ (H : Hp) (L : List Nat) (μ : Mu) (h : Hs) (x y : V) (d e : D) (n : Nv) (Q : VK), HR C L μ H h → RepV C μ H d x → RepV C μ H e y → f h d e = some n → Want C μ H n Q → r x y H Q
def CovA (C : Ct) (r : List V → Hp → VK → Prop) (f : Hs → List D → Option Nv) : Prop := ∀ (H : Hp) (L : List Nat) (μ : Mu) (h : Hs) (xs : List V) (ds : List D) (n : Nv) (Q : VK), HR C L μ H h → RepL C μ H ds xs → f h ds = some n → Want C μ H n Q → r xs H Q
def lift (h : Hs) (o : Option Nv) : Option (R D) := match o with
  | none => none
  | some n => n.lift h
def mOp2 (f : Hs → D → D → Option Nv) (a b : M D) : M D := mBind a fun x => mBind b fun y => fun _ h => lift h (f h x y)
def mOpA (f : Hs → List D → Option Nv) (a : M (List D)) : M D := mBind a fun xs => fun _ h => lift h (f h xs)
section
variable {X : Cx} {W : WX} {L : List Nat} {ρ : En} {σ : L2.St} {H H' H1 H2 : Hp} {μ μ' μ1 μ2 : Mu} {h h' h1 h2 : Hs} {Q : VK}
/-- the end of a value rule -/
theorem Sat.lift {n : Option Nv} (r : HR (ctX X) L μ H h) (q : Sat X W L σ μ H (lift h n) fun d h' μ' H' => ∀ x, RepV (ctX X) μ' H' d x → Q x H') : ∃ m, n = some m ∧ Want (ctX X) μ H m Q := by
  cases n with
  | none => exact q.none
  | some m =>
    refine ⟨m, rfl, fun x H' s dm rn => ?_⟩
    cases m with
    | v d => exact q μ H' (.same r s dm) (r.same s) x rn
    | n o =>
      obtain ⟨a, rfl, ha, ob⟩ := rn
      have q : Sat X W L σ μ H ((Nv.n o).lift h) fun d h' μ' H' => ∀ x, RepV (ctX X) μ' H' d x → Q x H' := q
      unfold Nv.lift at q
      cases e : h.new o with
      | none => simp only [e] at q; exact q.none
      | some h' =>
        simp only [e] at q
        obtain ⟨r', g⟩ := r.new s dm ha (ob [a]) e
        refine q _ H' g r' (.ref a) ⟨a, rfl, ?_⟩
        rw [← r.len, List.getElem?_append_right (Nat.le_refl _)]
        simp
theorem rd_op2 {r : R2} {f : Hs → D → D → Option Nv} {a b : M D} (c : Cov2 (ctX X) r f) (q : rd X W (mOp2 f a b) σ H Q) : tOp r (rd X W a) (rd X W b) σ H Q := by
  obtain ⟨ρ, L, μ, h, rel, q⟩ := q
  refine ⟨ρ, L, μ, h, rel, (q.bind rel).imp fun x h1 μ1 H1 g1 _ ⟨_, rel1, q1⟩ vx rx => ⟨ρ, L, μ1, h1, rel1, (q1.bind rel1).imp fun y h2 μ2 H2 g2 _ ⟨_, rel2, q2⟩ vy ry => ?_⟩⟩
  obtain ⟨n, en, want⟩ := Sat.lift rel2.hr q2
  exact c _ _ _ _ _ _ _ _ _ _ rel2.hr (rx.go rel1.hr g2) ry en want
theorem rd_opA {r : List V → Hp → VK → Prop} {f : Hs → List D → Option Nv} {a : M (List D)} (c : CovA (ctX X) r f) (q : rd X W (mOpA f a) σ H Q) : tCB r (rdA X W a) σ H Q := by
  obtain ⟨ρ, L, μ, h, rel, q⟩ := q
  refine ⟨ρ, L, μ, h, rel, (q.bind rel).imp fun x h1 μ1 H1 g1 _ ⟨_, rel1, q1⟩ vx rx => ?_⟩
  obtain ⟨n, en, want⟩ := Sat.lift rel1.hr q1
  exact c _ _ _ _ _ _ _ _ rel1.hr rx en want

/-! ### expressions -/
theorem pe_imp {e : Expr} {t t' : TE} (p : PE X e t) (h : ∀ σ H Q, t' σ H Q → t σ H Q) : PE X e t' := ⟨fun pins s σ H Q I q => p.run pins s σ H Q I (h _ _ _ q)⟩
theorem pt_imp {e : Expr} {t t' : TT} (p : PT X e t) (h : ∀ σ H Q, t' σ H Q → t σ H Q) : PT X e t' := ⟨fun pins s σ H Q I q => p.run pins s σ H Q I (h _ _ _ q)⟩
theorem pw_imp {e : Expr} {t t' : TT} (p : PW X e t) (h : ∀ σ H Q, t' σ H Q → t σ H Q) : PW X e t' := ⟨fun wh pins s σ H Q I q => p.run wh pins s σ H Q I (h _ _ _ q)⟩
theorem pa_imp {e : List Expr} {t t' : TA} (p : PA X e t) (h : ∀ σ H Q, t' σ H Q → t σ H Q) : PA X e t' := ⟨fun pos pins s σ H Q I q => p.run pos pins s σ H Q I (h _ _ _ q)⟩
theorem ps_imp {e : Stmt} {t t' : TS} (p : PS X e t) (h : ∀ D σ H, t' D σ H → t D σ H) : PS X e t' := ⟨fun pins s σ H D I q => p.run pins s σ H D I (h _ _ _ q)⟩
theorem pss_imp {e : List Stmt} {t t' : TS} (p : PSs X e t) (h : ∀ D σ H, t' D σ H → t D σ H) : PSs X e t' := ⟨fun pins s σ H D I q => p.run pins s σ H D I (h _ _ _ q)⟩
theorem pi_imp {tg e : Expr} {t t' : TI} (p : PI X tg e t) (h : ∀ σ H Q, t' σ H Q → t σ H Q) : PI X tg e t' := ⟨fun pins s σ H Q I q => p.run pins s σ H Q I (h _ _ _ q)⟩
theorem pg_imp {e : Expr} {t t' : TG} (p : PG X e t) (h : ∀ v σ H Q, t' v σ H Q → t v σ H Q) : PG X e t' := ⟨fun pins s σ H v u Q I r q => p.run pins s σ H v u Q I r (h _ _ _ _ q)⟩
theorem pgs_imp {e : List Expr} {t t' : TGs} (p : PGs X e t) (h : ∀ v σ H Q, t' v σ H Q → t v σ H Q) : PGs X e t' := ⟨fun pins s σ H v u Q I r q => p.run pins s σ H v u Q I r (h _ _ _ _ q)⟩

def okS (d : D) (h : Hs) : Option (R D) := match d with
  | .lm => none
  | d => some (.ok d h)
theorem okS_ok {d : D} {h : Hs} (nl : d ≠ .lm) : okS d h = some (.ok d h) := by
  cases d <;> first | rfl | exact absurd rfl nl
def mVar (i : Nat) : M D := fun ρ h => match ρ[i]? with
  | some (some d) => okS d h
  | _ => none
def mCon (d : D) : M D := mPure d
theorem e_var {i : Nat} {x : Str} {pos : Pos} (hN : X.N[i]? = some x) (hv : Vis X.env.scope x) (hd : (x == ("__debug__" : Str)) = false := by decide) (hcd : (x == ("__classdict__" : Str)) = false := by decide) : PE X (.Name x pos) (rd X W (mVar i)) := by
  refine pe_imp (pe_var hN hv hd hcd) fun σ H Q ⟨ρ, L, μ, h, rel, q⟩ => ?_
  unfold mVar at q
  cases e : ρ[i]? with
  | none => rw [e] at q; exact q.none
  | some o =>
    cases o with
    | none => rw [e] at q; exact q.none
    | some d =>
      rw [e] at q
      obtain ⟨y, e1, ry⟩ := rel.val i d e
      cases d <;> first | exact q.none | exact ⟨y, e1, q μ H .refl rel.hr y ry⟩
theorem rd_con {d : D} {v : V} (hv : ∀ μ H, RepV (ctX X) μ H d v) (q : rd X W (mCon d) σ H Q) : Q v H := by
  obtain ⟨ρ, L, μ, h, rel, q⟩ := rdG_pure q
  exact q v (hv _ _)
theorem e_int {i : Int} {j} {pos : Pos} : PE X (.Constant (.int i) j pos) (rd X W (mCon (.int i))) := pe_imp pe_int fun _ _ _ q => rd_con (d := .int i) (fun _ _ => rfl) q
theorem e_bl {b : Bool} {j} {pos : Pos} : PE X (.Constant (.bool b) j pos) (rd X W (mCon (.bl b))) := pe_imp pe_bl fun _ _ _ q => rd_con (d := .bl b) (fun _ _ => rfl) q
theorem e_non {j} {pos : Pos} : PE X (.Constant .none j pos) (rd X W (mCon .non)) := pe_imp pe_non fun _ _ _ q => rd_con (d := .non) (fun _ _ => rfl) q
theorem e_str {x : Str} {j} {pos : Pos} : PE X (.Constant (.str x) j pos) (rd X W (mCon (.str x))) := pe_imp pe_str fun _ _ _ q => rd_con (d := .str x) (fun _ _ => rfl) q
theorem e_ty {x : Str} {n : Ty} {pos : Pos} (hg : Gl X x) (hm : X.mg x = none) (hv : bootBuiltins x = some (.type n.name)) (hn : x ≠ "__name__" := by decide) (hd : (x == ("__debug__" : Str)) = false := by decide) : PE X (.Name x pos) (rd X W (mCon (.ty n))) :=
  pe_imp (pe_bltn (v := .ty n.name) hg hm hv rfl hn hd) fun _ _ _ q => rd_con (d := .ty n) (fun _ _ => rfl) q
theorem e_bin {op : Operator} {r : R2} {f : Hs → D → D → Option Nv} {a b : Expr} {ma mb : M D} {pos : Pos} (ho : OpR X (binaryOp op) r) (c : Cov2 (ctX X) r f) (ha : PE X a (rd X W ma)) (hb : PE X b (rd X W mb)) : PE X (.BinOp a op b pos) (rd X W (mOp2 f ma mb)) :=
  pe_imp (pe_op ho ha hb) fun _ _ _ q => rd_op2 c q
theorem e_cmp {op : CmpOp} {r : R2} {f : Hs → D → D → Option Nv} {a b : Expr} {ma mb : M D} {pos : Pos} (ho : OpR X (compareOp op) r) (c : Cov2 (ctX X) r f) (hm : behindInMarks op b = false) (ha : PE X a (rd X W ma)) (hb : PE X b (rd X W mb)) : PE X (.Compare a [op] [b] pos) (rd X W (mOp2 f ma mb)) :=
  pe_imp (pe_cmpR ho ha hb hm) fun _ _ _ q => rd_op2 c q
/-! argument lists, displays -/
def mNil : M (List D) := mPure []
def mCons (a : M D) (r : M (List D)) : M (List D) := mBind a fun x => mBind r fun xs => mPure (x :: xs)
theorem a_nil : PA X [] (rdA X W mNil) := pa_imp pa_nil fun σ H Q q => let ⟨_, _, _, _, _, k⟩ := rdG_pure q; k [] rfl
theorem rd_cons {m : M D} {ms : M (List D)} {Q : List V → Hp → Prop} (q : rdA X W (mCons m ms) σ H Q) : rd X W m σ H fun x H1 => rdA X W ms σ H1 fun xs H2 => Q (x :: xs) H2 := by
  obtain ⟨ρ, L, μ, h, rel, q⟩ := q
  refine ⟨ρ, L, μ, h, rel, (q.bind rel).imp fun x h1 μ1 H1 g1 _ ⟨_, rel1, q1⟩ vx rx => ⟨ρ, L, μ1, h1, rel1, (q1.bind rel1).imp fun y h2 μ2 H2 g2 _ ⟨_, rel2, q2⟩ vy ry => ?_⟩⟩
  exact q2 μ2 H2 .refl rel2.hr (vx :: vy) ⟨vx, vy, rfl, rx.go rel1.hr g2, ry⟩
theorem a_cons {e : Expr} {es : List Expr} {m : M D} {ms : M (List D)} (ha : PE X e (rd X W m)) (hr : PA X es (rdA X W ms)) (hs : starEach (e :: es) X.env = (false, eval e X.env) :: starEach es X.env := by rfl) : PA X (e :: es) (rdA X W (mCons m ms)) :=
  pa_imp (pa_cons ha hr hs) fun σ H Q q => rd_cons q
theorem small6 {n : Nat} (h : n ≤ 1000000) : n ≤ sizeLine := by rw [sizeLine_eq]; omega
theorem small6' {n : Nat} (h : n < 1000000) : n < sizeLine := by rw [sizeLine_eq]; omega
theorem same_new {p : Addr} {o : HO} (h : H p = none) : Same H (upd H p o) ∧ ∀ a, upd H p o a = none → H a = none := by
  refine ⟨fun b x e => by rw [upd_ne (ne_of_none e h)]; exact e, fun a e => ?_⟩
  unfold upd at e
  split at e
  · cases e
  · exact e
theorem Want.old {C : Ct} {d : D} {x : V} (k : Want C μ H (.v d) Q) (r : RepV C μ H d x) : Q x H := k x H (fun _ _ e => e) (fun _ e => e) r
theorem Want.tup {C : Ct} {ds : List D} {vs : List V} (k : Want C μ H (.v (.tup ds)) Q) (r : RepL C μ H ds vs) : NewT H vs Q := fun p o hp hd => by
  obtain ⟨s, dm⟩ := same_new (o := .frz o (.tup vs)) hp
  exact k _ _ s dm ⟨p, vs, rfl, .inl ⟨o, upd_same, hd⟩, r.stay (Same.stay s)⟩
theorem stay_more {r : Mu} (s : Same H H') : Stay μ H (μ ++ r) H' := ⟨fun i a e => by rw [List.getElem?_append_left (List.getElem?_eq_some_iff.mp e).1]; exact e, fun a xs e => s _ _ e, fun a o u e => s _ _ e⟩
theorem Want.lst {C : Ct} {ds : List D} {vs : List V} {p : Addr} (k : Want C μ H (.n (.lst ds)) Q) (r : RepL C μ H ds vs) (hp : H p = none) : Q (.ref p) (upd H p (.lst vs)) := by
  obtain ⟨s, dm⟩ := same_new (o := .lst vs) hp
  exact k _ _ s dm ⟨p, rfl, hp, fun m => ⟨vs, upd_same, r.stay (stay_more s)⟩⟩
def mDisp (f : List D → Nv) (ms : M (List D)) : M D := mBind ms fun ds => fun _ h => if ds.length ≤ 1000000 then (f ds).lift h else none
theorem rd_disp {f : List D → Nv} {ms : M (List D)} {ts : List V → Hp → Prop} (q : rd X W (mDisp f ms) σ H Q)
    (k : ∀ ds vs μ1 H1, ds.length ≤ 1000000 → RepL (ctX X) μ1 H1 ds vs → Want (ctX X) μ1 H1 (f ds) Q → ts vs H1) : rdA X W ms σ H ts := by
  obtain ⟨ρ, L, μ, h, rel, q⟩ := q
  refine ⟨ρ, L, μ, h, rel, (q.bind rel).imp fun ds h1 μ1 H1 g1 _ ⟨_, rel1, q1⟩ vs rs => ?_⟩
  split at q1
  · rename_i hl
    obtain ⟨m, em, want⟩ := Sat.lift (n := some (f ds)) rel1.hr q1
    cases em
    exact k ds vs μ1 H1 hl rs want
  · exact q1.none
def mTup (ms : M (List D)) : M D := mDisp (fun ds => .v (.tup ds)) ms
def mLst (ms : M (List D)) : M D := mDisp (fun ds => .n (.lst ds)) ms
theorem e_tup {es : List Expr} {ms : M (List D)} {x1} {pos : Pos} (ha : PA X es (rdA X W ms)) : PE X (.Tuple es x1 pos) (rd X W (mTup ms)) :=
  pe_imp (pe_tupF ha) fun σ H Q q => rd_disp q fun ds vs μ1 H1 hl rl want => ⟨by rw [rl.length]; exact small6 hl, want.tup rl⟩
theorem e_lst {es : List Expr} {ms : M (List D)} {pos : Pos} (ha : PA X es (rdA X W ms)) : PE X (.List es pos) (rd X W (mLst ms)) :=
  pe_imp (pe_lst ha) fun σ H Q q => rd_disp q fun ds vs μ1 H1 hl rl want => ⟨by rw [rl.length]; exact small6 hl, fun p hp => want.lst rl hp⟩
end
end Rh

set_option Elab.async false
set_option linter.all false
set_option maxRecDepth 100000
set_option maxHeartbeats 2000000
set_option autoImplicit false
namespace Rh
open PySem PySem.Spec PyProof.Rows L2
variable [Tbs]

/-! ### boxes read -/
section
variable {C : Ct} {L : List Nat} {μ : Mu} {H : Hp} {h : Hs}
theorem HR.box (r : HR C L μ H h) {n : Nat} {x : V} (q : RepV C μ H (.box n) x) : ∃ a o, x = .ref a ∧ μ[n]? = some a ∧ h.get n = some o ∧ ObR C μ H a o := by
  obtain ⟨a, e, m⟩ := q
  obtain ⟨o, e1, e2⟩ := r.ob n a m
  exact ⟨a, o, e, m, e1, e2⟩
theorem HR.lst (r : HR C L μ H h) {n : Nat} {x : V} {ds : List D} (q : RepV C μ H (.box n) x) (e : h.get n = some (.lst ds)) : ∃ a vs, x = .ref a ∧ μ[n]? = some a ∧ H a = some (.lst vs) ∧ RepL C μ H ds vs := by
  obtain ⟨a, o, e1, m, e2, ob⟩ := r.box q
  rw [e] at e2; cases e2
  obtain ⟨vs, e3, rl⟩ := ob
  exact ⟨a, vs, e1, m, e3, rl⟩
theorem HR.dct (r : HR C L μ H h) {n : Nat} {x : V} {nks : List NestedKey} {ks vs : List D} (q : RepV C μ H (.box n) x) (e : h.get n = some (.dct nks ks vs)) :
    ∃ a es, x = .ref a ∧ μ[n]? = some a ∧ H a = some (DicO C.w a es) ∧ es.2.map (·.1) = nks ∧ keysD ks = some nks ∧ RepL C μ H ks (es.2.map (·.2.1)) ∧ RepL C μ H vs (es.2.map (·.2.2)) := by
  obtain ⟨a, o, e1, m, e2, ob⟩ := r.box q
  rw [e] at e2; cases e2
  obtain ⟨es, e3, k⟩ := ob
  exact ⟨a, es, e1, m, e3, k⟩
/-- a list's items, be it a box or the script -/
def lstD (h : Hs) : D → Option (List D)
  | .box n => match h.get n with
    | some (.lst ds) => some ds
    | _ => none
  | .scr ds => some ds
  | _ => none
theorem lstD_ok (r : HR C L μ H h) {d : D} {x : V} {ds : List D} (q : RepV C μ H d x) (e : lstD h d = some ds) : ∃ a vs, x = .ref a ∧ SqL C.K H a vs ∧ RepL C μ H ds vs := by
  unfold lstD at e
  split at e
  · rename_i n
    split at e
    · rename_i es e1
      cases e
      obtain ⟨a, vs, e2, _, e3, rl⟩ := r.lst q e1
      exact ⟨a, vs, e2, .inl (.inl e3), rl⟩
    · cases e
  · cases e
    obtain ⟨a, vs, e2, t, rl⟩ := (show RepV C μ H (.scr _) x from q)
    exact ⟨a, vs, e2, t.sqL, rl⟩
  · cases e
/-- what is a sequence -/
def seqD (h : Hs) (d : D) : Option (List D) := match d with
  | .tup ds => some ds
  | d => lstD h d
theorem seqD_ok (r : HR C L μ H h) {d : D} {x : V} {ds : List D} (q : RepV C μ H d x) (e : seqD h d = some ds) : ∃ p vs, x = .ref p ∧ (SqL C.K H p vs ∨ SqT C.K H p vs) ∧ RepL C μ H ds vs := by
  cases d with
  | tup es =>
    cases e
    obtain ⟨a, vs, rfl, t, q⟩ := (show RepV C μ H (.tup ds) x from q)
    exact ⟨a, vs, rfl, .inr t.sq, q⟩
  | _ => obtain ⟨a, vs, e1, e2, e3⟩ := lstD_ok r q e; exact ⟨a, vs, e1, .inl e2, e3⟩
end
/-! ### covers -/
section
variable {C : Ct} {L : List Nat}
theorem Cov2.or {r r' : R2} {f g : Hs → D → D → Option Nv} (c : Cov2 C r f) (c' : Cov2 C r' g) : Cov2 C (fun x y H Q => r x y H Q ∨ r' x y H Q) fun h d e => match f h d e with | some n => some n | none => g h d e := by
  intro H L μ h x y d e n Q hr r1 r2 hf want
  cases e1 : f h d e with
  | some m => simp only [e1] at hf; cases hf; exact .inl (c H L μ h x y d e _ Q hr r1 r2 e1 want)
  | none => simp only [e1] at hf; exact .inr (c' H L μ h x y d e _ Q hr r1 r2 hf want)
theorem CovA.or {r r' : List V → Hp → VK → Prop} {f g : Hs → List D → Option Nv} (c : CovA C r f) (c' : CovA C r' g) : CovA C (fun x H Q => r x H Q ∨ r' x H Q) fun h d => match f h d with | some n => some n | none => g h d := by
  intro H L μ h x d n Q hr r1 hf want
  cases e1 : f h d with
  | some m => simp only [e1] at hf; cases hf; exact .inl (c H L μ h x d _ Q hr r1 e1 want)
  | none => simp only [e1] at hf; exact .inr (c' H L μ h x d _ Q hr r1 hf want)
def flat0 : D → Option V
  | .non => some .non
  | .bl b => some (.bl b)
  | .int i => some (.int i)
  | .str x => some (.str x)
  | _ => none
theorem flat0_rep {μ : Mu} {H : Hp} {d : D} {v : V} (h : flat0 d = some v) : RepV C μ H d v := by
  cases d <;> simp only [flat0] at h <;> first | (cases h; done) | (cases h; rfl)
def dIntC (c : Int → Int → Bool) (g : Int → Int → D) (_ : Hs) (d e : D) : Option Nv := match d, e with
  | .int i, .int j => if c i j = true then some (.v (g i j)) else none
  | _, _ => none
theorem dIntC_some {c : Int → Int → Bool} {g : Int → Int → D} {h : Hs} {d e : D} {n : Nv} (q : dIntC c g h d e = some n) : ∃ i j, d = .int i ∧ e = .int j ∧ c i j = true ∧ n = .v (g i j) := by
  unfold dIntC at q
  split at q
  · split at q
    · exact ⟨_, _, rfl, rfl, by assumption, (Option.some.inj q).symm⟩
    · cases q
  · cases q
def dInt (g : Int → Int → D) : Hs → D → D → Option Nv := dIntC (fun _ _ => true) g
theorem cov_rI0 {gv : Int → Int → V} {g : Int → Int → D} (hg : ∀ i j, flat0 (g i j) = some (gv i j)) : Cov2 C (rI0 gv) (dInt g) := by
  intro H L μ h x y d e n Q hr r1 r2 hf want
  obtain ⟨i, j, rfl, rfl, _, rfl⟩ := dIntC_some hf
  exact ⟨i, j, r1, r2, want.old (flat0_rep (hg i j))⟩
theorem cov_rI {P : Int → Int → Prop} {c : Int → Int → Bool} {gv : Int → Int → V} {g : Int → Int → D} (hc : ∀ i j, c i j = true → P i j) (hg : ∀ i j, flat0 (g i j) = some (gv i j)) : Cov2 C (rI P gv) (dIntC c g) := by
  intro H L μ h x y d e n Q hr r1 r2 hf want
  obtain ⟨i, j, rfl, rfl, k, rfl⟩ := dIntC_some hf
  exact ⟨i, j, r1, r2, hc i j k, want.old (flat0_rep (hg i j))⟩
/-! tuples, lists -/
def dCatT (_ : Hs) (d e : D) : Option Nv := match d, e with
  | .tup a, .tup b => if a.length + b.length ≤ 1000000 then some (.v (.tup (a ++ b))) else none
  | _, _ => none
def dCatL (h : Hs) (d e : D) : Option Nv := match d, e with
  | .box n, .box m => (match h.get n, h.get m with
    | some (.lst a), some (.lst b) => if a.length + b.length ≤ 1000000 then some (.n (.lst (a ++ b))) else none
    | _, _ => none)
  | _, _ => none
theorem cov_catT : Cov2 C (rCatF C.K) dCatT := by
  intro H L μ h x y d e n Q hr r1 r2 hf want
  unfold dCatT at hf
  split at hf
  · rename_i a b
    split at hf
    · rename_i hl
      cases hf
      obtain ⟨p, vs, rfl, t1, q1⟩ := (show RepV C μ H (.tup a) x from r1)
      obtain ⟨p2, us, rfl, t2, q2⟩ := (show RepV C μ H (.tup b) y from r2)
      have l1 := q1.length
      have l2 := q2.length
      refine ⟨p, p2, vs, us, rfl, rfl, t1.sq, t2.sq, small6 (by omega), fun h => ?_, fun _ h => ?_, fun _ _ => want.tup (q1.append q2)⟩
      · subst h
        have : a = [] := List.eq_nil_of_length_eq_zero l1.symm
        subst this
        exact want.old ⟨p2, us, rfl, t2, q2⟩
      · subst h
        have : b = [] := List.eq_nil_of_length_eq_zero l2.symm
        subst this
        rw [List.append_nil] at want
        exact want.old ⟨p, vs, rfl, t1, q1⟩
    · cases hf
  · cases hf
theorem cov_catL : Cov2 C rCat dCatL := by
  intro H L μ h x y d e n Q hr r1 r2 hf want
  unfold dCatL at hf
  split at hf
  · split at hf
    · rename_i a b e1 e2
      split at hf
      · rename_i hl
        cases hf
        obtain ⟨p, vs, rfl, _, t1, q1⟩ := hr.lst r1 e1
        obtain ⟨p2, us, rfl, _, t2, q2⟩ := hr.lst r2 e2
        have l1 := q1.length
        have l2 := q2.length
        exact ⟨p, p2, vs, us, rfl, rfl, t1, t2, small6 (by omega), fun q hq => want.lst (q1.append q2) hq⟩
      · cases hf
    · cases hf
  · cases hf
theorem RepL.rep {μ : Mu} {H : Hp} {ds : List D} {vs : List V} (h : RepL C μ H ds vs) : ∀ k : Nat, RepL C μ H (List.replicate k ds).flatten (List.replicate k vs).flatten
  | 0 => rfl
  | k + 1 => by
    rw [List.replicate_succ, List.replicate_succ, List.flatten_cons, List.flatten_cons]
    exact h.append (RepL.rep h k)
def dRepL (h : Hs) (d e : D) : Option Nv := match d, e with
  | .box n, .int k => (match h.get n with
    | some (.lst a) => if -1000000 ≤ k ∧ k ≤ 1000000 ∧ a.length * k.toNat ≤ 1000000 then some (.n (.lst (List.replicate k.toNat a).flatten)) else none
    | _ => none)
  | _, _ => none
theorem cov_repL : Cov2 C rRep dRepL := by
  intro H L μ h x y d e n Q hr r1 r2 hf want
  unfold dRepL at hf
  split at hf
  · split at hf
    · rename_i a e1
      split at hf
      · rename_i hl
        cases hf
        obtain ⟨p, vs, rfl, _, t1, q1⟩ := hr.lst r1 e1
        have l1 := q1.length
        exact ⟨p, _, vs, rfl, r2, t1, by omega, by omega, by rw [l1]; exact small6 hl.2.2, fun q hq => want.lst (q1.rep _) hq⟩
      · cases hf
    · cases hf
  · cases hf
/-! == -/
def mapO {α β : Type} (f : α → Option β) : List α → Option (List β)
  | [] => some []
  | d :: ds => match f d with
    | some p => match mapO f ds with
      | some ps => some (p :: ps)
      | none => none
    | none => none
def toPy (h : Hs) : Nat → D → Option PyData
  | 0, _ => none
  | n + 1, d => match d with
    | .non => some .none
    | .bl b => some (.bool b)
    | .int i => some (.int i)
    | .str x => some (.str x)
    | .tup ds => match mapO (toPy h n) ds with
      | some ps => some (.tuple ps)
      | none => none
    | .box i => match h.get i with
      | some (.lst ds) => match mapO (toPy h n) ds with
        | some ps => some (.list ps)
        | none => none
      | _ => none
    | _ => none
theorem mapO_dp {μ : Mu} {H : Hp} {f : D → Option PyData} (hf : ∀ d x p, RepV C μ H d x → f d = some p → Dp C.K H x p) : ∀ {ds : List D} {vs : List V} {ps : List PyData}, RepL C μ H ds vs → mapO f ds = some ps → DpAll C.K H vs ps
  | [], _, _, r, h => by cases h; rw [show _ = [] from r]; exact .nil
  | d :: ds, _, _, ⟨v, rr, e, h1, h2⟩, h => by
    subst e
    unfold mapO at h
    cases e1 : f d with
    | none => rw [e1] at h; cases h
    | some p =>
      cases e2 : mapO f ds with
      | none => simp only [e1, e2] at h; cases h
      | some ps =>
        simp only [e1, e2] at h; cases h
        exact .cons (hf d v p h1 e1) (mapO_dp hf h2 e2)
theorem toPy_dp {μ : Mu} {H : Hp} {h : Hs} (hr : HR C L μ H h) : ∀ (n : Nat) (d : D) (x : V) (p : PyData), RepV C μ H d x → toPy h n d = some p → Dp C.K H x p
  | 0, _, _, _, _, e => by cases e
  | n + 1, d, x, p, r, e => by
    unfold toPy at e
    cases d with
    | non => cases e; rw [show _ = V.non from r]; exact .non
    | bl b => cases e; rw [show _ = V.bl b from r]; exact .bl b
    | int i => cases e; rw [show _ = V.int i from r]; exact .int i
    | str y => cases e; rw [show _ = V.str y from r]; exact .str y
    | tup ds =>
      obtain ⟨a, vs, rfl, t, q⟩ := r
      dsimp only at e
      cases e1 : mapO (toPy h n) ds with
      | none => rw [e1] at e; cases e
      | some ps => rw [e1] at e; cases e; exact .tup t.sq (mapO_dp (toPy_dp hr n) q e1)
    | box i =>
      dsimp only at e
      split at e
      · rename_i ds e0
        obtain ⟨a, vs, rfl, _, t, q⟩ := hr.lst r e0
        cases e1 : mapO (toPy h n) ds with
        | none => rw [e1] at e; cases e
        | some ps => rw [e1] at e; cases e; exact .lst (.inl (.inl t)) (mapO_dp (toPy_dp hr n) q e1)
      · cases e
    | ty n => cases e
    | scr ds => cases e
    | gl x => cases e
    | lm => cases e
def dEq (neg : Bool) (h : Hs) (d e : D) : Option Nv := match toPy h 40 d, toPy h 40 e with
  | some p, some q => if SeqAt.shaped p = true ∧ SeqAt.shaped q = true then some (.v (.bl (if neg = true then !PyData.eqv p q else PyData.eqv p q))) else none
  | _, _ => none
theorem dEq_some {neg : Bool} {h : Hs} {d e : D} {n : Nv} (k : dEq neg h d e = some n) : ∃ p q, toPy h 40 d = some p ∧ toPy h 40 e = some q ∧ SeqAt.shaped p = true ∧ SeqAt.shaped q = true ∧ n = .v (.bl (if neg = true then !PyData.eqv p q else PyData.eqv p q)) := by
  unfold dEq at k
  split at k
  · split at k
    · rename_i hs
      exact ⟨_, _, by assumption, by assumption, hs.1, hs.2, (Option.some.inj k).symm⟩
    · cases k
  · cases k
theorem cov_eq : Cov2 C (rEqD C.K) (dEq false) := by
  intro H L μ h x y d e n Q hr r1 r2 hf want
  obtain ⟨p, q, e1, e2, s1, s2, rfl⟩ := dEq_some hf
  exact ⟨p, q, toPy_dp hr _ _ _ _ r1 e1, toPy_dp hr _ _ _ _ r2 e2, s1, s2, want.old rfl⟩
theorem cov_ne : Cov2 C (rNeD C.K) (dEq true) := by
  intro H L μ h x y d e n Q hr r1 r2 hf want
  obtain ⟨p, q, e1, e2, s1, s2, rfl⟩ := dEq_some hf
  exact ⟨p, q, toPy_dp hr _ _ _ _ r1 e1, toPy_dp hr _ _ _ _ r2 e2, s1, s2, want.old rfl⟩
abbrev rIs0 : R2 := fun x y H Q => y = .non ∧ Q (.bl (decide (x = .non))) H
def isNon : D → Bool
  | .non => true
  | _ => false
theorem isNon_ok {μ : Mu} {H : Hp} {d : D} {x : V} (r : RepV C μ H d x) : decide (x = .non) = isNon d := by
  cases d with
  | non => cases (show x = .non from r); rfl
  | bl b => cases (show x = .bl b from r); rfl
  | int i => cases (show x = .int i from r); rfl
  | str i => cases (show x = .str i from r); rfl
  | ty i => cases (show x = .ty i.name from r); rfl
  | gl i => obtain ⟨a, rfl, _⟩ := r; rfl
  | tup ds => obtain ⟨a, vs, rfl, _⟩ := r; rfl
  | scr ds => obtain ⟨a, vs, rfl, _⟩ := r; rfl
  | box n => obtain ⟨a, rfl, _⟩ := r; rfl
  | lm => exact r.elim
def dIs (neg : Bool) (_ : Hs) (d e : D) : Option Nv := match e with
  | .non => some (.v (.bl (if neg = true then !isNon d else isNon d)))
  | _ => none
theorem cov_is : Cov2 C rIs0 (dIs false) := by
  intro H L μ h x y d e n Q hr r1 r2 hf want
  unfold dIs at hf
  split at hf
  · cases hf
    refine ⟨r2, ?_⟩
    rw [isNon_ok r1]
    exact want.old rfl
  · cases hf
/-! ### built-ins by values -/
theorem RepL.one {μ : Mu} {H : Hp} {d : D} {xs : List V} (h : RepL C μ H [d] xs) : ∃ x, xs = [x] ∧ RepV C μ H d x := by
  obtain ⟨x, r, rfl, h1, h2⟩ := h
  rw [show r = [] from h2]
  exact ⟨x, rfl, h1⟩
theorem RepL.two {μ : Mu} {H : Hp} {d e : D} {xs : List V} (h : RepL C μ H [d, e] xs) : ∃ x y, xs = [x, y] ∧ RepV C μ H d x ∧ RepV C μ H e y := by
  obtain ⟨x, r, rfl, h1, h2⟩ := h
  obtain ⟨y, rfl, h3⟩ := RepL.one h2
  exact ⟨x, y, rfl, h1, h3⟩
def dLen (h : Hs) : List D → Option Nv
  | [d] => (seqD h d).map fun ds => .v (.int ds.length)
  | _ => none
theorem cov_len : CovA C (fun xs H Q => ∃ p ys, xs = [.ref p] ∧ (SqL C.K H p ys ∨ SqT C.K H p ys) ∧ Q (.int ys.length) H) dLen := by
  intro H L μ h xs ds n Q hr r1 hf want
  unfold dLen at hf
  split at hf
  · obtain ⟨es, e1, rfl⟩ := Option.map_eq_some_iff.mp hf
    obtain ⟨x, rfl, q⟩ := r1.one
    obtain ⟨p, vs, rfl, t, q⟩ := seqD_ok hr q e1
    refine ⟨p, vs, rfl, t, ?_⟩
    rw [q.length]
    exact want.old rfl
  · cases hf
def dList (h : Hs) : List D → Option Nv
  | [d] => (seqD h d).map fun ds => .n (.lst ds)
  | _ => none
theorem cov_list : CovA C (fun xs H Q => ∃ p ys, xs = [.ref p] ∧ (SqL C.K H p ys ∨ SqT C.K H p ys) ∧ ∀ l, H l = none → Q (.ref l) (upd H l (.lst ys))) dList := by
  intro H L μ h xs ds n Q hr r1 hf want
  unfold dList at hf
  split at hf
  · obtain ⟨es, e1, rfl⟩ := Option.map_eq_some_iff.mp hf
    obtain ⟨x, rfl, q⟩ := r1.one
    obtain ⟨p, vs, rfl, t, q⟩ := seqD_ok hr q e1
    exact ⟨p, vs, rfl, t, fun l hl => want.lst q hl⟩
  · cases hf
def dInt1 (_ : Hs) : List D → Option Nv
  | [.int i] => some (.v (.int i))
  | [.bl b] => some (.v (.int (if b then 1 else 0)))
  | _ => none
theorem cov_int : CovA C (fun xs H Q => (∃ i, xs = [.int i] ∧ Q (.int i) H) ∨ ∃ k, xs = [.bl k] ∧ Q (.int (if k then 1 else 0)) H) dInt1 := by
  intro H L μ h xs ds n Q hr r1 hf want
  unfold dInt1 at hf
  split at hf
  · cases hf
    obtain ⟨x, rfl, q⟩ := r1.one
    cases (show x = V.int _ from q)
    exact .inl ⟨_, rfl, want.old rfl⟩
  · cases hf
    obtain ⟨x, rfl, q⟩ := r1.one
    cases (show x = V.bl _ from q)
    exact .inr ⟨_, rfl, want.old rfl⟩
  · cases hf
def dAbs (_ : Hs) : List D → Option Nv
  | [.int i] => some (.v (.int (if i < 0 then -i else i)))
  | _ => none
theorem cov_abs : CovA C (fun xs H Q => ∃ i, xs = [.int i] ∧ Q (.int (if i < 0 then -i else i)) H) dAbs := by
  intro H L μ h xs ds n Q hr r1 hf want
  unfold dAbs at hf
  split at hf
  · cases hf
    obtain ⟨x, rfl, q⟩ := r1.one
    cases (show x = V.int _ from q)
    exact ⟨_, rfl, want.old rfl⟩
  · cases hf
def boolsD : List D → Option (List Bool)
  | [] => some []
  | .bl b :: ds => (boolsD ds).map (b :: ·)
  | _ => none
theorem boolsD_ok {μ : Mu} {H : Hp} : ∀ {ds : List D} {bs : List Bool} {vs : List V}, RepL C μ H ds vs → boolsD ds = some bs → vs = bs.map V.bl
  | [], _, _, h, e => by cases e; exact h
  | d :: ds, bs, _, ⟨v, r, rfl, h1, h2⟩, e => by
    cases d with
    | bl b =>
      obtain ⟨cs, e1, rfl⟩ := Option.map_eq_some_iff.mp (show (boolsD ds).map (b :: ·) = some bs from e)
      rw [boolsD_ok h2 e1, show v = V.bl b from h1]
      rfl
    | _ => cases e
def boxBs (h : Hs) : List D → Option (List Bool)
  | [.box n] => match h.get n with
    | some (.lst ds) => boolsD ds
    | _ => none
  | _ => none
theorem boxBs_ok {μ : Mu} {H : Hp} {h : Hs} (hr : HR C L μ H h) {ds : List D} {xs : List V} {bs : List Bool} (r : RepL C μ H ds xs) (e : boxBs h ds = some bs) : ∃ a, xs = [.ref a] ∧ SqL C.K H a (bs.map V.bl) := by
  unfold boxBs at e
  split at e
  · split at e
    · rename_i e1
      obtain ⟨x, rfl, q⟩ := r.one
      obtain ⟨a, vs, rfl, _, t, q⟩ := hr.lst q e1
      rw [boolsD_ok q e] at t
      exact ⟨a, rfl, .inl (.inl t)⟩
    · cases e
  · cases e
def dAll (h : Hs) (ds : List D) : Option Nv := (boxBs h ds).map fun bs => .v (.bl (bs.all id))
theorem cov_all : CovA C (rAll C.K) dAll := by
  intro H L μ h xs ds n Q hr r1 hf want
  obtain ⟨bs, e1, rfl⟩ := Option.map_eq_some_iff.mp hf
  obtain ⟨a, rfl, t⟩ := boxBs_ok hr r1 e1
  exact ⟨a, bs, rfl, t, want.old rfl⟩
/-! isinstance -/
def tyD (h : Hs) : D → Option Ty
  | .non => some .none
  | .bl _ => some .bool
  | .int _ => some .int
  | .str _ => some .str
  | .tup _ => some .tuple
  | .box n => match h.get n with
    | some (.lst _) => some .list
    | _ => none
  | _ => none
theorem tyD_ok {μ : Mu} {H : Hp} {h : Hs} (hr : HR C L μ H h) {d : D} {t : Ty} {x : V} (q : RepV C μ H d x) (e : tyD h d = some t) : TyX C.K H x (.type t.name) := by
  cases d with
  | non => cases e; rw [show x = V.non from q]; exact .base .non
  | bl b => cases e; rw [show x = V.bl b from q]; exact .base (.bl b)
  | int b => cases e; rw [show x = V.int b from q]; exact .base (.int b)
  | str b => cases e; rw [show x = V.str b from q]; exact .base (.str b)
  | tup ds =>
    cases e
    obtain ⟨a, vs, rfl, t, q⟩ := q
    rcases t with ⟨o, t, _⟩ | ⟨o, its, n, t, c, _⟩
    · exact .fTuple t
    · exact .kTuple t c
  | box n =>
    unfold tyD at e
    dsimp only at e
    split at e
    · rename_i e1
      cases e
      obtain ⟨a, vs, rfl, _, t, q⟩ := hr.lst q e1
      exact .base (.lst t)
    · cases e
  | _ => cases e
def subTy (a b : Ty) : Bool := decide (a = b) || (decide (a = .bool) && decide (b = .int))
theorem subTy_kit (a b : Ty) (hb : b ≠ .none) : kitB a.name b.name = some (subTy a b) := by
  cases b <;> first | exact absurd rfl hb | (cases a <;> decide +kernel)
def tysD : List D → Option (List Ty)
  | [] => some []
  | .ty t :: ds => if t = .none then none else (tysD ds).map (t :: ·)
  | _ => none
theorem tysD_ok {μ : Mu} {H : Hp} : ∀ {ds : List D} {ts : List Ty} {vs : List V}, RepL C μ H ds vs → tysD ds = some ts → Paired ClsV vs (ts.map fun t => Value.type t.name) ∧ ∀ t ∈ ts, t ≠ Ty.none
  | [], _, _, h, e => by cases e; rw [show _ = [] from h]; exact ⟨.nil, fun _ h => nomatch h⟩
  | d :: ds, ts, _, ⟨v, r, rfl, h1, h2⟩, e => by
    cases d with
    | ty t =>
      have e : (if t = Ty.none then none else (tysD ds).map (t :: ·)) = some ts := e
      split at e
      · cases e
      · rename_i hn
        obtain ⟨cs, e1, rfl⟩ := Option.map_eq_some_iff.mp e
        obtain ⟨p1, p2⟩ := tysD_ok h2 e1
        rw [show v = V.ty t.name from h1]
        exact ⟨.cons (.ty _) p1, fun t' ht => (List.mem_cons.mp ht).elim (fun q => by rw [q]; exact hn) (p2 t')⟩
    | _ => cases e
theorem kitAny_tys {K : PySem.W.Frag} {t : Ty} : ∀ {ts : List Ty}, (∀ b ∈ ts, b ≠ Ty.none) → PySem.W.kitAny K (.type t.name) (ts.map fun t => Value.type t.name) = some (ts.any (subTy t))
  | [], _ => rfl
  | b :: ts, h => by
    have ih := kitAny_tys (K := K) (t := t) (ts := ts) fun c hc => h c (List.mem_cons_of_mem _ hc)
    have k1 : PySem.W.kitOne K (.type t.name) (.type b.name) = some (subTy t b) := kit_ty (subTy_kit t b (h b List.mem_cons_self))
    rw [List.map_cons, List.any_cons]
    exact kitAny_cons k1 (fun e => by rw [e, Bool.false_or]; exact ih) fun e => by rw [e, Bool.true_or]
def dIsi (h : Hs) : List D → Option Nv
  | [d, .ty t] => if t = .none then none else (tyD h d).map fun a => .v (.bl (subTy a t))
  | [d, .tup ts] => match tyD h d, tysD ts with
    | some a, some ts => some (.v (.bl (ts.any (subTy a))))
    | _, _ => none
  | _ => none
theorem cov_isi : CovA C (fun xs H Q => rIsi C.K xs H Q ∨ (rIsiF C.K xs H Q ∨ rIsiK C.K xs H Q)) dIsi := by
  intro H L μ h xs ds n Q hr r1 hf want
  unfold dIsi at hf
  split at hf
  · split at hf
    · cases hf
    · rename_i hn
      obtain ⟨a, e1, rfl⟩ := Option.map_eq_some_iff.mp hf
      obtain ⟨x, y, rfl, h1, h2⟩ := r1.two
      cases (show y = V.ty _ from h2)
      exact .inl ⟨x, _, _, _, _, rfl, .ty _, tyD_ok hr h1 e1, kit_ty (subTy_kit a _ hn), want.old rfl⟩
  · split at hf
    · rename_i e1 e2
      cases hf
      obtain ⟨x, y, rfl, h1, h2⟩ := r1.two
      obtain ⟨p, vs, rfl, t, q⟩ := (show RepV C μ H (.tup _) y from h2)
      obtain ⟨q1, q2⟩ := tysD_ok q e2
      rcases t with ⟨o, t, _⟩ | ⟨⟨oc, od, dt, sl⟩, its, n, t, c, _, hd, _, hv⟩
      · exact .inr (.inl ⟨x, p, vs, _, _, _, _, rfl, t, q1, tyD_ok hr h1 e1, kitAny_tys q2, want.old rfl⟩)
      · simp only at c hd
        subst c hd
        have e3 := ClsV.all q1 hv
        refine .inr (.inr ⟨x, p, od, its.toList, n, sl, _, _, rfl, ?_, tyD_ok hr h1 e1, ?_, want.old rfl⟩)
        · simpa using t
        · rw [e3]; exact kitAny_tys q2
    · cases hf
  · cases hf
end
end Rh

set_option Elab.async false
set_option linter.all false
set_option maxRecDepth 100000
set_option autoImplicit false
namespace Rh
open PySem PySem.Spec PyProof.Rows L2
variable [Tbs]

/-! ### tests -/
def truthD (h : Hs) : D → Option Bool
  | .non => some false
  | .bl b => some b
  | .int i => some (i != 0)
  | .tup ds => some (!ds.isEmpty)
  | .scr ds => some (!ds.isEmpty)
  | .box n => match h.get n with
    | some (.lst ds) => some (!ds.isEmpty)
    | _ => none
  | _ => none
def mTruth (m : M D) : M Bool := mBind m fun d => fun _ h => match truthD h d with
  | some k => some (.ok k h)
  | none => none
/-- of an expression whose value is a bool -/
def mB (m : M D) : M Bool := mBind m fun d => fun _ h => match d with
  | .bl k => some (.ok k h)
  | _ => none
section
variable {X : Cx} {W : WX} {L : List Nat} {ρ : En} {σ : L2.St} {H H' H1 H2 : Hp} {μ μ' μ1 μ2 : Mu} {h h' h1 h2 : Hs} {Q : VK} {QB : Bool → Hp → Prop}
theorem RepL.isEmpty {C : Ct} {ds : List D} {vs : List V} (h : RepL C μ H ds vs) : (!ds.isEmpty) = !vs.isEmpty := by
  cases ds with
  | nil => rw [show vs = [] from h]; rfl
  | cons d ds => obtain ⟨v, r, rfl, _⟩ := h; rfl
theorem truthD_ok {C : Ct} (hr : HR C L μ H h) {d : D} {x : V} {k : Bool} (q : RepV C μ H d x) (e : truthD h d = some k) : TruV C.K x H k := by
  cases d with
  | non => cases e; rw [show x = V.non from q]; exact rfl
  | bl b => have q : x = V.bl b := q; cases e; rw [q]; exact rfl
  | int i => cases e; rw [show x = V.int i from q]; exact rfl
  | tup ds =>
    cases e
    obtain ⟨a, vs, rfl, t, q⟩ := q
    exact .inr (.inl ⟨vs, t.sq, q.isEmpty⟩)
  | scr ds =>
    cases e
    obtain ⟨a, vs, rfl, t, q⟩ := lstD_ok hr (d := .scr ds) q rfl
    exact .inl ⟨vs, t, q.isEmpty⟩
  | box n =>
    unfold truthD at e
    dsimp only at e
    split at e
    · rename_i e1
      cases e
      obtain ⟨a, vs, rfl, _, t, q⟩ := hr.lst q e1
      exact .inl ⟨vs, .inl (.inl t), q.isEmpty⟩
    · cases e
  | _ => cases e
theorem rd_truth {m : M D} (q : rdT X W (mTruth m) σ H QB) : rd X W m σ H fun x H' => ∃ k, TruV X.K x H' k ∧ QB k H' := by
  refine rdG_imp (rdG_bind q) fun ρ L d h1 μ1 H1 ⟨rel1, q1⟩ x rx => ?_
  cases e2 : truthD h1 d with
  | none => simp only [e2] at q1; exact q1.none
  | some k =>
    simp only [e2] at q1
    exact ⟨k, truthD_ok rel1.hr rx e2, q1 μ1 H1 .refl rel1.hr⟩
theorem rd_mB {m : M D} (q : rdT X W (mB m) σ H QB) : rd X W m σ H fun x H' => ∃ k, x = .bl k ∧ QB k H' := by
  refine rdG_imp (rdG_bind q) fun ρ L d h1 μ1 H1 ⟨rel1, q1⟩ x rx => ?_
  cases d with
  | bl k => exact ⟨k, rx, q1 μ1 H1 .refl rel1.hr⟩
  | _ => exact q1.none
theorem t_val {e : Expr} {m : M D} (ha : PE X e (rd X W m)) (he : ∀ whole, isTrue e X.env whole = (do let v ← whole; standAt e.pos; holding [v] (truthy v)) := by intro _; rfl) : PT X e (rdT X W (mTruth m)) :=
  pt_imp (pt_truth ha he) fun _ _ _ h => rd_truth h
theorem t_cmp {op : CmpOp} {r : R2} {f : Hs → D → D → Option Nv} {a b : Expr} {ma mb : M D} {pos : Pos} (ho : OpR X (compareOp op) r) (c : Cov2 (ctX X) r f) (hm : behindInMarks op b = false) (ha : PE X a (rd X W ma)) (hb : PE X b (rd X W mb)) : PT X (.Compare a [op] [b] pos) (rdT X W (mB (mOp2 f ma mb))) :=
  pt_imp (pt_cmpR ho ha hb hm) fun _ _ _ h => rd_op2 c (rd_mB h)
def mOr (a b : M Bool) : M Bool := mBind a fun c => if c = true then mPure true else b
def mNot (a : M Bool) : M Bool := mBind a fun c => mPure (!c)
theorem tw_or1 {a : Expr} {ma : M Bool} {pos : Pos} (ha : PT X a (rdT X W ma)) : PW X (.BoolOp .Or [a] pos) (rdT X W ma) := pw_or1 ha
theorem tw_or {a b : Expr} {rest : List Expr} {ma mb : M Bool} {pos : Pos} (ha : PT X a (rdT X W ma)) (hb : PW X (.BoolOp .Or (b :: rest) pos) (rdT X W mb)) : PW X (.BoolOp .Or (a :: b :: rest) pos) (rdT X W (mOr ma mb)) := by
  refine pw_imp (pw_or ha hb) fun σ H Q q => rdG_imp (rdG_bind q) fun ρ L c h1 μ1 H1 ⟨rel1, q1⟩ => ?_
  cases c with
  | false => exact ⟨ρ, L, μ1, h1, rel1, q1⟩
  | true => exact q1 μ1 H1 .refl rel1.hr
theorem t_not {a : Expr} {ma : M Bool} {pos : Pos} (ha : PT X a (rdT X W ma)) : PT X (.UnaryOp .Not a pos) (rdT X W (mNot ma)) :=
  pt_imp (pt_not ha) fun σ H Q q => rdG_imp (rdG_bind q) fun ρ L c h1 μ1 H1 ⟨rel1, q1⟩ => q1 μ1 H1 .refl rel1.hr
theorem t_pw {e : Expr} {t : TT} (h : PW X e t) : PT X e t := ⟨fun pins s σ H Q I q => h.run _ pins s σ H Q I q⟩
def mAndV (a b : M D) : M D := mBind a fun x => fun ρ h => match truthD h x with
  | some true => b ρ h
  | some false => some (.ok x h)
  | none => none
def mNotV (a : M D) : M D := mBind a fun x => fun _ h => match truthD h x with
  | some k => some (.ok (.bl (!k)) h)
  | none => none
theorem e_and {a b : Expr} {rest : List Expr} {ma mb : M D} {pos : Pos} (ha : PE X a (rd X W ma)) (hb : PE X (.BoolOp .And (b :: rest) pos) (rd X W mb)) : PE X (.BoolOp .And (a :: b :: rest) pos) (rd X W (mAndV ma mb)) := by
  refine pe_imp (pe_andT ha hb) fun σ H Q q => rdG_imp (rdG_bind q) fun ρ L x h1 μ1 H1 ⟨rel1, q1⟩ vx rx => ?_
  cases e2 : truthD h1 x with
  | none => simp only [e2] at q1; exact q1.none
  | some k =>
    refine ⟨k, truthD_ok rel1.hr rx e2, ?_⟩
    cases k with
    | false => simp only [e2] at q1; exact q1 μ1 H1 .refl rel1.hr vx rx
    | true => simp only [e2] at q1; exact ⟨ρ, L, μ1, h1, rel1, q1⟩
theorem e_one {a : Expr} {op} {ma : M D} {pos : Pos} (ha : PE X a (rd X W ma)) : PE X (.BoolOp op [a] pos) (rd X W ma) := pe_one ha
theorem e_not {a : Expr} {ma : M D} {pos : Pos} (ha : PE X a (rd X W ma)) : PE X (.UnaryOp .Not a pos) (rd X W (mNotV ma)) := by
  refine pe_imp (pe_notT ha) fun σ H Q q => rdG_imp (rdG_bind q) fun ρ L x h1 μ1 H1 ⟨rel1, q1⟩ vx rx => ?_
  cases e2 : truthD h1 x with
  | none => simp only [e2] at q1; exact q1.none
  | some k =>
    simp only [e2] at q1
    exact ⟨k, truthD_ok rel1.hr rx e2, q1 μ1 H1 .refl rel1.hr _ rfl⟩
/-! built-ins by name -/
theorem e_callB {x : Str} {id : String} {r : List V → Hp → VK → Prop} {f : Hs → List D → Option Nv} {p pos : Pos} {e : Expr} {es : List Expr} {ms : M (List D)} (hc : CallR X (.builtin id) r) (c : CovA (ctX X) r f) (hv : bootBuiltins x = some (.builtin id)) (hg : Gl X x) (hm : X.mg x = none)
    (ha : PA X (e :: es) (rdA X W ms)) (hn : x ≠ "__name__" := by decide) (hdb : (x == ("__debug__" : Str)) = false := by decide) (he : starEach (e :: es) X.env = (false, eval e X.env) :: starEach es X.env := by rfl) (hpl : (backTo pos (starEach es X.env)).any (·.1) = false := by rfl) :
    PE X (.Call (.Name x p) (e :: es) [] pos) (rd X W (mOpA f ms)) := pe_imp (pe_callB hc hg hm hv ha hn hdb he hpl) fun _ _ _ h => rd_opA c h
theorem e_callTy {x : Str} {T : String} {r : List V → Hp → VK → Prop} {f : Hs → List D → Option Nv} {p pos : Pos} {e : Expr} {es : List Expr} {ms : M (List D)} (hc : CallR X (.type T) r) (c : CovA (ctX X) r f) (hv : bootBuiltins x = some (.type T)) (hg : Gl X x) (hm : X.mg x = none)
    (ha : PA X (e :: es) (rdA X W ms)) (hn : x ≠ "__name__" := by decide) (hdb : (x == ("__debug__" : Str)) = false := by decide) (he : starEach (e :: es) X.env = (false, eval e X.env) :: starEach es X.env := by rfl) (hpl : (backTo pos (starEach es X.env)).any (·.1) = false := by rfl) :
    PE X (.Call (.Name x p) (e :: es) [] pos) (rd X W (mOpA f ms)) := pe_imp (pe_callTy hc hg hm hv ha hn hdb he hpl) fun _ _ _ h => rd_opA c h
end

/-! ### statements -/
inductive RS where
  | nx (ρ : En) (h : Hs) | rt (d : D) (h : Hs) | bk (ρ : En) (h : Hs) | ct (ρ : En) (h : Hs)
  | ex (c : Str) (fs : List (Str × D)) (ρ : En) (h : Hs)
abbrev MS := En → Hs → Option RS
def SatS (X : Cx) (W : WX) (D : Ends) (L : List Nat) (μ : Mu) (H : Hp) (o : Option RS) : Prop := match o with
  | none => False
  | some (.nx ρ' h') => ∀ σ' μ' H', Go L μ H μ' H' → Rel (ctX X) L ρ' σ' μ' H' h' → D.nx σ' H'
  | some (.bk ρ' h') => ∀ σ' μ' H', Go L μ H μ' H' → Rel (ctX X) L ρ' σ' μ' H' h' → D.bk σ' H'
  | some (.ct ρ' h') => ∀ σ' μ' H', Go L μ H μ' H' → Rel (ctX X) L ρ' σ' μ' H' h' → D.ct σ' H'
  | some (.rt d h') => ∀ μ' H' x, Go L μ H μ' H' → HR (ctX X) L μ' H' h' → RepV (ctX X) μ' H' d x → D.rt x H'
  | some (.ex c fs ρ' h') => ∀ cls d σ' μ' H', Go L μ H μ' H' → Rel (ctX X) L ρ' σ' μ' H' h' → RepX (ctX X) μ' H' c fs cls d → W cls d σ' H'
def rdS (X : Cx) (W : WX) (m : MS) : TS := fun D σ H => ∃ ρ L μ h, Rel (ctX X) L ρ σ μ H h ∧ SatS X W D L μ H (m ρ h)
def mNx : MS := fun ρ h => some (.nx ρ h)
def mSeq (a b : MS) : MS := fun ρ h => match a ρ h with
  | some (.nx ρ1 h1) => b ρ1 h1
  | o => o
/-- an expression ahead of a statement's end -/
def mDo {α : Type} (m : M α) (g : α → MS) : MS := fun ρ h => match m ρ h with
  | none => none
  | some (.ok a h1) => g a ρ h1
  | some (.ex c fs h1) => some (.ex c fs ρ h1)
section
variable {X : Cx} {W : WX} {L : List Nat} {D0 : Ends} {ρ ρ' : En} {σ σ' : L2.St} {H H' H1 : Hp} {μ μ' μ1 : Mu} {h h' h1 : Hs}
theorem SatS.none {C : Prop} (h : SatS X W D0 L μ H none) : C := False.elim h
theorem SatS.start {o : Option RS} (q : SatS X W D0 L μ H o) (g : Go L μ H μ1 H1) : SatS X W D0 L μ1 H1 o := by
  cases o with
  | none => exact q.none
  | some o =>
    cases o with
    | nx ρ2 => exact fun s2 m2 H2 g2 r => q s2 m2 H2 (g.trans g2) r
    | bk ρ2 => exact fun s2 m2 H2 g2 r => q s2 m2 H2 (g.trans g2) r
    | ct ρ2 => exact fun s2 m2 H2 g2 r => q s2 m2 H2 (g.trans g2) r
    | rt n ρ2 => exact fun m2 H2 x g2 r rr => q m2 H2 x (g.trans g2) r rr
    | ex c fs ρ2 => exact fun cls d s2 m2 H2 g2 r => q cls d s2 m2 H2 (g.trans g2) r
theorem SatS.bind {α : Type} {m : M α} {g : α → MS} (r : Rel (ctX X) L ρ σ μ H h) (q : SatS X W D0 L μ H (mDo m g ρ h)) : Sat X W L σ μ H (m ρ h) fun a h1 μ1 H1 => Rel (ctX X) L ρ σ μ1 H1 h1 ∧ SatS X W D0 L μ1 H1 (g a ρ h1) := by
  unfold mDo at q
  cases e : m ρ h with
  | none => rw [e] at q; exact q.none
  | some o =>
    rw [e] at q
    cases o with
    | ex c fs h1 => exact fun cls d m1 H1 g1 r1 x => q cls d σ m1 H1 g1 (r.go g1 r1) x
    | ok a h1 => exact fun m1 H1 g1 r1 => ⟨r.go g1 r1, SatS.start (show SatS X W D0 L μ H (g a ρ h1) from q) g1⟩
/-- an expression's mirror ahead of a statement's end -/
theorem rdS_bind {α : Type} {m : M α} {g : α → MS} (q : rdS X W (mDo m g) D0 σ H) : rdG X W m σ H fun ρ L a h1 μ1 H1 => Rel (ctX X) L ρ σ μ1 H1 h1 ∧ SatS X W D0 L μ1 H1 (g a ρ h1) := by
  obtain ⟨ρ, L, μ, h, rel, q⟩ := q
  exact ⟨ρ, L, μ, h, rel, q.bind rel⟩
theorem s_nil : PSs X [] (rdS X W mNx) := pss_imp pss_nil fun D σ H ⟨ρ, L, μ, h, rel, q⟩ => q σ μ H .refl rel
theorem s_cons {s : Stmt} {ss : List Stmt} {m ms : MS} (h1 : PS X s (rdS X W m)) (h2 : PSs X ss (rdS X W ms)) : PSs X (s :: ss) (rdS X W (mSeq m ms)) := by
  refine pss_imp (pss_cons h1 h2) fun D σ H ⟨ρ, L, μ, h, rel, q⟩ => ⟨ρ, L, μ, h, rel, ?_⟩
  unfold mSeq at q
  cases e : m ρ h with
  | none => rw [e] at q; exact q.none
  | some o =>
    rw [e] at q
    cases o with
    | nx ρ1 h1 => exact fun σ1 m1 H1 g r => ⟨ρ1, L, m1, h1, r, SatS.start (show SatS X W D L μ H (ms ρ1 h1) from q) g⟩
    | bk ρ1 => exact q
    | ct ρ1 => exact q
    | rt n ρ1 => exact q
    | ex c fs ρ1 => exact q
def mRet (m : M D) : MS := mDo m fun d => fun _ h => some (.rt d h)
theorem s_ret {e : Expr} {m : M D} {pos : Pos} (he : PE X e (rd X W m)) : PS X (.Return (some e) pos) (rdS X W (mRet m)) :=
  ps_imp (ps_ret he) fun D σ H q => rdG_imp (rdS_bind q) fun ρ L d h1 μ1 H1 ⟨rel1, q1⟩ x rx => q1 μ1 H1 x .refl rel1.hr rx
def mIfS (c : M Bool) (a b : MS) : MS := mDo c fun k => if k = true then a else b
theorem s_if {c : Expr} {as bs : List Stmt} {mc : M Bool} {ma mb : MS} {pos : Pos} (hc : PT X c (rdT X W mc)) (ha : PSs X as (rdS X W ma)) (hb : PSs X bs (rdS X W mb)) : PS X (.If c as bs pos) (rdS X W (mIfS mc ma mb)) := by
  refine ps_imp (ps_if hc ha hb) fun D σ H q => rdG_imp (rdS_bind q) fun ρ L k h1 μ1 H1 ⟨rel1, q1⟩ => ?_
  cases k with
  | true => exact ⟨ρ, L, μ1, h1, rel1, q1⟩
  | false => exact ⟨ρ, L, μ1, h1, rel1, q1⟩
/-! storing a name -/
def mSet (i : Nat) (m : M D) : MS := mDo m fun d => fun ρ h => some (.nx (ρ.set i (some d)) h)
theorem s_set {i : Nat} {x : Str} {e : Expr} {m : M D} {pos pos' : Pos} (hN : X.N.Nodup) (hi : X.N[i]? = some x) (hx : Loc X.env.scope x) (he : PE X e (rd X W m)) (hs : swapsWith e (some (.Name x pos')) pos.line X.env = pure false := by rfl)
    (hf : X.fn x = true ∨ X.env.scope.names.lookup x = some .local := by first | exact .inl rfl | exact .inr rfl | assumption) : PS X (.Assign [.Name x pos'] e pos) (rdS X W (mSet i m)) :=
  ps_imp (ps_set hN hi hx he hs hf) fun D σ H q => rdG_imp (rdS_bind q) fun ρ L d h1 μ1 H1 ⟨rel1, q1⟩ y ry => q1 _ μ1 H1 .refl (rel1.set ry)
end
end Rh

set_option Elab.async false
set_option linter.all false
set_option maxRecDepth 100000
set_option maxHeartbeats 2000000
set_option autoImplicit false
namespace Rh
open PySem PySem.Spec PyProof.Rows L2
variable [Tbs]

/-! ### calls of own defs -/
inductive FR where
  | rt (d : D) (h : Hs)
  | ex (c : Str) (fs : List (Str × D)) (h : Hs)
def envOf (n : Nat) (as : List D) : En := as.map some ++ List.replicate (n - as.length) none
/-- a def's mirror from its body's -/
def runDef (n : Nat) (body : MS) (as : List D) (h : Hs) : Option FR := match body (envOf n as) h with
  | some (.nx _ h) => some (.rt .non h)
  | some (.rt r h) => some (.rt r h)
  | some (.ex c fs _ h) => some (.ex c fs h)
  | _ => none
abbrev FM := List D → Hs → Option FR
/-- what a def promises: its mirror -/
def spF (C : Ct) (np : Nat) (f : FM) : Sp := fun vs H Q E => ∃ L μ h as, vs.length = np ∧ RepL C μ H as vs ∧ HR C L μ H h ∧ match f as h with
  | none => False
  | some (.rt d h') => ∀ x μ' H', Go L μ H μ' H' → HR C L μ' H' h' → RepV C μ' H' d x → Q x H'
  | some (.ex c fs h') => ∀ cls dd μ' H', Go L μ H μ' H' → HR C L μ' H' h' → RepX C μ' H' c fs cls dd → E cls dd H'
def mCall (f : FM) (ms : M (List D)) : M D := mBind ms fun as => fun _ h => match f as h with
  | none => none
  | some (.rt d h') => some (.ok d h')
  | some (.ex c fs h') => some (.ex c fs h')
section
variable {X : Cx} {W : WX} {σ : L2.St} {H : Hp} {Q : VK}
theorem passes_at (tk : Takes X W) : ∀ σ, PassesAt (CX X.prog X.w) X σ (fun cls d H' => W cls d σ H') := fun σ pins H s e s' I c => tk e s' (XE.of_call I (fun cls d H' h => h) c)
abbrev LenM (ms : M (List D)) (n : Nat) : Prop := ∀ ρ h bs h1, ms ρ h = some (.ok bs h1) → bs.length = n
theorem len_nil : LenM mNil 0 := fun ρ h bs ρ1 e => by cases e; rfl
theorem len_cons {m : M D} {ms : M (List D)} {n : Nat} (q : LenM ms n) : LenM (mCons m ms) (n + 1) := fun ρ h bs h1 e => by
  unfold mCons mBind at e
  split at e
  · cases e
  · rename_i x h2 _
    dsimp only at e
    split at e
    · cases e
    · rename_i xs h3 e2
      cases e
      rw [List.length_cons, q _ _ _ _ e2]
    · cases e
  · cases e
/-- what the callee asks -/
theorem sp_of {f : FM} {np : Nat} {as : List D} {vs : List V} {L : List Nat} {μ : Mu} {h : Hs} (hl : as.length = np) (hr : HR (ctX X) L μ H h) (rl : RepL (ctX X) μ H as vs)
    (q : Sat X W L σ μ H (match f as h with | none => none | some (.rt d h') => some (R.ok d h') | some (.ex c fs h') => some (.ex c fs h')) fun d h' μ' H' => ∀ x, RepV (ctX X) μ' H' d x → Q x H') :
    spF (ctX X) np f vs H Q (fun cls d H' => W cls d σ H') := by
  refine ⟨L, μ, h, as, rl.length.trans hl, rl, hr, ?_⟩
  cases e : f as h with
  | none => rw [e] at q; exact q.none
  | some o =>
    rw [e] at q
    cases o with
    | rt d h' => exact fun x μ' H' g r rv => q μ' H' g r x rv
    | ex c fs h' => exact fun cls dd μ' H' g r rx => q cls dd μ' H' g r rx
theorem rd_call {f : FM} {np : Nat} {ms : M (List D)} (hlen : LenM ms np) (q : rd X W (mCall f ms) σ H Q) :
    tCallSD (spF (ctX X) np f) [] (fun σ cls d H' => W cls d σ H') (rdA X W ms) σ H Q := by
  obtain ⟨ρ, L, μ, h, rel, q⟩ := q
  refine ⟨ρ, L, μ, h, rel, ?_⟩
  have q2 := q.bind rel
  cases em : ms ρ h with
  | none => rw [em] at q2; exact q2.none
  | some o =>
    rw [em] at q2
    cases o with
    | ex c fs h1 => exact q2
    | ok as h1 =>
      intro μ1 H1 g1 r1 vs rs
      obtain ⟨_, rel1, q3⟩ := q2 μ1 H1 g1 r1
      rw [List.append_nil]
      exact sp_of (hlen ρ h as h1 em) rel1.hr rs q3
variable {k : Nat} {f : Addr} {fd : FuncData} {ps N : List Str} {np : Nat} {fm : FM} {x : Str} {p pos : Pos} {e : Expr} {es : List Expr} {ms : M (List D)}
theorem e_call (F : FnOk X.prog X.w X.K X.mg X.base (L2.CX X.prog X.w) k f fd ps (spF (ctX X) np fm)) (hr : Room k X.A) (hm : X.mg x = some (.ref f)) (hk : PySem.W.keepIn X.K (.ref f) = true) (hb : Binds X.K fd ps []) (tk : Takes X W) (hlen : LenM ms np) (hg : Gl X x)
    (ha : PA X (e :: es) (rdA X W ms)) (hdb : (x == ("__debug__" : Str)) = false := by decide) (he : starEach (e :: es) X.env = (false, eval e X.env) :: starEach es X.env := by rfl) (hpl : (backTo pos (starEach es X.env)).any (·.1) = false := by rfl) :
    PE X (.Call (.Name x p) (e :: es) [] pos) (rd X W (mCall fm ms)) :=
  pe_imp (pe_callSD F hr hg hm hk hb .nil (passes_at tk) ha hdb he hpl) fun _ _ _ h => rd_call hlen h
theorem e_call0 (F : FnOk X.prog X.w X.K X.mg X.base (L2.CX X.prog X.w) k f fd ps (spF (ctX X) 0 fm)) (hr : Room k X.A) (hm : X.mg x = some (.ref f)) (hk : PySem.W.keepIn X.K (.ref f) = true) (hb : Binds X.K fd ps []) (tk : Takes X W) (hg : Gl X x)
    (hdb : (x == ("__debug__" : Str)) = false := by decide) : PE X (.Call (.Name x p) [] [] pos) (rd X W (mCall fm mNil)) := by
  refine ⟨fun pins s σ H Q I q => ?_⟩
  refine wpAny_Call_Name_kw (ld_glob I hg hm ?_ hdb)
  obtain ⟨ρ, L, μ, h, rel, q⟩ := q
  exact PySem.W.callWith_K0 I.kIn hk (run_fnSD (us := []) (E := fun σ cls d H' => W cls d σ H') F hr hb .nil (passes_at tk σ) I .nil (sp_of (as := []) rfl rel.hr rfl q))
end
/-! ### a def -/
/-- the context of a def's body -/
abbrev cxD (P : Program) (w : World) (K : PySem.W.Frag) (mg : Str → Option Value) (base : Heap) (N : List Str) (qual : Str) (st : Stmt) (f : Addr) (cdv : Value) (A : Around) (outer : List PySem.Env) (s : Shared) (H : Hp) (E : XK) : Cx :=
  cxOf (L2.CX P w) P w K mg base N qual (defScope st) f cdv A outer s H E
abbrev wD (E : XK) : WX := fun cls d _ H => E cls d H
theorem tkD {P : Program} {w : World} {K : PySem.W.Frag} {mg : Str → Option Value} {base : Heap} {N : List Str} {qual : Str} {st : Stmt} {f : Addr} {cdv : Value} {A : Around} {outer : List PySem.Env} {s : Shared} {H : Hp} {E : XK} : Takes (cxD P w K mg base N qual st f cdv A outer s H E) (wD E) := takes_of rfl rfl rfl rfl
theorem poD {P : Program} {w : World} {K : PySem.W.Frag} {mg : Str → Option Value} {base : Heap} {N : List Str} {qual : Str} {st : Stmt} {f : Addr} {cdv : Value} {A : Around} {outer : List PySem.Env} {s : Shared} {H : Hp} {E : XK} :
    PassesOwn (model (cxD P w K mg base N qual st f cdv A outer s H E).prog (cxD P w K mg base N qual st f cdv A outer s H E).w) (cxD P w K mg base N qual st f cdv A outer s H E).A (cxD P w K mg base N qual st f cdv A outer s H E).env (cxD P w K mg base N qual st f cdv A outer s H E).xe := passes_of rfl
theorem env_rel {C : Ct} {L : List Nat} {μ : Mu} {H : Hp} {h : Hs} {N : List Str} {as : List D} {vs : List V} (rl : RepL C μ H as vs) (hr : HR C L μ H h) (hN : vs.length ≤ N.length) : Rel C L (envOf N.length as) (start N vs) μ H h := by
  have hl := rl.length
  refine ⟨?_, fun i d e => ?_, hr⟩
  · unfold envOf L2.start
    rw [List.length_append, List.length_append, List.length_map, List.length_map, List.length_replicate, List.length_replicate]
    omega
  · unfold envOf at e
    by_cases hi : i < as.length
    · rw [List.getElem?_append_left (by simpa using hi), List.getElem?_map] at e
      obtain ⟨d', e1, e2⟩ := Option.map_eq_some_iff.mp e
      cases e2
      obtain ⟨v, e3, rv⟩ := rl.get e1
      refine ⟨v, ?_, rv.s⟩
      unfold L2.start
      rw [List.getElem?_append_left (by rw [List.length_map]; omega), List.getElem?_map, e3]
      rfl
    · rw [List.getElem?_append_right (by simpa using Nat.le_of_not_lt hi), List.getElem?_replicate] at e
      split at e <;> cases e
theorem fn_ok {P : Program} {w : World} {K : PySem.W.Frag} {mg : Str → Option Value} {base : Heap} {x qual : Str} {st : Stmt} {f : Addr} {fd : FuncData} {N ps : List Str} {k np : Nat} {mb : MS} (F : Fun K x qual st f fd) (S : FnScope N ps (defScope st)) (hp : ps.length = np) (hN : np ≤ N.length)
    (hbody : ∀ (cdv : Value) (A : Around) (outer : List PySem.Env) (s : Shared) (H : Hp) (E : XK), Room k (A.deeper (envOfC qual (defScope st) s.heap.objs.size f cdv)) →
      PSs (cxD P w K mg base N qual st f cdv A outer s H E) (defBody st) (rdS (cxD P w K mg base N qual st f cdv A outer s H E) (wD E) mb)) :
    FnOk P w K mg base (L2.CX P w) (k + 1) f fd ps (spF ⟨w, K, mg⟩ np (runDef N.length mb)) := by
  refine F.okX S (fun vs H Q E ⟨L, μ, h, as, hv, _⟩ => hv.trans hp.symm) fun cdv A outer s H vs Q E hr ⟨L, μ, h, as, hv, rl, r, q⟩ => ⟨_, hbody cdv A outer s H E hr, _, L, μ, h, env_rel rl r (by omega), ?_⟩
  unfold runDef at q
  cases e : mb (envOf N.length as) h with
  | none => simp only [e] at q
  | some o =>
    cases o with
    | nx ρ h' => simp only [e] at q; exact fun σ' μ' H' g r => q .non μ' H' g r.hr rfl
    | rt n ρ => simp only [e] at q; exact fun μ' H' x g r rr => q x μ' H' g r rr
    | ex c fs ρ h' => simp only [e] at q; exact fun cls d σ' μ' H' g r rx => q cls d μ' H' g r.hr rx
    | bk ρ => simp only [e] at q
    | ct ρ => simp only [e] at q
end Rh

set_option Elab.async false
set_option linter.all false
set_option maxRecDepth 100000
set_option maxHeartbeats 2000000
set_option autoImplicit false
namespace Rh
open PySem PySem.Spec PyProof.Rows L2
variable [Tbs]
/-! ### dicts, at the heap -/
abbrev Ent := NestedKey × Value × Value
def idxK (ks : List NestedKey) (k : NestedKey) : Option Nat := ks.findIdx? fun x => decide (x = k)
structure RawD (w : World) (h : Heap) (a : Addr) (ep : Nat) (rs : List Ent) : Prop where
  sys : (a == sysModules) = false
  sz : rs.length ≤ sizeLine
  at_ : ∃ o, h.get? a = some o ∧ o.ExactDict ∧ o.data = .dict (rs.map fun e => (⟨e.1.hash w, e.2.1, e.2.2⟩ : DictEntry)).toArray ep
  nd : (rs.map (·.1)).Nodup
  hom : homK (rs.map (·.1)) = true
def KL (rs : List Ent) : Prop := ∀ r ∈ rs, ∃ l : Leaf, l.key = r.1 ∧ Leaf.isOf l r.2.1 = true
def KT (h : Heap) (rs : List Ent) : Prop := ∀ r ∈ rs, ∃ b, r.2.1 = .ref b ∧ NestedIs h r.1 (.ref b) ∧ r.1.depth ≤ 8
def putR (rs : List Ent) (k : NestedKey) (ku vu : Value) : List Ent := match idxK (rs.map (·.1)) k with
  | some i => rs.modify i fun r => (r.1, r.2.1, vu)
  | none => rs ++ [(k, ku, vu)]
def getR (rs : List Ent) (k : NestedKey) : Option Value := (idxK (rs.map (·.1)) k).bind fun i => (rs[i]?).map (·.2.2)
def toLeaf : NestedKey → Leaf
  | .none => .none
  | .num i => .num i
  | .text x => .text x
  | .tup _ => .none
theorem toLeaf_key : ∀ l : Leaf, toLeaf l.key = l
  | .none => rfl
  | .num _ => rfl
  | .text _ => rfl
theorem key_toLeaf {rs : List Ent} (hk : KL rs) {r : Ent} (h : r ∈ rs) : (toLeaf r.1).key = r.1 ∧ Leaf.isOf (toLeaf r.1) r.2.1 = true := by
  obtain ⟨l, e, i⟩ := hk r h
  rw [← e, toLeaf_key]
  exact ⟨rfl, i⟩
def adr : Value → Addr
  | .ref a => a
  | _ => default
def lv (r : Ent) : Leaf × Value := (toLeaf r.1, r.2.2)
def tv (r : Ent) : NestedKey × Addr × Value := (r.1, adr r.2.1, r.2.2)
theorem idx_lv {rs : List Ent} (hk : KL rs) (l : Leaf) : (rs.map lv).findIdx? (fun kv => decide (kv.1 = l)) = idxK (rs.map (·.1)) l.key := by
  unfold idxK
  rw [List.findIdx?_map, List.findIdx?_map]
  induction rs with
  | nil => rfl
  | cons r rs ih =>
    have h1 := key_toLeaf hk (List.mem_cons_self ..)
    have e : decide ((lv r).1 = l) = decide (r.1 = l.key) := by
      by_cases q : (lv r).1 = l
      · rw [decide_eq_true q]
        have q2 : r.1 = l.key := by rw [← q]; exact h1.1.symm
        rw [decide_eq_true q2]
      · rw [decide_eq_false q]
        have q2 : ¬ r.1 = l.key := fun z => q (by show toLeaf r.1 = l; rw [z, toLeaf_key])
        rw [decide_eq_false q2]
    rw [List.findIdx?_cons, List.findIdx?_cons, ih fun r h => hk r (List.mem_cons_of_mem _ h)]
    show (if decide ((lv r).1 = l) = true then _ else _) = (if decide (r.1 = l.key) = true then _ else _)
    rw [e]
theorem find_idx {α : Type} (p : α → Bool) : ∀ xs : List α, xs.find? p = (xs.findIdx? p).bind fun i => xs[i]?
  | [] => rfl
  | x :: xs => by
    rw [List.find?_cons, List.findIdx?_cons]
    cases h : p x with
    | true => rfl
    | false =>
      simp only [Bool.false_eq_true, if_false]
      rw [find_idx p xs]
      cases xs.findIdx? p <;> rfl
theorem at_lv {rs : List Ent} (hk : KL rs) (l : Leaf) : valueAt (rs.map lv) l = getR rs l.key := by
  unfold valueAt getR
  rw [find_idx, idx_lv hk]
  cases idxK (rs.map (·.1)) l.key with
  | none => rfl
  | some i =>
    show ((rs.map lv)[i]?).map _ = (rs[i]?).map _
    rw [List.getElem?_map]
    cases rs[i]? <;> rfl
section
variable {P : Program} {w : World} {h : Heap} {a : Addr} {ep : Nat} {rs : List Ent}
theorem RawD.leaf (x : RawD w h a ep rs) (hk : KL rs) : h.DictOf (leafKind P w) a (rs.map lv) := by
  obtain ⟨o, ho, hc, hd⟩ := x.at_
  refine ⟨o, _, ep, ho, hc, hd, fun e he => ?_, ?_, ?_⟩
  · obtain ⟨r, hr, rfl⟩ := List.mem_map.mp (List.mem_toArray.mp he)
    obtain ⟨h1, h2⟩ := key_toLeaf hk hr
    exact ⟨toLeaf r.1, h2, by show NestedKey.hash w r.1 = NestedKey.hash w (toLeaf r.1).key; rw [h1]⟩
  · have : ∀ l : List Ent, KL l → Pairs (leafKind P w) (l.map fun e => (⟨e.1.hash w, e.2.1, e.2.2⟩ : DictEntry)) (l.map lv) := fun l => by
      induction l with
      | nil => exact fun _ => .nil
      | cons r l ih => exact fun q => .cons (key_toLeaf q (List.mem_cons_self ..)).2 rfl (ih fun r h => q r (List.mem_cons_of_mem _ h))
    exact this rs hk
  · have nd := x.nd
    have : ∀ l : List Ent, KL l → (l.map (·.1)).Nodup → ((l.map lv).map (·.1)).Nodup := fun l => by
      induction l with
      | nil => exact fun _ _ => .nil
      | cons r l ih =>
        intro q n
        rw [List.map_cons, List.nodup_cons] at n
        rw [List.map_cons, List.map_cons, List.nodup_cons]
        refine ⟨fun hm => n.1 ?_, ih (fun r h => q r (List.mem_cons_of_mem _ h)) n.2⟩
        obtain ⟨p, hp, e⟩ := List.mem_map.mp hm
        obtain ⟨r2, hr2, rfl⟩ := List.mem_map.mp hp
        refine List.mem_map.mpr ⟨r2, hr2, ?_⟩
        have e : toLeaf r2.1 = toLeaf r.1 := e
        rw [← (key_toLeaf q (List.mem_cons_of_mem _ hr2)).1, ← (key_toLeaf q (List.mem_cons_self ..)).1, e]
    exact this rs hk nd
theorem RawD.heap (x : RawD w h a ep rs) (hk : KT h rs) : h.DictOfH (nestedKind P w) a (rs.map tv) := by
  obtain ⟨o, ho, hc, hd⟩ := x.at_
  refine ⟨o, _, ep, ho, hc, hd, ?_, fun y hy => ?_, ?_⟩
  · show rs.map _ = (rs.map tv).map _
    rw [List.map_map]
    refine List.map_congr_left fun r hr => ?_
    obtain ⟨b, e, _⟩ := hk r hr
    show (⟨r.1.hash w, r.2.1, r.2.2⟩ : DictEntry) = ⟨r.1.hash w, .ref (adr r.2.1), r.2.2⟩
    rw [e]
    rfl
  · obtain ⟨r, hr, rfl⟩ := List.mem_map.mp hy
    obtain ⟨b, e, n, dp⟩ := hk r hr
    show NestedIs h r.1 (.ref (adr r.2.1)) ∧ r.1.depth ≤ 8
    rw [e]
    exact ⟨n, dp⟩
  · rw [List.map_map]
    exact x.nd
end
section
variable {P : Program} {w : World} {A : Around} {E : Value → Shared → Prop} {s : Shared} {a : Addr} {ep : Nat} {rs : List Ent} {k : NestedKey} {ku : Value}
end
theorem put_some {rs : List Ent} {k : NestedKey} {ku vu : Value} {i : Nat} (h : idxK (rs.map (·.1)) k = some i) : putR rs k ku vu = rs.modify i fun r => (r.1, r.2.1, vu) := by
  unfold putR
  rw [h]
end Rh

set_option Elab.async false
set_option linter.all false
set_option maxRecDepth 100000
set_option maxHeartbeats 2000000
set_option autoImplicit false
namespace Rh
open PySem PySem.Spec PyProof.Rows L2
variable [Tbs]
section
variable {P : Program} {w : World} {A : Around} {E : Value → Shared → Prop} {s : Shared} {a : Addr} {ep : Nat} {rs : List Ent} {k : NestedKey} {ku : Value}
end
end Rh

set_option Elab.async false
set_option linter.all false
set_option maxRecDepth 100000
set_option maxHeartbeats 2000000
set_option autoImplicit false
namespace Rh
open PySem PySem.Spec PyProof.Rows L2
variable [Tbs]
section
variable {X : Cx} {pins : List (Addr × Obj)} {σ : L2.St} {H : Hp} {μ : Mu} {s : Shared}
mutual
theorem nested_of (I : L2.Inv X pins σ H s) : ∀ (d : D) (x : V) (k : NestedKey) (u : Value), RepV (ctX X) μ H d x → keyD d = some k → RelV x u → NestedIs s.heap k u
  | .non, x, k, u, r, e, ru => by cases e; cases (show x = .non from r); cases ru; exact .none
  | .bl b, x, k, u, r, e, ru => by cases e; cases (show x = .bl b from r); cases ru; exact .bool rfl
  | .int i, x, k, u, r, e, ru => by cases e; cases (show x = .int i from r); obtain ⟨t, rfl⟩ := ru; exact .int _ _
  | .str i, x, k, u, r, e, ru => by cases e; cases (show x = .str i from r); obtain ⟨t, rfl⟩ := ru; exact .text _ _
  | .tup ds, x, k, u, ⟨a, vs, ex, t, q⟩, e, ru => by
    subst ex
    cases ru
    obtain ⟨ks, e1, rfl⟩ := Option.map_eq_some_iff.mp (show (keysD ds).map NestedKey.tup = some k from e)
    obtain ⟨its, rv, ⟨o, ho, hc, n, hd⟩, hz⟩ := I.tuple t.sq
    exact .tup ho hc hd (by simpa using nesteds_of I ds vs ks its q e1 rv)
  | .box _, _, _, _, _, e, _ => nomatch e
  | .gl _, _, _, _, _, e, _ => nomatch e
  | .ty _, _, _, _, _, e, _ => nomatch e
  | .scr _, _, _, _, _, e, _ => nomatch e
theorem nesteds_of (I : L2.Inv X pins σ H s) : ∀ (ds : List D) (xs : List V) (ks : List NestedKey) (us : List Value), RepL (ctX X) μ H ds xs → keysD ds = some ks → Vals xs us → NestedAll s.heap ks us
  | [], xs, ks, us, r, e, ru => by cases e; rw [show xs = [] from r] at ru; cases ru; exact .nil
  | d :: ds, xs, ks, us, ⟨v, rr, ex, h1, h2⟩, e, ru => by
    subst ex
    have e : (match keyD d, keysD ds with
      | some k, some ks => some (k :: ks)
      | _, _ => none) = some ks := e
    cases e1 : keyD d with
    | none => rw [e1] at e; cases e
    | some k0 =>
      cases e2 : keysD ds with
      | none => rw [e1, e2] at e; cases e
      | some ks0 =>
        rw [e1, e2] at e; cases e
        cases ru with
        | cons ra rb => exact .cons (nested_of I d v k0 _ h1 e1 ra) (nesteds_of I ds rr ks0 _ h2 e2 rb)
end
theorem leaf_of {h : Heap} {k : NestedKey} {u : Value} (n : NestedIs h k u) (l : leafK k = true) : ∃ lf : Leaf, lf.key = k ∧ Leaf.isOf lf u = true := by
  cases n with
  | none => exact ⟨.none, rfl, rfl⟩
  | bool e => exact ⟨.num _, rfl, decide_eq_true e.symm⟩
  | int i t => exact ⟨.num i, rfl, decide_eq_true rfl⟩
  | text x t => exact ⟨.text x, rfl, by show Value.isStrOf x (.str x t) = true; simp [Value.isStrOf]⟩
  | tup _ _ _ _ => cases l
/-- the entries as they stand -/
def EntR (e : NestedKey × V × V) (r : Ent) : Prop := r.1 = e.1 ∧ RelV e.2.1 r.2.1 ∧ RelV e.2.2 r.2.2
theorem paired_keys {es : List (NestedKey × V × V)} {rs : List Ent} (p : Paired EntR es rs) : rs.map (·.1) = es.map (·.1) := by
  induction p with
  | nil => rfl
  | cons h _ ih => rw [List.map_cons, List.map_cons, ih, h.1]
theorem raw_of {w : World} {h : Heap} {a : Addr} {es : List (NestedKey × V × V)} : ∀ {ents : List DictEntry}, Paired (fun (e : NestedKey × V × V) (d : DictEntry) => d.hash = e.1.hash w ∧ RelV e.2.1 d.key ∧ RelV e.2.2 d.val) es ents →
    ∃ rs : List Ent, ents = rs.map (fun e => (⟨e.1.hash w, e.2.1, e.2.2⟩ : DictEntry)) ∧ Paired EntR es rs := fun {ents} p => by
  induction p with
  | nil => exact ⟨[], rfl, .nil⟩
  | @cons e d es ds h _ ih =>
    obtain ⟨rs, e1, p1⟩ := ih
    refine ⟨(e.1, d.key, d.val) :: rs, ?_, .cons ⟨rfl, h.2.1, h.2.2⟩ p1⟩
    rw [List.map_cons, ← e1]
    obtain ⟨h1, h2, h3⟩ := d
    have q := h.1
    dsimp only at q
    rw [q]
theorem dict_raw (I : L2.Inv X pins σ H s) {a : Addr} {es : Nat × List (NestedKey × V × V)} (e : H a = some (DicO X.w a es)) : ∃ rs, RawD X.w s.heap a es.1 rs ∧ Paired EntR es.2 rs := by
  have x : ObjOk X.prog X.w H s.heap a (.ext fun h => (a == sysModules) = false ∧ es.2.length ≤ sizeLine ∧ ∃ (o : Obj) (ents : Array DictEntry), h.get? a = some o ∧ o.ExactDict ∧ o.data = .dict ents es.1 ∧
    Paired (fun (e : NestedKey × V × V) (d : DictEntry) => d.hash = e.1.hash X.w ∧ RelV e.2.1 d.key ∧ RelV e.2.2 d.val) es.2 ents.toList ∧ (es.2.map (·.1)).Nodup ∧ homK (es.2.map (·.1)) = true) := I.hok a _ e
  obtain ⟨⟨h1, h2, o, ents, ho, hc, hd, hp, nd, hom⟩, _⟩ := x
  obtain ⟨rs, e1, p⟩ := raw_of (h := s.heap) (a := a) hp
  refine ⟨rs, ⟨h1, by rw [← Paired.length p]; exact h2, ⟨o, ho, hc, by rw [hd, ← e1]⟩, by rw [paired_keys p]; exact nd, by rw [paired_keys p]; exact hom⟩, p⟩
end
end Rh

set_option Elab.async false
set_option linter.all false
set_option maxRecDepth 100000
set_option maxHeartbeats 2000000
set_option autoImplicit false
namespace Rh
open PySem PySem.Spec PyProof.Rows L2
variable [Tbs]
/-- len(d) -/
def rLenD (C : Ct) : List V → Hp → VK → Prop := fun xs H Q => ∃ (μ : Mu) (a : Addr) (nks : List NestedKey) (ks vs : List D), xs = [.ref a] ∧ ObR C μ H a (.dct nks ks vs) ∧ Q (.int ks.length) H
section
variable {X : Cx}
theorem call_lenD : CallR X (.builtin "len") (rLenD (ctX X)) := by
  intro pins s σ H xs us Q I r h
  obtain ⟨μ, a, nks, ks, vs, rfl, ⟨es, ea, en, ek, rk, rv⟩, q⟩ := h
  obtain ⟨u, rfl, rx⟩ := vals1 r
  cases rx
  obtain ⟨rs, x, p⟩ := dict_raw I ea
  obtain ⟨o, ho, hc, hd⟩ := x.at_
  have hl : rs.length = ks.length := by
    rw [← Paired.length p, ← rk.length, List.length_map]
  have hn := line63
  have hz := x.sz
  refine call_len_slot (n := (ks.length : Int)) (show s.TypeIs (.ref a) "dict" from ⟨o, ho, hc.1⟩) F.slot_dict_len (fun Q' hq => call_len_raw x.sys ⟨o, ho, hc, hd⟩ ?_) (by omega) (by omega) ⟨.int ks.length, H, I.tok _, ⟨_, rfl⟩, q⟩
  rw [List.size_toArray, List.length_map, hl]
  exact hq
theorem CallR.or {f : Value} {r1 r2 : List V → Hp → VK → Prop} (h1 : CallR X f r1) (h2 : CallR X f r2) : CallR X f (fun xs H Q => r1 xs H Q ∨ r2 xs H Q) := fun pins s σ H xs us Q I r h => by
  rcases h with h | h
  · exact h1 pins s σ H xs us Q I r h
  · exact h2 pins s σ H xs us Q I r h
theorem OpR.or' {f : Value → Value → Sem Value} {r1 r2 : R2} (h1 : OpR X f r1) (h2 : OpR X f r2) : OpR X f (fun x y H Q => r1 x y H Q ∨ r2 x y H Q) := fun pins s σ H x y v u Q I rx ry h => by
  rcases h with h | h
  · exact h1 pins s σ H x y v u Q I rx ry h
  · exact h2 pins s σ H x y v u Q I rx ry h
theorem IxR.or' {r1 r2 : R2} (h1 : IxR X r1) (h2 : IxR X r2) : IxR X (fun x y H Q => r1 x y H Q ∨ r2 x y H Q) := fun va sl pins s σ H x y v u Q I rx ry h hs => by
  rcases h with h | h
  · exact h1 va sl pins s σ H x y v u Q I rx ry h hs
  · exact h2 va sl pins s σ H x y v u Q I rx ry h hs
end
/-! covers -/
section
variable {C : Ct} {L : List Nat}
theorem HR.dctO {μ : Mu} {H : Hp} {h : Hs} (r : HR C L μ H h) {n : Nat} {x : V} {nks : List NestedKey} {ks vs : List D} (q : RepV C μ H (.box n) x) (e : h.get n = some (.dct nks ks vs)) : ∃ a, x = .ref a ∧ μ[n]? = some a ∧ ObR C μ H a (.dct nks ks vs) := by
  obtain ⟨a, o, e1, m, e2, ob⟩ := r.box q
  rw [e] at e2; cases e2
  exact ⟨a, e1, m, ob⟩
def dLenD (h : Hs) (ds : List D) : Option Nv := match ds with
  | [.box n] => (match h.get n with
    | some (.dct _ ks _) => some (.v (.int ks.length))
    | _ => none)
  | _ => none
theorem cov_lenD : CovA C (rLenD C) dLenD := by
  intro H L μ h xs ds n Q hr r hf want
  unfold dLenD at hf
  split at hf
  · split at hf
    · rename_i e0
      cases hf
      obtain ⟨x, rfl, h1⟩ := r.one
      obtain ⟨a, rfl, _, ob⟩ := hr.dctO h1 e0
      exact ⟨μ, a, _, _, _, rfl, ob, want.old rfl⟩
    · cases hf
  · cases hf
end
/-! ### {} , d[k] = v -/
abbrev EV := NestedKey × V × V
section
variable {X : Cx}
theorem PSet.or' {t1 t2 : TSet} (h1 : PSet X t1) (h2 : PSet X t2) : PSet X (fun o i v H Q => t1 o i v H Q ∨ t2 o i v H Q) := fun pins s σ H o i v ov iv u Q I ro ri rv h => by
  rcases h with h | h
  · exact h1 pins s σ H o i v ov iv u Q I ro ri rv h
  · exact h2 pins s σ H o i v ov iv u Q I ro ri rv h
end
end Rh

set_option Elab.async false
set_option linter.all false
set_option maxRecDepth 100000
set_option maxHeartbeats 2000000
set_option autoImplicit false
namespace Rh
open PySem PySem.Spec PyProof.Rows L2
variable [Tbs]
/-! ### a dict walked -/
def Itq (w : World) (a : Addr) (es : Nat × List EV) : It := ⟨fun i H => H a = some (DicO w a es) ∧ i < es.2.length, fun i H x H' => H' = H ∧ ∃ e, es.2[i]? = some e ∧ x = e.2.1, fun i H => H a = some (DicO w a es) ∧ es.2.length ≤ i⟩
theorem paired_get {es : List EV} {rs : List Ent} {i : Nat} {r : Ent} (p : Paired EntR es rs) (e : rs[i]? = some r) : ∃ x, es[i]? = some x ∧ EntR x r := by
  induction p generalizing i with
  | nil => simp at e
  | cons h _ ih =>
    cases i with
    | zero => simp at e; subst e; exact ⟨_, rfl, h⟩
    | succ i => exact ih (by simpa using e)
theorem turn_dct {P : Program} {w : World} {K : PySem.W.Frag} {tg : Expr} (it a : Addr) (es : Nat × List EV) : Turn P w K tg (Itq w a es) [it] it (fun i h => h.IsKeyIter it a i es.2.length es.1) where
  mem := by simp
  obj := fun i h st b hb => by
    have e : b = it := by simpa using hb
    subst e
    obtain ⟨oi, e, c, dd⟩ := st
    exact ⟨oi, e, fun v z => by rw [dd] at z; cases z⟩
  keep := fun i h h' st k => st.at fun oi e => k it (by simp) oi e
  item := by
    intro X hP hw hK hc i pins s σ H E I hf st hg
    subst hP hw hK
    obtain ⟨hd, hi⟩ := hg
    obtain ⟨f0, f1, f2, f3, f4, f5⟩ := hf it (by simp)
    obtain ⟨rs, x, p⟩ := dict_raw I hd
    obtain ⟨o, ho, hx, hdt⟩ := x.at_
    have hl := Paired.length p
    have hr : i < rs.length := by omega
    obtain ⟨e, he, q1, q2, q3⟩ := paired_get p (List.getElem?_eq_getElem hr)
    have hsz : (rs.map fun e => (⟨e.1.hash X.w, e.2.1, e.2.2⟩ : DictEntry)).toArray.size = es.2.length := by simp [hl]
    refine next_key_item (en := ⟨rs[i].1.hash X.w, rs[i].2.1, rs[i].2.2⟩) st ho hdt hsz (by simp [List.getElem?_eq_getElem hr]) fun h' st' sb => ?_
    have I1 : L2.Inv X pins σ H { s with heap := h' } := I.turned (t' := s.toks) (fun b ob hb e => (sb.2 b hb).trans e) f0 f1 f3 f4 f5
    obtain ⟨oi, e1, c, dd⟩ := id st'
    exact ⟨rs[i].2.1, rfl, go_of (s := { s with heap := h' }) e1 c dd (by decide) ⟨e.2.1, H, I1, q2, ⟨rfl, e, he, rfl⟩, st', fun b hb => (hf b hb).1⟩⟩
  done := by
    intro X hP hw hK hc i pins s σ H E I hf st hg
    subst hP hw hK
    obtain ⟨hd, hi⟩ := hg
    obtain ⟨f0, f1, f2, f3, f4, f5⟩ := hf it (by simp)
    obtain ⟨rs, x, p⟩ := dict_raw I hd
    obtain ⟨o, ho, hx, hdt⟩ := x.at_
    have hl := Paired.length p
    have hsz : (rs.map fun e => (⟨e.1.hash X.w, e.2.1, e.2.2⟩ : DictEntry)).toArray.size = es.2.length := by simp [hl]
    exact next_key_end (I.ok.hd hc) st ho hdt hsz hi fun h' eb => ⟨rfl, I.turned (t' := s.toks) (fun b ob hb e => eb b ob hb e) f0 f1 f3 f4 f5⟩
  self := fun A i s Q E st h => wpAny_pyIter_keyiter st h
def iSeqD (w : World) (K : PySem.W.Frag) (tl : TE) : TI := fun σ H R => tl σ H fun x H1 => ∃ a, x = .ref a ∧ (((∃ xs, SqL K H1 a xs) ∧ R (Itl K a) H1) ∨ ((∃ xs, SqT K H1 a xs) ∧ R (Itt K a) H1) ∨ ∃ es, H1 a = some (DicO w a es) ∧ R (Itq w a es) H1)
section
variable {X : Cx} {W : WX} {tg : Expr}
theorem pi_seqD {l : Expr} {tl : TE} (hl : PE X l tl) : PI X tg l (iSeqD X.w X.K tl) := by
  refine ⟨fun pins s σ H R I h => ?_⟩
  refine thn (hl.run pins s σ H _ I h) fun v s1 ⟨x, H1, I1, r1, q1⟩ => ?_
  obtain ⟨a, e, q⟩ := q1
  subst e
  cases r1
  rcases q with ⟨⟨xs, hq⟩, q⟩ | ⟨⟨xs, hq⟩, q⟩ | ⟨es, hd, q⟩
  · obtain ⟨its, rv, p, hz⟩ := I1.list hq
    exact wpAny_pyIter_list p.isList (pi_one (tk := s1.toks) I1 _ (turn_list a _) ⟨_, Heap.get?_push_size _ rfl, rfl, rfl⟩ q)
  · obtain ⟨its, rv, p, hz⟩ := I1.tuple hq
    exact wpAny_pyIter_tuple (show s1.heap.IsTuple a its.toArray from p) (pi_one (tk := s1.toks) I1 _ (turn_tuple a _) ⟨_, Heap.get?_push_size _ rfl, rfl, rfl⟩ q)
  · obtain ⟨rs, x, p⟩ := dict_raw I1 hd
    obtain ⟨o, ho, hx, hdt⟩ := x.at_
    have hl := Paired.length p
    refine iter_keys x.sys ho hx hdt (pi_one (tk := s1.toks) I1 _ (turn_dct _ a es) ⟨_, Heap.get?_push_size _ rfl, rfl, ?_⟩ q)
    rw [hl]
    simp
end
section
variable {X : Cx}
/-! list(d) -/
def rListD (w : World) (K : PySem.W.Frag) : List V → Hp → VK → Prop := fun xs H Q => ∃ (a : Addr) (es : Nat × List EV), xs = [.ref a] ∧ H a = some (DicO w a es) ∧ ∀ p, H p = none → Q (.ref p) (upd H p (.lst (es.2.map (·.2.1))))
theorem call_listD (hc : X.calm = true) : CallR X (.type "list") (rListD X.w X.K) := by
  intro pins s σ H xs us Q I r h
  obtain ⟨a, es, rfl, ea, q⟩ := h
  obtain ⟨u, rfl, rx⟩ := vals1 r
  cases rx
  obtain ⟨rs, x, p⟩ := dict_raw I ea
  obtain ⟨o, ho, hx, hdt⟩ := x.at_
  have hl := Paired.length p
  have hz := x.sz
  refine PySem.W.kdl_call (PySem.KdlSrc.rawDict (es := (rs.map fun e => (⟨e.1.hash X.w, e.2.1, e.2.2⟩ : DictEntry)).toArray) (ep := es.1) x.sys) (I.ok.hd hc) ⟨o, ho, hx, hdt⟩ (by simpa using hz) fun h' tk acc' c' hkeep hS hacc => ?_
  refine ⟨.ref s.heap.objs.size, upd H s.heap.objs.size (.lst (es.2.map (·.2.1))), I.laid hkeep (Nat.le_refl _) (show ObjOk X.prog X.w _ _ _ (.lst (es.2.map (·.2.1))) from ⟨?_, acc'.toList, c', ?_, ?_⟩), rfl, q _ (I.hok.fresh (Nat.le_refl _))⟩
  · rw [List.length_map, hl]; exact hz
  · have el : acc'.toList.length = acc'.size := by simp
    refine vals_of_at (by rw [List.length_map, el, hacc.1, hl]; simp) fun j y w h1 h2 => ?_
    obtain ⟨hj, ew⟩ := hacc.2 j w (by rw [← Array.getElem?_toList]; exact h2)
    subst ew
    rw [List.getElem?_map] at h1
    obtain ⟨e, he, rfl⟩ := Option.map_eq_some_iff.mp h1
    have hj2 : j < rs.length := by simpa using hj
    obtain ⟨e', he', q1, q2, q3⟩ := paired_get p (List.getElem?_eq_getElem hj2)
    rw [he] at he'; cases he'
    simpa using q2
  · rw [Array.toArray_toList]; exact hS
end

/-- a box changed, at the heap -/
theorem HR.upd {C : Ct} {L : List Nat} {μ : Mu} {H : Hp} {h h' : Hs} {n : Nat} {a : Addr} {o : O} {ho : HO} (r : HR C L μ H h) (m : μ[n]? = some a) (q : ObR C μ (upd H a ho) a o) (e : h.set n o = some h') : HR C L μ (upd H a ho) h' ∧ Go L μ H μ (upd H a ho) :=
  r.set m (fun b hb => upd_ne hb) ⟨_, upd_same⟩ q e
section
variable {X : Cx}
end
section
variable {C : Ct}
def dListD (h : Hs) : List D → Option Nv
  | [.box n] => match h.get n with
    | some (.dct _ ks _) => some (.n (.lst ks))
    | _ => none
  | _ => none
theorem cov_listD : CovA C (rListD C.w C.K) dListD := by
  intro H L μ h xs ds n Q hr r1 hf want
  unfold dListD at hf
  split at hf
  · split at hf
    · rename_i e0
      cases hf
      obtain ⟨x, rfl, h1⟩ := r1.one
      obtain ⟨a, es, rfl, m, e, en, ek, rk, rv⟩ := hr.dct h1 e0
      exact ⟨a, es, rfl, e, fun p hp => want.lst rk hp⟩
    · cases hf
  · cases hf
end
end Rh

set_option Elab.async false
set_option linter.all false
set_option maxRecDepth 100000
set_option maxHeartbeats 2000000
set_option autoImplicit false
namespace Rh
open PySem PySem.Spec PyProof.Rows L2
variable [Tbs]
/-! ### zip and enumerate over lists and tuples -/
def ItAt (t : Bool) (h : Heap) (it l : Addr) (i : Nat) : Prop := match t with
  | true => h.IsTupleIter it l i
  | false => h.IsListIter it l i
def HpB (t : Bool) (h : Heap) (l : Addr) (xs : Array Value) : Prop := match t with
  | true => h.IsTuple l xs
  | false => h.IsList l xs
def SqB (K : PySem.W.Frag) (t : Bool) (H : Hp) (l : Addr) (xs : List V) : Prop := match t with
  | true => SqT K H l xs
  | false => SqL K H l xs
def obB (t : Bool) (l : Addr) : Obj := match t with
  | true => { cls := .type "tuple_iterator", data := .fields #[.ref l, .int 0 0] }
  | false => { cls := .type "list_iterator", data := .fields #[.ref l, .int 0 0] }
theorem drawsB {prog : Program} {w : World} {A : Around} (hh : A.handled = none) (t : Bool) (it l : Addr) (hne : l ≠ it) (items : Array Value) :
    Draws prog w A it [it, l] items.size (fun i v => items[i]? = some v) (fun i h => ItAt t h it l i ∧ HpB t h l items) := by
  cases t
  · exact Draws.list hh it l hne items
  · exact Draws.tuple hh it l hne items
theorem beginsB (t : Bool) (l : Addr) (items : Array Value) : Begins (.ref l) (obB t l) fun h => HpB t h l items := by
  cases t
  · exact begins_list l items
  · exact begins_tuple l items
theorem itAt_new {t : Bool} {h : Heap} {it l : Addr} (e : h.get? it = some (obB t l)) : ItAt t h it l 0 := by
  cases t
  · exact ⟨_, e, rfl, rfl⟩
  · exact ⟨_, e, rfl, rfl⟩
theorem itAt_keep {t : Bool} {h h' : Heap} {it l : Addr} {i : Nat} (x : ItAt t h it l i) (k : ∀ o, h.get? it = some o → h'.get? it = some o) : ItAt t h' it l i := by
  cases t
  · exact Heap.IsListIter.at x k
  · exact Heap.IsTupleIter.at x k
theorem itAt_obj {t : Bool} {h : Heap} {it l : Addr} {i : Nat} (x : ItAt t h it l i) : ∃ o, h.get? it = some o ∧ ∀ v, o.data ≠ .cell v := by
  cases t
  · obtain ⟨o, e, _, d⟩ := x; exact ⟨o, e, fun v q => by rw [d] at q; cases q⟩
  · obtain ⟨o, e, _, d⟩ := x; exact ⟨o, e, fun v q => by rw [d] at q; cases q⟩
section
variable {X : Cx} {pins : List (Addr × Obj)} {σ : L2.St} {H : Hp} {s : Shared} {t : Bool} {a : Addr} {xs ys : List V}
theorem sqB_ok (I : L2.Inv X pins σ H s) (h : SqB X.K t H a xs) : ∃ its : List Value, Vals xs its ∧ HpB t s.heap a its.toArray ∧ xs.length ≤ sizeLine := by
  cases t
  · obtain ⟨its, r, p, z⟩ := I.list h
    exact ⟨its, r, p.isList, z⟩
  · obtain ⟨its, r, p, z⟩ := I.tuple h
    exact ⟨its, r, p, z⟩
theorem sqB_inj (I : L2.Inv X pins σ H s) (h : SqB X.K t H a xs) (h' : SqB X.K t H a ys) : xs = ys := by
  cases t
  · exact I.list_inj h h'
  · exact I.tuple_inj h h'
theorem hpB_lt {h : Heap} {items : Array Value} (x : HpB t h a items) : a < h.objs.size := by
  cases t
  · obtain ⟨o, e, _⟩ := x; exact Heap.lt_size e
  · obtain ⟨o, e, _⟩ := x; exact Heap.lt_size e
end
/-- what stands at a and at b at each turn, the items in new pairs -/
def ItzB (K : PySem.W.Frag) (t1 : Bool) (a : Addr) (t2 : Bool) (b : Addr) : It :=
  ⟨fun i H => ∃ (xs ys : List V) (x y : V), SqB K t1 H a xs ∧ SqB K t2 H b ys ∧ xs[i]? = some x ∧ ys[i]? = some y,
    fun i H v H' => ∃ (T : Addr) (x y : V) (o : Obj), v = .ref T ∧ H T = none ∧ o.dict = none ∧ H' = upd H T (.frz o (.tup [x, y])) ∧ (∀ xs, SqB K t1 H a xs → xs[i]? = some x) ∧ ∀ ys, SqB K t2 H b ys → ys[i]? = some y,
    fun i H => ∃ xs ys : List V, SqB K t1 H a xs ∧ SqB K t2 H b ys ∧ i ≤ xs.length ∧ i ≤ ys.length ∧ (i = xs.length ∨ i = ys.length)⟩
theorem turn_zipB {P : Program} {w : World} {K : PySem.W.Frag} {elts : List Expr} {kk : Nat} {tpos : Pos} {t1 t2 : Bool} {a b z TI TO i1 i2 : Addr} (D : ZipSep2 z TI TO i1 i2 [i1, a] [i2, b]) (ai1 : a ≠ i1) (bi2 : b ≠ i2) :
    Turn P w K (.Tuple elts kk tpos) (ItzB K t1 a t2 b) [z, TI, TO, i1, i2] z (fun i h => IsZip h z TI TO .none ∧ IsTupOf2 h TI (.ref i1) (.ref i2) ∧ (∃ x y, IsTupOf2 h TO x y) ∧ ItAt t1 h i1 a i ∧ ItAt t2 h i2 b i) where
  mem := by simp
  obj := fun i h st c hc => by
    obtain ⟨hz, hTI, ⟨x, y, hTO⟩, h1, h2⟩ := st
    have e' : c = z ∨ c = TI ∨ c = TO ∨ c = i1 ∨ c = i2 := by simpa using hc
    rcases e' with q | q | q | q | q
    · rw [q]; exact ⟨_, hz, fun v q => nomatch q⟩
    · rw [q]; exact ⟨_, hTI, fun v q => nomatch q⟩
    · rw [q]; exact ⟨_, hTO, fun v q => nomatch q⟩
    · rw [q]; exact itAt_obj h1
    · rw [q]; exact itAt_obj h2
  keep := fun i h h' st k => by
    obtain ⟨hz, hTI, ⟨x, y, hTO⟩, h1, h2⟩ := st
    exact ⟨k z (by simp) _ hz, k TI (by simp) _ hTI, ⟨x, y, k TO (by simp) _ hTO⟩, itAt_keep h1 fun o q => k i1 (by simp) o q, itAt_keep h2 fun o q => k i2 (by simp) o q⟩
  item := by
    intro X hP hw hK hc i pins s σ H E I hf st hg
    subst hP hw hK
    obtain ⟨hz, hTI, ⟨x0, y0, hTO⟩, h1, h2⟩ := st
    obtain ⟨xs, ys, x, y, hqx, hqy, hx, hy⟩ := hg
    obtain ⟨its, rv, p, _⟩ := sqB_ok I hqx
    obtain ⟨its2, rv2, p2, _⟩ := sqB_ok I hqy
    obtain ⟨u, hu, ru⟩ := rv.get hx
    obtain ⟨u2, hu2, ru2⟩ := rv2.get hy
    have hzl : z < s.heap.objs.size := Heap.lt_size hz
    have hh : X.A.in1.handled = none := I.ok.hd hc
    have lt1 : i < its.toArray.size := by
      have := (List.getElem?_eq_some_iff.mp hu).1
      simpa using this
    have lt2 : i < its2.toArray.size := by
      have := (List.getElem?_eq_some_iff.mp hu2).1
      simpa using this
    refine wpAny_pyNext_zipD2_item D (drawsB (prog := X.prog) (w := X.w) (A := X.A.in1) hh t1 i1 a ai1 its.toArray) (drawsB (prog := X.prog) (w := X.w) (A := X.A.in1) hh t2 i2 b bi2 its2.toArray) hz hTI hTO ⟨h1, p⟩ ⟨h2, p2⟩ lt1 lt2 fun v1 v2 h' tk e1 e2 z' TO' st1 st2 hT hsz hk => ?_
    have e1 : v1 = u := by simpa [hu] using e1.symm
    have e2 : v2 = u2 := by simpa [hu2] using e2.symm
    subst e1 e2
    refine ⟨_, rfl, wpAny_letOwnedTupleGo_zip (s := { s with heap := h', toks := tk }) z' fun h'' z'' sb => ?_⟩
    have hT2 : h''.get? s.heap.objs.size = some { cls := .type "tuple", data := .seq #[v1, v2] } := (sb.2 _ (Nat.ne_of_gt hzl)).trans hT
    have new : ObjOk X.prog X.w (upd H s.heap.objs.size (.frz { cls := .type "tuple", data := .seq #[v1, v2] } (.tup [x, y]))) h'' s.heap.objs.size (.frz { cls := .type "tuple", data := .seq #[v1, v2] } (.tup [x, y])) :=
      ⟨hT2, by show 2 ≤ sizeLine; decide, [v1, v2], .cons ru (.cons ru2 .nil), ⟨_, hT2, rfl, _, rfl⟩⟩
    have I1 : L2.Inv X pins σ (upd H s.heap.objs.size (.frz { cls := .type "tuple", data := .seq #[v1, v2] } (.tup [x, y]))) { s with heap := h'', toks := tk } :=
      I.turnedNew (t' := tk) (ch := [z, TI, TO, i1, i2]) (fun c o hb q => (sb.2 c (fun q' => hb (by simp [q']))).trans (hk c o (fun q' => hb (by simp [q'])) (fun q' => hb (by simp [q'])) (fun q' => hb (by simp [q'])) (fun q' => hb (by simp [q'])) q)) hf (Nat.le_refl _) new
    refine ⟨.ref s.heap.objs.size, _, I1, rfl, ⟨_, x, y, _, rfl, I.hok.fresh (Nat.le_refl _), rfl, rfl, fun l hl => by rw [sqB_inj I hl hqx]; exact hx, fun l hl => by rw [sqB_inj I hl hqy]; exact hy⟩, ⟨z'', ?_, ⟨v1, v2, ?_⟩, ?_, ?_⟩, fun c hcm => ?_⟩
    · exact (sb.2 _ D.TIz).trans (hk _ _ D.TIz D.TITO D.TIi1 D.TIi2 hTI)
    · exact (sb.2 _ D.TOz).trans TO'
    · exact itAt_keep st1.1 fun o q => (sb.2 _ (Ne.symm D.zi1)).trans q
    · exact itAt_keep st2.1 fun o q => (sb.2 _ (Ne.symm D.zi2)).trans q
    · have hlt : c < s.heap.objs.size := by
        have e' : c = z ∨ c = TI ∨ c = TO ∨ c = i1 ∨ c = i2 := by simpa using hcm
        rcases e' with q | q | q | q | q
        · rw [q]; exact hzl
        · rw [q]; exact Heap.lt_size hTI
        · rw [q]; exact Heap.lt_size hTO
        · rw [q]; obtain ⟨_, e1, _⟩ := itAt_obj h1; exact Heap.lt_size e1
        · rw [q]; obtain ⟨_, e2, _⟩ := itAt_obj h2; exact Heap.lt_size e2
      rw [upd_ne (Nat.ne_of_lt hlt)]
      exact (hf c hcm).1
  done := by
    intro X hP hw hK hc i pins s σ H E I hf st hg
    subst hP hw hK
    obtain ⟨hz, hTI, ⟨x0, y0, hTO⟩, h1, h2⟩ := st
    obtain ⟨xs, ys, hqx, hqy, le1, le2, hend⟩ := hg
    obtain ⟨its, rv, p, _⟩ := sqB_ok I hqx
    obtain ⟨its2, rv2, p2, _⟩ := sqB_ok I hqy
    have hh : X.A.in1.handled = none := I.ok.hd hc
    have l1 : its.toArray.size = xs.length := by rw [List.size_toArray]; exact rv.length.symm
    have l2 : its2.toArray.size = ys.length := by rw [List.size_toArray]; exact rv2.length.symm
    refine wpAny_pyNext_zipD2_end D (drawsB (prog := X.prog) (w := X.w) (A := X.A.in1) hh t1 i1 a ai1 its.toArray) (drawsB (prog := X.prog) (w := X.w) (A := X.A.in1) hh t2 i2 b bi2 its2.toArray) hz hTI hTO ⟨h1, p⟩ ⟨h2, p2⟩ (by omega) (by omega) (by omega) fun h' tk hk => ⟨rfl, I.turnedL (t' := tk) (ch := [z, TI, TO, i1, i2]) (fun c o hb q =>
      hk c o (fun q' => hb (by simp [q'])) (fun q' => hb (by simp [q'])) (fun q' => hb (by simp [q'])) (fun q' => hb (by simp [q'])) q) hf⟩
  self := fun A i s Q E st h => wpAny_pyIter_zip st.1 h
def iZipB (K : PySem.W.Frag) (ta : TA) : TI := fun σ H R => ta σ H fun vs H1 => ∃ t1 a t2 b xs ys, vs = [.ref a, .ref b] ∧ SqB K t1 H1 a xs ∧ SqB K t2 H1 b ys ∧ R (ItzB K t1 a t2 b) H1
theorem pi_zipB {X : Cx} {e e2 : Expr} {ta : TA} {p pos tpos : Pos} {elts : List Expr} {kk : Nat} (hg : Gl X "zip") (hm : X.mg "zip" = none) (ha : PA X [e, e2] ta)
    (hs : starEach [e, e2] X.env = (false, eval e X.env) :: starEach [e2] X.env := by rfl) (hpl : (backTo pos (starEach [e2] X.env)).any (·.1) = false := by rfl) :
    PI X (.Tuple elts kk tpos) (.Call (.Name "zip" p) [e, e2] [] pos) (iZipB X.K ta) := by
  refine ⟨fun pins s σ H R I h => ?_⟩
  refine Call_ (ld_blt I hg hm PyProof.Rows.boot_zip (PyProof.Rows.callWith_type1 (thn (ha.run pos pins s σ H _ I h) fun us s1 ⟨vs, H1, I1, r1, q1⟩ => ?_) hs hpl))
  obtain ⟨t1, a, t2, b, xs, ys, ex, hqx, hqy, q⟩ := q1
  subst ex
  cases r1 with
  | cons r rr =>
    cases rr with
    | cons r' rr =>
      cases rr
      cases r
      cases r'
      have fresh5 : ∀ c, c ∈ [s1.heap.objs.size + 4, s1.heap.objs.size + 2, s1.heap.objs.size + 3, s1.heap.objs.size, s1.heap.objs.size + 1] → FpOk X pins H1 c := fun c hcm => by
        have e' : c = s1.heap.objs.size + 4 ∨ c = s1.heap.objs.size + 2 ∨ c = s1.heap.objs.size + 3 ∨ c = s1.heap.objs.size ∨ c = s1.heap.objs.size + 1 := by simpa using hcm
        have hle : s1.heap.objs.size ≤ c := by
          rcases e' with z | z | z | z | z
          · rw [z]; exact Nat.le_add_right _ _
          · rw [z]; exact Nat.le_add_right _ _
          · rw [z]; exact Nat.le_add_right _ _
          · rw [z]; exact Nat.le_refl _
          · rw [z]; exact Nat.le_add_right _ _
        exact I1.fpOk hle (I1.hok.fresh hle)
      obtain ⟨its, rv, p1, _⟩ := sqB_ok I1 hqx
      obtain ⟨its2, rv2, p2, _⟩ := sqB_ok I1 hqy
      have la := hpB_lt p1
      have lb := hpB_lt p2
      refine zip_begins2 (beginsB t1 a its.toArray) (beginsB t2 b its2.toArray) p1 p2 fun h' hz hTI hTO h1 h2 hsz hk => wpAny_pyIter_zip hz ?_
      have I2 : L2.Inv X pins σ H1 { s1 with heap := h' } := I1.kept (t' := s1.toks) hk
      have D : ZipSep2 (s1.heap.objs.size + 4) (s1.heap.objs.size + 2) (s1.heap.objs.size + 3) s1.heap.objs.size (s1.heap.objs.size + 1) (s1.heap.objs.size :: [a]) ((s1.heap.objs.size + 1) :: [b]) :=
        zip_sep2 (fun c hc => by rw [List.mem_singleton.mp hc]; exact la) (fun c hc => by rw [List.mem_singleton.mp hc]; exact lb)
      exact ⟨s1.heap.objs.size + 4, [s1.heap.objs.size + 4, s1.heap.objs.size + 2, s1.heap.objs.size + 3, s1.heap.objs.size, s1.heap.objs.size + 1], _, _, H1, rfl, I2, turn_zipB D (Nat.ne_of_lt la) (Nat.ne_of_lt (Nat.lt_succ_of_lt lb)), ⟨hz, hTI, ⟨_, _, hTO⟩, itAt_new h1, itAt_new h2⟩, fresh5, q⟩
end Rh

set_option Elab.async false
set_option linter.all false
set_option maxRecDepth 100000
set_option maxHeartbeats 2000000
set_option autoImplicit false
namespace Rh
open PySem PySem.Spec PyProof.Rows L2
variable [Tbs]
section
variable {prog : Program} {w : World} {A : Around} {E : Value → Shared → Prop} {s : Shared}
end
end Rh

set_option Elab.async false
set_option linter.all false
set_option maxRecDepth 100000
set_option maxHeartbeats 2000000
set_option autoImplicit false
namespace Rh
open PySem PySem.Spec PyProof.Rows L2
variable [Tbs]

/-! ### what is walked -/
/-- what is immutable stays, and so do the walked boxes -/
structure Still (lks : List Nat) (μ1 : Mu) (H1 : Hp) (μ : Mu) (H : Hp) : Prop where
  st : Stay μ1 H1 μ H
  lk : ∀ n ∈ lks, ∀ a, μ1[n]? = some a → H a = H1 a
/-- the walk J yields the data ds, wherever the walked boxes stand still -/
structure Cover (C : Ct) (J : It) (ds : List D) (lks : List Nat) (μ1 : Mu) (H1 : Hp) : Prop where
  go : ∀ i μ H, Still lks μ1 H1 μ H → i < ds.length → J.go i H
  stop : ∀ i μ H, Still lks μ1 H1 μ H → i = ds.length → J.stop i H
  yld : ∀ i μ H x H' d, Still lks μ1 H1 μ H → J.yld i H x H' → ds[i]? = some d → Same H H' ∧ (∀ a, H' a = none → H a = none) ∧ RepV C μ H' d x
def rdI (X : Cx) (W : WX) (m : M (List D × List Nat)) : TI := fun σ H R => rdG X W m σ H fun _ _ p _ μ' H' => ∀ J, Cover (ctX X) J p.1 p.2 μ' H' → R J H'
section
variable {C : Ct} {L : List Nat} {μ μ1 : Mu} {H H1 : Hp} {h : Hs}
/-- a sequence as it stands -/
def SqF (K : PySem.W.Frag) (lks : List Nat) (t : Bool) (μ : Mu) (H : Hp) (a : Addr) (vs : List V) : Prop := match t with
  | true => TupAt K H a vs
  | false => (∃ n ∈ lks, μ[n]? = some a ∧ H a = some (.lst vs)) ∨ ScrAt K H a vs
theorem SqF.sq {K : PySem.W.Frag} {lks : List Nat} {t : Bool} {a : Addr} {vs : List V} (q : SqF K lks t μ H a vs) : SqB K t H a vs := by
  cases t
  · rcases q with ⟨n, _, _, e⟩ | q
    · exact .inl (.inl e)
    · exact q.sqL
  · exact TupAt.sq q
theorem SqF.still {K : PySem.W.Frag} {lks : List Nat} {t : Bool} {a : Addr} {vs : List V} (st : Still lks μ1 H1 μ H) (q : SqF K lks t μ1 H1 a vs) : SqB K t H a vs := by
  cases t
  · rcases q with ⟨n, m, e1, e⟩ | q
    · exact .inl (.inl ((st.lk n m a e1).trans e))
    · exact (st.st.scr q).sqL
  · exact TupAt.sq (st.st.tupAt q)
theorem SqF.more {K : PySem.W.Frag} {lks lks' : List Nat} {t : Bool} {a : Addr} {vs : List V} (hl : ∀ n ∈ lks, n ∈ lks') (q : SqF K lks t μ H a vs) : SqF K lks' t μ H a vs := by
  cases t
  · rcases q with ⟨n, m, q⟩ | q
    · exact .inl ⟨n, hl n m, q⟩
    · exact .inr q
  · exact q
/-- items, and the box that holds them -/
def itD (h : Hs) : D → Option (List D × List Nat)
  | .tup ds => some (ds, [])
  | .scr ds => some (ds, [])
  | .box n => match h.get n with
    | some (.lst ds) => some (ds, [n])
    | _ => none
  | _ => none
theorem itD_ok (r : HR C L μ H h) {d : D} {ds : List D} {lks : List Nat} {x : V} (q : RepV C μ H d x) (e : itD h d = some (ds, lks)) : ∃ t a vs, x = .ref a ∧ SqF C.K lks t μ H a vs ∧ RepL C μ H ds vs := by
  cases d with
  | tup es => cases e; obtain ⟨a, vs, rfl, t, q⟩ := q; exact ⟨true, a, vs, rfl, t, q⟩
  | scr es => cases e; obtain ⟨a, vs, rfl, t, q⟩ := q; exact ⟨false, a, vs, rfl, .inr t, q⟩
  | box n =>
    unfold itD at e
    dsimp only at e
    split at e
    · rename_i e0
      cases e
      obtain ⟨a, vs, rfl, m, t, q⟩ := r.lst q e0
      exact ⟨false, a, vs, rfl, .inl ⟨n, List.mem_singleton_self _, m, t⟩, q⟩
    · cases e
  | _ => cases e
theorem cover_seq {lks : List Nat} {t : Bool} {a : Addr} {vs : List V} {ds : List D} (q : SqF C.K lks t μ1 H1 a vs) (r : RepL C μ1 H1 ds vs) : Cover C (match t with | true => Itt C.K a | false => Itl C.K a) ds lks μ1 H1 := by
  cases t
  · refine ⟨fun i μ H st hi => ?_, fun i μ H st hi => ⟨vs, q.still st, by rw [r.length]; exact Nat.le_of_eq hi.symm⟩, fun i μ H x H' d st y hd => ?_⟩
    · obtain ⟨v, hv, _⟩ := r.get (List.getElem?_eq_getElem hi)
      exact ⟨vs, v, q.still st, hv⟩
    · obtain ⟨e, y⟩ := y
      subst e
      obtain ⟨v, hv, rv⟩ := r.get hd
      have := y vs (q.still st)
      rw [hv] at this; cases this
      exact ⟨fun _ _ e => e, fun _ e => e, rv.stay st.st⟩
  · refine ⟨fun i μ H st hi => ?_, fun i μ H st hi => ⟨vs, q.still st, by rw [r.length]; exact Nat.le_of_eq hi.symm⟩, fun i μ H x H' d st y hd => ?_⟩
    · obtain ⟨v, hv, _⟩ := r.get (List.getElem?_eq_getElem hi)
      exact ⟨vs, v, q.still st, hv⟩
    · obtain ⟨e, y⟩ := y
      subst e
      obtain ⟨v, hv, rv⟩ := r.get hd
      have := y vs (q.still st)
      rw [hv] at this; cases this
      exact ⟨fun _ _ e => e, fun _ e => e, rv.stay st.st⟩
theorem cover_dct {n : Nat} {a : Addr} {es : Nat × List EV} {ds : List D} (m : μ1[n]? = some a) (e : H1 a = some (DicO C.w a es)) (r : RepL C μ1 H1 ds (es.2.map (·.2.1))) : Cover C (Itq C.w a es) ds [n] μ1 H1 := by
  have hl : es.2.length = ds.length := by rw [← r.length, List.length_map]
  have at_ : ∀ {μ : Mu} {H : Hp}, Still [n] μ1 H1 μ H → H a = some (DicO C.w a es) := fun st => (st.lk n (List.mem_singleton_self _) a m).trans e
  refine ⟨fun i μ H st hi => ⟨at_ st, by omega⟩, fun i μ H st hi => ⟨at_ st, by omega⟩, fun i μ H x H' d st y hd => ?_⟩
  obtain ⟨e, en, he, rfl⟩ := y
  subst e
  obtain ⟨v, hv, rv⟩ := r.get hd
  rw [List.getElem?_map, he] at hv
  cases hv
  exact ⟨fun _ _ e => e, fun _ e => e, rv.stay st.st⟩
end
section
variable {X : Cx} {W : WX} {tg : Expr}
/-- what is walked: a sequence, or a dict's keys -/
def iterD (h : Hs) (d : D) : Option (List D × List Nat) := match itD h d with
  | some p => some p
  | none => match d with
    | .box n => (match h.get n with
      | some (.dct _ ks _) => some (ks, [n])
      | _ => none)
    | _ => none
def mIter (m : M D) : M (List D × List Nat) := mBind m fun d => fun _ h => match iterD h d with
  | some p => some (.ok p h)
  | none => none
theorem i_any {l : Expr} {m : M D} (hl : PE X l (rd X W m)) : PI X tg l (rdI X W (mIter m)) := by
  refine pi_imp (pi_seqD hl) fun σ H R q => rdG_imp (rdG_bind q) fun ρ L d h1 μ1 H1 ⟨rel1, q1⟩ x rx => ?_
  unfold iterD at q1
  cases e1 : itD h1 d with
  | some p =>
    obtain ⟨ds, lks⟩ := p
    simp only [e1] at q1
    obtain ⟨t, a, vs, rfl, sq, rl⟩ := itD_ok rel1.hr rx e1
    have k := q1 μ1 H1 .refl rel1.hr _ (cover_seq sq rl)
    refine ⟨a, rfl, ?_⟩
    cases t
    · exact .inl ⟨⟨vs, sq.sq⟩, k⟩
    · exact .inr (.inl ⟨⟨vs, sq.sq⟩, k⟩)
  | none =>
    simp only [e1] at q1
    cases d with
    | box n =>
      dsimp only at q1
      cases e0 : h1.get n with
      | none => simp only [e0] at q1; exact q1.none
      | some o =>
        cases o with
        | dct nks ks vs =>
          simp only [e0] at q1
          obtain ⟨a, es, rfl, m, t, en, ek, r1, r2⟩ := rel1.hr.dct rx e0
          exact ⟨a, rfl, .inr (.inr ⟨es, t, q1 μ1 H1 .refl rel1.hr _ (cover_dct m t r1)⟩)⟩
        | _ => simp only [e0] at q1; exact q1.none
    | _ => exact q1.none
/-! ranges -/
def rangeD (lo hi : Int) : List D := (List.range (hi - lo).toNat).map fun k => .int (lo + (k : Nat))
theorem cover_range {C : Ct} {lo : Int} {n : Nat} {H1 : Hp} {μ1 : Mu} : Cover C (Itr lo n) ((List.range n).map fun (k : Nat) => D.int (lo + (k : Nat))) [] μ1 H1 := by
  refine ⟨fun i μ H st hi => ?_, fun i μ H st hi => ?_, fun i μ H x H' d st y hd => ?_⟩
  · show i < n; simpa using hi
  · show n ≤ i; have q := hi; simp at q; omega
  · obtain ⟨e, rfl⟩ := y
    subst e
    rw [List.getElem?_map] at hd
    obtain ⟨k, hk, rfl⟩ := Option.map_eq_some_iff.mp hd
    obtain ⟨h1, h2⟩ := List.getElem?_eq_some_iff.mp hk
    rw [List.getElem_range] at h2
    subst h2
    exact ⟨fun _ _ e => e, fun _ e => e, rfl⟩
def mRange1 (ms : M (List D)) : M (List D × List Nat) := mBind ms fun ds => fun _ h => match ds with
  | [.int j] => if -1000000 ≤ j ∧ j ≤ 1000000 then some (.ok (rangeD 0 j, []) h) else none
  | _ => none
theorem i_range1 {a : Expr} {ms : M (List D)} {p pos : Pos} (hg : Gl X "range") (hm : X.mg "range" = none) (ha : PA X [a] (rdA X W ms)) (hs : starEach [a] X.env = [(false, eval a X.env)] := by rfl) : PI X tg (.Call (.Name "range" p) [a] [] pos) (rdI X W (mRange1 ms)) := by
  refine pi_imp (pi_range1 hg hm ha hs) fun σ H R q => rdG_imp (rdG_bind q) fun ρ L ds h1 μ1 H1 ⟨rel1, q1⟩ xs rx => ?_
  split at q1
  · rename_i j _
    split at q1
    · rename_i hj
      obtain ⟨x, rfl, hx⟩ := rx.one
      cases (show x = V.int j from hx)
      refine ⟨j, rfl, by omega, by omega, q1 μ1 H1 .refl rel1.hr _ ?_⟩
      have c := cover_range (C := ctX X) (lo := 0) (n := j.toNat) (H1 := H1) (μ1 := μ1)
      unfold rangeD
      rw [Int.sub_zero]
      exact c
    · exact q1.none
  · exact q1.none
/-! zip, enumerate -/
def zipD (ds es : List D) : List D := List.zipWith (fun d e => .tup [d, e]) ds es
theorem cover_zip {C : Ct} {H1 : Hp} {μ1 : Mu} {lks : List Nat} {t1 t2 : Bool} {a b : Addr} {vs us : List V} {ds es : List D} (h1 : SqF C.K lks t1 μ1 H1 a vs) (h2 : SqF C.K lks t2 μ1 H1 b us) (r1 : RepL C μ1 H1 ds vs) (r2 : RepL C μ1 H1 es us) : Cover C (ItzB C.K t1 a t2 b) (zipD ds es) lks μ1 H1 := by
  have hl : (zipD ds es).length = min ds.length es.length := List.length_zipWith
  refine ⟨fun i μ H st hi => ?_, fun i μ H st hi => ?_, fun i μ H x H' d st y hd => ?_⟩
  · have i1 : i < ds.length := by omega
    have i2 : i < es.length := by omega
    obtain ⟨v, hv, _⟩ := r1.get (List.getElem?_eq_getElem i1)
    obtain ⟨u, hu, _⟩ := r2.get (List.getElem?_eq_getElem i2)
    exact ⟨vs, us, v, u, h1.still st, h2.still st, hv, hu⟩
  · have q1 := r1.length
    have q2 := r2.length
    exact ⟨vs, us, h1.still st, h2.still st, by omega, by omega, by omega⟩
  · obtain ⟨T, v, u, ob, rfl, hT, od, rfl, f1, f2⟩ := y
    have hi : i < (zipD ds es).length := (List.getElem?_eq_some_iff.mp hd).1
    have i1 : i < ds.length := by omega
    have i2 : i < es.length := by omega
    have e1 := f1 _ (h1.still st)
    have e2 := f2 _ (h2.still st)
    obtain ⟨v', hv, rv⟩ := r1.get (List.getElem?_eq_getElem i1)
    obtain ⟨u', hu, ru⟩ := r2.get (List.getElem?_eq_getElem i2)
    rw [e1] at hv; cases hv
    rw [e2] at hu; cases hu
    have ed : d = .tup [ds[i], es[i]] := by
      have q : (zipD ds es)[i]? = some (.tup [ds[i], es[i]]) := by
        unfold zipD
        rw [List.getElem?_zipWith, List.getElem?_eq_getElem i1, List.getElem?_eq_getElem i2]
      rw [q] at hd
      exact (Option.some.inj hd).symm
    subst ed
    obtain ⟨s1, s2⟩ := same_new (o := HO.frz ob (.tup [v, u])) hT
    have st2 := Same.stay (μ := μ) s1
    exact ⟨s1, s2, T, [v, u], rfl, .inl ⟨ob, upd_same, od⟩, v, [u], rfl, (rv.stay st.st).stay st2, u, [], rfl, (ru.stay st.st).stay st2, rfl⟩
def mZip (ms : M (List D)) : M (List D × List Nat) := mBind ms fun ds => fun _ h => match ds with
  | [d1, d2] => (match itD h d1, itD h d2 with
    | some (ds, l1), some (es, l2) => some (.ok (zipD ds es, l1 ++ l2) h)
    | _, _ => none)
  | _ => none
theorem i_zip {e e2 : Expr} {ms : M (List D)} {p pos tpos : Pos} {elts : List Expr} {kk : Nat} (hg : Gl X "zip") (hm : X.mg "zip" = none) (ha : PA X [e, e2] (rdA X W ms))
    (hs : starEach [e, e2] X.env = (false, eval e X.env) :: starEach [e2] X.env := by rfl) (hpl : (backTo pos (starEach [e2] X.env)).any (·.1) = false := by rfl) :
    PI X (.Tuple elts kk tpos) (.Call (.Name "zip" p) [e, e2] [] pos) (rdI X W (mZip ms)) := by
  refine pi_imp (pi_zipB hg hm ha hs hpl) fun σ H R q => rdG_imp (rdG_bind q) fun ρ L ds h1 μ1 H1 ⟨rel1, q1⟩ xs rx => ?_
  split at q1
  · rename_i d1 d2
    split at q1
    · rename_i ds l1 es l2 e1 e2
      obtain ⟨x, y, rfl, hx, hy⟩ := rx.two
      obtain ⟨t1, a, vs, rfl, s1, r1⟩ := itD_ok rel1.hr hx e1
      obtain ⟨t2, b, us, rfl, s2, r2⟩ := itD_ok rel1.hr hy e2
      exact ⟨t1, a, t2, b, vs, us, rfl, s1.sq, s2.sq, q1 μ1 H1 .refl rel1.hr _ (cover_zip (s1.more fun n m => List.mem_append_left _ m) (s2.more fun n m => List.mem_append_right _ m) r1 r2)⟩
    · exact q1.none
  · exact q1.none
end

/-! ### targets -/
/-- but for the slots tv all stands -/
def Bt (tv : List Nat) (σ σ' : L2.St) : Prop := σ'.length = σ.length ∧ ∀ (i : Nat), i ∉ tv → σ'[i]? = σ[i]?
abbrev TM := D → En → Hs → Option (En × Hs)
def rdTg (X : Cx) (t : TM) (tv : List Nat) : TG := fun x σ H Q => ∃ d ρ L μ h ρ' h', Rel (ctX X) L ρ σ μ H h ∧ RepV (ctX X) μ H d x ∧ t d ρ h = some (ρ', h') ∧ ∀ σ' μ' H', Go L μ H μ' H' → Rel (ctX X) L ρ' σ' μ' H' h' → Bt tv σ σ' → Q σ' H'
def tName (i : Nat) : TM := fun d ρ h => some (ρ.set i (some d), h)
abbrev TMs := List D → En → Hs → Option (En × Hs)
def rdTgs (X : Cx) (t : TMs) (tv : List Nat) : TGs := fun xs σ H Q => ∃ ds ρ L μ h ρ' h', Rel (ctX X) L ρ σ μ H h ∧ RepL (ctX X) μ H ds xs ∧ t ds ρ h = some (ρ', h') ∧ ∀ σ' μ' H', Go L μ H μ' H' → Rel (ctX X) L ρ' σ' μ' H' h' → Bt tv σ σ' → Q σ' H'
def tsNil : TMs := fun ds ρ h => match ds with | [] => some (ρ, h) | _ => none
def tsCons (t : TM) (ts : TMs) : TMs := fun ds ρ h => match ds with
  | [] => none
  | d :: r => match t d ρ h with
    | none => none
    | some (ρ1, h1) => ts r ρ1 h1
def tTup (n : Nat) (ts : TMs) : TM := fun d ρ h => match d with
  | .tup ds => if ds.length = n then ts ds ρ h else none
  | d => match lstD h d with
    | some ds => if ds.length = n then ts ds ρ h else none
    | none => none
section
variable {X : Cx} {W : WX}
theorem g_name {i : Nat} {x : Str} {pos : Pos} (hN : X.N.Nodup) (hi : X.N[i]? = some x) (hx : Loc X.env.scope x) (hf : X.fn x = true ∨ X.env.scope.names.lookup x = some .local := by first | exact .inl rfl | exact .inr rfl | assumption) : PG X (.Name x pos) (rdTg X (tName i) [i]) :=
  pg_imp (pg_name hN hi hx hf) fun v σ H Q ⟨d, ρ, L, μ, h, ρ', h', rel, rv, e, k⟩ => by
    cases e
    exact k _ μ H .refl (rel.set rv) ⟨by rw [List.length_set], fun j hj => List.getElem?_set_ne fun q => hj (by rw [q]; exact List.mem_singleton_self _)⟩
theorem gs_nil : PGs X [] (rdTgs X tsNil []) := pgs_imp pgs_nil fun v σ H Q ⟨ds, ρ, L, μ, h, ρ', h', rel, rv, e, k⟩ => by
  unfold tsNil at e
  split at e
  · cases e
    exact ⟨rv, k σ μ H .refl rel ⟨rfl, fun _ _ => rfl⟩⟩
  · cases e
theorem gs_cons {e : Expr} {es : List Expr} {t : TM} {ts : TMs} {v1 v2 : List Nat} (h1 : PG X e (rdTg X t v1)) (h2 : PGs X es (rdTgs X ts v2))
    (hs : (assignEach (e :: es) X.env).map (·.2) = assign e X.env :: (assignEach es X.env).map (·.2) := by rfl) : PGs X (e :: es) (rdTgs X (tsCons t ts) (v1 ++ v2)) := by
  refine pgs_imp (pgs_cons h1 h2 hs) fun v σ H Q ⟨ds, ρ, L, μ, h, ρ', h', rel, rv, e, k⟩ => ?_
  unfold tsCons at e
  split at e
  · cases e
  · rename_i d r
    obtain ⟨x, xs, rfl, q1, q2⟩ := rv
    split at e
    · cases e
    · rename_i ρ1 h1 e1
      exact ⟨x, xs, rfl, d, ρ, L, μ, h, ρ1, h1, rel, q1, e1, fun σ1 μ1 H1 g1 rel1 b1 => ⟨r, ρ1, L, μ1, h1, ρ', h', rel1, q2.go rel.hr g1, e, fun σ2 μ2 H2 g2 rel2 b2 => k σ2 μ2 H2 (g1.trans g2) rel2 ⟨b2.1.trans b1.1, fun i hi => (b2.2 i fun q => hi (List.mem_append_right _ q)).trans (b1.2 i fun q => hi (List.mem_append_left _ q))⟩⟩⟩
theorem g_tup {es : List Expr} {k : Nat} {pos : Pos} {n : Nat} {ts : TMs} {tv : List Nat} (hc : X.calm = true) (h : PGs X es (rdTgs X ts tv))
    (hn : (assignEach es X.env).length = n := by rfl) (hst : (assignEach es X.env).findIdx? (·.1) = none := by rfl) : PG X (.Tuple es k pos) (rdTg X (tTup n ts) tv) := by
  have both : PG X (.Tuple es k pos) (fun v σ H Q => gTup X.K n (rdTgs X ts tv) v σ H Q ∨ gUnl X.K n (rdTgs X ts tv) v σ H Q) :=
    ⟨fun pins s σ H v u Q I r hw => hw.elim (fun q => (pg_tup hc h hn hst).run pins s σ H v u Q I r q) fun q => (pg_unl hc h hn hst).run pins s σ H v u Q I r q⟩
  refine pg_imp both fun v σ H Q ⟨d, ρ, L, μ, h, ρ', h', rel, rv, e, kk⟩ => ?_
  unfold tTup at e
  split at e
  · rename_i ds
    split at e
    · rename_i hl
      obtain ⟨a, vs, rfl, t, q⟩ := rv
      exact .inl ⟨a, vs, rfl, t.sq, by rw [q.length]; exact hl, ds, ρ, L, μ, h, ρ', h', rel, q, e, kk⟩
    · cases e
  · split at e
    · rename_i ds ed
      split at e
      · rename_i hl
        obtain ⟨a, vs, rfl, t, q⟩ := lstD_ok rel.hr rv ed
        exact .inr ⟨a, vs, rfl, t, by rw [q.length]; exact hl, ds, ρ, L, μ, h, ρ', h', rel, q, e, kk⟩
      · cases e
    · cases e
end

/-! ### loops -/
def relk (L : List Nat) (h : Hs) : Hs := ⟨h.n, h.t, L⟩
def unlk (L : List Nat) : Option RS → Option RS
  | some (.nx ρ h) => some (.nx ρ (relk L h))
  | some (.bk ρ h) => some (.bk ρ (relk L h))
  | some (.ct ρ h) => some (.ct ρ (relk L h))
  | some (.rt d h) => some (.rt d (relk L h))
  | some (.ex c fs ρ h) => some (.ex c fs ρ (relk L h))
  | none => none
theorem HR.relk {C : Ct} {L L' : List Nat} {μ : Mu} {H : Hp} {h : Hs} (r : HR C L μ H h) : HR C L' μ H (Rh.relk L' h) := ⟨rfl, r.len, r.nd, r.tb, r.ob⟩
theorem Rel.relk {C : Ct} {L L' : List Nat} {ρ : En} {σ : L2.St} {μ : Mu} {H : Hp} {h : Hs} (r : Rel C L ρ σ μ H h) : Rel C L' ρ σ μ H (Rh.relk L' h) := ⟨r.len, r.val, r.hr.relk⟩
theorem Go.less {l L : List Nat} {μ μ' : Mu} {H H' : Hp} (g : Go (l ++ L) μ H μ' H') : Go L μ H μ' H' := ⟨fun i m => g.lk i (List.mem_append_right _ m), g.keep, g.dom, g.ext, g.new⟩
theorem SatS.unlk {X : Cx} {W : WX} {D0 : Ends} {l L : List Nat} {μ : Mu} {H : Hp} {o : Option RS} (q : SatS X W D0 L μ H (unlk L o)) : SatS X W D0 (l ++ L) μ H o := by
  cases o with
  | none => exact q.none
  | some o =>
    cases o with
    | nx ρ h => exact fun σ' μ' H' g r => q σ' μ' H' g.less r.relk
    | bk ρ h => exact fun σ' μ' H' g r => q σ' μ' H' g.less r.relk
    | ct ρ h => exact fun σ' μ' H' g r => q σ' μ' H' g.less r.relk
    | rt d h => exact fun μ' H' x g r rv => q μ' H' x g.less r.relk rv
    | ex c fs ρ h => exact fun cls d σ' μ' H' g r rx => q cls d σ' μ' H' g.less r.relk rx
def loopF (t : TM) (body : MS) : List D → MS
  | [], ρ, h => some (.nx ρ h)
  | d :: ds, ρ, h => match t d ρ h with
    | none => none
    | some (ρ1, h1) => match body ρ1 h1 with
      | some (.nx ρ2 h2) => loopF t body ds ρ2 h2
      | some (.ct ρ2 h2) => loopF t body ds ρ2 h2
      | some (.bk ρ2 h2) => some (.nx ρ2 h2)
      | o => o
def mFor (mi : M (List D × List Nat)) (t : TM) (body : MS) : MS := mDo mi fun p => fun ρ h => unlk h.lk (loopF t body p.1 ρ (relk (p.2 ++ h.lk) h))
section
variable {X : Cx} {W : WX}
theorem s_for {tg iter : Expr} {body : List Stmt} {mi : M (List D × List Nat)} {t : TM} {mb : MS} {tv : List Nat} {pos : Pos} (hp : PassesOwn (model X.prog X.w) X.A X.env X.xe) (hc : X.calm = true) (hi : PI X tg iter (rdI X W mi)) (hg : PG X tg (rdTg X t tv)) (hb : PSs X body (rdS X W mb))
    (hs : ∀ x, foldedSetIterable iter X.env x = pure x := by intro _; rfl) : PS X (.For tg iter body [] pos) (rdS X W (mFor mi t mb)) := by
  refine ps_imp (ps_for hp hc hi hg hb hs) fun D σ H q => rdG_imp (rdS_bind q) fun ρ L p h1 μ1 H1 ⟨rel1, q1⟩ J cov => ?_
  obtain ⟨ds, lks⟩ := p
  dsimp only at q1 cov
  rw [rel1.hr.lk] at q1
  have q2 := SatS.unlk (l := lks) q1
  have rel2 := rel1.relk (L' := lks ++ L)
  refine ⟨fun i m σ2 H2 => m = ds.length - i ∧ i ≤ ds.length ∧ ∃ μ2 ρ2 h2, Go (lks ++ L) μ1 H1 μ2 H2 ∧ Rel (ctX X) (lks ++ L) ρ2 σ2 μ2 H2 h2 ∧ SatS X W D (lks ++ L) μ2 H2 (loopF t mb (ds.drop i) ρ2 h2), ⟨ds.length, by simp, Nat.zero_le _, μ1, ρ, _, .refl, rel2, q2⟩, ?_⟩
  rintro i m σ2 H2 ⟨rfl, hi, μ2, ρ2, h2, g2, r2, k2⟩
  have st : Still lks μ1 H1 μ2 H2 := ⟨g2.stay rel2.hr, fun n m => g2.lk n (List.mem_append_left _ m)⟩
  by_cases hlt : i < ds.length
  · refine .inr ⟨cov.go i μ2 H2 st hlt, fun σ3 H3 => i + 1 ≤ ds.length ∧ ∃ μ3 ρ3 h3, Go (lks ++ L) μ1 H1 μ3 H3 ∧ Rel (ctX X) (lks ++ L) ρ3 σ3 μ3 H3 h3 ∧ SatS X W D (lks ++ L) μ3 H3 (loopF t mb (ds.drop (i + 1)) ρ3 h3), fun σ3 H3 ⟨q1, q2⟩ => ⟨ds.length - (i + 1), by omega, rfl, q1, q2⟩, fun x H' y => ?_⟩
    have hd : ds[i]? = some ds[i] := List.getElem?_eq_getElem hlt
    obtain ⟨sm, dm, rv⟩ := cov.yld i μ2 H2 x H' _ st y hd
    have g3 : Go (lks ++ L) μ2 H2 μ2 H' := .same r2.hr sm dm
    have r3 := r2.go g3 (r2.hr.same sm)
    rw [List.drop_eq_getElem_cons hlt] at k2
    unfold loopF at k2
    cases e1 : t ds[i] ρ2 h2 with
    | none => rw [e1] at k2; exact k2.none
    | some pp =>
      obtain ⟨ρ3, h3⟩ := pp
      simp only [e1] at k2
      refine ⟨ds[i], ρ2, lks ++ L, μ2, h2, ρ3, h3, r3, rv, e1, fun σ4 μ4 H4 g4 r4 _ => ⟨ρ3, lks ++ L, μ4, h3, r4, ?_⟩⟩
      have g5 := g2.trans (g3.trans g4)
      have k3 := k2.start (g3.trans g4)
      cases e2 : mb ρ3 h3 with
      | none => simp only [e2] at k3; exact k3.none
      | some o =>
        cases o with
        | nx ρ4 h4 =>
          simp only [e2] at k3
          exact fun σ5 μ5 H5 g6 r6 => ⟨hlt, μ5, ρ4, h4, g5.trans g6, r6, k3.start g6⟩
        | ct ρ4 h4 =>
          simp only [e2] at k3
          exact fun σ5 μ5 H5 g6 r6 => ⟨hlt, μ5, ρ4, h4, g5.trans g6, r6, k3.start g6⟩
        | bk ρ4 h4 => simp only [e2] at k3; exact k3
        | rt n h4 => simp only [e2] at k3; exact k3
        | ex c fs ρ4 h4 => simp only [e2] at k3; exact k3
  · have e : i = ds.length := by omega
    subst e
    rw [List.drop_length] at k2
    exact .inl ⟨cov.stop _ μ2 H2 st rfl, k2 σ2 μ2 H2 .refl r2⟩
end
end Rh

set_option Elab.async false
set_option linter.all false
set_option maxRecDepth 100000
set_option maxHeartbeats 2000000
set_option autoImplicit false
namespace Rh
open PySem PySem.Spec PyProof.Rows L2
variable [Tbs]

/-! ### blocks with names of their own -/
def wipeE (ρ : En) : List Nat → En
  | [] => ρ
  | v :: vs => (wipeE ρ vs).set v none
abbrev WF : WX := fun _ _ _ _ => False
section
variable {C : Ct} {L : List Nat} {ρ : En} {σ σ' : L2.St} {μ μ1 μ2 : Mu} {H H1 H2 : Hp} {h h1 h' : Hs}
theorem wipe_get : ∀ {vs : List Nat} {i : Nat}, (wipe σ vs)[i]? = if i ∈ vs then σ[i]?.map (fun _ => none) else σ[i]?
  | [], i => by simp [wipe]
  | v :: vs, i => by
    show ((wipe σ vs).set v none)[i]? = _
    by_cases h : v = i
    · subst h
      rw [if_pos List.mem_cons_self]
      by_cases hl : v < σ.length
      · rw [List.getElem?_set_self (by rw [wipe_length]; exact hl), List.getElem?_eq_getElem hl]
        rfl
      · rw [List.getElem?_eq_none (by rw [List.length_set, wipe_length]; exact Nat.le_of_not_lt hl), List.getElem?_eq_none (Nat.le_of_not_lt hl)]
        rfl
    · rw [List.getElem?_set_ne h, wipe_get]
      by_cases hm : i ∈ vs
      · rw [if_pos hm, if_pos (List.mem_cons_of_mem _ hm)]
      · rw [if_neg hm, if_neg fun q => (List.mem_cons.mp q).elim (fun e => h e.symm) hm]
theorem wipeE_len : ∀ vs : List Nat, (wipeE ρ vs).length = ρ.length
  | [] => rfl
  | v :: vs => by show ((wipeE ρ vs).set v none).length = _; rw [List.length_set, wipeE_len]
theorem wipeE_get : ∀ {vs : List Nat} {i : Nat} {d : D}, (wipeE ρ vs)[i]? = some (some d) → i ∉ vs ∧ ρ[i]? = some (some d)
  | [], i, d, e => ⟨by simp, e⟩
  | v :: vs, i, d, e => by
    have e : ((wipeE ρ vs).set v none)[i]? = some (some d) := e
    by_cases h : v = i
    · subst h
      by_cases hl : v < (wipeE ρ vs).length
      · rw [List.getElem?_set_self hl] at e; cases e
      · rw [List.getElem?_eq_none (by rw [List.length_set]; exact Nat.le_of_not_lt hl)] at e; cases e
    · rw [List.getElem?_set_ne h] at e
      obtain ⟨a, b⟩ := wipeE_get e
      exact ⟨fun q => (List.mem_cons.mp q).elim (fun e => h e.symm) a, b⟩
theorem wipe_eq {vs : List Nat} (q : Bt vs σ σ') : wipe σ' vs = wipe σ vs := by
  apply List.ext_getElem?
  intro i
  rw [wipe_get, wipe_get]
  by_cases hm : i ∈ vs
  · rw [if_pos hm, if_pos hm]
    by_cases hl : i < σ.length
    · rw [List.getElem?_eq_getElem hl, List.getElem?_eq_getElem (by rw [q.1]; exact hl)]; rfl
    · rw [List.getElem?_eq_none (Nat.le_of_not_lt hl), List.getElem?_eq_none (by rw [q.1]; exact Nat.le_of_not_lt hl)]
  · rw [if_neg hm, if_neg hm, q.2 i hm]
theorem wipe_wipe {vs : List Nat} : wipe (wipe σ vs) vs = wipe σ vs := wipe_eq ⟨wipe_length _ _, fun i hi => by rw [wipe_get, if_neg hi]⟩
theorem Rel.wipe {vs : List Nat} (r : Rel C L ρ σ μ H h) : Rel C L (wipeE ρ vs) (wipe σ vs) μ H h := by
  refine ⟨by rw [wipeE_len, wipe_length]; exact r.len, fun i d e => ?_, r.hr⟩
  obtain ⟨hm, e⟩ := wipeE_get e
  obtain ⟨v, e1, rv⟩ := r.val i d e
  exact ⟨v, by rw [wipe_get, if_neg hm]; exact e1, rv⟩
/-- an object that is no box is changed -/
theorem HR.side (r : HR C L μ H h) {a : Addr} {u o : HO} (ha : H a = some u) (na : a ∉ μ) (nt : ∀ xs, u ≠ .tup xs) (nf : ∀ ob v, u ≠ .frz ob v) (nb : ∀ ps, u ≠ .tbl ps := by exact fun _ z => nomatch z) (nc : ∀ q, u ≠ LamX.CodeO a q := by exact fun _ z => nomatch z) : HR C L μ (L2.upd H a o) h ∧ Stay μ H μ (L2.upd H a o) := by
  have st : Stay μ H μ (L2.upd H a o) := ⟨fun _ _ e => e, fun b xs e => by rw [upd_ne (fun z => by subst z; rw [ha] at e; cases e; exact nt _ rfl)]; exact e, fun b ob v e => by rw [upd_ne (fun z => by subst z; rw [ha] at e; cases e; exact nf _ _ rfl)]; exact e⟩
  refine ⟨⟨r.lk, r.len, r.nd, ⟨fun p hp => ?_, fun p hp => ?_⟩, fun i b e => ?_⟩, st⟩
  · obtain ⟨ps, h1, h2, h3⟩ := r.tb.1 p hp
    refine ⟨ps, (upd_ne fun z => by rw [← z, h1] at ha; cases ha; exact nb _ rfl).trans h1, h2, fun pos cv hc => ?_⟩
    obtain ⟨c, e1, e2⟩ := h3 pos cv hc
    exact ⟨c, e1, (upd_ne fun z => by rw [← z, e2] at ha; cases ha; exact nc p.2 (by rw [z])).trans e2⟩
  · have e2 := r.tb.2 p hp
    exact (upd_ne fun z => by rw [← z, e2] at ha; cases ha; exact nc p.2 (by rw [z])).trans e2
  obtain ⟨o', e1, q⟩ := r.ob i b e
  exact ⟨o', e1, q.stay st (upd_ne (fun z => by subst z; exact na (List.mem_of_getElem? e)))⟩
theorem Go.side (g : Go L μ1 H1 μ H) (r : HR C L μ1 H1 h1) {a : Addr} {o : HO} (ha : H1 a = none) : Go L μ1 H1 μ (L2.upd H a o) := by
  refine ⟨fun i m b e => ?_, fun b u e nt n => ?_, fun b e => ?_, g.ext, g.new⟩
  · obtain ⟨u, q⟩ := r.some_at e
    rw [upd_ne fun z => by subst z; rw [ha] at q; cases q]
    exact g.lk i m b e
  · rw [upd_ne fun z => by subst z; rw [ha] at e; cases e]
    exact g.keep b u e nt n
  · by_cases z : b = a
    · subst z; exact NoT.none ha
    · rw [upd_ne z] at e; exact g.dom b e
/-- an object becomes a box -/
theorem HR.adopt (r : HR C L μ H h) {a : Addr} {o : O} (na : a ∉ μ) (q : ObR C (μ ++ [a]) H a o) (e : h.new o = some h') : HR C L (μ ++ [a]) H h' := by
  have st : Stay μ H (μ ++ [a]) H := ⟨fun i b e => by rw [List.getElem?_append_left (List.getElem?_eq_some_iff.mp e).1]; exact e, fun _ _ e => e, fun _ _ _ e => e⟩
  refine ⟨(Hs.new_lk e).trans r.lk, by rw [List.length_append, r.len, Hs.new_n e]; rfl, ⟨?_, r.nd.2.trans ⟨[a], rfl⟩⟩, r.tb, fun i b eb => ?_⟩
  · rw [List.nodup_append]
    exact ⟨r.nd.1, by simp, fun x hx y hy => by rw [List.mem_singleton] at hy; subst hy; exact fun z => na (z ▸ hx)⟩
  · rw [Hs.new_get e]
    by_cases hi : i = h.n
    · subst hi
      rw [if_pos rfl]
      rw [← r.len, List.getElem?_append_right (Nat.le_refl _)] at eb
      simp at eb; subst eb
      exact ⟨o, rfl, q⟩
    · rw [if_neg hi]
      have hl := (List.getElem?_eq_some_iff.mp eb).1
      rw [List.length_append, List.length_singleton, r.len] at hl
      rw [List.getElem?_append_left (by rw [r.len]; omega)] at eb
      obtain ⟨u, e1, q1⟩ := r.ob i b eb
      exact ⟨u, e1, q1.stay st rfl⟩
theorem Go.adopt (g : Go L μ1 H1 μ H) {a : Addr} (ha : H1 a = none) : Go L μ1 H1 (μ ++ [a]) H := by
  refine ⟨g.lk, g.keep, g.dom, ?_, fun b m => ?_⟩
  · obtain ⟨r, e⟩ := g.ext
    exact ⟨r ++ [a], by rw [e, List.append_assoc]⟩
  · rcases List.mem_append.mp m with m | m
    · exact g.new b m
    · rw [List.mem_singleton] at m; subst m; exact .inr (NoT.none ha)
theorem Go.not_mem (g : Go L μ1 H1 μ H) (r : HR C L μ1 H1 h1) {a : Addr} (ha : H1 a = none) (nm : a ∉ μ) (g2 : Go L μ H μ2 H2) {u : HO} (hu : H a = some u) (nu : ∀ ps, u ≠ .tbl ps := by exact fun _ z => nomatch z) : a ∉ μ2 := fun m => by
  rcases g2.new a m with q | q
  · exact nm q
  · exact q.not hu nu
end
/-! ### list comprehensions -/
def turnC (t : TM) (conds : M Bool) (elt : M D) (ρ : En) (d : D) (h : Hs) : Option (Option D × Hs) := match t d ρ h with
  | none => none
  | some (ρ1, h1) => match conds ρ1 h1 with
    | some (.ok false h2) => some (none, h2)
    | some (.ok true h2) => (match elt ρ1 h2 with
      | some (.ok x h3) => some (some x, h3)
      | _ => none)
    | _ => none
def consO {α : Type} (o : Option α) (es : List α) : List α := match o with
  | some x => x :: es
  | none => es
def loopC (t : TM) (conds : M Bool) (elt : M D) (ρ : En) : List D → Hs → Option (List D × Hs)
  | [], h => some ([], h)
  | d :: ds, h => match turnC t conds elt ρ d h with
    | none => none
    | some (o, h1) => match loopC t conds elt ρ ds h1 with
      | none => none
      | some (es, h2) => some (consO o es, h2)
def mLc (mi : M (List D × List Nat)) (t : TM) (conds : M Bool) (elt : M D) (vs : List Nat) : M D := mBind mi fun p => fun ρ h => if p.1.length ≤ 1000000 then (match loopC t conds elt (wipeE ρ vs) p.1 (relk (p.2 ++ h.lk) h) with
  | some (es, h') => (Nv.n (.lst es)).lift (relk h.lk h')
  | none => none) else none
section
variable {X : Cx} {W : WX} {σ : L2.St} {H : Hp} {Q : VK}
theorem Bt.wipe {vs : List Nat} {σ2 : L2.St} (b : Bt vs (L2.wipe σ vs) σ2) : L2.wipe σ2 vs = L2.wipe σ vs := by rw [wipe_eq b, wipe_wipe]
/-- the reading of a list comprehension -/
theorem rd_lc {mi : M (List D × List Nat)} {t : TM} {conds : M Bool} {elt : M D} {vs : List Nat} (q : rd X W (mLc mi t conds elt vs) σ H Q) :
    tLc (rdI X W mi) (rdTg X t vs) (rdT X WF conds) (rd X WF elt) vs σ H Q := by
  refine rdG_imp (rdG_bind q) fun ρ L p h1 μ1 H1 ⟨rel1, q1⟩ J cov l hl => ?_
  obtain ⟨ds, lks⟩ := p
  dsimp only at q1 cov
  split at q1
  rotate_left
  · exact q1.none
  rename_i hlen
  rw [rel1.hr.lk] at q1
  cases eL : loopC t conds elt (wipeE ρ vs) ds (relk (lks ++ L) h1) with
  | none => simp only [eL] at q1; exact q1.none
  | some p =>
    obtain ⟨es, hf⟩ := p
    simp only [eL] at q1
    have rel2 := rel1.relk (L' := lks ++ L)
    refine ⟨fun i m Hc => m = ds.length - i ∧ i ≤ ds.length ∧ ∃ μi hi acc vacc rest, Go (lks ++ L) μ1 H1 μi Hc ∧ HR (ctX X) (lks ++ L) μi Hc hi ∧ Hc l = some (.lst vacc) ∧ l ∉ μi ∧ RepL (ctX X) μi Hc acc vacc ∧ vacc.length ≤ i ∧ loopC t conds elt (wipeE ρ vs) (ds.drop i) hi = some (rest, hf) ∧ acc ++ rest = es,
      ⟨ds.length, by simp, Nat.zero_le _, μ1, relk (lks ++ L) h1, [], [], es, ?_, ?_, upd_same, ?_, rfl, Nat.le_refl _, eL, rfl⟩, ?_⟩
    · obtain ⟨s1, d1⟩ := same_new (o := .lst []) hl
      exact .same rel2.hr s1 d1
    · exact rel2.hr.same (same_new (o := .lst []) hl).1
    · intro m; obtain ⟨u, e, _⟩ := rel2.hr.mut m; rw [hl] at e; cases e
    rintro i m Hc ⟨rfl, hi, μi, hh, acc, vacc, rest, gi, ri, hLc, nl, racc, hva, el, ea⟩
    have st : Still lks μ1 H1 μi Hc := ⟨gi.stay rel2.hr, fun n m => gi.lk n (List.mem_append_left _ m)⟩
    by_cases hlt : i < ds.length
    · refine .inr ⟨cov.go i μi Hc st hlt, fun H' => i + 1 ≤ ds.length ∧ ∃ μi hi acc vacc rest, Go (lks ++ L) μ1 H1 μi H' ∧ HR (ctX X) (lks ++ L) μi H' hi ∧ H' l = some (.lst vacc) ∧ l ∉ μi ∧ RepL (ctX X) μi H' acc vacc ∧ vacc.length ≤ i + 1 ∧ loopC t conds elt (wipeE ρ vs) (ds.drop (i + 1)) hi = some (rest, hf) ∧ acc ++ rest = es,
        fun H' ⟨q1, q2⟩ => ⟨ds.length - (i + 1), by omega, rfl, q1, q2⟩, fun x H' y => ?_⟩
      have hd : ds[i]? = some ds[i] := List.getElem?_eq_getElem hlt
      obtain ⟨sm, dm, rv⟩ := cov.yld i μi Hc x H' _ st y hd
      have g2 : Go (lks ++ L) μi Hc μi H' := .same ri sm dm
      have r2 := ri.same sm
      rw [List.drop_eq_getElem_cons hlt] at el
      unfold loopC at el
      cases et : turnC t conds elt (wipeE ρ vs) ds[i] hh with
      | none => rw [et] at el; cases el
      | some p =>
        obtain ⟨o, hn⟩ := p
        simp only [et] at el
        cases el2 : loopC t conds elt (wipeE ρ vs) (ds.drop (i + 1)) hn with
        | none => simp only [el2] at el; cases el
        | some p =>
          obtain ⟨rest2, hf2⟩ := p
          simp only [el2] at el
          cases el
          unfold turnC at et
          cases e1 : t ds[i] (wipeE ρ vs) hh with
          | none => rw [e1] at et; cases et
          | some p =>
            obtain ⟨ρ2, h2⟩ := p
            simp only [e1] at et
            have relw : Rel (ctX X) (lks ++ L) (wipeE ρ vs) (wipe σ vs) μi H' hh := (rel2.wipe (vs := vs)).go (gi.trans g2) r2
            refine ⟨ds[i], wipeE ρ vs, lks ++ L, μi, hh, ρ2, h2, relw, rv, e1, fun σ2 μ3 H3 g3 rel3 b3 => ⟨b3.wipe, ρ2, lks ++ L, μ3, h2, rel3, ?_⟩⟩
            have g13 := gi.trans (g2.trans g3)
            have hl' : H' l = some (.lst vacc) := sm _ _ hLc
            have hl3 : H3 l = some (.lst vacc) := g3.keep l _ hl' (fun _ z => nomatch z) nl
            have nl3 : l ∉ μ3 := (gi.trans g2).not_mem rel2.hr hl nl g3 hl'
            have ra3 : RepL (ctX X) μ3 H3 acc vacc := (racc.go ri g2).go r2 g3
            cases e2 : conds ρ2 h2 with
            | none => simp only [e2] at et; cases et
            | some p =>
              cases p with
              | ex c fs ρ3 => simp only [e2] at et; cases et
              | ok c h3 =>
                intro μ4 H4 g4 r4
                have hl4 : H4 l = some (.lst vacc) := g4.keep l _ hl3 (fun _ z => nomatch z) nl3
                have nl4 : l ∉ μ4 := g13.not_mem rel2.hr hl nl3 g4 hl3
                have ra4 := ra3.go rel3.hr g4
                cases c with
                | false =>
                  simp only [e2] at et
                  cases et
                  refine iteF ?_
                  exact ⟨hlt, μ4, _, acc, vacc, rest2, g13.trans g4, r4, hl4, nl4, ra4, by omega, el2, ea⟩
                | true =>
                  refine iteT ?_
                  simp only [e2] at et
                  refine ⟨ρ2, lks ++ L, μ4, h3, rel3.go g4 r4, ?_⟩
                  cases e3 : elt ρ2 h3 with
                  | none => simp only [e3] at et; cases et
                  | some p =>
                    cases p with
                    | ex c fs ρ4 => simp only [e3] at et; cases et
                    | ok xd h4 =>
                      simp only [e3] at et
                      cases et
                      intro μ5 H5 g5 r5 v rv
                      have hl5 : H5 l = some (.lst vacc) := g5.keep l _ hl4 (fun _ z => nomatch z) nl4
                      have nl5 : l ∉ μ5 := (g13.trans g4).not_mem rel2.hr hl nl4 g5 hl4
                      have ra5 := ra4.go r4 g5
                      obtain ⟨r6, st6⟩ := r5.side (o := .lst (vacc ++ [v])) hl5 nl5 (fun xs e => nomatch e) (fun ob u e => nomatch e)
                      refine ⟨vacc, hl5, small6' (by omega), hlt, μ5, _, acc ++ [xd], vacc ++ [v], rest2, ((g13.trans g4).trans g5).side rel2.hr hl, r6, upd_same, nl5, (ra5.stay st6).append ⟨v, [], rfl, rv.stay st6, rfl⟩, by rw [List.length_append, List.length_singleton]; omega, el2, ?_⟩
                      rw [List.append_assoc]
                      exact ea
    · have e : i = ds.length := by omega
      subst e
      rw [List.drop_length] at el
      unfold loopC at el
      cases el
      rw [List.append_nil] at ea
      subst ea
      refine .inl ⟨cov.stop _ μi Hc st rfl, ?_⟩
      have ri' := ri.relk (L' := L)
      unfold Nv.lift at q1
      dsimp only at q1
      cases en : (relk L hf).new (.lst acc) with
      | none => simp only [en] at q1; exact q1.none
      | some hz =>
        simp only [en] at q1
        have ra := ri'.adopt nl (o := .lst acc) ⟨vacc, hLc, racc.stay (stay_more fun _ _ e => e)⟩ en
        refine q1 (μi ++ [l]) Hc (gi.less.adopt hl) ra (.ref l) ⟨l, rfl, ?_⟩
        rw [← ri'.len, List.getElem?_append_right (Nat.le_refl _)]
        simp
theorem ts_nil : PTs X [] (rdT X W (mPure true)) := ⟨fun pins s σ H Q I q => by
  obtain ⟨_, _, _, _, _, k⟩ := rdG_pure q
  exact pts_nil.run pins s σ H Q I k⟩
theorem e_lc {elt tg iter : Expr} {ifs : List Expr} {scope : Scope} {own : List (Str × Nat)} {pos : Pos} {mi : M (List D × List Nat)} {t : TM} {mc : M Bool} {me : M D} {vs : List Nat} (hc : X.calm = true) (hN : X.N.Nodup) (ok : BlkOk X.N X.env.scope scope own) (hvs : own.map (fun x : Str × Nat => x.2) = vs)
    (hi : PI X tg iter (rdI X W mi))
    (hg : ∀ (s : Shared) (H : Hp) (C : Addr) (cl : List (Str × Addr)) (fp : List Addr), PG (X.blk s H scope (compEnvC scope cl C X.env) fp) tg (rdTg (X.blk s H scope (compEnvC scope cl C X.env) fp) t vs))
    (ht : ∀ (s : Shared) (H : Hp) (C : Addr) (cl : List (Str × Addr)) (fp : List Addr), PTs (X.blk s H scope (compEnvC scope cl C X.env) fp) ifs (rdT (X.blk s H scope (compEnvC scope cl C X.env) fp) WF mc))
    (he : ∀ (s : Shared) (H : Hp) (C : Addr) (cl : List (Str × Addr)) (fp : List Addr), PE (X.blk s H scope (compEnvC scope cl C X.env) fp) elt (rd (X.blk s H scope (compEnvC scope cl C X.env) fp) WF me))
    (hs : ∀ x, foldedSetIterable iter X.env x = pure x := by intro _; rfl) :
    PE X (.ListComp elt [⟨tg, iter, ifs, 0⟩] scope pos) (rd X W (mLc mi t mc me vs)) := by
  subst hvs
  exact pe_imp (pe_lc (g := rdTg X t (own.map (fun x : Str × Nat => x.2))) (tt := rdT X WF mc) (te := rd X WF me) hc hN hi ok hg ht he hs) fun σ H Q h => rd_lc h
/-- name = [..] on one line -/
theorem s_setLc {i : Nat} {y : Str} {py : Pos} {elt tg iter : Expr} {ifs : List Expr} {scope : Scope} {own : List (Str × Nat)} {pos spos : Pos} {mi : M (List D × List Nat)} {t : TM} {mc : M Bool} {me : M D} {vs : List Nat} (hc : X.calm = true) (hN : X.N.Nodup) (hy : X.N[i]? = some y) (hyl : X.env.scope.names.lookup y = some .local)
    (hsw : swapsWith (.ListComp elt [⟨tg, iter, ifs, 0⟩] scope pos) (some (.Name y py)) spos.line X.env = pure true) (ok : BlkOk X.N X.env.scope scope own) (hvs : own.map (fun x : Str × Nat => x.2) = vs)
    (hi : PI X tg iter (rdI X W mi))
    (hg : ∀ (s : Shared) (H : Hp) (C : Addr) (cl : List (Str × Addr)) (fp : List Addr), PG (X.blk s H scope (compEnvC scope cl C X.env) fp) tg (rdTg (X.blk s H scope (compEnvC scope cl C X.env) fp) t vs))
    (ht : ∀ (s : Shared) (H : Hp) (C : Addr) (cl : List (Str × Addr)) (fp : List Addr), PTs (X.blk s H scope (compEnvC scope cl C X.env) fp) ifs (rdT (X.blk s H scope (compEnvC scope cl C X.env) fp) WF mc))
    (he : ∀ (s : Shared) (H : Hp) (C : Addr) (cl : List (Str × Addr)) (fp : List Addr), PE (X.blk s H scope (compEnvC scope cl C X.env) fp) elt (rd (X.blk s H scope (compEnvC scope cl C X.env) fp) WF me))
    (hs : ∀ x, foldedSetIterable iter X.env x = pure x := by intro _; rfl) :
    PS X (.Assign [.Name y py] (.ListComp elt [⟨tg, iter, ifs, 0⟩] scope pos) spos) (rdS X W (mSet i (mLc mi t mc me vs))) := by
  subst hvs
  refine ps_imp (ps_setLc (i := i) (g := rdTg X t (own.map (fun x : Str × Nat => x.2))) (tt := rdT X WF mc) (te := rd X WF me) hc hN hy hyl hsw hi ok hg ht he hs) fun D σ H q => ?_
  refine rd_lc ?_
  exact rdG_imp (rdS_bind q) fun ρ L d h1 μ1 H1 ⟨rel1, q1⟩ v rv => q1 _ μ1 H1 .refl (rel1.set rv)
end
end Rh

set_option Elab.async false
set_option linter.all false
set_option maxRecDepth 100000
set_option maxHeartbeats 2000000
set_option autoImplicit false
namespace Rh
open PySem PySem.Spec PyProof.Rows L2
variable [Tbs]
section
variable {X : Cx}
end
end Rh

set_option Elab.async false
set_option linter.all false
set_option maxRecDepth 100000
set_option maxHeartbeats 2000000
set_option autoImplicit false
namespace Rh
open PySem PySem.Spec PyProof.Rows L2
variable [Tbs]

section
variable (C : Ct) (μ : Mu) (H : Hp)
def RepKV : List (Key × D) → List (Key × V) → Prop
  | [], vs => vs = []
  | p :: r, vs => ∃ v t, vs = (p.1, v) :: t ∧ RepV C μ H p.2 v ∧ RepKV r t
end
section
variable {C : Ct} {μ μ' : Mu} {H H' : Hp}
theorem RepKV.stay (s : Stay μ H μ' H') : ∀ {ps : List (Key × D)} {vs : List (Key × V)}, RepKV C μ H ps vs → RepKV C μ' H' ps vs
  | [], _, h => h
  | p :: r, _, ⟨v, t, e, h1, h2⟩ => ⟨v, t, e, h1.stay s, RepKV.stay s h2⟩
theorem RepKV.keys : ∀ {ps : List (Key × D)} {vs : List (Key × V)}, RepKV C μ H ps vs → vs.map (·.1) = ps.map (·.1)
  | [], _, h => by rw [show _ = [] from h]; rfl
  | p :: r, _, ⟨v, t, e, h1, h2⟩ => by rw [e, List.map_cons, List.map_cons, RepKV.keys h2]
end
section
variable {X : Cx} {W : WX} {σ : L2.St} {H : Hp} {Q : VK}
end
end Rh

set_option Elab.async false
set_option linter.all false
set_option maxRecDepth 100000
set_option maxHeartbeats 2000000
set_option autoImplicit false
namespace Rh
open PySem PySem.Spec PyProof.Rows L2
variable [Tbs]
open PySem.W PySem.Calls PySem.HandSPX
section
open Builtin Builtin.ObjectAttr
variable {prog : Program} {w : World} {A : Around} {R : Result → Shared → Prop} {hp : Heap} {g : Array GenState} {d : Drawn} {t : Nat} {os : OsState}
/-- a new exception's first field -/
theorem first_field {K : Frag} {B : String} {bmB : List Value} {name : Str} {tk : Tok} {v : Value} {x C : Addr} {fv : Array Value} {cd : ClassData}
    (SF : StoreFacts B bmB "object.__setattr__" "object") (X : K.In hp) (hx : hp.get? x = some { cls := .ref C, data := .fields fv }) (hcd : clsIn K C = some cd) (hp' : excOver K C bmB = true) (hh : cd.hasDict = true) (ha : findIn K (.ref C) name = some none)
    (hq : ∀ h' tk' dx, (∀ b o, b ≠ x → hp.get? b = some o → h'.get? b = some o) → hp.objs.size ≤ dx → dx ≠ x → h'.get? x = some { cls := .ref C, dict := some dx, data := .fields fv } →
      h'.Ns1 dx (fun y => if y = name then some v else none) → R (.ok (.ret .none)) ⟨h', g, d, tk', os⟩) :
    codeAny (model prog w) A (.call (.builtin "object.__setattr__") ⟨[.ref x, .str name tk, v], []⟩) R ⟨hp, g, d, t, os⟩ := by
  have I : InstAt hp x { cls := .ref C, data := .fields fv } C none := ⟨hx, rfl, rfl, trivial⟩
  have hxs : x ≠ hp.objs.size := Nat.ne_of_lt (Heap.lt_size hx)
  have hcls : Looks (model prog w) hp (classData C) cd := looks_clsIn X hcd
  have htk : takerIn K C name = some none := by
    unfold takerIn
    rw [ha]
    rfl
  refine osa_openX (r := none) SF X I hp' htk fun b => ?_
  dsimp only
  obtain ⟨nm, bs, mro, ns, qn, hd, sn, sb, ab, col, del⟩ := cd
  dsimp only at hh
  subst hh
  unfold storeInOwnDict ownDictForStores
  repeat (first | with_reducible refine store_in_new ?_ ?_ | with_reducible refine wpAny_loadPart_at hx ?_ | with_reducible refine hcls.at ?_ | wp_step)
  · exact ⟨_, #[], _, (Heap.get?_update_ne _ _ _ _ hxs.symm).trans (Heap.get?_push_at rfl rfl), rfl, fun e he => absurd he (by simp), fun _ => rfl⟩
  · intro h' tk' hn' hs
    have hx₁ : (hp.push { cls := .type "dict", data := .dict #[] }).get? x = some { cls := .ref C, data := .fields fv } := Heap.get?_push_of_some _ hx
    refine hq h' tk' hp.objs.size (fun b o hb ho => ?_) (Nat.le_refl _) hxs.symm ?_ hn'
    · exact (hs.2 b (Nat.ne_of_lt (Heap.lt_size ho))).trans ((Heap.get?_update_ne _ _ _ _ hb).trans (Heap.get?_push_of_some _ ho))
    · exact (hs.2 x hxs).trans (Heap.get?_update_self _ hx₁ rfl)
end
theorem size_one (v : Value) : [v].length ≤ sizeLine := by
  rw [sizeLine_eq]
  exact (by decide : 1 ≤ 16777216)
theorem ld_loc {M : Model} {s : Shared} {name : Str} {scope : Scope} {L a : Addr} {cd : Value} {m : Str → Option Value} {x : Str} {pos : Pos} {v : Value} {Q : Value → Shared → Prop} {A : Around} {E : Value → Shared → Prop} (hn : s.heap.Ns L m) (hv : m x = some v) (h : Q v s)
    (hk : scope.kind = .function := by rfl) (hl : (envOfC name scope L a cd).kindOf x = some .local := by rfl) (hd : (x == ("__debug__" : Str)) = false := by decide) :
    wpAny M A (eval (.Name x pos) (envOfC name scope L a cd)) Q E s := wpAny_Name (wpAny_loadName_local hk hl hn hv h) hd
/-- what stands behind the making of one, its field told -/
structure MadeX (fld : Str) (h h' : Heap) (e C dx : Addr) (v : Value) : Prop where
  keep : ∀ b o, h.get? b = some o → h'.get? b = some o
  new : h.objs.size ≤ e
  obj : ∃ oe vs, h'.get? e = some oe ∧ oe.cls = .ref C ∧ oe.dict = some dx ∧ oe.data = .fields vs ∧ vs[1]? = some .none
  big : h.objs.size ≤ dx
  ne : dx ≠ e
  ns : h'.Ns1 dx (fun y => if y = fld then some v else none)
/-- a class that can be made so: what the call of it gives -/
structure Mkr (P : Program) (w : World) (K : Frag) (C : Addr) (fld : Str) : Prop where
  made : ∀ (A : Around) (R : Result → Shared → Prop) (s : Shared) (v : Value), K.In s.heap → s.heap.NoLimit → A.depth + 1 < recursionLimit →
    (∀ h' tk e d, MadeX fld s.heap h' e C d v → R (.ok (.ret (.ref e))) { s with heap := h', toks := tk }) → codeAny (model P w) A (.call (.ref C) ⟨[v], []⟩) R s

namespace ExPlace
/-! class X(LookupError): def __init__(self, place): self.place = place -/
def iA (p1 p2 : Pos) : Arguments := { posonlyargs := [], args := [{ arg := "self", annotation := none, pos := p1 }, { arg := "place", annotation := none, pos := p2 }], vararg := none, kwonlyargs := [], kw_defaults := [], kwarg := none, defaults := [] }
def iB (q1 q2 q3 q4 : Pos) : List Stmt := [.Assign [.Attribute (.Name "self" q1) "place" q2] (.Name "place" q3) q4]
def iS : Scope := { kind := .function, names := [(PySem.Str.ofString "self", .local), (PySem.Str.ofString "place", .local)], isGenerator := false, isCoroutine := false, more := [] }
abbrev bmB : List Value := [.type "LookupError", .type "Exception", .type "BaseException", .type "object"]
/-- what the written part says of the class at C and of its __init__ at fI -/
structure Txt (K : Frag) (C fI : Addr) (qn : Str) : Prop where
  cls : ∃ nm q N bs sn sub ab col dd k0 k1 k2 k3 k5, K.lookup C = some (excClassObj nm q C N bs bmB true sn sub ab col dd k0 k1 k2 k3 k5 "LookupError.__new__")
  over : excOver K C bmB = true
  sa : findIn K (.ref C) "__setattr__" = some (some (.builtin "object.__setattr__"))
  no : findIn K (.ref C) "place" = some none
  ini : findIn K (.ref C) "__init__" = some (some (.ref fI))
  tI : typeIn K (.ref fI) = some (.type "function")
  fn : ∃ (oc : Value) (od : Option Addr) (doc pm : Value) (an : Option Addr) (cdv ct : Value) (osl : Array (Option Value)) (p1 p2 q1 q2 q3 q4 : Pos),
    K.lookup fI = some ⟨oc, od, .func (fnOf "__init__" qn (iA p1 p2) (iB q1 q2 q3 q4) iS .none .none doc pm an cdv ct), osl⟩ ∧ codeIn K cdv qn = true
structure Behind (h h' : Heap) (x C dx t1 : Addr) (v : Value) : Prop where
  keep : ∀ b o, b ≠ x → h.get? b = some o → h'.get? b = some o
  obj : h'.get? x = some { cls := .ref C, dict := some dx, data := .fields #[.ref t1, .none, .none, .none, .bool false, .none] }
  big : h.objs.size ≤ dx
  ne : dx ≠ x
  ns : h'.Ns1 dx (fun y => if y = "place" then some v else none)
section
variable {prog : Program} {w : World} {A : Around} {R : Result → Shared → Prop} {s : Shared} {K : Frag} {C fI : Addr} {qn : Str}
theorem init_runs (T : Txt K C fI qn) {x t0 : Addr} {v : Value} (X : K.In s.heap) (hlim : s.heap.NoLimit) (hx : s.heap.get? x = some (excO C t0)) (hroom : A.depth < recursionLimit)
    (hq : ∀ h' tk dx, Behind s.heap h' x C dx t0 v → R (.ok (.ret .none)) { s with heap := h', toks := tk }) :
    codeAny (model prog w) A (.call (.ref fI) ⟨[.ref x, v], []⟩) R s := by
  obtain ⟨oc, od, doc, pm, an, cdv, ct, osl, p1, p2, q1, q2, q3, q4, ho, hcd⟩ := T.fn
  obtain ⟨nm, q, N, bs, sn, sub, ab, col, dd, k0, k1, k2, k3, k5, hC⟩ := T.cls
  have hcl : clsIn K C = some { name := nm, bases := bs, mro := .ref C :: bmB, ns := N, qualname := q, hasDict := true, slotNames := sn, subclasses := sub, abstract := ab, collection := col, hasDel := false } := by unfold clsIn; rw [hC] <;> rfl
  refine Att.call_fn (binds := [("self", .ref x), ("place", v)]) X hlim ho hcd hroom (BindsTo.of_eq (by first | rfl | with_unfolding_all rfl)) (by first | rfl | decide | with_unfolding_all rfl) (fun s₁ IC => ?_) rfl rfl rfl
  obtain ⟨h₁, tk₁, rfl⟩ := IC.toInCall.same
  have k : ∀ b o, s.heap.get? b = some o → h₁.get? b = some o := IC.toInCall.keep
  have hn := IC.toInCall.ns
  have X₁ : K.In h₁ := X.keeps k
  have hx₁ := k _ _ hx
  show wpAny _ _ (execs _ _) _ _ _
  refine wpAny_execs_cons (plainObj_wpAny_Assign_Attribute ?_)
  refine ld_loc (v := v) hn (by first | rfl | with_unfolding_all rfl | kernel_rfl) (ld_loc (v := .ref x) hn (by first | rfl | with_unfolding_all rfl | kernel_rfl) ?_)
  refine set_plain X₁ (ox := excO C t0) (od := none) ⟨hx₁, rfl, rfl, trivial⟩ T.sa ?_
  refine first_field F.store_LookupError X₁ hx₁ hcl T.over rfl T.no (fun h₃ tk₃ dx k₃ dn dne hx₃ hn₃ => ?_)
  show wpAny _ _ (execs _ _) _ _ _
  have z : s.heap.objs.size < h₁.objs.size := hn.lt
  exact wpAny_execs_nil (hq h₃ tk₃ dx ⟨fun b o hb e => k₃ b o hb (k b o e), hx₃, Nat.le_of_lt (Nat.lt_of_lt_of_le z dn), dne, hn₃⟩)
theorem mkr (T : Txt K C fI qn) : Mkr prog w K C "place" := by
  refine ⟨fun A R s v X hlim hroom hq => ?_⟩
  obtain ⟨nm, q, N, bs, sn, sub, ab, col, dd, k0, k1, k2, k3, k5, hC⟩ := T.cls
  obtain ⟨hp, g, dr, tk, os⟩ := s
  have k : ∀ b o, hp.get? b = some o → ((hp.push (kdv_tup [v])).push (excO C hp.objs.size)).get? b = some o := fun b o e => Heap.get?_push_of_some _ (Heap.get?_push_of_some _ e)
  have hget : ((hp.push (kdv_tup [v])).push (excO C hp.objs.size)).get? (hp.objs.size + 1) = some (excO C hp.objs.size) := by heap_get
  refine call_own F.excBase_LookupError (fun _ => rfl) (X _ _ hC) (looks_findIn X T.ini) (fun self => bind_fn X self T.tI) (size_one v) ?_
  refine init_runs (s := ⟨(hp.push (kdv_tup [v])).push (excO C hp.objs.size), g, dr, tk, os⟩) T (X.keeps k) (hlim.keeps k) hget ?_ fun h' tk' dx ⟨k', hx, dn, dne, hns⟩ => ?_
  · show A.depth + 1 < recursionLimit
    exact hroom
  · have old : ∀ b o, hp.get? b = some o → h'.get? b = some o := fun b o e => k' b o (Nat.ne_of_lt (Nat.lt_succ_of_lt (Heap.lt_size e))) (k b o e)
    have z : hp.objs.size + 1 + 1 ≤ dx := by
      first
        | (simpa only [Heap.size_push] using dn)
        | exact dn
        | (have q := dn; rw [Heap.size_push, Heap.size_push] at q; exact q)
    exact ⟨rfl, hq h' tk' (hp.objs.size + 1) dx ⟨old, Nat.le_succ _, ⟨_, _, hx, rfl, rfl, rfl, rfl⟩, Nat.le_trans (Nat.le_trans (Nat.le_succ _) (Nat.le_succ _)) z, dne, hns⟩⟩
end
end ExPlace

namespace ExLine
/-! class X(ValueError): def __init__(self, line): self.line = line -/
def iA (p1 p2 : Pos) : Arguments := { posonlyargs := [], args := [{ arg := "self", annotation := none, pos := p1 }, { arg := "line", annotation := none, pos := p2 }], vararg := none, kwonlyargs := [], kw_defaults := [], kwarg := none, defaults := [] }
def iB (q1 q2 q3 q4 : Pos) : List Stmt := [.Assign [.Attribute (.Name "self" q1) "line" q2] (.Name "line" q3) q4]
def iS : Scope := { kind := .function, names := [(PySem.Str.ofString "self", .local), (PySem.Str.ofString "line", .local)], isGenerator := false, isCoroutine := false, more := [] }
abbrev bmB : List Value := [.type "ValueError", .type "Exception", .type "BaseException", .type "object"]
/-- what the written part says of the class at C and of its __init__ at fI -/
structure Txt (K : Frag) (C fI : Addr) (qn : Str) : Prop where
  cls : ∃ nm q N bs sn sub ab col dd k0 k1 k2 k3 k5, K.lookup C = some (excClassObj nm q C N bs bmB true sn sub ab col dd k0 k1 k2 k3 k5 "ValueError.__new__")
  over : excOver K C bmB = true
  sa : findIn K (.ref C) "__setattr__" = some (some (.builtin "object.__setattr__"))
  no : findIn K (.ref C) "line" = some none
  ini : findIn K (.ref C) "__init__" = some (some (.ref fI))
  tI : typeIn K (.ref fI) = some (.type "function")
  fn : ∃ (oc : Value) (od : Option Addr) (doc pm : Value) (an : Option Addr) (cdv ct : Value) (osl : Array (Option Value)) (p1 p2 q1 q2 q3 q4 : Pos),
    K.lookup fI = some ⟨oc, od, .func (fnOf "__init__" qn (iA p1 p2) (iB q1 q2 q3 q4) iS .none .none doc pm an cdv ct), osl⟩ ∧ codeIn K cdv qn = true
structure Behind (h h' : Heap) (x C dx t1 : Addr) (v : Value) : Prop where
  keep : ∀ b o, b ≠ x → h.get? b = some o → h'.get? b = some o
  obj : h'.get? x = some { cls := .ref C, dict := some dx, data := .fields #[.ref t1, .none, .none, .none, .bool false, .none] }
  big : h.objs.size ≤ dx
  ne : dx ≠ x
  ns : h'.Ns1 dx (fun y => if y = "line" then some v else none)
section
variable {prog : Program} {w : World} {A : Around} {R : Result → Shared → Prop} {s : Shared} {K : Frag} {C fI : Addr} {qn : Str}
theorem init_runs (T : Txt K C fI qn) {x t0 : Addr} {v : Value} (X : K.In s.heap) (hlim : s.heap.NoLimit) (hx : s.heap.get? x = some (excO C t0)) (hroom : A.depth < recursionLimit)
    (hq : ∀ h' tk dx, Behind s.heap h' x C dx t0 v → R (.ok (.ret .none)) { s with heap := h', toks := tk }) :
    codeAny (model prog w) A (.call (.ref fI) ⟨[.ref x, v], []⟩) R s := by
  obtain ⟨oc, od, doc, pm, an, cdv, ct, osl, p1, p2, q1, q2, q3, q4, ho, hcd⟩ := T.fn
  obtain ⟨nm, q, N, bs, sn, sub, ab, col, dd, k0, k1, k2, k3, k5, hC⟩ := T.cls
  have hcl : clsIn K C = some { name := nm, bases := bs, mro := .ref C :: bmB, ns := N, qualname := q, hasDict := true, slotNames := sn, subclasses := sub, abstract := ab, collection := col, hasDel := false } := by unfold clsIn; rw [hC] <;> rfl
  refine Att.call_fn (binds := [("self", .ref x), ("line", v)]) X hlim ho hcd hroom (BindsTo.of_eq (by first | rfl | with_unfolding_all rfl)) (by first | rfl | decide | with_unfolding_all rfl) (fun s₁ IC => ?_) rfl rfl rfl
  obtain ⟨h₁, tk₁, rfl⟩ := IC.toInCall.same
  have k : ∀ b o, s.heap.get? b = some o → h₁.get? b = some o := IC.toInCall.keep
  have hn := IC.toInCall.ns
  have X₁ : K.In h₁ := X.keeps k
  have hx₁ := k _ _ hx
  show wpAny _ _ (execs _ _) _ _ _
  refine wpAny_execs_cons (plainObj_wpAny_Assign_Attribute ?_)
  refine ld_loc (v := v) hn (by first | rfl | with_unfolding_all rfl | kernel_rfl) (ld_loc (v := .ref x) hn (by first | rfl | with_unfolding_all rfl | kernel_rfl) ?_)
  refine set_plain X₁ (ox := excO C t0) (od := none) ⟨hx₁, rfl, rfl, trivial⟩ T.sa ?_
  refine first_field F.store_ValueError X₁ hx₁ hcl T.over rfl T.no (fun h₃ tk₃ dx k₃ dn dne hx₃ hn₃ => ?_)
  show wpAny _ _ (execs _ _) _ _ _
  have z : s.heap.objs.size < h₁.objs.size := hn.lt
  exact wpAny_execs_nil (hq h₃ tk₃ dx ⟨fun b o hb e => k₃ b o hb (k b o e), hx₃, Nat.le_of_lt (Nat.lt_of_lt_of_le z dn), dne, hn₃⟩)
theorem mkr (T : Txt K C fI qn) : Mkr prog w K C "line" := by
  refine ⟨fun A R s v X hlim hroom hq => ?_⟩
  obtain ⟨nm, q, N, bs, sn, sub, ab, col, dd, k0, k1, k2, k3, k5, hC⟩ := T.cls
  obtain ⟨hp, g, dr, tk, os⟩ := s
  have k : ∀ b o, hp.get? b = some o → ((hp.push (kdv_tup [v])).push (excO C hp.objs.size)).get? b = some o := fun b o e => Heap.get?_push_of_some _ (Heap.get?_push_of_some _ e)
  have hget : ((hp.push (kdv_tup [v])).push (excO C hp.objs.size)).get? (hp.objs.size + 1) = some (excO C hp.objs.size) := by heap_get
  refine call_own F.excBase_ValueError (fun _ => rfl) (X _ _ hC) (looks_findIn X T.ini) (fun self => bind_fn X self T.tI) (size_one v) ?_
  refine init_runs (s := ⟨(hp.push (kdv_tup [v])).push (excO C hp.objs.size), g, dr, tk, os⟩) T (X.keeps k) (hlim.keeps k) hget ?_ fun h' tk' dx ⟨k', hx, dn, dne, hns⟩ => ?_
  · show A.depth + 1 < recursionLimit
    exact hroom
  · have old : ∀ b o, hp.get? b = some o → h'.get? b = some o := fun b o e => k' b o (Nat.ne_of_lt (Nat.lt_succ_of_lt (Heap.lt_size e))) (k b o e)
    have z : hp.objs.size + 1 + 1 ≤ dx := by
      first
        | (simpa only [Heap.size_push] using dn)
        | exact dn
        | (have q := dn; rw [Heap.size_push, Heap.size_push] at q; exact q)
    exact ⟨rfl, hq h' tk' (hp.objs.size + 1) dx ⟨old, Nat.le_succ _, ⟨_, _, hx, rfl, rfl, rfl, rfl⟩, Nat.le_trans (Nat.le_trans (Nat.le_succ _) (Nat.le_succ _)) z, dne, hns⟩⟩
end
end ExLine
/-! ### made in the hand layer -/
theorem relO_one {fld : Str} {v : V} {v' : Value} (r : RelV v v') (f : Str) : RelO (List.lookup f [(fld, v)]) (if f = fld then some v' else none) := by
  by_cases hw : f = fld
  · subst hw
    rw [if_pos rfl]
    have q : List.lookup f [(f, v)] = some v := by simp [List.lookup]
    rw [q]
    exact r
  · rw [if_neg hw]
    have qw : (f == fld) = false := by simpa using hw
    have q2 : List.lookup f [(fld, v)] = none := by simp [List.lookup, qw]
    rw [q2]
    trivial
section
variable {X : Cx} {C : Addr} {fld : Str}
/-- X(e) -/
def tMk1 (C : Addr) (fld : Str) (ta : TA) : L2.St → Hp → XK → Prop := fun σ H Q => ta σ H fun vs H1 => ∃ v, vs = [v] ∧ ∀ d, H1 d = none → Q (.ref C) (some d) (upd H1 d (.xd [(fld, v)]))
theorem pmk_one {cn : Str} {a : Expr} {ta : TA} {p pos : Pos} {k : Nat} (T : Mkr X.prog X.w X.K C fld) (gC : X.mg cn = some (.ref C)) (kC : keepIn X.K (.ref C) = true) (r : Raises X (.ref C)) (hr : Room k X.A) (ha : PA X [a] ta) (hg : Gl X cn)
    (hdb : (cn == ("__debug__" : Str)) = false := by decide) (he : starEach (a :: []) X.env = (false, eval a X.env) :: starEach [] X.env := by rfl) (hpl : (backTo pos (starEach [] X.env)).any (·.1) = false := by rfl) :
    PMk X (.Call (.Name cn p) [a] [] pos) (tMk1 C fld ta) := by
  intro pins s σ H Q I h
  refine wpAny_Call_Name_kw (ld_glob I hg gC ?_ hdb)
  refine PySem.W.callWith_K (h₀ := X.base) I.ok.mod.kin kC (thn (ha.run pos pins s σ H _ I h) fun us s1 hh => ?_) he hpl
  obtain ⟨vs, H1, I1, r1, v, ev, q1⟩ := hh
  subst ev
  refine ⟨I1.kIn, ?_⟩
  cases r1 with
  | cons rv rn =>
    rename_i v' us'
    cases rn
    show wpAny _ _ (call (.ref C) [v']) _ _ _
    have hlim := I1.nolimit
    obtain ⟨hp, g, dr, tk, os⟩ := s1
    refine wpAny_call (T.made _ _ _ v' I1.kIn hlim (by have := hr.dp; omega) fun h' tk' e d M => ?_)
    show MkP X pins σ Q (.ref e) ⟨h', g, dr, tk', os⟩
    obtain ⟨oe, fv, hoe, hc, hd, hdat, h1⟩ := M.obj
    have hns := M.ns
    obtain ⟨G', g1, g2⟩ := restrict h' fun b => decide (b ≠ e)
    have gk : ∀ b, b ≠ e → G'.get? b = h'.get? b := fun b hb => g1 b (decide_eq_true hb)
    have ge : G'.get? e = none := g2 e (by simp)
    have old : ∀ b o, hp.get? b = some o → G'.get? b = some o := fun b o q => (gk b (Nat.ne_of_lt (Nat.lt_of_lt_of_le (Heap.lt_size q) M.new))).trans (M.keep b o q)
    have ob : ObjOk X.prog X.w (upd H1 d (.xd [(fld, v)])) G' d (.xd [(fld, v)]) :=
      ⟨_, hns.at (fun o q => (gk d M.ne).trans q), fun f => relO_one rv f⟩
    have J : Inv X pins σ (upd H1 d (.xd [(fld, v)])) ⟨G', g, dr, tk', os⟩ := I1.laid (t' := tk') old M.big ob
    refine ⟨e, oe, fv, ⟨G', g, dr, tk', os⟩, _, .ref C, some d, rfl, J, fun b o q => ?_, ge, hoe, ⟨hc, hd⟩, hdat, h1, ?_, rfl, I1.bare, r, q1 d (I1.hok.fresh M.big)⟩
    · by_cases hb : b = e
      · have q' : G'.get? b = some o := q
        rw [hb, ge] at q'; cases q'
      · exact (gk b hb).symm.trans q
    · rw [upd_ne (Ne.symm M.ne)]
      exact I1.hok.fresh M.new
end
end Rh

set_option Elab.async false
set_option linter.all false
set_option maxRecDepth 100000
set_option maxHeartbeats 2000000
set_option autoImplicit false
namespace Rh
open PySem PySem.Spec PyProof.Rows L2
variable [Tbs]
/-! ### try: except clauses, with or without a name -/
/-- a clause: the class's value, the name's slot, the suite's reading -/
abbrev Cl := Value × Option Nat × (Addr → Value → Option Addr → TS)
def wOne (K : PySem.W.Frag) (D : Ends) (c : Cl) (rest : WX) : WX := fun cls d σ H => ∃ b, PySem.W.exmOne K cls c.1 = some b ∧
  (b = true → ∀ a, H a = none → match c.2.1 with
    | none => c.2.2 a cls d D σ H
    | some i => c.2.2 a cls d { nx := fun σ' H' => D.nx (σ'.set i none) H', rt := D.rt, bk := fun σ' H' => D.bk (σ'.set i none) H', ct := fun σ' H' => D.ct (σ'.set i none) H' } (σ.set i (some (.ref a))) H) ∧
  (b = false → rest cls d σ H)
def wCl (K : PySem.W.Frag) (Wout : WX) (D : Ends) : List Cl → WX
  | [] => Wout
  | c :: r => wOne K D c (wCl K Wout D r)
inductive ClsOk (X : Cx) : List ExceptHandler → List Cl → Prop
  | nil : ClsOk X [] []
  | bare {x : Str} {c : Value} {ts : Addr → Value → Option Addr → TS} {b₀ : Stmt} {suite : List Stmt} {np pos' : Pos} {hds : List ExceptHandler} {l : List Cl} (hc : Names X x c)
      (hsu : ∀ (a : Addr) (oe : Obj) (cls : Value) (d : Option Addr) (pn : List (Addr × Obj)), Zc cls d oe → (∃ vs, oe.data = .fields vs) → PSs (X.suite a ((a, oe) :: pn)) (b₀ :: suite) (ts a cls d)) (r : ClsOk X hds l) :
      ClsOk X (.ExceptHandler (some (.Name x np)) none (b₀ :: suite) pos' :: hds) ((c, none, ts) :: l)
  | named {x n : Str} {i : Nat} {c : Value} {ts : Addr → Value → Option Addr → TS} {b₀ : Stmt} {suite : List Stmt} {np pos' : Pos} {hds : List ExceptHandler} {l : List Cl} (hc : Names X x c) (hi : X.N[i]? = some n) (hln : X.env.kindOf n = some .local)
      (hsu : ∀ (a : Addr) (oe : Obj) (cls : Value) (d : Option Addr) (pn : List (Addr × Obj)), Zc cls d oe → (∃ vs, oe.data = .fields vs) → PSs (X.suite a ((a, oe) :: pn)) (b₀ :: suite) (ts a cls d)) (r : ClsOk X hds l) :
      ClsOk X (.ExceptHandler (some (.Name x np)) (some n) (b₀ :: suite) pos' :: hds) ((c, some i, ts) :: l)
section
variable {X : Cx} {body : List Stmt} {h₀ : ExceptHandler} {hds : List ExceptHandler} {l : List Cl} {pos : Pos} {tb : WX → TS} {Wout : WX}
theorem ps_tries (hs : X.stack = X.env :: X.outer) (hf : X.env.frame = some X.env.locals) (hN : X.N.Nodup) (tk : Takes X Wout)
    (hb : ∀ (W : WX) (pn : List (Addr × Obj)) (xe : Value → Shared → Prop), Takes (X.tr pn xe) W → PassesOwn (model X.prog X.w) X.A X.env xe → PSs (X.tr pn xe) body (tb W))
    (hh : ClsOk X (h₀ :: hds) l) : PS X (.Try body (h₀ :: hds) [] [] pos) (fun D σ H => tb (wCl X.K Wout D l) D σ H) := by
  refine ⟨fun pins s σ H D I h => ?_⟩
  have ok := I.ok
  have hfr : X.A.frames = some (X.env :: X.outer) := by rw [ok.frames, hs]
  refine wpAny_Try_except ?_
  refine wpAny_mono ((hb (wCl X.K Wout D l) (X.pn ++ pins) (fun e s₁ => wpAny (model X.prog X.w) X.A (noteFrame e X.env) (fun _ s₂ => wpAny (model X.prog X.w) X.A (setFlight e none) (fun _ s₃ =>
    wpAny (model X.prog X.w) X.A (handleBy e X.env (h₀ :: hds)) (SP X pins D) X.xe s₃) X.xe s₂) X.xe s₁) (fun u s' xx => ?_) PassesOwn.looking).run [] s σ H D (I.toTry _) h) (fun f s1 hsp => ?_) (fun e s1 he => he)
  · obtain ⟨a, B, sI, pins', σ', H', cls, d, rfl, J', nb, up, sky, na, os, ag, w⟩ := xx
    have J : Inv X pins σ' H' sI := J'.ofTry ok
    have sky' : Sky B (X.env :: X.outer) a (Zc cls d) X.env.locals s'.heap := by rw [← hs]; exact sky
    show wpAny (model X.prog X.w) X.A (noteFrame (.ref a) X.env) _ _ _
    refine Sky.land Zc.steady hfr hf sky' fun h3 fl3 up3 => ?_
    have J3 : Inv X pins σ' H' { s' with heap := h3 } := J.landed nb fl3.1 (up.trans up3) os ag
    obtain ⟨oe3, vs3, he3, hz3, hd3⟩ := fl3.there
    have notFr : ∀ {h : Heap} {o : Obj} {vs : Array Value}, h.FunFrames B (X.env :: X.outer) → h.get? a = some o → o.data = .fields vs → a ∉ frs (X.env :: X.outer) := fun {h o vs} ff e dd hm => by
      obtain ⟨_, o', e', hnf⟩ := ff.mem hm
      rw [e] at e'; cases e'
      exact hnf _ dd
    have nfr := notFr fl3.2.2.1 he3 hd3
    have nL : a ≠ X.env.locals := fun z => nfr (List.mem_filterMap.mpr ⟨X.env, List.mem_cons_self, by rw [hf, z]⟩)
    have nF : a ∉ X.fs := fun hm => by
      obtain ⟨e, he, q⟩ := List.mem_filterMap.mp hm
      exact nfr (List.mem_filterMap.mpr ⟨e, List.mem_cons_of_mem _ he, q⟩)
    have S3 := J3.suite he3 hd3 na nL nF
    have LT : PySem.W.Looks (model X.prog X.w) h3 (typeOf (.ref a)) cls := fun A Q E s k q => wpAny_typeOf_ref (k _ _ he3) (by rw [hz3.1]; exact q)
    have test : ∀ {x : Str} {np : Pos} {c : Value} {Q : Value → Shared → Prop} {E : Value → Shared → Prop}, Names X x c → Q c { s' with heap := h3 } → wpAny (model X.prog X.w) (X.A.mark (some (.ref a))) (eval (.Name x np) X.env) Q E { s' with heap := h3 } := fun {x np c Q E} hc q => by
      obtain ⟨hg, hdbg, hm | ⟨hm, hv, hnn⟩⟩ := hc
      · exact ld_glob (X := X.suite a ((a, oe3) :: (X.pn ++ pins))) S3 hg hm q hdbg
      · exact ld_blt (X := X.suite a ((a, oe3) :: (X.pn ++ pins))) S3 hg hm hv q hnn hdbg
    have go : ∀ {hds' : List ExceptHandler} {l' : List Cl}, ClsOk X hds' l' → wCl X.K Wout D l' cls d σ' H' →
        wpAny (model X.prog X.w) X.A (handleBy (.ref a) X.env hds') (SP X pins D) X.xe { s' with heap := h3 } := by
      intro hds' l' hk
      induction hk with
      | nil =>
        intro w
        refine wpAny_handleBy_nil ?_
        obtain ⟨k1, k2, k3, oe, vs, T, oT, ts', he, hz, hd, h1, hr⟩ := id fl3
        unfold PySem.passOn
        refine wpAny_bind (wpAny_field he hd h1 ?_)
        rw [if_neg (show ¬ ((Value.ref T == Value.none) = true) from by simp)]
        have fin : wpAny (model X.prog X.w) X.A (setFlight (.ref a) X.env.frame) (fun _ s4 => wpAny (model X.prog X.w) X.A (throw (.ref a) : Sem Flow) (SP X pins D) X.xe s4) X.xe { s' with heap := h3 } := by
          rw [hf]
          refine HandSPX.setFlight_upZ fl3 fun h4 hh4 up4 => wpAny_throw (tk _ _ ?_)
          exact ⟨a, B, sI, pins, σ', H', cls, d, rfl, J, nb, (up.trans up3).trans up4, .inr (.inr (by rw [hs]; exact hh4)), na, os, ag, w⟩
        first
          | exact wpAny_bind (wpAny_pure (wpAny_bind fin))
          | exact wpAny_bind fin
      | @bare x c ts b₀ suite np pos' hds2 l2 hc hsu r ih =>
        intro w
        obtain ⟨b, hb1, hyes, hno⟩ := w
        refine wpAny_handleBy_cons (codeAny_handlers_test ?_) (by intro q; cases q)
        have LM := PySem.W.exm_one (M := model X.prog X.w) (J3.kIn) LT hb1
        refine test hc (LM.here ?_)
        cases b with
        | true =>
          refine codeAny_handlers_suite ?_
          refine HandSPX.lands_againZ fl3 fun h4 fl4 up4 => ?_
          have J4 : Inv X pins σ' H' { s' with heap := h4 } := J.landed nb fl4.1 ((up.trans up3).trans up4) os ag
          obtain ⟨oe4, vs4, he4, hz4, hd4⟩ := fl4.there
          have S4 := J4.suite he4 hd4 na nL nF
          refine wpAny_mono ((hsu a oe4 cls d (X.pn ++ pins) hz4 ⟨_, hd4⟩).run [] _ _ H' _ S4 (hyes rfl a na)) (fun f s6 hsp => ?_) (fun _ _ z => False.elim z)
          cases f with
          | next =>
            obtain ⟨σ6, H6, S6, q6⟩ := hsp
            exact ⟨_, _, S6.unsuite ok, q6⟩
          | brk =>
            obtain ⟨σ6, H6, S6, q6⟩ := hsp
            exact ⟨_, _, S6.unsuite ok, q6⟩
          | cont =>
            obtain ⟨σ6, H6, S6, q6⟩ := hsp
            exact ⟨_, _, S6.unsuite ok, q6⟩
          | ret u =>
            obtain ⟨v6, σ6, H6, S6, r6, q6⟩ := hsp
            exact ⟨_, _, _, S6.unsuite ok, r6, q6⟩
        | false =>
          show wpAny _ X.A (handleBy (.ref a) X.env hds2) _ _ _
          exact ih (hno rfl)
      | @named x n i c ts b₀ suite np pos' hds2 l2 hc hi hln hsu r ih =>
        intro w
        obtain ⟨b, hb1, hyes, hno⟩ := w
        refine wpAny_handleBy_cons (codeAny_handlers_test ?_) (by intro q; cases q)
        have LM := PySem.W.exm_one (M := model X.prog X.w) (J3.kIn) LT hb1
        refine test hc (LM.here ?_)
        cases b with
        | true =>
          have hloc : Loc X.env.scope n := .inl hln
          refine codeAny_handlers_suite_as ?_
          refine HandSPX.lands_againZ fl3 fun h4 fl4 up4 => ?_
          have J4 : Inv X pins σ' H' { s' with heap := h4 } := J.landed nb fl4.1 ((up.trans up3).trans up4) os ag
          obtain ⟨oe4, vs4, he4, hz4, hd4⟩ := fl4.there
          have S4 := J4.suite he4 hd4 na nL nF
          refine store_ok (X := X.suite a ((a, oe4) :: (X.pn ++ pins))) (v := .ref a) S4 hN hi hloc rfl (fun s5 S5 => ?_) (.inr hln)
          refine wpAny_mono ((hsu a oe4 cls d (X.pn ++ pins) hz4 ⟨_, hd4⟩).run [] s5 _ H' _ S5 (hyes rfl a na)) (fun f s6 hsp => ?_) (fun _ _ z => False.elim z)
          have end_ : ∀ {σ6 : L2.St} {H6 : Hp} {Q : Shared → Prop}, Inv (X.suite a ((a, oe4) :: (X.pn ++ pins))) [] σ6 H6 s6 → (∀ s7, Inv X pins (σ6.set i none) H6 s7 → Q s7) →
              wpAny (model X.prog X.w) X.A (do bindName X.env n .none; unbindBehindTheSuite X.env n pos') (fun _ s7 => Q s7) X.xe s6 := fun {σ6 H6 Q} S6 hq => gone_ok (S6.unsuite ok) hN hi hln hq
          cases f with
          | next =>
            obtain ⟨σ6, H6, S6, q6⟩ := hsp
            exact end_ S6 fun s7 J7 => ⟨_, _, J7, q6⟩
          | brk =>
            obtain ⟨σ6, H6, S6, q6⟩ := hsp
            exact end_ S6 fun s7 J7 => ⟨_, _, J7, q6⟩
          | cont =>
            obtain ⟨σ6, H6, S6, q6⟩ := hsp
            exact end_ S6 fun s7 J7 => ⟨_, _, J7, q6⟩
          | ret u =>
            obtain ⟨v6, σ6, H6, S6, r6, q6⟩ := hsp
            exact end_ S6 fun s7 J7 => ⟨_, _, _, J7, r6, q6⟩
        | false =>
          show wpAny _ X.A (handleBy (.ref a) X.env hds2) _ _ _
          exact ih (hno rfl)
    exact go hh w
  · cases f with
    | next =>
      obtain ⟨σ', H', J', q⟩ := hsp
      exact wpAny_execs_nil ⟨σ', H', J'.ofTry ok, q⟩
    | brk =>
      obtain ⟨σ', H', J', q⟩ := hsp
      exact ⟨σ', H', J'.ofTry ok, q⟩
    | cont =>
      obtain ⟨σ', H', J', q⟩ := hsp
      exact ⟨σ', H', J'.ofTry ok, q⟩
    | ret u =>
      obtain ⟨v, σ', H', J', r, q⟩ := hsp
      exact ⟨v, σ', H', J'.ofTry ok, r, q⟩
end
end Rh

set_option Elab.async false
set_option linter.all false
set_option maxRecDepth 100000
set_option maxHeartbeats 2000000
set_option autoImplicit false
namespace Rh
open PySem PySem.Spec PyProof.Rows L2
variable [Tbs]
open PySem.W PySem.Calls PySem.HandSPX
section
variable {X : Cx} {W : WX} {C : Addr} {fld : Str}
def mRaise1 (c fld : Str) (m : M D) : MS := mDo m fun d => fun ρ h => some (.ex c [(fld, d)] ρ h)
theorem s_raise1 {cn : Str} {a : Expr} {m : M D} {p pos pos2 : Pos} {k : Nat} (hc : X.calm = true) (tk : Takes X W) (T : Mkr X.prog X.w X.K C fld) (gC : X.mg cn = some (.ref C)) (kC : keepIn X.K (.ref C) = true) (r : Raises X (.ref C)) (hr : Room k X.A) (ha : PE X a (rd X W m)) (hg : Gl X cn)
    (hdb : (cn == ("__debug__" : Str)) = false := by decide) (he : starEach (a :: []) X.env = (false, eval a X.env) :: starEach [] X.env := by rfl) (hpl : (backTo pos (starEach [] X.env)).any (·.1) = false := by rfl) :
    PS X (.Raise (some (.Call (.Name cn p) [a] [] pos)) none pos2) (rdS X W (mRaise1 cn fld m)) := by
  refine ps_imp (ps_raise hc tk (pmk_one T gC kC r hr (pa_cons ha pa_nil he) hg hdb he hpl)) fun D σ H q => rdG_imp (rdS_bind q) fun ρ L d h1 μ1 H1 ⟨rel1, q1⟩ x rx => ?_
  show ∃ v, [x] = [v] ∧ ∀ d, H1 d = none → W (.ref C) (some d) σ (upd H1 d (.xd [(fld, v)]))
  refine ⟨x, rfl, fun dx hdx => ?_⟩
  obtain ⟨s1, s2⟩ := same_new (o := HO.xd [(fld, x)]) hdx
  exact q1 (.ref C) (some dx) σ μ1 _ (.same rel1.hr s1 s2) (rel1.go (.same rel1.hr s1 s2) (rel1.hr.same s1)) ⟨⟨C, gC, rfl⟩, dx, [(fld, x)], rfl, upd_same, rfl, x, [], rfl, rx.stay (Same.stay s1), rfl⟩
end
/-- a clause by mirror: the class's name, the slot of the error's name, the suite by what the error holds -/
structure MC where
  c : Str
  i : Option Nat
  su : Str → List (Str × D) → MS
def noEx : Option RS → Option RS
  | some (.ex _ _ _ _) => none
  | o => o
def clrS (i : Nat) : Option RS → Option RS
  | some (.nx ρ h) => some (.nx (ρ.set i none) h)
  | some (.bk ρ h) => some (.bk (ρ.set i none) h)
  | some (.ct ρ h) => some (.ct (ρ.set i none) h)
  | some (.rt d h) => some (.rt d h)
  | _ => none
def runCl (k : MC) (c : Str) (fs : List (Str × D)) (ρ : En) (h : Hs) : Option RS := match k.i with
  | none => noEx (k.su c fs ρ h)
  | some i => if i < ρ.length then clrS i (k.su c fs (ρ.set i none) h) else none
def pick (cs : List Str) : List MC → Str → List (Str × D) → En → Hs → Option RS
  | [], c, fs, ρ, h => some (.ex c fs ρ h)
  | k :: r, c, fs, ρ, h => if cs.contains c = true ∧ cs.contains k.c = true then (if (c == k.c) = true then runCl k c fs ρ h else pick cs r c fs ρ h) else none
def mTry (cs : List Str) (body : MS) (l : List MC) : MS := fun ρ h => match body ρ h with
  | some (.ex c fs ρ1 h1) => pick cs l c fs ρ1 h1
  | o => o
/-- the classes of the text: which is caught by which -/
def ExK (K : PySem.W.Frag) (mg : Str → Option Value) (cs : List Str) : Prop := ∀ c ∈ cs, ∀ k ∈ cs, ∀ C, mg c = some (.ref C) → PySem.W.exmOne K (.ref C) ((mg k).getD .none) = some (c == k)
abbrev WN : WX := fun _ _ _ _ => False
def tsX (X : Cx) (i : Option Nat) (su : Str → List (Str × D) → MS) : Addr → Value → Option Addr → TS := fun a cls d D σ H =>
  (∀ j, i = some j → σ[j]? = some (some (.ref a))) ∧ ∃ ρ L μ h c fs, Rel (ctX X) L ρ σ μ H h ∧ RepX (ctX X) μ H c fs cls d ∧ SatS X WN D L μ H (su c fs ρ h)
def clOf (X : Cx) (k : MC) : Cl := ((X.mg k.c).getD .none, k.i, tsX X k.i k.su)
section
variable {X : Cx} {W : WX} {L : List Nat} {ρ ρ' : En} {σ σ' σ1 : L2.St} {H H' H1 : Hp} {μ μ1 : Mu} {h h1 : Hs} {D0 : Ends}
theorem SatS.noEx {o : Option RS} {W' : WX} (q : SatS X W D0 L μ H (noEx o)) : SatS X W' D0 L μ H o := by
  cases o with
  | none => exact q.none
  | some o =>
    cases o with
    | ex c fs ρ1 => exact q.none
    | _ => exact q
/-- a slot is no longer looked at -/
theorem Rel.clear {C : Ct} (r : Rel C L ρ σ μ H h) (i : Nat) (x : Option V) : Rel C L (ρ.set i none) (σ.set i x) μ H h := by
  refine ⟨by rw [List.length_set, List.length_set]; exact r.len, fun j d e => ?_, r.hr⟩
  by_cases hj : i = j
  · subst hj
    by_cases hl : i < ρ.length
    · rw [List.getElem?_set_self hl] at e; cases e
    · rw [List.getElem?_eq_none (by rw [List.length_set]; exact Nat.le_of_not_lt hl)] at e; cases e
  · rw [List.getElem?_set_ne hj] at e ⊢
    exact r.val j d e
theorem pick_ok {cs : List Str} (hk : ExK X.K X.mg cs) : ∀ (l : List MC) {c : Str} {fs : List (Str × D)} {ρ1 : En} {h1 : Hs}, SatS X W D0 L μ H (pick cs l c fs ρ1 h1) →
    ∀ cls d σ1 μ1 H1, Go L μ H μ1 H1 → Rel (ctX X) L ρ1 σ1 μ1 H1 h1 → RepX (ctX X) μ1 H1 c fs cls d → wCl X.K W D0 (l.map (clOf X)) cls d σ1 H1
  | [], c, fs, ρ1, h1, q => fun cls d σ1 μ1 H1 g r rx => q cls d σ1 μ1 H1 g r rx
  | k :: ks, c, fs, ρ1, h1, q => fun cls d σ1 μ1 H1 g r rx => by
    unfold pick at q
    split at q
    · rename_i hcs
      obtain ⟨⟨C, gC, rfl⟩, rx2⟩ := id rx
      have hb := hk c (List.elem_iff.mp hcs.1) k.c (List.elem_iff.mp hcs.2) C gC
      refine ⟨(c == k.c), hb, fun e a na => ?_, fun e => ?_⟩
      · rw [e] at q
        rw [if_pos rfl] at q
        show (match k.i with
          | none => tsX X k.i k.su a (.ref C) d D0 σ1 H1
          | some i => tsX X k.i k.su a (.ref C) d { nx := fun σ' H' => D0.nx (σ'.set i none) H', rt := D0.rt, bk := fun σ' H' => D0.bk (σ'.set i none) H', ct := fun σ' H' => D0.ct (σ'.set i none) H' } (σ1.set i (some (.ref a))) H1)
        unfold runCl at q
        cases hi : k.i with
        | none =>
          rw [hi] at q
          dsimp only at q ⊢
          exact ⟨(fun j e => nomatch e), ρ1, L, μ1, h1, c, fs, r, rx, (q.start g).noEx⟩
        | some i =>
          rw [hi] at q
          dsimp only at q ⊢
          split at q
          · rename_i hl
            have hlen : i < σ1.length := by rw [← r.len]; exact hl
            refine ⟨fun j e => by cases e; exact List.getElem?_set_self hlen, ρ1.set i none, L, μ1, h1, c, fs, r.clear i _, rx, ?_⟩
            cases eo : k.su c fs (ρ1.set i none) h1 with
            | none => rw [eo] at q; exact q.none
            | some o =>
              rw [eo] at q
              cases o with
              | nx ρ2 h2 => exact fun σ2 μ2 H2 g2 r2 => q _ μ2 H2 (g.trans g2) (r2.clear i none)
              | bk ρ2 h2 => exact fun σ2 μ2 H2 g2 r2 => q _ μ2 H2 (g.trans g2) (r2.clear i none)
              | ct ρ2 h2 => exact fun σ2 μ2 H2 g2 r2 => q _ μ2 H2 (g.trans g2) (r2.clear i none)
              | rt n h2 => exact fun μ2 H2 x g2 r2 rr => q μ2 H2 x (g.trans g2) r2 rr
              | ex c' fs' ρ2 h2 => exact q.none
          · exact q.none
      · rw [e, if_neg Bool.false_ne_true] at q
        exact pick_ok hk ks q _ _ _ _ _ g r rx
    · exact q.none
/-- try .. except .. by mirror -/
theorem s_try {cs : List Str} {body : List Stmt} {h₀ : ExceptHandler} {hds : List ExceptHandler} {l : List MC} {mb : MS} {pos : Pos} (hk : ExK X.K X.mg cs) (hs : X.stack = X.env :: X.outer) (hf : X.env.frame = some X.env.locals) (hN : X.N.Nodup) (tk : Takes X W)
    (hb : ∀ (W : WX) (pn : List (Addr × Obj)) (xe : Value → Shared → Prop), Takes (X.tr pn xe) W → PassesOwn (model X.prog X.w) X.A X.env xe → PSs (X.tr pn xe) body (rdS (X.tr pn xe) W mb))
    (hh : ClsOk X (h₀ :: hds) (l.map (clOf X))) : PS X (.Try body (h₀ :: hds) [] [] pos) (rdS X W (mTry cs mb l)) := by
  refine ps_imp (ps_tries (tb := fun W => rdS X W mb) hs hf hN tk hb hh) fun D σ H ⟨ρ, L, μ, h, rel, q⟩ => ⟨ρ, L, μ, h, rel, ?_⟩
  unfold mTry at q
  cases eo : mb ρ h with
  | none => rw [eo] at q; exact q.none
  | some o =>
    rw [eo] at q
    cases o with
    | ex c fs ρ1 h1 => exact fun cls d σ1 μ1 H1 g r rx => pick_ok hk l q cls d σ1 μ1 H1 g r rx
    | _ => exact q
end
end Rh

set_option Elab.async false
set_option linter.all false
set_option maxRecDepth 100000
set_option maxHeartbeats 2000000
set_option autoImplicit false
namespace Rh
open PySem PySem.Spec PyProof.Rows L2
variable [Tbs]

/-! ### the suite's words: by what the error holds -/
abbrev XF (α : Type) := Str → List (Str × D) → Option α
def rdX (X : Cx) (i : Option Nat) (a : Addr) (cls : Value) (d : Option Addr) (f : XF D) : TE := fun σ H Q =>
  (∀ j, i = some j → σ[j]? = some (some (.ref a))) ∧ ∃ μ c fs dv, RepX (ctX X) μ H c fs cls d ∧ f c fs = some dv ∧ ∀ v, RepV (ctX X) μ H dv v → Q v H
def rdXA (X : Cx) (i : Option Nat) (a : Addr) (cls : Value) (d : Option Addr) (f : XF (List D)) : TA := fun σ H Q =>
  (∀ j, i = some j → σ[j]? = some (some (.ref a))) ∧ ∃ μ c fs dv, RepX (ctX X) μ H c fs cls d ∧ f c fs = some dv ∧ ∀ v, RepL (ctX X) μ H dv v → Q v H
def xC (d : D) : XF D := fun _ _ => some d
def xNil : XF (List D) := fun _ _ => some []
def xCons (f : XF D) (g : XF (List D)) : XF (List D) := fun c fs => match f c fs, g c fs with
  | some d, some ds => some (d :: ds)
  | _, _ => none
/-- error.fld, of the class cn -/
def xAt (cn fld : Str) : XF D := fun c fs => match fs with
  | [(g, d)] => if c = cn ∧ g = fld then some d else none
  | _ => none
structure AttrX (K : PySem.W.Frag) (C : Addr) (fld : Str) : Prop where
  ga : PySem.W.findIn K (.ref C) "__getattribute__" = some (some (.builtin "BaseException.__getattribute__"))
  gg : PySem.W.findIn K (.ref C) "__getattr__" = some none
  ex : PySem.W.subIn K (.ref C) (.type "BaseException") = some true
  hd : PySem.W.hasDictIn K C = true
  no : PySem.W.findIn K (.ref C) fld = some none
section
variable {X : Cx} {Y : Cx} {a : Addr} {cls : Value} {d : Option Addr} {i : Option Nat}
theorem x_str {x : Str} {j : Nat} {pos : Pos} : PE Y (.Constant (.str x) j pos) (rdX X i a cls d (xC (.str x))) := pe_imp pe_str fun σ H Q ⟨_, μ, c, fs, dv, _, e, k⟩ => k (.str x) (by cases e; rfl)
theorem xa_nil : PA Y [] (rdXA X i a cls d xNil) := pa_imp pa_nil fun σ H Q ⟨_, μ, c, fs, dv, _, e, k⟩ => k [] (by cases e; rfl)
theorem xa_cons {e : Expr} {es : List Expr} {f : XF D} {g : XF (List D)} (he : PE Y e (rdX X i a cls d f)) (hr : PA Y es (rdXA X i a cls d g)) (hs : starEach (e :: es) Y.env = (false, eval e Y.env) :: starEach es Y.env := by rfl) :
    PA Y (e :: es) (rdXA X i a cls d (xCons f g)) := pa_imp (pa_cons he hr hs) fun σ H Q ⟨hj, μ, c, fs, dv, rx, e, k⟩ => by
  unfold xCons at e
  cases e1 : f c fs with
  | none => simp only [e1] at e; cases e
  | some d1 =>
    cases e2 : g c fs with
    | none => simp only [e1, e2] at e; cases e
    | some ds =>
      simp only [e1, e2] at e
      cases e
      exact ⟨hj, μ, c, fs, d1, rx, e1, fun v rv => ⟨hj, μ, c, fs, ds, rx, e2, fun vs rvs => k (v :: vs) ⟨v, vs, rfl, rv, rvs⟩⟩⟩
theorem x_attr {C : Addr} {n fld cn : Str} {j : Nat} {oe : Obj} {pn : List (Addr × Obj)} {p pos : Pos} (gC : X.mg cn = some (.ref C)) (T : AttrX X.K C fld) (hN : X.N[j]? = some n) (hv : Vis X.env.scope n) (hz : Zc cls d oe) (hf : ∃ vs, oe.data = .fields vs)
    (hd : (n == ("__debug__" : Str)) = false := by decide) (hcd : (n == ("__classdict__" : Str)) = false := by decide) (hb : attributeBase (.Name n p) fld X.env (eval (.Name n p) X.env) = eval (.Name n p) X.env := by rfl) :
    PE (X.suite a ((a, oe) :: pn)) (.Attribute (.Name n p) fld pos) (rdX X (some j) a cls d (xAt cn fld)) := by
  refine ⟨fun pins s σ H Q I ⟨hj, μ, c, fs, dv, rx, e, k⟩ => ?_⟩
  refine attr_of hb (thn ((pe_var (X := X.suite a ((a, oe) :: pn)) hN hv hd hcd).run pins s σ H (fun v H1 => v = .ref a ∧ H1 = H) I ⟨_, hj j rfl, rfl, rfl⟩) fun u s1 hh => ?_)
  obtain ⟨x, H1, I1, r1, ex, eH⟩ := hh
  subst ex
  subst eH
  obtain rfl : u = Value.ref a := r1
  unfold xAt at e
  split at e
  · rename_i g d0 
    split at e
    · rename_i hc
      obtain ⟨rfl, rfl⟩ := hc
      cases e
      obtain ⟨⟨C', gC', rfl⟩, dx, vs, rfl, hdx, hn, rl⟩ := rx
      have gC' : X.mg c = some (.ref C') := gC'
      rw [gC] at gC'
      cases gC'
      obtain ⟨v, rest, ev, rv, er⟩ := rl
      cases vs with
      | nil => cases ev
      | cons p0 vs =>
        cases er
        obtain ⟨g0, v0⟩ := p0
        have e1 := List.cons.inj ev
        obtain ⟨e1, e2⟩ := e1
        dsimp only at e1
        subst e1
        cases vs with
        | cons _ _ => cases e2
        | nil =>
          have e3 : g0 = g := (List.cons.inj hn).1
          subst e3
          obtain ⟨ha, _⟩ := I1.pin (a, oe) (List.mem_append_left _ List.mem_cons_self)
          obtain ⟨fv, hd⟩ := hf
          have hx : ObjOk X.prog X.w H1 s1.heap dx (.xd [(g0, v0)]) := I1.hok dx _ hdx
          obtain ⟨mA, hns, hr⟩ := hx
          obtain ⟨od, ho, hl⟩ := lookIn_ns hns
          have l : List.lookup g0 [(g0, v0)] = some v0 := by simp [List.lookup]
          obtain ⟨u, hu, ru⟩ := RelO.some_of (v := v0) (o := mA g0) (by rw [← l]; exact hr g0)
          have J : PySem.W.InstAt s1.heap a oe C (some od) := ⟨ha, hz.1, by unfold PySem.W.notCls; rw [hd] <;> rfl, by rw [hz.2]; exact ho⟩
          exact HandSPX.exc_get I1.kIn J T.ga T.gg T.ex (PySem.W.findObj_own T.hd T.no rfl (by rw [hl, hu])) (handed_of ru) ⟨v0, H1, I1.tok _, ru, k v0 rv⟩
    · cases e
  · cases e
def mXL (f : XF (List D)) (c : Str) (fs : List (Str × D)) : M D := fun _ h => match f c fs with
  | some ds => if ds.length ≤ 1000000 then (Nv.n (.lst ds)).lift h else none
  | none => none
/-- an expression of a suite -/
def rdXE (X : Cx) (i : Option Nat) (a : Addr) (cls : Value) (d : Option Addr) (m : Str → List (Str × D) → M D) : TE := fun σ H Q =>
  (∀ j, i = some j → σ[j]? = some (some (.ref a))) ∧ ∃ ρ L μ h c fs, Rel (ctX X) L ρ σ μ H h ∧ RepX (ctX X) μ H c fs cls d ∧ Sat X WN L σ μ H (m c fs ρ h) fun d _ μ' H' => ∀ x, RepV (ctX X) μ' H' d x → Q x H'
theorem xe_lst {es : List Expr} {f : XF (List D)} {pos : Pos} (ha : PA Y es (rdXA X i a cls d f)) : PE Y (.List es pos) (rdXE X i a cls d (mXL f)) := pe_imp (pe_lst ha) fun σ H Q ⟨hj, ρ, L, μ, h, c, fs, rel, rx, q⟩ => by
  unfold mXL at q
  cases e : f c fs with
  | none => simp only [e] at q; exact q.none
  | some ds =>
    simp only [e] at q
    split at q
    · rename_i hl
      obtain ⟨m, em, want⟩ := Sat.lift (n := some (.n (.lst ds))) rel.hr q
      cases em
      exact ⟨hj, μ, c, fs, ds, rx, e, fun vs rl => ⟨by rw [rl.length]; exact small6 hl, fun p hp => want.lst rl hp⟩⟩
    · exact q.none
theorem xs_ret {e : Expr} {m : Str → List (Str × D) → M D} {pos2 : Pos} (he : PE Y e (rdXE X i a cls d m)) : PSs Y [.Return (some e) pos2] (tsX X i (fun c fs => mRet (m c fs)) a cls d) :=
  pss_one (ps_imp (ps_ret he) fun D σ H ⟨hj, ρ, L, μ, h, c, fs, rel, rx, q⟩ => ⟨hj, ρ, L, μ, h, c, fs, rel, rx, (q.bind rel).imp fun b h1 μ1 H1 g1 _ ⟨rel1, q1⟩ x rb => q1 μ1 H1 x .refl rel1.hr rb⟩)
end
end Rh

set_option Elab.async false
set_option linter.all false
set_option maxRecDepth 100000
set_option maxHeartbeats 2000000
set_option autoImplicit false
namespace Rh
open PySem PySem.Spec PyProof.Rows L2
variable [Tbs]
section
variable {X : Cx}
end
/-! ### words for a text's operators and built-in functions -/
def dAdd : Hs → D → D → Option Nv := fun h d e => match dInt (fun i j => .int (i + j)) h d e with | some n => some n | none => (fun h d e => match dCatT h d e with | some n => some n | none => dCatL h d e) h d e
def dMod : Hs → D → D → Option Nv := dIntC (fun _ j => decide (0 < j)) fun i j => .int (i % j)
def dLenA : Hs → List D → Option Nv := fun h d => match dLen h d with | some n => some n | none => dLenD h d
def dListA : Hs → List D → Option Nv := fun h d => match dList h d with | some n => some n | none => dListD h d
section
variable {X : Cx} {W : WX} {a b : Expr} {ma mb : M D} {pos : Pos} {k : Nat}
theorem hu_of (hr : Room k X.A) : X.A.units + 65 < cLine := by have := hr.un; omega
theorem hu_of4 (hr : Room k X.A) : X.A.units + 64 < cLine := by have := hr.un; omega
/-- a comparison by its operator -/
structure CmpW (X : Cx) (op : CmpOp) (f : Hs → D → D → Option Nv) : Prop where
  ex : ∃ r : R2, OpR X (compareOp op) r ∧ Cov2 (ctX X) r f
theorem e_cmpW {op : CmpOp} {f : Hs → D → D → Option Nv} (c : CmpW X op f) (hm : behindInMarks op b = false) (ha : PE X a (rd X W ma)) (hb : PE X b (rd X W mb)) : PE X (.Compare a [op] [b] pos) (rd X W (mOp2 f ma mb)) := by
  obtain ⟨r, h1, h2⟩ := c.ex
  exact e_cmp h1 h2 hm ha hb
theorem t_cmpW {op : CmpOp} {f : Hs → D → D → Option Nv} (c : CmpW X op f) (hm : behindInMarks op b = false) (ha : PE X a (rd X W ma)) (hb : PE X b (rd X W mb)) : PT X (.Compare a [op] [b] pos) (rdT X W (mB (mOp2 f ma mb))) := by
  obtain ⟨r, h1, h2⟩ := c.ex
  exact t_cmp h1 h2 hm ha hb
theorem b_add (ha : PE X a (rd X W ma)) (hb : PE X b (rd X W mb)) : PE X (.BinOp a .Add b pos) (rd X W (mOp2 dAdd ma mb)) :=
  e_bin (OpR.or' op_add (OpR.or' op_catF op_cat)) ((cov_rI0 fun _ _ => rfl).or (cov_catT.or cov_catL)) ha hb
theorem b_mod (ha : PE X a (rd X W ma)) (hb : PE X b (rd X W mb)) : PE X (.BinOp a .Mod b pos) (rd X W (mOp2 dMod ma mb)) := e_bin op_mod (cov_rI (fun _ _ h => of_decide_eq_true h) fun _ _ => rfl) ha hb
section
variable {p : Pos} {e : Expr} {es : List Expr} {ms : M (List D)}
theorem f_len (hg : Gl X "len") (hm : X.mg "len" = none) (ha : PA X (e :: es) (rdA X W ms)) (he : starEach (e :: es) X.env = (false, eval e X.env) :: starEach es X.env := by rfl) (hpl : (backTo pos (starEach es X.env)).any (·.1) = false := by rfl) :
    PE X (.Call (.Name "len" p) (e :: es) [] pos) (rd X W (mOpA dLenA ms)) := e_callB (CallR.or call_len_seq call_lenD) (cov_len.or cov_lenD) boot_len hg hm ha (by decide) (by decide) he hpl
theorem f_list (hc : X.calm = true) (hv : bootBuiltins "list" = some (.type "list")) (hg : Gl X "list") (hm : X.mg "list" = none) (ha : PA X (e :: es) (rdA X W ms)) (he : starEach (e :: es) X.env = (false, eval e X.env) :: starEach es X.env := by rfl) (hpl : (backTo pos (starEach es X.env)).any (·.1) = false := by rfl) :
    PE X (.Call (.Name "list" p) (e :: es) [] pos) (rd X W (mOpA dListA ms)) := e_callTy (CallR.or call_list_of (call_listD hc)) (cov_list.or cov_listD) hv hg hm ha (by decide) (by decide) he hpl
theorem f_int (hv : bootBuiltins "int" = some (.type "int")) (hg : Gl X "int") (hm : X.mg "int" = none) (ha : PA X (e :: es) (rdA X W ms)) (he : starEach (e :: es) X.env = (false, eval e X.env) :: starEach es X.env := by rfl) (hpl : (backTo pos (starEach es X.env)).any (·.1) = false := by rfl) :
    PE X (.Call (.Name "int" p) (e :: es) [] pos) (rd X W (mOpA dInt1 ms)) := e_callTy call_int1 cov_int hv hg hm ha (by decide) (by decide) he hpl
theorem f_abs (hv : bootBuiltins "abs" = some (.builtin "abs")) (hg : Gl X "abs") (hm : X.mg "abs" = none) (ha : PA X (e :: es) (rdA X W ms)) (he : starEach (e :: es) X.env = (false, eval e X.env) :: starEach es X.env := by rfl) (hpl : (backTo pos (starEach es X.env)).any (·.1) = false := by rfl) :
    PE X (.Call (.Name "abs" p) (e :: es) [] pos) (rd X W (mOpA dAbs ms)) := e_callB call_abs cov_abs hv hg hm ha (by decide) (by decide) he hpl
theorem f_all (hc : X.calm = true) (hv : bootBuiltins "all" = some (.builtin "all")) (hg : Gl X "all") (hm : X.mg "all" = none) (ha : PA X (e :: es) (rdA X W ms)) (he : starEach (e :: es) X.env = (false, eval e X.env) :: starEach es X.env := by rfl) (hpl : (backTo pos (starEach es X.env)).any (·.1) = false := by rfl) :
    PE X (.Call (.Name "all" p) (e :: es) [] pos) (rd X W (mOpA dAll ms)) := e_callB (cr_all hc) cov_all hv hg hm ha (by decide) (by decide) he hpl
theorem f_isi (hv : bootBuiltins "isinstance" = some (.builtin "isinstance")) (hg : Gl X "isinstance") (hm : X.mg "isinstance" = none) (ha : PA X (e :: es) (rdA X W ms)) (he : starEach (e :: es) X.env = (false, eval e X.env) :: starEach es X.env := by rfl) (hpl : (backTo pos (starEach es X.env)).any (·.1) = false := by rfl) :
    PE X (.Call (.Name "isinstance" p) (e :: es) [] pos) (rd X W (mOpA dIsi ms)) := e_callB (CallR.or call_isi (CallR.or call_isiF call_isiK)) cov_isi hv hg hm ha (by decide) (by decide) he hpl
end
end
section
variable {X : Cx} {W : WX} {e a b c : Expr} {ma mb mc : M D} {pos : Pos}
theorem tkF {X : Cx} : Takes X WF := fun _ _ x => by
  obtain ⟨_, _, _, _, _, _, _, _, _, _, _, _, _, _, _, _, z⟩ := x
  exact z.elim
end
/-! ### a def that calls itself: by how deep it may -/
def fuelF (N : List Str) (m : FM → MS) : Nat → FM
  | 0 => fun _ _ => none
  | n + 1 => runDef N.length (m (fuelF N m n))
theorem fn_none {P : Program} {C : Ct} {base : Heap} {ps : List Str} {k np : Nat} {f : Addr} {fd : FuncData} (hp : ps.length = np) : FnOk P C.w C.K C.mg base (L2.CX P C.w) k f fd ps (spF C np fun _ _ => none) :=
  ⟨fun vs H Q E ⟨L, μ, h, as, q, _⟩ => q.trans hp.symm, fun A outer s H args us vs Q E hr e0 hb r ⟨L, μ, h, as, h1, h2, h3, h4⟩ => False.elim h4⟩
theorem fn_recK {P : Program} {w : World} {K : PySem.W.Frag} {mg : Str → Option Value} {base : Heap} {N ps : List Str} {np : Nat} {f : Addr} {fd : FuncData} {m : FM → MS} (hp : ps.length = np) (k0 : Nat)
    (step : ∀ (j : Nat) (g : FM), FnOk P w K mg base (L2.CX P w) (k0 + j) f fd ps (spF ⟨w, K, mg⟩ np g) → FnOk P w K mg base (L2.CX P w) (k0 + j + 1) f fd ps (spF ⟨w, K, mg⟩ np (runDef N.length (m g)))) :
    ∀ n : Nat, FnOk P w K mg base (L2.CX P w) (k0 + n) f fd ps (spF ⟨w, K, mg⟩ np (fuelF N m n))
  | 0 => fn_none (C := ⟨w, K, mg⟩) hp
  | n + 1 => step n (fuelF N m n) (fn_recK hp k0 step n)
theorem names_of {X : Cx} {x : Str} {v : Value} (hg : Gl X x) (g : X.mg x = some v) (hd : (x == ("__debug__" : Str)) = false := by decide) : Names X x ((X.mg x).getD .none) := ⟨hg, hd, .inl (by rw [g]; rfl)⟩
end Rh

set_option Elab.async false
set_option linter.all false
set_option maxRecDepth 100000
set_option maxHeartbeats 2000000
set_option autoImplicit false
namespace Rh
open PySem PySem.Spec PyProof.Rows L2
variable [Tbs]

/-! ### slices -/
def rdO (X : Cx) (W : WX) (m : M (Option Int)) : TO := fun σ H Q => rdG X W m σ H fun _ _ o _ _ H' => Q o H'
def mPart (m : M D) : M (Option Int) := mBind m fun d => fun _ h => match d with
  | .int i => some (.ok (some i) h)
  | _ => none
def cutD (xs : List D) (lo hi : Option Int) : List D := (xs.drop (HT.sIx xs.length 0 lo)).take (HT.sIx xs.length xs.length hi - HT.sIx xs.length 0 lo)
def dSl (h : Hs) (d : D) (lo hi : Option Int) : Option Nv := match d with
  | .tup ds => some (.v (.tup (cutD ds lo hi)))
  | d => (lstD h d).map fun ds => .n (.lst (cutD ds lo hi))
def mSl (m : M D) (lo hi : M (Option Int)) : M D := mBind m fun d => mBind lo fun l => mBind hi fun u => fun _ h => lift h (dSl h d l u)
theorem cut_all {α : Type} (xs : List α) {lo hi : Option Int} (h : HT.sIx xs.length 0 lo = 0 ∧ HT.sIx xs.length xs.length hi = xs.length) : (xs.drop (HT.sIx xs.length 0 lo)).take (HT.sIx xs.length xs.length hi - HT.sIx xs.length 0 lo) = xs := by
  rw [h.1, h.2, List.drop_zero, Nat.sub_zero, List.take_length]
section
variable {X : Cx} {W : WX} {C : Ct} {L : List Nat} {μ : Mu} {H : Hp} {h : Hs} {Q : VK}
theorem po_imp {e : Option Expr} {t t' : TO} (p : PO X e t) (h : ∀ σ H Q, t' σ H Q → t σ H Q) : PO X e t' := ⟨fun pins s σ H Q I q => p.run pins s σ H Q I (h _ _ _ q)⟩
theorem o_none : PO X none (rdO X W (mPure none)) := po_imp po_none fun σ H Q q => let ⟨_, _, _, _, _, k⟩ := rdG_pure q; k
theorem o_some {e : Expr} {m : M D} (h : PE X e (rd X W m)) : PO X (some e) (rdO X W (mPart m)) := po_imp (po_some h) fun σ H Q q => rdG_imp (rdG_bind q) fun ρ L d h1 μ1 H1 ⟨rel1, q1⟩ x rx => by
  split at q1
  · exact ⟨_, rx, q1 μ1 H1 .refl rel1.hr⟩
  · exact q1.none
theorem RepL.cut {ds : List D} {vs : List V} {lo hi : Option Int} (q : RepL C μ H ds vs) : RepL C μ H (cutD ds lo hi) (cutV vs lo hi) := by
  unfold cutD cutV
  rw [q.length]
  exact (q.drop _).take _
theorem sl_cov {d : D} {x : V} {lo hi : Option Int} {n : Nv} (hr : HR C L μ H h) (r : RepV C μ H d x) (e : dSl h d lo hi = some n) (want : Want C μ H n Q) : rSlL C.K x lo hi H Q ∨ rSlF C.K x lo hi H Q := by
  unfold dSl at e
  split at e
  · rename_i ds
    obtain ⟨a, vs, rfl, t, q⟩ := (show RepV C μ H (.tup ds) x from r)
    cases e
    refine .inr ⟨a, vs, rfl, t.sq, fun h => ?_, fun _ => want.tup q.cut⟩
    rw [q.length] at h
    rw [show cutD ds lo hi = ds from cut_all ds h] at want
    exact want.old ⟨a, vs, rfl, t, q⟩
  · obtain ⟨ds, e1, rfl⟩ := Option.map_eq_some_iff.mp e
    obtain ⟨a, vs, rfl, t, q⟩ := lstD_ok hr r e1
    exact .inl ⟨a, vs, rfl, t, fun p hp => want.lst q.cut hp⟩
theorem e_slice {e : Expr} {lo hi : Option Expr} {m : M D} {ml mh : M (Option Int)} {p2 pos : Pos} (he : PE X e (rd X W m)) (hl : PO X lo (rdO X W ml)) (hu : PO X hi (rdO X W mh)) : PE X (.Subscript e (.Slice lo hi none p2) pos) (rd X W (mSl m ml mh)) := by
  refine pe_imp (pe_slice (sl_list.or sl_tupF) he hl hu) fun σ H Q ⟨ρ, L, μ, h, rel, q⟩ => ⟨ρ, L, μ, h, rel, (q.bind rel).imp fun d h1 μ1 H1 g1 _ ⟨_, rel1, q1⟩ x rx => ⟨ρ, L, μ1, h1, rel1, (q1.bind rel1).imp fun l h2 μ2 H2 g2 _ ⟨_, rel2, q2⟩ => ⟨ρ, L, μ2, h2, rel2, (q2.bind rel2).imp fun u h3 μ3 H3 g3 _ ⟨_, rel3, q3⟩ => ?_⟩⟩⟩
  obtain ⟨n, en, want⟩ := Sat.lift rel3.hr q3
  exact sl_cov rel3.hr ((rx.go rel1.hr g2).go rel2.hr g3) en want
/-! ### keywords -/
theorem kk_nil : PK X [] (rdA X W mNil) := ⟨fun pos pins s σ H Q I q => by
  obtain ⟨_, _, _, _, _, k⟩ := rdG_pure q
  exact pk_nil.run pos pins s σ H Q I (k [] rfl)⟩
theorem kk_cons {nm : Option Str} {e : Expr} {kpos : Pos} {kws : List Keyword} {m : M D} {ms : M (List D)} (ha : PE X e (rd X W m)) (hr : PK X kws (rdA X W ms)) : PK X (⟨nm, e, kpos⟩ :: kws) (rdA X W (mCons m ms)) :=
  ⟨fun pos pins s σ H Q I q => (pk_cons ha hr).run pos pins s σ H Q I (rd_cons q)⟩
end
section
variable {X : Cx} {W : WX} {k np nu nw : Nat} {f : Addr} {fd : FuncData} {ps ks : List Str} {pm : List Nat} {fm : FM} {x : Str} {p pos : Pos} {e : Expr} {es : List Expr} {kws : List Keyword} {ms mk : M (List D)} {σ : L2.St} {H : Hp} {Q : VK}
end
/-! ### list(range(..)), tuple(range(..)) -/
theorem repL_ints {C : Ct} {μ : Mu} {H : Hp} : ∀ is : List Int, RepL C μ H (is.map D.int) (is.map V.int)
  | [] => rfl
  | i :: is => ⟨.int i, is.map V.int, rfl, rfl, repL_ints is⟩
section
variable {X : Cx} {W : WX} {C : Ct} {a b : Expr} {ma mb : M D} {pos p p2 pos2 : Pos}
end

section
variable {C : Ct} {L : List Nat}
end
section
variable {X : Cx} {W : WX} {e : Expr} {es : List Expr} {ms : M (List D)} {pos p : Pos}
end
end Rh

set_option Elab.async false
set_option linter.all false
set_option maxRecDepth 100000
set_option maxHeartbeats 2000000
set_option autoImplicit false
namespace Rh
open PySem PySem.Spec PyProof.Rows L2
variable [Tbs]

/-! ### methods -/
section
variable {X : Cx} {o e : Expr} {es : List Expr} {to : TE} {t : TA} {name : Str} {apos cpos : Pos} {T id : String} {r : V → List V → Hp → VK → Prop} {ty : V → Hp → Prop}
end
/-- a method's mirror: the class that is asked for, and what it does -/
structure CovM (C : Ct) (ty : V → Hp → Prop) (r : V → List V → Hp → VK → Prop) (ck : Hs → D → Bool) (f : Hs → D → List D → Option (D × Hs)) : Prop where
  ty : ∀ {L : List Nat} {μ : Mu} {H : Hp} {h : Hs} {d : D} {x : V}, HR C L μ H h → RepV C μ H d x → ck h d = true → ty x H
  run : ∀ {L : List Nat} {μ : Mu} {H : Hp} {h : Hs} {d : D} {x : V} {ds : List D} {xs : List V} {d' : D} {h' : Hs} {Q : VK}, HR C L μ H h → RepV C μ H d x → RepL C μ H ds xs → f h d ds = some (d', h') → (∀ y μ' H', Go L μ H μ' H' → HR C L μ' H' h' → RepV C μ' H' d' y → Q y H') → r x xs H Q
section
variable {X : Cx} {W : WX} {σ : L2.St} {H : Hp} {Q : VK} {ty : V → Hp → Prop} {r : V → List V → Hp → VK → Prop} {ck : Hs → D → Bool} {f : Hs → D → List D → Option (D × Hs)} {m : M D} {ms : M (List D)}
end
section
variable {C : Ct} {L : List Nat} {μ : Mu} {H : Hp} {h h' : Hs}
end
section
variable {X : Cx} {W : WX} {o e : Expr} {es : List Expr} {m : M D} {ms : M (List D)} {apos cpos : Pos}
end
section
variable {X : Cx} {W : WX} {m mo mi : M D}
end
end Rh

set_option Elab.async false
set_option linter.all false
set_option maxRecDepth 100000
set_option maxHeartbeats 2000000
set_option autoImplicit false
namespace Rh
open PySem PySem.Spec PyProof.Rows L2
variable [Tbs]
def dRepT (_ : Hs) (d e : D) : Option Nv := match d, e with
  | .tup [], .int k => none
  | .tup (a :: as), .int k => if 2 ≤ k ∧ k ≤ 1000 ∧ as.length < 1000 then some (.v (.tup (List.replicate k.toNat (a :: as)).flatten)) else none
  | _, _ => none
theorem cov_repT {C : Ct} : Cov2 C (rRepF C.K) dRepT := by
  intro H L μ h x y d e n Q hr r1 r2 hf want
  unfold dRepT at hf
  split at hf
  · cases hf
  · rename_i a as k
    split at hf
    · rename_i hl
      cases hf
      obtain ⟨p, vs, rfl, t1, q1⟩ := r1
      have l1 := q1.length
      refine ⟨p, k, vs, rfl, r2, t1.sq, ?_, hl.1, hl.2.1, ?_, want.tup (q1.rep _)⟩
      · rintro rfl
        simp at l1
      · rw [l1, List.length_cons]; exact hl.2.2
    · cases hf
  · cases hf
theorem tuple_mul0 (l : Addr) (items : Array Value) (n : Nat) (dd : Option Addr) (sl : Array (Option Value)) (x : Int) (u : Tok) (c0 : (decide (x < -(2 ^ 63)) || decide (x ≥ 2 ^ 63)) = false) (c1 : (items.isEmpty || x == 1) = false) (c2 : (decide (x ≤ 0) || items.isEmpty) = true) :
    Meets (Builtin.«tuple.__mul__» ⟨[.ref l, .int x u], []⟩) (fun _ R s => s.heap.get? l = some { cls := .type "tuple", dict := dd, data := .seq items n, slots := sl } ∧
      R (.ok (.ret (Value.ref s.heap.objs.size))) { s with heap := s.heap.push { cls := Value.type "tuple", data := Data.seq #[] }, toks := s.toks }) :=
  .of_wp fun prog w A R s h => by
    obtain ⟨hp, g, d, tk, os⟩ := s
    obtain ⟨hl, h⟩ := h
    have f1 := AutoSeq1.idx_int
    wp_walk using wpAny_loadPart' hl
    repeat (first
      | (refine wpAny_ite_false (decide_eq_false (by rw [c0]; exact Bool.false_ne_true)) ?_; wp_walk using wpAny_loadPart' hl)
      | (refine wpAny_ite_false (decide_eq_false (by rw [c1]; exact Bool.false_ne_true)) ?_; wp_walk using wpAny_loadPart' hl)
      | (refine wpAny_ite_true (decide_eq_true c2) ?_; wp_walk using wpAny_loadPart' hl))
    exact ⟨_, rfl, h⟩
theorem tuple_mul1 (l : Addr) (items : Array Value) (n : Nat) (dd : Option Addr) (sl : Array (Option Value)) (x : Int) (u : Tok) (c0 : (decide (x < -(2 ^ 63)) || decide (x ≥ 2 ^ 63)) = false) (c1 : (items.isEmpty || x == 1) = true) :
    Meets (Builtin.«tuple.__mul__» ⟨[.ref l, .int x u], []⟩) (fun _ R s => s.heap.get? l = some { cls := .type "tuple", dict := dd, data := .seq items n, slots := sl } ∧
      R (.ok (.ret (Value.ref l))) s) :=
  .of_wp fun prog w A R s h => by
    obtain ⟨hp, g, d, tk, os⟩ := s
    obtain ⟨hl, h⟩ := h
    have f1 := AutoSeq1.idx_int
    wp_walk using wpAny_loadPart' hl
    repeat (first
      | (refine wpAny_ite_false (decide_eq_false (by rw [c0]; exact Bool.false_ne_true)) ?_; wp_walk using wpAny_loadPart' hl)
      | (refine wpAny_ite_true (decide_eq_true c1) ?_; wp_walk using wpAny_loadPart' hl))
    exact ⟨_, rfl, h⟩
/-- tuple * int where nothing is repeated -/
def rRep1 (K : PySem.W.Frag) : R2 := fun x y H Q => ∃ l k xs, x = .ref l ∧ y = .int k ∧ SqT K H l xs ∧ -1000 ≤ k ∧ k ≤ 1000 ∧ (xs = [] ∨ k ≤ 1) ∧ ((xs = [] ∨ k = 1) → Q (.ref l) H) ∧ (xs ≠ [] → k ≤ 0 → NewT H [] Q)
theorem op_rep1 {X : Cx} : OpR X (binaryOp .Mult) (rRep1 X.K) := by
  intro pins s σ H x y v u Q I rx ry h
  obtain ⟨l, k, xs, rfl, rfl, hT, h1, h2, h3, qa, qb⟩ := h
  cases rx
  obtain ⟨t, rfl⟩ := ry
  obtain ⟨its, r, ⟨⟨cls, dd, data, sl⟩, ho, hc, n, hd⟩, hs⟩ := I.tuple hT
  simp only at hc hd
  subst hc hd
  have hle : its.length = xs.length := r.length.symm
  have c0 : (decide (k < -(2 ^ 63)) || decide (k ≥ 2 ^ 63)) = false := by
    rw [decide_eq_false (by omega), decide_eq_false (by omega)] <;> rfl
  have hi : its.toArray.isEmpty = decide (xs = []) := by
    cases its with
    | nil => rw [List.eq_nil_of_length_eq_zero hle.symm]; rfl
    | cons a b =>
      cases xs with
      | nil => simp at hle
      | cons c d => simp
  by_cases hz : xs = [] ∨ k = 1
  · have c1 : (its.toArray.isEmpty || k == 1) = true := by
      rw [hi]
      rcases hz with hz | hz
      · simp [hz]
      · simp [hz]
    refine wpAny_binaryOp_repeat_ref (T := "tuple") (U := "int") (by decide) ⟨_, ho, rfl⟩ (fun s' => typeIs_int s' k t) noFill_tuple_mul F.fills_int_mul F.slot_int_rmul repeat_tuple F.slot_int_index.lookup
      (call_meets F.slot_int_rmul (typeIs_int s k t) F.entry_int_rmul (F.args_int_rmul_2 _ _) (int_rmul_tuple k t l its.toArray n dd sl)
        ⟨ho, rfl, ⟨_, ho, rfl⟩, call_meets F.slot_tuple_mul ⟨_, ho, rfl⟩ F.entry_tuple_mul (F.args_tuple_mul_2 _ _) (tuple_mul1 l its.toArray n dd sl k t c0 c1) ⟨ho, ?_⟩⟩)
    exact ⟨.ref l, H, I, rfl, qa hz⟩
  · have hne : xs ≠ [] := fun e => hz (.inl e)
    have hk : k ≤ 0 := by
      have : k ≠ 1 := fun e => hz (.inr e)
      have : k ≤ 1 := by
        rcases h3 with h3 | h3
        · exact absurd h3 hne
        · exact h3
      omega
    have c1 : (its.toArray.isEmpty || k == 1) = false := by
      rw [hi, decide_eq_false hne, Bool.false_or]
      exact beq_eq_false_iff_ne.mpr (by omega)
    have c2 : (decide (k ≤ 0) || its.toArray.isEmpty) = true := by rw [decide_eq_true hk]; rfl
    refine wpAny_binaryOp_repeat_ref (T := "tuple") (U := "int") (by decide) ⟨_, ho, rfl⟩ (fun s' => typeIs_int s' k t) noFill_tuple_mul F.fills_int_mul F.slot_int_rmul repeat_tuple F.slot_int_index.lookup
      (call_meets F.slot_int_rmul (typeIs_int s k t) F.entry_int_rmul (F.args_int_rmul_2 _ _) (int_rmul_tuple k t l its.toArray n dd sl)
        ⟨ho, rfl, ⟨_, ho, rfl⟩, call_meets F.slot_tuple_mul ⟨_, ho, rfl⟩ F.entry_tuple_mul (F.args_tuple_mul_2 _ _) (tuple_mul0 l its.toArray n dd sl k t c0 c1 c2) ⟨ho, ?_⟩⟩)
    exact ft_new (tk := s.toks) (its := []) I .nil (Nat.zero_le _) (qb hne hk)
def dRep1 (_ : Hs) (d e : D) : Option Nv := match d, e with
  | .tup [], .int k => if -1000 ≤ k ∧ k ≤ 1000 then some (.v (.tup [])) else none
  | .tup (a :: as), .int k => if -1000 ≤ k ∧ k ≤ 0 then some (.v (.tup [])) else if k = 1 then some (.v (.tup (a :: as))) else none
  | _, _ => none
theorem cov_rep1 {C : Ct} : Cov2 C (rRep1 C.K) dRep1 := by
  intro H L μ h x y d e n Q hr r1 r2 hf want
  unfold dRep1 at hf
  split at hf
  · rename_i k
    split at hf
    · rename_i hl
      cases hf
      obtain ⟨p, vs, rfl, t1, q1⟩ := r1
      cases (show vs = [] from q1)
      exact ⟨p, k, [], rfl, r2, t1.sq, hl.1, hl.2, .inl rfl, fun _ => want.old ⟨p, [], rfl, t1, rfl⟩, fun z => absurd rfl z⟩
    · cases hf
  · rename_i a as k
    obtain ⟨p, vs, rfl, t1, q1⟩ := r1
    have hne : vs ≠ [] := by
      rintro rfl
      have := q1.length
      simp at this
    split at hf
    · rename_i hl
      cases hf
      exact ⟨p, k, vs, rfl, r2, t1.sq, hl.1, by omega, .inr (by omega), fun z => False.elim (by rcases z with z | z; exact hne z; omega), fun _ _ => want.tup (show RepL C μ H [] [] from rfl)⟩
    · split at hf
      · rename_i hl
        subst hl
        cases hf
        exact ⟨p, 1, vs, rfl, r2, t1.sq, by decide, by decide, .inr (by decide), fun _ => want.old ⟨p, vs, rfl, t1, q1⟩, fun _ z => absurd z (by decide)⟩
      · cases hf
  · cases hf
def okMul (i j : Int) : Bool := decide ((Builtin.Int.intBits i : Int) + (Builtin.Int.intBits j : Int) ≤ 134217728)
def dMulW : Hs → D → D → Option Nv := fun h d e => match dIntC okMul (fun i j => .int (i * j)) h d e with | some n => some n | none => (fun h d e => match dRepL h d e with | some n => some n | none => (fun h d e => match dRepT h d e with | some n => some n | none => dRep1 h d e) h d e) h d e
section
variable {X : Cx} {W : WX} {a b : Expr} {ma mb : M D} {pos : Pos}
theorem cov_mulW {C : Ct} : Cov2 C (rI CMulX fun i j => .int (i * j)) (dIntC okMul fun i j => .int (i * j)) :=
  cov_rI (fun _ _ h => by have := of_decide_eq_true h; exact this) fun _ _ => rfl
theorem b_mulW (ha : PE X a (rd X W ma)) (hb : PE X b (rd X W mb)) : PE X (.BinOp a .Mult b pos) (rd X W (mOp2 dMulW ma mb)) := e_bin (OpR.or' op_mulX (OpR.or' op_rep (OpR.or' op_repF op_rep1))) (cov_mulW.or (cov_repL.or (cov_repT.or cov_rep1))) ha hb
end
section
variable {X : Cx} {W : WX}
end
theorem gs_c {X : Cx} {e : Expr} {es : List Expr} {t : TM} {ts : TMs} {v1 v2 v : List Nat} (h1 : PG X e (rdTg X t v1)) (h2 : PGs X es (rdTgs X ts v2)) (hv : v1 ++ v2 = v := by rfl)
    (hs : (assignEach (e :: es) X.env).map (·.2) = assign e X.env :: (assignEach es X.env).map (·.2) := by rfl) : PGs X (e :: es) (rdTgs X (tsCons t ts) v) := by
  subst hv
  exact gs_cons h1 h2 hs
/-! ### the law's end -/
def spLaw (K : PySem.W.Frag) : Sp := fun vs H Q _ => ∃ (a : Addr) (ns : List Int), vs = [.ref a] ∧ ns.length ≤ 63 ∧ (∀ z ∈ ns, Builtin.Int.intBits z ≤ 1048576) ∧ TbA H ∧ SqL K H a (ns.map V.int) ∧ ∀ H', Q (.bl true) H'
def h0 : Hs := ⟨0, .nil, []⟩
/-- the script in a box -/
def hL (ns : List Int) : Hs := ⟨1, .node (some (.lst (ns.map D.int))) .nil .nil, []⟩
theorem hr0 {C : Ct} {H : Hp} (hz : Tbs.base = []) (tb : TbA H) : HR C [] [] H h0 := by
  constructor
  all_goals first | exact tb | exact ⟨List.nodup_nil, hz ▸ List.prefix_refl _⟩ | simp [h0, Hs.get, Tr.get]
theorem hrL {C : Ct} {H : Hp} {a : Addr} {ns : List Int} (hz : Tbs.base = []) (tb : TbA H) (e : H a = some (.lst (ns.map V.int))) : HR C [] [a] H (hL ns) := by
  refine ⟨rfl, rfl, ⟨by simp, hz ▸ List.nil_prefix⟩, tb, fun i b eb => ?_⟩
  have hi : i = 0 := by
    have := (List.getElem?_eq_some_iff.mp eb).1
    simp at this
    exact this
  subst hi
  simp at eb
  subst eb
  exact ⟨.lst (ns.map D.int), rfl, _, e, repL_ints ns⟩
theorem law_ok (hz : Tbs.base = []) {P : Program} {w : World} {K : PySem.W.Frag} {mg : Str → Option Value} {base : Heap} {ps : List Str} {k : Nat} {f : Addr} {fd : FuncData} {fm : FM} (F : FnOk P w K mg base (L2.CX P w) k f fd ps (spF ⟨w, K, mg⟩ 1 fm))
    (hm : ∀ ns : List Int, ns.length ≤ 63 → (∀ z ∈ ns, Builtin.Int.intBits z ≤ 1048576) → (∃ h, fm [.scr (ns.map D.int)] h0 = some (.rt (.bl true) h)) ∧ ∃ h, fm [.box 0] (hL ns) = some (.rt (.bl true) h)) : FnOk P w K mg base (L2.CX P w) k f fd ps (spLaw K) := by
  refine F.imp fun vs H Q E ⟨a, ns, ev, hl, hb, tb, hS, q⟩ => ?_
  subst ev
  obtain ⟨⟨h, e⟩, h2, e2⟩ := hm ns hl hb
  rcases hS with (hS | hS) | hS
  · refine ⟨[], [a], hL ns, [.box 0], rfl, ⟨_, _, rfl, ⟨a, rfl, rfl⟩, rfl⟩, hrL hz tb hS, ?_⟩
    rw [e2]
    intro x μ' H' g r rx
    cases (show x = V.bl true from rx)
    exact q H'
  · refine ⟨[], [], h0, [.scr (ns.map D.int)], rfl, ⟨_, _, rfl, ⟨a, _, rfl, .inl hS, repL_ints ns⟩, rfl⟩, hr0 hz tb, ?_⟩
    rw [e]
    intro x μ' H' g r rx
    cases (show x = V.bl true from rx)
    exact q H'
  · refine ⟨[], [], h0, [.scr (ns.map D.int)], rfl, ⟨_, _, rfl, ⟨a, _, rfl, .inr hS, repL_ints ns⟩, rfl⟩, hr0 hz tb, ?_⟩
    rw [e]
    intro x μ' H' g r rx
    cases (show x = V.bl true from rx)
    exact q H'
theorem cx_false {P : Program} {w : World} {outer : List PySem.Env} {H : Hp} {s : Shared} {e : Value} {s' : Shared} (h : L2.CX P w outer H s (fun _ _ _ => False) e s') : False := by
  obtain ⟨_, _, _, _, _, _, _, _, _, _, _, _, z⟩ := h
  exact z
end Rh

set_option Elab.async false
set_option linter.all false
set_option maxRecDepth 100000
set_option maxHeartbeats 2000000
set_option autoImplicit false
namespace Rh
open PySem PySem.Spec PyProof.Rows L2
variable [Tbs]
/-! ### d.setdefault(k, v), keys ints, texts, bools, None -/
section
variable {P : Program} {w : World} {a : Addr} {ku : Value}
end
section
variable {X : Cx}
end
section
variable {X : Cx} {W : WX} {o e f : Expr} {es : List Expr} {m : M D} {ms : M (List D)} {apos cpos : Pos}
end
section
variable {X : Cx}
end
section
variable {X : Cx} {W : WX} {e : Expr} {es : List Expr} {ms : M (List D)} {p pos : Pos}
end
end Rh

set_option Elab.async false
set_option linter.all false
set_option maxRecDepth 100000
set_option maxHeartbeats 2000000
set_option autoImplicit false
namespace Rh
open PySem PySem.Spec PyProof.Rows L2
variable [Tbs]
/-! ### a call that no box reaches -/
mutual
def flatD : D → Bool
  | .box _ => false
  | .tup ds => flatL ds
  | .scr ds => flatL ds
  | _ => true
def flatL : List D → Bool
  | [] => true
  | d :: ds => flatD d && flatL ds
end
section
variable {C : Ct} {μ μ' : Mu} {H : Hp}
mutual
theorem RepV.flat : ∀ (d : D) (v : V), flatD d = true → RepV C μ H d v → RepV C μ' H d v
  | .non, _, _, h => h
  | .bl _, _, _, h => h
  | .int _, _, _, h => h
  | .str _, _, _, h => h
  | .gl _, _, _, h => h
  | .ty _, _, _, h => h
  | .tup ds, _, f, ⟨a, vs, e, q, r⟩ => ⟨a, vs, e, q, RepL.flat ds vs f r⟩
  | .scr ds, _, f, ⟨a, vs, e, q, r⟩ => ⟨a, vs, e, q, RepL.flat ds vs f r⟩
  | .box n, _, f, _ => nomatch f
theorem RepL.flat : ∀ (ds : List D) (vs : List V), flatL ds = true → RepL C μ H ds vs → RepL C μ' H ds vs
  | [], _, _, h => h
  | d :: ds, _, f, ⟨v, r, e, h1, h2⟩ => by
    have f : (flatD d && flatL ds) = true := f
    rw [Bool.and_eq_true] at f
    exact ⟨v, r, e, RepV.flat d v f.1 h1, RepL.flat ds r f.2 h2⟩
end
end
def clF (f : FM) : FM := fun as h => match flatL as with
  | true => (match f as h0 with
    | some (.rt d _) => (match flatD d with
      | true => some (.rt d h)
      | false => none)
    | _ => none)
  | false => none
theorem fn_cl (hz : Tbs.base = []) {P : Program} {w : World} {K : PySem.W.Frag} {mg : Str → Option Value} {base : Heap} {ps : List Str} {k np : Nat} {f : Addr} {fd : FuncData} {fm : FM} (F : FnOk P w K mg base (L2.CX P w) k f fd ps (spF ⟨w, K, mg⟩ np fm)) :
    FnOk P w K mg base (L2.CX P w) k f fd ps (spF ⟨w, K, mg⟩ np (clF fm)) := by
  refine F.imp fun vs H Q E ⟨L, μ, h, as, hl, rl, hr, q⟩ => ?_
  unfold clF at q
  split at q
  · exact q.elim
  · rename_i e
    split at e
    · rename_i fa
      split at e
      · rename_i d' h' e2
        split at e
        · rename_i fd'
          cases e
          refine ⟨[], [], h0, as, hl, RepL.flat _ _ fa rl, hr0 hz hr.tb, ?_⟩
          rw [e2]
          intro x μ' H' g r rx
          have kb : ∀ b o, H b = some o → (∀ ps, o ≠ .tbl ps) → H' b = some o := fun b o e nt => g.keep b o e nt (by simp)
          have at_ : ∀ (i : Nat) (b : Addr), μ[i]? = some b → H' b = H b := fun i b e => by
            obtain ⟨o, _, qo⟩ := hr.ob i b e
            cases o with
            | lst ds => obtain ⟨vs, e1, _⟩ := qo; rw [e1, kb b _ e1 fun _ z => nomatch z]
            | dct nks ks vs => obtain ⟨es, e1, _⟩ := qo; rw [e1, kb b _ e1 fun _ z => nomatch z]
            | lam _ _ => exact qo.elim
            | exo _ _ => obtain ⟨ac, d, _, e1, _⟩ := qo; rw [e1, kb b _ e1 fun _ z => nomatch z]
          have st : Stay μ H μ H' := ⟨fun _ _ e => e, fun b xs e => kb b _ e (fun _ z => nomatch z), fun b ob u e => kb b _ e (fun _ z => nomatch z)⟩
          have g' : Go L μ H μ H' := ⟨fun i _ b e => at_ i b e, fun b o e nt _ => kb b o e nt, g.dom, ⟨[], (List.append_nil _).symm⟩, fun _ m => .inl m⟩
          have r' : HR ⟨w, K, mg⟩ L μ H' h := ⟨hr.lk, hr.len, hr.nd, r.tb, fun i b e => let ⟨o, e1, qo⟩ := hr.ob i b e; ⟨o, e1, qo.stay st (at_ i b e)⟩⟩
          exact q x μ H' g' r' (RepV.flat _ _ fd' rx)
        · cases e
      · cases e
    · cases e
  · rename_i e
    exfalso
    split at e
    · split at e
      · split at e
        · cases e
        · cases e
      · cases e
    · cases e
/-! ### tables: what can be stored -/
theorem Tr.put0_some {α : Type} (a : α) : ∀ (f : Nat) (t : Tr α) (i : Nat), i + 1 < 2 ^ f → ∃ t', Tr.put0 a f t i = some t'
  | 0, _, i, h => by simp at h
  | f + 1, .nil, i, h => by
    have h2 : 2 ^ (f + 1) = 2 * 2 ^ f := by rw [Nat.pow_succ, Nat.mul_comm]
    unfold Tr.put0
    rw [beq_dec, beq_dec]
    by_cases h0 : i = 0
    · simp [h0]
    · by_cases h1 : i % 2 = 1
      · obtain ⟨t', e⟩ := Tr.put0_some a f .nil (i / 2) (by omega)
        simp [h0, h1, e]
      · obtain ⟨t', e⟩ := Tr.put0_some a f .nil (i / 2 - 1) (by omega)
        simp [h0, h1, e]
  | f + 1, .node v l r, i, h => by
    have h2 : 2 ^ (f + 1) = 2 * 2 ^ f := by rw [Nat.pow_succ, Nat.mul_comm]
    unfold Tr.put0
    rw [beq_dec, beq_dec]
    by_cases h0 : i = 0
    · simp [h0]
    · by_cases h1 : i % 2 = 1
      · obtain ⟨t', e⟩ := Tr.put0_some a f l (i / 2) (by omega)
        simp [h0, h1, e]
      · obtain ⟨t', e⟩ := Tr.put0_some a f r (i / 2 - 1) (by omega)
        simp [h0, h1, e]
theorem Tr.put_some {α : Type} (a : α) (f : Nat) : ∀ (t : Tr α) (i : Nat), i + 1 < 2 ^ f → ∃ t', Tr.put a f t i = some t'
  | .nil, i, h => by
    rw [Tr.put_nil]
    by_cases h0 : i = 0
    · exact ⟨_, if_pos h0⟩
    · rw [if_neg h0]; exact Tr.put0_some a f .nil i h
  | .node v l r, i, h => by
    rw [Tr.put_node]
    by_cases h0 : i = 0
    · exact ⟨_, if_pos h0⟩
    · rw [if_neg h0]
      by_cases h1 : i % 2 = 1
      · obtain ⟨t, e⟩ := Tr.put_some a f l (i / 2) (by omega)
        rw [if_pos h1, e]; exact ⟨_, rfl⟩
      · obtain ⟨t, e⟩ := Tr.put_some a f r (i / 2 - 1) (by omega)
        rw [if_neg h1, e]; exact ⟨_, rfl⟩
theorem Hs.new_some (h : Hs) (o : O) (hn : h.n < 1000000) : ∃ h', h.new o = some h' := by
  obtain ⟨t', e⟩ := Tr.put_some o 40 h.t h.n (by omega)
  exact ⟨_, by unfold Hs.new; rw [e]⟩
theorem dIntC_int {c : Int → Int → Bool} {g : Int → Int → D} {h : Hs} {i j : Int} (hc : c i j = true) : dIntC c g h (.int i) (.int j) = some (.v (g i j)) := if_pos hc
theorem dMod_int {h : Hs} {i j : Int} (hj : 0 < j) : dMod h (.int i) (.int j) = some (.v (.int (i % j))) := dIntC_int (c := fun _ j => decide (0 < j)) (g := fun i j => .int (i % j)) (decide_eq_true hj)
theorem dAdd_int {h : Hs} {i j : Int} : dAdd h (.int i) (.int j) = some (.v (.int (i + j))) := by
  have e0 : dInt (fun i j => .int (i + j)) h (.int i) (.int j) = some (.v (.int (i + j))) := dIntC_int rfl
  unfold dAdd
  simp only [e0]
section
variable {ρ ρ1 ρ' : En} {h h1 h2 h3 : Hs} {a b m mo mi : M D} {d x y : D}
theorem mSeq_nx {s t : MS} (e : s ρ h = some (.nx ρ1 h1)) : mSeq s t ρ h = t ρ1 h1 := by unfold mSeq; rw [e]
theorem mSet_ok {i : Nat} (e : m ρ h = some (.ok d h1)) : mSet i m ρ h = some (.nx (ρ.set i (some d)) h1) := by unfold mSet mDo; rw [e]
theorem mOp2_ok {f : Hs → D → D → Option Nv} (e : a ρ h = some (.ok x h1)) (e2 : b ρ h1 = some (.ok y h2)) (e3 : f h2 x y = some (.v d)) : mOp2 f a b ρ h = some (.ok d h2) := by
  unfold mOp2 mBind; rw [e]; dsimp only; rw [e2]; dsimp only; rw [e3]; rfl
theorem mVar_ok {i : Nat} (e : ρ[i]? = some (some d)) (nl : d ≠ .lm := by first | exact fun z => nomatch z | assumption) : mVar i ρ h = some (.ok d h) := by unfold mVar; rw [e]; exact okS_ok nl
theorem mOpA1_ok {f : Hs → List D → Option Nv} (e : a ρ h = some (.ok x h1)) (e3 : f h1 [x] = some (.v d)) : mOpA f (mCons a mNil) ρ h = some (.ok d h1) := by
  unfold mOpA mCons mNil mBind mPure; dsimp only; rw [e]; dsimp only; rw [e3]; rfl
end
end Rh

set_option Elab.async false
set_option linter.all false
set_option maxRecDepth 100000
set_option maxHeartbeats 2000000
set_option autoImplicit false
namespace Rh
open PySem PySem.Spec PyProof.Rows L2
variable [Tbs]
/-! ### words for a law's last steps -/
def isTrue : Option FR → Bool
  | some (.rt (.bl b) _) => b
  | _ => false
theorem isTrue_ex {o : Option FR} (h : isTrue o = true) : ∃ k, o = some (.rt (.bl true) k) := by
  unfold isTrue at h
  split at h
  · subst h; exact ⟨_, rfl⟩
  · cases h
section
variable {ρ ρ1 ρ' : En} {h h1 h2 h3 : Hs} {a b m mo mi : M D} {d x y : D} {f : FM} {ms : M (List D)}
theorem clF_true {as : List D} (ha : flatL as = true) (e : isTrue (f as h0) = true) (h : Hs) : clF f as h = some (.rt (.bl true) h) := by
  obtain ⟨k, e⟩ := isTrue_ex e
  unfold clF
  rw [ha]
  dsimp only
  rw [e]
  rfl
theorem mCall_ok {ds : List D} (e : ms ρ h = some (.ok ds h1)) (e2 : f ds h1 = some (.rt d h2)) : mCall f ms ρ h = some (.ok d h2) := by unfold mCall mBind; rw [e]; dsimp only; rw [e2]
theorem mNil_ok : mNil ρ h = some (.ok [] h) := rfl
theorem mCall0_true (e : isTrue (f [] h0) = true) : mCall (clF f) mNil ρ h = some (.ok (.bl true) h) := mCall_ok mNil_ok (clF_true rfl e h)
theorem mTruth_ok {k : Bool} (e : m ρ h = some (.ok d h1)) (e2 : truthD h1 d = some k) : mTruth m ρ h = some (.ok k h1) := by unfold mTruth mBind; rw [e]; dsimp only; rw [e2]
theorem mNot_ok {c : M Bool} {k : Bool} (e : c ρ h = some (.ok k h1)) : mNot c ρ h = some (.ok (!k) h1) := by unfold mNot mBind mPure; rw [e]
theorem mIfS_ok {c : M Bool} {k : Bool} {s t : MS} (e : c ρ h = some (.ok k h1)) : mIfS c s t ρ h = (if k = true then s else t) ρ h1 := by unfold mIfS mDo; rw [e]
theorem mRet_ok (e : m ρ h = some (.ok d h1)) : mRet m ρ h = some (.rt d h1) := by unfold mRet mDo; rw [e]
theorem mSeq_rt {s t : MS} (e : s ρ h = some (.rt d h1)) : mSeq s t ρ h = some (.rt d h1) := by unfold mSeq; rw [e]
theorem mCon_ok : mCon d ρ h = some (.ok d h) := rfl
theorem runDef_rt {n : Nat} {s : MS} {as : List D} (e : s (envOf n as) h = some (.rt d h1)) : runDef n s as h = some (.rt d h1) := by unfold runDef; rw [e]
/-- if not f(): return False -/
theorem guard_ok (e : isTrue (f [] h0) = true) {s : MS} : mIfS (mNot (mTruth (mCall (clF f) mNil))) s mNx ρ h = some (.nx ρ h) := mIfS_ok (mNot_ok (mTruth_ok (mCall0_true e) rfl))
end
end Rh

set_option Elab.async false
set_option linter.all false
set_option maxRecDepth 100000
set_option maxHeartbeats 2000000
set_option autoImplicit false
namespace Rh
open PySem PySem.Spec PyProof.Rows L2
variable [Tbs]
/-! ### sorted(..) of tuples of ints, all equally long -/
def tupOf (r : List Int) : D := .tup (r.map .int)
section
variable {C : Ct} {μ : Mu} {H : Hp}
theorem repT {r : List Int} {x : V} (h : RepV C μ H (tupOf r) x) : TupI C.K H x r := by
  obtain ⟨a, vs, rfl, t, q⟩ := (show RepV C μ H (.tup (r.map .int)) x from h)
  have e : vs = r.map V.int := by
    clear t h
    induction r generalizing vs with
    | nil => exact q
    | cons i r ih =>
      obtain ⟨v, t, rfl, h1, h2⟩ := q
      rw [ih t h2, show v = V.int i from h1]; rfl
  exact ⟨a, rfl, by rw [← e]; exact t.sq⟩
end
section
variable {X : Cx} {W : WX} {e : Expr} {es : List Expr} {ms : M (List D)} {pos p : Pos}
end
end Rh

set_option Elab.async false
set_option linter.all false
set_option maxRecDepth 100000
set_option maxHeartbeats 2000000
set_option autoImplicit false
namespace Rh
open PySem PySem.Spec PyProof.Rows L2
variable [Tbs]
/-! ### what the module's top has named -/
section
variable {X : Cx} {W : WX} {x : Str} {pos : Pos}
end
/-! ### {k: v} -/
section
variable {P : Program} {w : World} {A : Around} {E : Value → Shared → Prop} {s : Shared} {a : Addr} {ep : Nat} {k : NestedKey} {ku : Value}
end
section
variable {X : Cx}
end
section
variable {X : Cx} {W : WX} {k v : Expr} {mk mv : M D} {pos : Pos}
end
end Rh

set_option Elab.async false
set_option linter.all false
set_option maxRecDepth 100000
set_option maxHeartbeats 2000000
set_option autoImplicit false
namespace Rh
open PySem PySem.Spec PyProof.Rows L2
variable [Tbs]
section
variable {X : Cx}
end
section
variable {X : Cx} {W : WX} {o e f : Expr} {es : List Expr} {m : M D} {ms : M (List D)} {apos cpos : Pos}
end
end Rh

set_option Elab.async false
set_option linter.all false
set_option maxRecDepth 100000
set_option maxHeartbeats 2000000
set_option autoImplicit false
namespace Rh
open PySem PySem.Spec PyProof.Rows L2
variable [Tbs]
section
variable {X : Cx} {W : WX} {o e f : Expr} {es : List Expr} {m : M D} {ms : M (List D)} {apos cpos : Pos}
end
section
variable {X : Cx} {W : WX} {tg : Expr}
end
end Rh

set_option Elab.async false
set_option linter.all false
set_option maxRecDepth 100000
set_option maxHeartbeats 2000000
set_option autoImplicit false
namespace Rh
open PySem PySem.Spec PyProof.Rows L2
variable [Tbs]
section
variable {X : Cx} {W : WX}
end
section
variable {X : Cx} {W : WX}
end
end Rh

set_option Elab.async false
set_option linter.all false
set_option maxRecDepth 100000
set_option maxHeartbeats 2000000
set_option autoImplicit false
namespace Rh
open PySem PySem.Spec PyProof.Rows L2
variable [Tbs]
section
variable {X : Cx} {W : WX} {k np : Nat}
end
end Rh

set_option Elab.async false
set_option linter.all false
set_option maxRecDepth 100000
set_option maxHeartbeats 2000000
set_option autoImplicit false
namespace Rh
open PySem PySem.Spec PyProof.Rows L2
variable [Tbs]
/-! ### list comprehensions with two fors -/
section
variable {X : Cx} {W : WX} {L0 lks1 : List Nat} {μ1 μ4 : Mu} {H1 H4 : Hp} {h1 h3 hf : Hs} {ρ1 : En} {σ2 : L2.St} {l : Addr} {vacc0 : List V} {acc0 ds1 es : List D} {t1 : TM} {conds1 : M Bool} {elt : M D} {vs1 : List Nat} {J1 : It} {Nx : Hp → Prop}
end
section
variable {X : Cx} {W : WX} {σ : L2.St} {H : Hp} {Q : VK}
end
section
variable {X : Cx} {W : WX}
end
end Rh

set_option Elab.async false
set_option linter.all false
set_option maxRecDepth 100000
set_option maxHeartbeats 2000000
set_option autoImplicit false
namespace Rh
open PySem PySem.Spec PyProof.Rows L2
variable [Tbs]
/-! ### name = {k: v for ..} on one line -/
section
variable {X : Cx} {W : WX}
end
end Rh

set_option Elab.async false
set_option linter.all false
set_option maxRecDepth 100000
set_option maxHeartbeats 2000000
set_option autoImplicit false
namespace Rh
open PySem PySem.Spec PyProof.Rows L2
/-! ### a frame with captured names and one parameter -/
/-- what the new frame L holds -/
structure NewF (sc : Scope) (p : Str) (u : Value) (L : Addr) (s : Shared) (g : Heap) : Prop where
  old : ∀ b o, s.heap.get? b = some o → g.get? b = some o
  ns : ∃ m, g.Ns L m ∧ (sc.names.lookup p = some .local → m p = some u)
  ces : ∀ n c, (n, c) ∈ cellsFrom (L + 1) sc.names [] → L < c ∧ ∃ x, g.IsCell c x
  apart : (cellsFrom (L + 1) sc.names []).Pairwise fun x y => x.2 ≠ y.2
  own : sc.names.lookup p = some .cell → ∃ c, (cellsFrom (L + 1) sc.names []).lookup p = some c ∧ g.IsCell c (some u)
/-! ### the names of a lambda with one parameter -/
structure LamN (sc inner : Scope) (p : Str) : Prop where
  kind : inner.kind = .function
  co : inner.isCoroutine = false
  gen : inner.isGenerator = false
  own : ∀ y ∈ inner.names, y.2 = .local ∨ y.2 = .cell → y.1 = p
  par : inner.names.lookup p = some .local ∨ inner.names.lookup p = some .cell
  free : ∀ y ∈ inner.names, y.2 = .free → sc.names.lookup y.1 = some .cell ∨ sc.names.lookup y.1 = some .free
section
variable {X : Cx} {pins : List (Addr × Obj)} {σ : L2.St} {H HZ : Hp} {s s1 : Shared}
theorem LamN.has {sc : Scope} {p : Str} (L : LamN X.env.scope sc p) (ok : X.Ok) : ∀ y ∈ sc.names, y.2 = .free → ∃ c, X.env.cells.lookup y.1 = some c := fun y hy e => ok.has y.1 (L.free y hy e)
end
section
variable [Tbs]
end
theorem Rel.heap {τ : Tbs} {C : Ct} {L : List Nat} {ρ : En} {σ : L2.St} {μ : Mu} {H : Hp} {h : Hs} (r : @Rel τ C L ρ σ μ H h) : @HR C τ L μ H h := r.hr
section
variable {X : Cx} {pins : List (Addr × Obj)} {σ : L2.St} {H : Hp} {s : Shared}
end
end Rh

set_option Elab.async false
set_option linter.all false
set_option maxRecDepth 100000
set_option maxHeartbeats 2000000
set_option autoImplicit false
namespace Rh
open PySem PySem.Spec PyProof.Rows L2
section
variable {C : Ct} {L : List Nat} {μ : Mu} {H H' : Hp} {h : Hs}
theorem RepV.slot {τ : Tbs} {d : D} {v : V} (q : RepV C μ H d v) : @RepS τ C μ H d v := q.s
end
section
variable {X : Cx}
end
end Rh

set_option Elab.async false
set_option linter.all false
set_option maxRecDepth 100000
set_option maxHeartbeats 2000000
set_option autoImplicit false
namespace Rh
open PySem PySem.Spec PyProof.Rows L2
variable [Tbs]
/-! ### d == e of dicts with plain keys -/
def dHits : List (NestedKey × PyData) → List NestedKey → List PyData → Bool
  | [], _, _ => true
  | (k, p) :: r, ks, qs => match idxK ks k with
    | none => false
    | some i => match qs[i]? with
      | some q => PyData.eqv p q && dHits r ks qs
      | none => false
def rEqDct (C : Ct) (neg : Bool) : R2 := fun x y H Q => ∃ (μ : Mu) (a b : Addr) (n1 n2 : List NestedKey) (k1 v1 k2 v2 : List D) (ps qs : List PyData), x = .ref a ∧ y = .ref b ∧ ObR C μ H a (.dct n1 k1 v1) ∧ ObR C μ H b (.dct n2 k2 v2) ∧ n1.all leafK = true ∧ n2.all leafK = true ∧
  (∀ vs, RepL C μ H v1 vs → DpAll C.K H vs ps) ∧ (∀ vs, RepL C μ H v2 vs → DpAll C.K H vs qs) ∧ ps.all SeqAt.shaped = true ∧ qs.all SeqAt.shaped = true ∧
  Q (.bl (if neg = true then !(n1.length == n2.length && dHits (n1.zip ps) n2 qs) else (n1.length == n2.length && dHits (n1.zip ps) n2 qs))) H
section
variable {X : Cx} {pins : List (Addr × Obj)} {σ : L2.St} {H : Hp} {s : Shared} {μ : Mu}
theorem kl_of (I : L2.Inv X pins σ H s) {nks : List NestedKey} {ks : List D} {es : List (NestedKey × V × V)} {rs : List Ent} (hn : es.map (·.1) = nks) (hk : keysD ks = some nks) (rk : RepL (ctX X) μ H ks (es.map (·.2.1))) (p : Paired EntR es rs) (l : nks.all leafK = true) : KL rs := by
  subst hn
  have vs : Vals (es.map (·.2.1)) (rs.map (·.2.1)) := by
    clear hk rk l
    induction p with
    | nil => exact .nil
    | cons h _ ih => exact .cons h.2.1 ih
  have n2 := nesteds_of I ks _ _ _ rk hk vs
  rw [← paired_keys p] at n2 l
  clear vs rk hk p
  induction rs with
  | nil => exact fun _ h => nomatch h
  | cons r rs ih =>
    cases n2 with
    | cons q1 q2 =>
      rw [List.map_cons, List.all_cons, Bool.and_eq_true] at l
      intro r' hr
      rcases List.mem_cons.mp hr with rfl | hr
      · exact leaf_of q1 l.1
      · exact ih l.2 q2 r' hr
theorem vals_at {es : List (NestedKey × V × V)} {rs : List Ent} (p : Paired EntR es rs) : Vals (es.map (·.2.2)) (rs.map (·.2.2)) := by
  induction p with
  | nil => exact .nil
  | cons h _ ih => exact .cons h.2.2 ih
/-- the values, as data -/
theorem reads_each (I : L2.Inv X pins σ H s) : ∀ {vs : List V} {us : List Value} {ps : List PyData}, DpAll X.K H vs ps → Vals vs us → ∀ (i : Nat) (p : PyData), ps[i]? = some p → ∃ u as, us[i]? = some u ∧ Reads s.heap u p as
  | _, _, _, .nil, _, i, p, e => by simp at e
  | _, _, _, .cons h hs, .cons r rs, 0, p, e => by
    simp at e
    subst e
    obtain ⟨as, q⟩ := Dp.reads I _ _ _ h r
    exact ⟨_, as, rfl, q⟩
  | _, _, _, .cons h hs, .cons r rs, i + 1, p, e => by
    obtain ⟨u, as, a, b⟩ := reads_each I hs rs i p (by simpa using e)
    exact ⟨u, as, by simpa using a, b⟩
theorem dpAll_len {K : PySem.W.Frag} {H : Hp} : ∀ {vs : List V} {ps : List PyData}, DpAll K H vs ps → ps.length = vs.length
  | _, _, .nil => rfl
  | _, _, .cons _ h => by rw [List.length_cons, List.length_cons, dpAll_len h]
theorem hits_of {A : Around} {r2 : List Ent} {qs : List PyData} (l2 : KL r2) (hu : A.in1.units + 64 < cLine) (hq : ∀ (i : Nat) (q : PyData), qs[i]? = some q → ∃ u as, (r2.map (·.2.2))[i]? = some u ∧ Reads s.heap u q as) (ql : qs.length = r2.length) (sq : qs.all SeqAt.shaped = true) :
    ∀ (r1 : List Ent) (ps : List PyData), KL r1 → ps.length = r1.length → ps.all SeqAt.shaped = true → (∀ (i : Nat) (p : PyData), ps[i]? = some p → ∃ u as, (r1.map (·.2.2))[i]? = some u ∧ Reads s.heap u p as) →
      PySem.W.KeqHits A.in1 s (r2.map lv) (r1.map lv) (dHits ((r1.map (·.1)).zip ps) (r2.map (·.1)) qs)
  | [], _, _, _, _, _ => .nil
  | r :: r1, [], _, e, _, _ => by simp at e
  | r :: r1, p :: ps, l1, e, sp, hp => by
    rw [List.all_cons, Bool.and_eq_true] at sp
    obtain ⟨kr, vr⟩ := key_toLeaf l1 List.mem_cons_self
    have at_ : valueAt (r2.map lv) (toLeaf r.1) = getR r2 r.1 := by rw [at_lv l2, kr]
    have rest := hits_of l2 hu hq ql sq r1 ps (fun x hx => l1 x (List.mem_cons_of_mem _ hx)) (by simpa using e) sp.2 fun i q hi => by
      obtain ⟨u, as, a, b⟩ := hp (i + 1) q (by simpa using hi)
      exact ⟨u, as, by simpa using a, b⟩
    show PySem.W.KeqHits A.in1 s (r2.map lv) ((toLeaf r.1, r.2.2) :: r1.map lv) (dHits ((r.1, p) :: (r1.map (·.1)).zip ps) (r2.map (·.1)) qs)
    unfold dHits
    cases ei : idxK (r2.map (·.1)) r.1 with
    | none =>
      refine .miss ?_
      rw [at_]
      unfold getR
      rw [ei]; rfl
    | some i =>
      have hi : i < r2.length := by
        have h : List.findIdx? (fun x => decide (x = r.1)) (r2.map (·.1)) = some i := ei
        obtain ⟨h, _⟩ := List.findIdx?_eq_some_iff_getElem.mp h
        simpa using h
      obtain ⟨q, hq'⟩ : ∃ q, qs[i]? = some q := ⟨qs[i]'(by omega), List.getElem?_eq_getElem _⟩
      obtain ⟨y, as, ey, ry⟩ := hq i q hq'
      obtain ⟨v, bs, ev, rv⟩ := hp 0 p rfl
      have ev : v = r.2.2 := by simpa using ev.symm
      subst ev
      simp only [hq']
      refine .hit (y := y) ?_ (PySem.W.keq_at rv ry sp.1 (List.all_eq_true.mp sq q (List.mem_of_getElem? hq')) hu) rest
      rw [at_]
      unfold getR
      rw [ei]
      rw [List.getElem?_map] at ey
      exact ey
theorem op_eqDct (hu : X.A.units + 65 < cLine) : OpR X (compareOp .Eq) (rEqDct (ctX X) false) := by
  intro pins s σ H x y v u Q I rx ry h
  obtain ⟨μ, a, b, n1, n2, k1, v1, k2, v2, ps, qs, rfl, rfl, ⟨es1, e1, hn1, hk1, rk1, rv1⟩, ⟨es2, e2, hn2, hk2, rk2, rv2⟩, l1, l2, d1, d2, s1, s2, q⟩ := h
  cases rx
  cases ry
  obtain ⟨r1, x1, p1⟩ := dict_raw I e1
  obtain ⟨r2, x2, p2⟩ := dict_raw I e2
  have K1 := kl_of I hn1 hk1 rk1 p1 l1
  have K2 := kl_of I hn2 hk2 rk2 p2 l2
  have D1 := d1 _ rv1
  have D2 := d2 _ rv2
  have L1 : ps.length = r1.length := by rw [dpAll_len D1, ← Paired.length p1]; simp
  have L2 : qs.length = r2.length := by rw [dpAll_len D2, ← Paired.length p2]; simp
  have hits := hits_of (s := s) (A := X.A) K2 (by show X.A.units + 1 + 64 < _; omega) (reads_each I D2 (vals_at p2)) L2 s2 r1 ps K1 L1 s1 (reads_each I D1 (vals_at p1))
  rw [paired_keys p1, paired_keys p2, hn1, hn2] at hits
  refine PySem.W.keq_eq x1.sys x2.sys (x1.leaf K1) (x2.leaf K2) (by omega) (fun _ => hits) ⟨.bl _, H, I, rfl, ?_⟩
  rw [List.length_map, List.length_map, ← Paired.length p1, ← Paired.length p2]
  rw [← hn1, ← hn2, List.length_map, List.length_map, hn1, hn2] at q
  exact q
theorem op_neDct (hu : X.A.units + 65 < cLine) : OpR X (compareOp .NotEq) (rEqDct (ctX X) true) := by
  intro pins s σ H x y v u Q I rx ry h
  obtain ⟨μ, a, b, n1, n2, k1, v1, k2, v2, ps, qs, rfl, rfl, ⟨es1, e1, hn1, hk1, rk1, rv1⟩, ⟨es2, e2, hn2, hk2, rk2, rv2⟩, l1, l2, d1, d2, s1, s2, q⟩ := h
  cases rx
  cases ry
  obtain ⟨r1, x1, p1⟩ := dict_raw I e1
  obtain ⟨r2, x2, p2⟩ := dict_raw I e2
  have K1 := kl_of I hn1 hk1 rk1 p1 l1
  have K2 := kl_of I hn2 hk2 rk2 p2 l2
  have D1 := d1 _ rv1
  have D2 := d2 _ rv2
  have L1 : ps.length = r1.length := by rw [dpAll_len D1, ← Paired.length p1]; simp
  have L2 : qs.length = r2.length := by rw [dpAll_len D2, ← Paired.length p2]; simp
  have hits := hits_of (s := s) (A := X.A) K2 (by show X.A.units + 1 + 64 < _; omega) (reads_each I D2 (vals_at p2)) L2 s2 r1 ps K1 L1 s1 (reads_each I D1 (vals_at p1))
  rw [paired_keys p1, paired_keys p2, hn1, hn2] at hits
  refine PySem.W.keq_ne x1.sys x2.sys (x1.leaf K1) (x2.leaf K2) (by omega) (fun _ => hits) ⟨.bl _, H, I, rfl, ?_⟩
  rw [List.length_map, List.length_map, ← Paired.length p1, ← Paired.length p2]
  rw [← hn1, ← hn2, List.length_map, List.length_map, hn1, hn2] at q
  exact q
end
def dEqDct (neg : Bool) (h : Hs) (d e : D) : Option Nv := match d, e with
  | .box i, .box j => (match h.get i, h.get j with
    | some (.dct n1 _ v1), some (.dct n2 _ v2) => (match mapO (toPy h 40) v1, mapO (toPy h 40) v2 with
      | some ps, some qs => (match n1.all leafK && n2.all leafK && ps.all SeqAt.shaped && qs.all SeqAt.shaped with
        | true => some (.v (.bl (if neg = true then !(n1.length == n2.length && dHits (n1.zip ps) n2 qs) else (n1.length == n2.length && dHits (n1.zip ps) n2 qs))))
        | false => none)
      | _, _ => none)
    | _, _ => none)
  | _, _ => none
section
variable {C : Ct}
theorem cov_eqDct {neg : Bool} : Cov2 C (rEqDct C neg) (dEqDct neg) := by
  intro H L μ h x y d e n Q hr r1 r2 hf want
  unfold dEqDct at hf
  split at hf
  · rename_i i j
    split at hf
    · rename_i n1 k1 v1 n2 k2 v2 g1 g2
      split at hf
      · rename_i ps qs m1 m2
        split at hf
        · rename_i ok
          cases hf
          simp only [Bool.and_eq_true] at ok
          obtain ⟨⟨⟨l1, l2⟩, s1⟩, s2⟩ := ok
          obtain ⟨a, rfl, _, o1⟩ := hr.dctO r1 g1
          obtain ⟨b, rfl, _, o2⟩ := hr.dctO r2 g2
          exact ⟨μ, a, b, n1, n2, k1, v1, k2, v2, ps, qs, rfl, rfl, o1, o2, l1, l2, fun vs rv => mapO_dp (toPy_dp hr 40) rv m1, fun vs rv => mapO_dp (toPy_dp hr 40) rv m2, s1, s2, want.old rfl⟩
        · cases hf
      · cases hf
    · cases hf
  · cases hf
end
def dEqA (neg : Bool) : Hs → D → D → Option Nv := fun h d e => match dEq neg h d e with | some n => some n | none => dEqDct neg h d e
section
variable {X : Cx} {k : Nat}
theorem w_eqA (hr : Room k X.A) : CmpW X .Eq (dEqA false) := ⟨_, OpR.or' (op_eqD (hu_of4 hr)) (op_eqDct (hu_of hr)), cov_eq.or cov_eqDct⟩
theorem w_neA (hr : Room k X.A) : CmpW X .NotEq (dEqA true) := ⟨_, OpR.or' (op_neD (hu_of4 hr)) (op_neDct (hu_of hr)), cov_ne.or cov_eqDct⟩
end
end Rh

set_option Elab.async false
set_option linter.all false
set_option maxRecDepth 100000
set_option maxHeartbeats 2000000
set_option autoImplicit false
namespace Rh
open PySem PySem.Spec PyProof.Rows L2
variable [Tbs]
/-! ### a dict's entry stored by a comprehension -/
section
variable {P : Program} {w : World} {A : Around} {E : Value → Shared → Prop} {s : Shared} {a : Addr} {ep : Nat} {rs : List Ent} {k : NestedKey} {ku vu : Value} {Q : Unit → Shared → Prop}
end
/-! ### dict comprehensions, any keys, keys that come twice -/
section
variable {X : Cx}
end
end Rh

set_option Elab.async false
set_option linter.all false
set_option maxRecDepth 100000
set_option maxHeartbeats 2000000
set_option autoImplicit false
namespace Rh
open PySem PySem.Spec PyProof.Rows L2
variable [Tbs]
section
variable {X : Cx} {W : WX}
end
section
variable {X : Cx} {W : WX} {σ : L2.St} {H : Hp} {Q : VK}
end
end Rh

set_option Elab.async false
set_option linter.all false
set_option maxRecDepth 100000
set_option maxHeartbeats 2000000
set_option autoImplicit false
namespace Rh
open PySem PySem.Spec PyProof.Rows L2
/-! ### a zip whose tuples are kept -/
section
variable {prog : Program} {w : World} {A : Around} {E : Value → Shared → Prop} {s : Shared} {z TI TO T i1 i2 : Addr} {fp1 fp2 : List Addr} {n1 n2 i : Nat} {P1 P2 : Nat → Value → Prop} {St1 St2 : Nat → Heap → Prop} {f : Bool} {oT : Obj}
end
/-- the tuples that were handed out -/
structure ZGot (xs ys : List Value) (lo : Addr) (h : Heap) (as : List Addr) : Prop where
  rise : as.Pairwise (· < ·)
  above : ∀ a ∈ as, lo < a
  tup : ∀ (j : Nat) (a : Addr), as[j]? = some a → ∃ x y, xs[j]? = some x ∧ ys[j]? = some y ∧ IsTupOf2 h a x y
theorem ZGot.there {xs ys : List Value} {lo : Addr} {h : Heap} {as : List Addr} (g : ZGot xs ys lo h as) {a : Addr} (m : a ∈ as) : a < h.objs.size := by
  obtain ⟨j, e⟩ := List.mem_iff_getElem?.mp m
  obtain ⟨_, _, _, _, q⟩ := g.tup j a e
  exact Heap.lt_size q
section
variable {prog : Program} {w : World} {A : Around} {s : Shared} {R : Result → Shared → Prop} {z TI TO i1 i2 S lo : Addr} {fp1 fp2 : List Addr} {xs ys : List Value} {St1 St2 : Nat → Heap → Prop}
end
section
variable {prog : Program} {w : World} {A : Around} {E : Value → Shared → Prop} {s : Shared} {R : Result → Shared → Prop} {z TI TO i1 i2 S : Addr} {fp1 fp2 : List Addr} {xs ys : List Value} {St1 St2 : Nat → Heap → Prop} {ta tb : Value}
end
section
variable {prog : Program} {w : World} {A : Around} {E : Value → Shared → Prop} {s : Shared} {z TI TO i1 i2 : Addr} {fp1 fp2 : List Addr} {xs ys : List Value} {St1 St2 : Nat → Heap → Prop} {ta tb : Value}
end
end Rh

set_option Elab.async false
set_option linter.all false
set_option maxRecDepth 100000
set_option maxHeartbeats 2000000
set_option autoImplicit false
namespace Rh
open PySem PySem.Spec PyProof.Rows L2
section
variable {X : Cx}
/-- the list l of the pairs as, of xs and ys -/
structure ZMade (H1 H' : Hp) (l : Addr) (as : List Addr) (xs ys : List V) : Prop where
  old : ∀ b o, H1 b = some o → H' b = some o
  dom : ∀ b, H' b = none → H1 b = none
  new : H1 l = none
  lst : H' l = some (.lst (as.map V.ref))
  len : as.length = min xs.length ys.length
  tup : ∀ (j : Nat) (t : Addr), as[j]? = some t → ∃ x y o, xs[j]? = some x ∧ ys[j]? = some y ∧ H' t = some (.frz o (.tup [x, y])) ∧ o.dict = none
end
section
variable [Tbs] {X : Cx} {W : WX}
end
end Rh

set_option Elab.async false
set_option linter.all false
set_option maxRecDepth 100000
set_option maxHeartbeats 2000000
set_option autoImplicit false
namespace Rh
open PySem PySem.Spec PyProof.Rows L2
/-! ### 0 if len(script) == 0 else int(abs(script[0])) % m -/
def IsScr (h : Hs) (sc : D) (ns : List Int) : Prop := sc = .scr (ns.map .int) ∨ ∃ b0, sc = .box b0 ∧ h.get b0 = some (.lst (ns.map .int))
theorem IsScr.nl {h : Hs} {sc : D} {ns : List Int} (s : IsScr h sc ns) : sc ≠ .lm := by
  rcases s with rfl | ⟨_, rfl, _⟩ <;> exact fun z => nomatch z
theorem IsScr.lst {h : Hs} {sc : D} {ns : List Int} (s : IsScr h sc ns) : lstD h sc = some (ns.map .int) := by
  rcases s with rfl | ⟨b, rfl, e⟩
  · rfl
  · unfold lstD; simp only [e]
theorem IsScr.len {h : Hs} {sc : D} {ns : List Int} (s : IsScr h sc ns) : dLenA h [sc] = some (.v (.int ns.length)) := by
  have e : dLen h [sc] = some (.v (.int ns.length)) := by
    unfold dLen
    have q : seqD h sc = some (ns.map .int) := by
      rcases s with rfl | ⟨b, rfl, e⟩
      · rfl
      · unfold seqD lstD; simp only [e]
    simp only [q, Option.map_some, List.length_map]
  unfold dLenA
  simp only [e]
section
variable [Tbs]
end
end Rh

set_option Elab.async false
set_option linter.all false
set_option maxRecDepth 100000
set_option maxHeartbeats 2000000
set_option autoImplicit false
namespace Rh
open PySem PySem.Spec PyProof.Rows L2 PpSet
section
variable {X : Cx}
end
end Rh

set_option Elab.async false
set_option linter.all false
set_option maxRecDepth 100000
set_option maxHeartbeats 2000000
set_option autoImplicit false
namespace Rh
open PySem PySem.Spec PyProof.Rows L2 PpSet
variable [Tbs]
end Rh

set_option Elab.async false
set_option linter.all false
set_option maxRecDepth 100000
set_option maxHeartbeats 2000000
set_option autoImplicit false
/-! Twins of the mirrors for the kernel: the same functions by recursors alone. -/
namespace Rh
open PySem PySem.Spec PyProof.Rows L2
section
variable {α β : Type}
noncomputable def nthF (l : List α) : Nat → Option α := List.rec (motive := fun _ => Nat → Option α) (fun _ => none) (fun a _ ih i => Nat.rec (motive := fun _ => Option α) (some a) (fun k _ => ih k) i) l
theorem nthF_eq (l : List α) : ∀ i, nthF l i = l[i]? := by
  induction l with
  | nil => intro i; simp [nthF]
  | cons a r ih =>
    intro i
    cases i with
    | zero => rfl
    | succ k => exact (ih k).trans (by simp)
noncomputable def setF (b : α) (l : List α) : Nat → List α := List.rec (motive := fun _ => Nat → List α) (fun _ => []) (fun a r ih i => Nat.rec (motive := fun _ => List α) (b :: r) (fun k _ => a :: ih k) i) l
theorem setF_eq (b : α) (l : List α) : ∀ i, setF b l i = l.set i b := by
  induction l with
  | nil => intro i; simp [setF]
  | cons a r ih =>
    intro i
    cases i with
    | zero => rfl
    | succ k => exact congrArg (a :: ·) (ih k)
noncomputable def lenF (l : List α) : Nat := List.rec (motive := fun _ => Nat) 0 (fun _ _ n => Nat.add n 1) l
theorem lenF_eq (l : List α) : lenF l = l.length := by
  induction l with
  | nil => rfl
  | cons a r ih => exact congrArg (· + 1) ih
noncomputable def appF (l m : List α) : List α := List.rec (motive := fun _ => List α) m (fun a _ ih => a :: ih) l
theorem appF_eq (l m : List α) : appF l m = l ++ m := by
  induction l with
  | nil => rfl
  | cons a r ih => exact congrArg (a :: ·) ih
/-- `if` by a truth -/
noncomputable def iffF (c : Bool) (a b : α) : α := Bool.rec (motive := fun _ => α) b a c
theorem iffF_le (n m : Nat) (a b : α) : iffF (Nat.ble n m) a b = if n ≤ m then a else b := by
  by_cases h : n ≤ m
  · rw [if_pos h, Nat.ble_eq.mpr h]; rfl
  · rw [if_neg h]
    cases e : Nat.ble n m with
    | true => exact absurd (Nat.ble_eq.mp e) h
    | false => rfl
theorem iffF_eq (n m : Nat) (a b : α) : iffF (Nat.beq n m) a b = if n = m then a else b := by
  by_cases h : n = m
  · subst h; rw [if_pos rfl, Nat.beq_refl]; rfl
  · rw [if_neg h]
    cases e : Nat.beq n m with
    | true => exact absurd (Nat.eq_of_beq_eq_true e) h
    | false => rfl
noncomputable def onInt (d : D) (k : Int → β) (z : β) : β := D.rec (motive_1 := fun _ => β) (motive_2 := fun _ => Unit) z (fun _ => z) (fun i => k i) (fun _ => z) (fun _ _ => z) (fun _ => z) (fun _ => z) (fun _ _ => z) (fun _ => z) z () (fun _ _ _ _ => ()) d
noncomputable def onBl (d : D) (k : Bool → β) (z : β) : β := D.rec (motive_1 := fun _ => β) (motive_2 := fun _ => Unit) z (fun b => k b) (fun _ => z) (fun _ => z) (fun _ _ => z) (fun _ => z) (fun _ => z) (fun _ _ => z) (fun _ => z) z () (fun _ _ _ _ => ()) d
noncomputable def onTup (d : D) (k : List D → β) (z : β) : β := D.rec (motive_1 := fun _ => β) (motive_2 := fun _ => Unit) z (fun _ => z) (fun _ => z) (fun _ => z) (fun ds _ => k ds) (fun _ => z) (fun _ => z) (fun _ _ => z) (fun _ => z) z () (fun _ _ _ _ => ()) d
noncomputable def onLm (d : D) (k z : β) : β := D.rec (motive_1 := fun _ => β) (motive_2 := fun _ => Unit) z (fun _ => z) (fun _ => z) (fun _ => z) (fun _ _ => z) (fun _ => z) (fun _ => z) (fun _ _ => z) (fun _ => z) k () (fun _ _ _ _ => ()) d
noncomputable def onNat (i : Int) (k : Nat → β) (z : β) : β := Int.rec (motive := fun _ => β) (fun n => k n) (fun _ => z) i
noncomputable def onSome (o : Option α) (k : α → Option β) : Option β := Option.rec (motive := fun _ => Option β) none (fun a => k a) o
noncomputable def onR (o : Option (R α)) (k : α → Hs → Option (R β)) : Option (R β) := Option.rec (motive := fun _ => Option (R β)) none (fun r => R.rec (motive := fun _ => Option (R β)) (fun a h => k a h) (fun c fs h => some (.ex c fs h)) r) o
noncomputable def onS (ρ : En) (o : Option (R α)) (k : α → Hs → Option RS) : Option RS := Option.rec (motive := fun _ => Option RS) none (fun r => R.rec (motive := fun _ => Option RS) (fun a h => k a h) (fun c fs h => some (.ex c fs ρ h)) r) o
noncomputable def onF (o : Option FR) : Option (R D) := Option.rec (motive := fun _ => Option (R D)) none (fun r => FR.rec (motive := fun _ => Option (R D)) (fun d h => some (.ok d h)) (fun c fs h => some (.ex c fs h)) r) o
end
theorem mBind_on {α β : Type} (m : M α) (g : α → M β) : mBind m g = fun ρ h => onR (m ρ h) fun a h1 => g a ρ h1 := by
  funext ρ h; unfold mBind
  cases m ρ h with
  | none => rfl
  | some r => cases r <;> rfl
theorem mDo_on {α : Type} (m : M α) (g : α → MS) : mDo m g = fun ρ h => onS ρ (m ρ h) fun a h1 => g a ρ h1 := by
  funext ρ h; unfold mDo
  cases m ρ h with
  | none => rfl
  | some r => cases r <;> rfl
/-! expressions -/
noncomputable def zVar (i : Nat) : M D := fun ρ h => onSome (nthF ρ i) fun o => onSome o fun d => onLm d none (some (.ok d h))
theorem q_mVar : mVar = zVar := by
  funext i ρ h; unfold mVar zVar; rw [nthF_eq]
  cases ρ[i]? with
  | none => rfl
  | some o =>
    cases o with
    | none => rfl
    | some d => cases d <;> rfl
def zCon (d : D) : M D := fun _ h => some (.ok d h)
theorem q_mCon : mCon = zCon := rfl
noncomputable def zLift (h : Hs) (o : Option Nv) : Option (R D) := onSome o fun n => Nv.rec (motive := fun _ => Option (R D)) (fun d => some (.ok d h)) (fun o => Nv.lift (.n o) h) n
theorem zLift_eq (h : Hs) (o : Option Nv) : zLift h o = lift h o := by
  cases o with
  | none => rfl
  | some n => cases n <;> rfl
noncomputable def zOp2 (f : Hs → D → D → Option Nv) (a b : M D) : M D := fun ρ h => onR (a ρ h) fun x h1 => onR (b ρ h1) fun y h2 => zLift h2 (f h2 x y)
theorem q_mOp2 : mOp2 = zOp2 := by
  funext f a b; unfold mOp2 zOp2; rw [mBind_on]; funext ρ h
  refine congrArg (onR (a ρ h)) ?_
  funext x h1
  rw [mBind_on]
  refine congrArg (onR (b ρ h1)) ?_
  funext y h2; exact (zLift_eq _ _).symm
noncomputable def zOpA (f : Hs → List D → Option Nv) (a : M (List D)) : M D := fun ρ h => onR (a ρ h) fun x h1 => zLift h1 (f h1 x)
theorem q_mOpA : mOpA = zOpA := by
  funext f a; unfold mOpA zOpA; rw [mBind_on]; funext ρ h
  refine congrArg (onR (a ρ h)) ?_
  funext x h1; exact (zLift_eq _ _).symm
def zNil : M (List D) := fun _ h => some (.ok [] h)
theorem q_mNil : mNil = zNil := rfl
noncomputable def zCons (a : M D) (r : M (List D)) : M (List D) := fun ρ h => onR (a ρ h) fun x h1 => onR (r ρ h1) fun xs h2 => some (.ok (x :: xs) h2)
theorem q_mCons : mCons = zCons := by
  funext a r; unfold mCons zCons; rw [mBind_on]; funext ρ h
  refine congrArg (onR (a ρ h)) ?_
  funext x h1; rw [mBind_on]; rfl
noncomputable def zTup (a : M (List D)) : M D := fun ρ h => onR (a ρ h) fun ds h1 => iffF (Nat.ble (lenF ds) 1000000) (some (.ok (.tup ds) h1)) none
theorem q_mTup : mTup = zTup := by
  funext a; unfold mTup mDisp zTup; rw [mBind_on]; funext ρ h
  refine congrArg (onR (a ρ h)) ?_
  funext x h1; rw [iffF_le, lenF_eq]; rfl
noncomputable def zLst (a : M (List D)) : M D := fun ρ h => onR (a ρ h) fun ds h1 => iffF (Nat.ble (lenF ds) 1000000) (Nv.lift (.n (.lst ds)) h1) none
theorem q_mLst : mLst = zLst := by
  funext a; unfold mLst mDisp zLst; rw [mBind_on]; funext ρ h
  refine congrArg (onR (a ρ h)) ?_
  funext x h1; rw [iffF_le, lenF_eq]
noncomputable def zB (m : M D) : M Bool := fun ρ h => onR (m ρ h) fun d h1 => onBl d (fun k => some (.ok k h1)) none
theorem q_mB : mB = zB := by
  funext a; unfold mB zB; rw [mBind_on]; funext ρ h
  refine congrArg (onR (a ρ h)) ?_
  funext d h1; cases d <;> rfl
noncomputable def zTruth (m : M D) : M Bool := fun ρ h => onR (m ρ h) fun d h1 => onBl d (fun k => some (.ok k h1)) (onSome (truthD h1 d) fun k => some (.ok k h1))
theorem q_mTruth : mTruth = zTruth := by
  funext a; unfold mTruth zTruth; rw [mBind_on]; funext ρ h
  refine congrArg (onR (a ρ h)) ?_
  funext d h1
  have e : (match truthD h1 d with | some k => some (R.ok k h1) | none => none) = onSome (truthD h1 d) fun k => some (R.ok k h1) := by cases truthD h1 d <;> rfl
  cases d <;> first | rfl | exact e
noncomputable def zOr (a b : M Bool) : M Bool := fun ρ h => onR (a ρ h) fun c h1 => iffF c (some (.ok true h1)) (b ρ h1)
theorem q_mOr : mOr = zOr := by
  funext a b; unfold mOr zOr; rw [mBind_on]; funext ρ h
  refine congrArg (onR (a ρ h)) ?_
  funext c h1; cases c <;> rfl
/-! operators -/
noncomputable def zInt (g : Int → Int → D) (f : Hs → D → D → Option Nv) : Hs → D → D → Option Nv := fun h d e => onInt d (fun i => onInt e (fun j => some (.v (g i j))) (f h d e)) (f h d e)
theorem zInt_eq (g : Int → Int → D) (f : Hs → D → D → Option Nv) (k : ∀ h i j, f h (.int i) (.int j) = some (.v (g i j))) : f = zInt g f := by
  funext h d e; unfold zInt
  cases d <;> first | rfl | (cases e <;> first | rfl | exact k _ _ _)
noncomputable def zAdd : Hs → D → D → Option Nv := zInt (fun i j => .int (Int.add i j)) dAdd
theorem q_dAdd : dAdd = zAdd := zInt_eq _ _ fun _ _ _ => rfl
noncomputable def zEqA (neg : Bool) : Hs → D → D → Option Nv := zInt (fun i j => .bl (iffF neg (!PyData.eqv (.int i) (.int j)) (PyData.eqv (.int i) (.int j)))) (dEqA neg)
theorem q_dEqA : dEqA = zEqA := by
  funext neg; exact zInt_eq _ _ fun _ _ _ => by cases neg <;> rfl
/-! statements -/
noncomputable def zSeq (a b : MS) : MS := fun ρ h => Option.rec (motive := fun _ => Option RS) none (fun r => RS.rec (motive := fun _ => Option RS) (fun ρ1 h1 => b ρ1 h1) (fun d h1 => some (.rt d h1)) (fun ρ1 h1 => some (.bk ρ1 h1)) (fun ρ1 h1 => some (.ct ρ1 h1)) (fun c fs ρ1 h1 => some (.ex c fs ρ1 h1)) r) (a ρ h)
theorem q_mSeq : mSeq = zSeq := by
  funext a b ρ h; unfold mSeq zSeq
  cases a ρ h with
  | none => rfl
  | some r => cases r <;> rfl
noncomputable def zSet (i : Nat) (m : M D) : MS := fun ρ h => onS ρ (m ρ h) fun d h1 => some (.nx (setF (some d) ρ i) h1)
theorem q_mSet : mSet = zSet := by
  funext i m; unfold mSet zSet; rw [mDo_on]; funext ρ h
  refine congrArg (onS ρ (m ρ h)) ?_
  funext d h1; rw [setF_eq]
noncomputable def zRet (m : M D) : MS := fun ρ h => onS ρ (m ρ h) fun d h1 => some (.rt d h1)
theorem q_mRet : mRet = zRet := by
  funext m; unfold mRet zRet; rw [mDo_on]
noncomputable def zIfS (c : M Bool) (a b : MS) : MS := fun ρ h => onS ρ (c ρ h) fun k h1 => iffF k (a ρ h1) (b ρ h1)
theorem q_mIfS : mIfS = zIfS := by
  funext c a b; unfold mIfS zIfS; rw [mDo_on]; funext ρ h
  refine congrArg (onS ρ (c ρ h)) ?_
  funext k h1; cases k <;> rfl
/-! calls -/
noncomputable def zEnv (as : List D) : Nat → En := List.rec (motive := fun _ => Nat → En) (fun n => Nat.rec (motive := fun _ => En) [] (fun _ r => none :: r) n) (fun d _ ih n => some d :: ih (Nat.sub n 1)) as
theorem zEnv_eq (as : List D) : ∀ n, zEnv as n = envOf n as := by
  induction as with
  | nil =>
    intro n
    show Nat.rec (motive := fun _ => En) [] (fun _ r => none :: r) n = [] ++ List.replicate (n - 0) none
    rw [List.nil_append, Nat.sub_zero]
    induction n with
    | zero => rfl
    | succ k ih => exact congrArg (none :: ·) ih
  | cons d r ih =>
    intro n
    refine (congrArg (some d :: ·) (ih (n - 1))).trans ?_
    unfold envOf
    rw [List.map_cons, List.cons_append, List.length_cons, show n - (r.length + 1) = n - 1 - r.length by omega]
noncomputable def zRun (n : Nat) (body : MS) (as : List D) (h : Hs) : Option FR := Option.rec (motive := fun _ => Option FR) none (fun r => RS.rec (motive := fun _ => Option FR) (fun _ h1 => some (.rt .non h1)) (fun d h1 => some (.rt d h1)) (fun _ _ => none) (fun _ _ => none) (fun c fs _ h1 => some (.ex c fs h1)) r) (body (zEnv as n) h)
theorem q_runDef : runDef = zRun := by
  funext n body as h; unfold runDef zRun; rw [zEnv_eq]
  cases body (envOf n as) h with
  | none => rfl
  | some r => cases r <;> rfl
noncomputable def zFuel (N : List Str) (m : FM → MS) (n : Nat) : FM := Nat.rec (motive := fun _ => FM) (fun _ _ => none) (fun _ f => zRun N.length (m f)) n
theorem q_fuelF : fuelF = zFuel := by
  funext N m n
  induction n with
  | zero => rfl
  | succ k ih =>
    show runDef N.length (m (fuelF N m k)) = zRun N.length (m (zFuel N m k))
    rw [ih, q_runDef]
noncomputable def zCall (f : FM) (ms : M (List D)) : M D := fun ρ h => onR (ms ρ h) fun as h1 => onF (f as h1)
theorem q_mCall : mCall = zCall := by
  funext f ms; unfold mCall zCall; rw [mBind_on]; funext ρ h
  refine congrArg (onR (ms ρ h)) ?_
  funext as h1
  cases f as h1 with
  | none => rfl
  | some r => cases r <;> rfl
noncomputable def zName (i : Nat) : TM := fun d ρ h => some (setF (some d) ρ i, h)
theorem q_tName : tName = zName := by
  funext i d ρ h; unfold tName zName; rw [setF_eq]
noncomputable def zsCons (t : TM) (ts : TMs) : TMs := fun ds ρ h => List.rec (motive := fun _ => Option (En × Hs)) none (fun d r _ => Option.rec (motive := fun _ => Option (En × Hs)) none (fun p => Prod.rec (motive := fun _ => Option (En × Hs)) (fun ρ1 h1 => ts r ρ1 h1) p) (t d ρ h)) ds
theorem q_tsCons : tsCons = zsCons := by
  funext t ts ds ρ h; unfold tsCons zsCons
  cases ds with
  | nil => rfl
  | cons d r =>
    show (match t d ρ h with | none => none | some (ρ1, h1) => ts r ρ1 h1) = Option.rec (motive := fun _ => Option (En × Hs)) none (fun p => Prod.rec (motive := fun _ => Option (En × Hs)) (fun ρ1 h1 => ts r ρ1 h1) p) (t d ρ h)
    cases t d ρ h <;> rfl
noncomputable def zTupT (n : Nat) (ts : TMs) : TM := fun d ρ h => onTup d (fun ds => iffF (Nat.beq (lenF ds) n) (ts ds ρ h) none) (tTup n ts d ρ h)
theorem q_tTup : tTup = zTupT := by
  funext n ts d ρ h; unfold zTupT
  cases d <;> first | rfl | skip
  rename_i ds
  show (if ds.length = n then ts ds ρ h else none) = iffF (Nat.beq (lenF ds) n) (ts ds ρ h) none
  rw [iffF_eq, lenF_eq]
noncomputable def zIter (m : M D) : M (List D × List Nat) := fun ρ h => onR (m ρ h) fun d h1 => onTup d (fun ds => some (.ok (ds, []) h1)) (onSome (iterD h1 d) fun p => some (.ok p h1))
theorem q_mIter : mIter = zIter := by
  funext m; unfold mIter zIter; rw [mBind_on]; funext ρ h
  refine congrArg (onR (m ρ h)) ?_
  funext d h1
  have e : (match iterD h1 d with | some p => some (R.ok p h1) | none => none) = onSome (iterD h1 d) fun p => some (R.ok p h1) := by cases iterD h1 d <;> rfl
  cases d <;> first | exact e | rfl
noncomputable def zWipe (ρ : En) (vs : List Nat) : En := List.rec (motive := fun _ => En) ρ (fun v _ r => setF none r v) vs
theorem zWipe_eq (ρ : En) (vs : List Nat) : wipeE ρ vs = zWipe ρ vs := by
  induction vs with
  | nil => rfl
  | cons v r ih => exact (congrArg (fun z => List.set z v none) ih).trans (setF_eq _ _ _).symm
noncomputable def zLoopC (t : TM) (conds : M Bool) (elt : M D) (ρ : En) (ds : List D) : Hs → Option (List D × Hs) := List.rec (motive := fun _ => Hs → Option (List D × Hs)) (fun h => some ([], h)) (fun d _ ih h => Option.rec (motive := fun _ => Option (List D × Hs)) none (fun p => Prod.rec (motive := fun _ => Option (List D × Hs)) (fun ρ1 h1 => Option.rec (motive := fun _ => Option (List D × Hs)) none (fun r => R.rec (motive := fun _ => Option (List D × Hs)) (fun b h2 => Bool.rec (motive := fun _ => Option (List D × Hs)) (ih h2) (Option.rec (motive := fun _ => Option (List D × Hs)) none (fun r2 => R.rec (motive := fun _ => Option (List D × Hs)) (fun x h3 => Option.rec (motive := fun _ => Option (List D × Hs)) none (fun q => Prod.rec (motive := fun _ => Option (List D × Hs)) (fun es h4 => some (x :: es, h4)) q) (ih h3)) (fun _ _ _ => none) r2) (elt ρ1 h2)) b) (fun _ _ _ => none) r) (conds ρ1 h1)) p) (t d ρ h)) ds
theorem zLoopC_eq (t : TM) (conds : M Bool) (elt : M D) (ρ : En) : loopC t conds elt ρ = zLoopC t conds elt ρ := by
  funext ds
  induction ds with
  | nil => rfl
  | cons d r ih =>
    funext h
    unfold loopC turnC
    show _ = Option.rec (motive := fun _ => Option (List D × Hs)) none (fun p => Prod.rec (motive := fun _ => Option (List D × Hs)) (fun ρ1 h1 => Option.rec (motive := fun _ => Option (List D × Hs)) none (fun q => R.rec (motive := fun _ => Option (List D × Hs)) (fun b h2 => Bool.rec (motive := fun _ => Option (List D × Hs)) (zLoopC t conds elt ρ r h2) (Option.rec (motive := fun _ => Option (List D × Hs)) none (fun r2 => R.rec (motive := fun _ => Option (List D × Hs)) (fun x h3 => Option.rec (motive := fun _ => Option (List D × Hs)) none (fun q => Prod.rec (motive := fun _ => Option (List D × Hs)) (fun es h4 => some (x :: es, h4)) q) (zLoopC t conds elt ρ r h3)) (fun _ _ _ => none) r2) (elt ρ1 h2)) b) (fun _ _ _ => none) q) (conds ρ1 h1)) p) (t d ρ h)
    cases t d ρ h with
    | none => rfl
    | some p =>
      obtain ⟨ρ1, h1⟩ := p
      dsimp only
      cases conds ρ1 h1 with
      | none => rfl
      | some q =>
        cases q with
        | ex _ _ _ => rfl
        | ok b h2 =>
          cases b with
          | false =>
            dsimp only
            rw [ih]
            cases zLoopC t conds elt ρ r h2 <;> rfl
          | true =>
            dsimp only
            cases elt ρ1 h2 with
            | none => rfl
            | some q2 =>
              cases q2 with
              | ex _ _ _ => rfl
              | ok x h3 =>
                dsimp only
                rw [ih]
                cases zLoopC t conds elt ρ r h3 <;> rfl
noncomputable def zLc (mi : M (List D × List Nat)) (t : TM) (conds : M Bool) (elt : M D) (vs : List Nat) : M D := fun ρ h => onR (mi ρ h) fun p h1 => iffF (Nat.ble (lenF p.1) 1000000) (Option.rec (motive := fun _ => Option (R D)) none (fun q => Prod.rec (motive := fun _ => Option (R D)) (fun es h' => Nv.lift (.n (.lst es)) (relk h1.lk h')) q) (zLoopC t conds elt (zWipe ρ vs) p.1 (relk (appF p.2 h1.lk) h1))) none
theorem q_mLc : mLc = zLc := by
  funext mi t conds elt vs; unfold mLc zLc; rw [mBind_on]; funext ρ h
  refine congrArg (onR (mi ρ h)) ?_
  funext p h1
  rw [iffF_le, lenF_eq, zWipe_eq, zLoopC_eq, appF_eq]
  cases zLoopC t conds elt (zWipe ρ vs) p.1 (relk (p.2 ++ h1.lk) h1) <;> rfl

noncomputable def zRg (n : Nat) : Int → List D := Nat.rec (motive := fun _ => Int → List D) (fun _ => []) (fun _ ih k => .int k :: ih (Int.add k 1)) n
theorem zRg_eq (n : Nat) : ∀ k : Int, zRg n k = (List.range n).map fun (j : Nat) => D.int (k + (j : Nat)) := by
  induction n with
  | zero => intro k; rfl
  | succ m ih =>
    intro k
    refine (congrArg (D.int k :: ·) (ih (k + 1))).trans ?_
    rw [List.range_succ_eq_map, List.map_cons, List.map_map]
    refine congr (congrArg List.cons (by simp)) ?_
    refine List.map_congr_left fun j _ => ?_
    show D.int (k + 1 + (j : Int)) = D.int (k + ((j + 1 : Nat) : Int))
    congr 1
    omega
noncomputable def zRg0 (j : Int) : List D := onNat j (fun n => zRg n (Int.ofNat 0)) (rangeD 0 j)
theorem zRg0_eq (j : Int) : rangeD 0 j = zRg0 j := by
  cases j with
  | negSucc k => rfl
  | ofNat n =>
    show rangeD 0 (Int.ofNat n) = zRg n (Int.ofNat 0)
    rw [zRg_eq]
    unfold rangeD
    have : (Int.ofNat n - 0).toNat = n := by rw [Int.sub_zero]; rfl
    rw [this]
    rfl
noncomputable def zRange1 (ms : M (List D)) : M (List D × List Nat) := mBind ms fun ds => fun _ h => match ds with
  | [.int j] => if -1000000 ≤ j ∧ j ≤ 1000000 then some (.ok (zRg0 j, []) h) else none
  | _ => none
theorem q_mRange1 : mRange1 = zRange1 := by
  funext ms
  unfold mRange1 zRange1
  refine congrArg (mBind ms) ?_
  funext ds ρ h
  cases ds with
  | nil => rfl
  | cons d r =>
    cases r with
    | cons _ _ => cases d <;> rfl
    | nil =>
      cases d <;> first | rfl | skip
      rename_i j
      show (if -1000000 ≤ j ∧ j ≤ 1000000 then some (R.ok (rangeD 0 j, ([] : List Nat)) h) else none) = (if -1000000 ≤ j ∧ j ≤ 1000000 then some (R.ok (zRg0 j, []) h) else none)
      rw [zRg0_eq]
noncomputable def zLen (h : Hs) (as : List D) : Option Nv := List.rec (motive := fun _ => Option Nv) (dLenA h as) (fun d r _ => List.rec (motive := fun _ => Option Nv) (onTup d (fun ds => some (.v (.int (Int.ofNat (lenF ds))))) (dLenA h as)) (fun _ _ _ => dLenA h as) r) as
theorem q_dLenA : dLenA = zLen := by
  funext h as
  cases as with
  | nil => rfl
  | cons d r =>
    cases r with
    | cons _ _ => rfl
    | nil =>
      cases d <;> first | rfl | skip
      rename_i ds
      show dLenA h [.tup ds] = some (.v (.int (Int.ofNat (lenF ds))))
      rw [lenF_eq]; rfl

end Rh

set_option Elab.async false
set_option linter.all false
set_option maxRecDepth 100000
set_option maxHeartbeats 2000000
set_option autoImplicit false
namespace Rh
open PySem PySem.Spec PyProof.Rows L2
variable [Tbs]
theorem cl_back {w : World} {K : PySem.W.Frag} {mg : Str → Option Value} {L : List Nat} {μ : Mu} {H : Hp} {h h' : Hs} {μ' : Mu} {H' : Hp} (hr : HR ⟨w, K, mg⟩ L μ H h) (g : Go [] [] H μ' H') (r : HR ⟨w, K, mg⟩ [] μ' H' h') : Go L μ H μ H' ∧ HR ⟨w, K, mg⟩ L μ H' h := by
  have kb : ∀ b o, H b = some o → (∀ ps, o ≠ .tbl ps) → H' b = some o := fun b o e nt => g.keep b o e nt (by simp)
  have at_ : ∀ (i : Nat) (b : Addr), μ[i]? = some b → H' b = H b := fun i b e => by
    obtain ⟨o, _, qo⟩ := hr.ob i b e
    cases o with
    | lst ds => obtain ⟨vs, e1, _⟩ := qo; rw [e1, kb b _ e1 fun _ z => nomatch z]
    | dct nks ks vs => obtain ⟨es, e1, _⟩ := qo; rw [e1, kb b _ e1 fun _ z => nomatch z]
    | lam _ _ => exact qo.elim
    | exo _ _ => obtain ⟨ac, d, _, e1, _⟩ := qo; rw [e1, kb b _ e1 fun _ z => nomatch z]
  have st : Stay μ H μ H' := ⟨fun _ _ e => e, fun b xs e => kb b _ e (fun _ z => nomatch z), fun b ob u e => kb b _ e (fun _ z => nomatch z)⟩
  exact ⟨⟨fun i _ b e => at_ i b e, fun b o e nt _ => kb b o e nt, g.dom, ⟨[], (List.append_nil _).symm⟩, fun _ m => .inl m⟩, ⟨hr.lk, hr.len, hr.nd, r.tb, fun i b e => let ⟨o, e1, qo⟩ := hr.ob i b e; ⟨o, e1, qo.stay st (at_ i b e)⟩⟩⟩
end Rh
namespace Rh
open PySem PySem.Spec PyProof.Rows L2
end Rh
namespace Rh
end Rh

set_option Elab.async false
set_option linter.all false
set_option maxRecDepth 100000
set_option maxHeartbeats 2000000
set_option autoImplicit false
/-! The boxes that a whole law draws from. -/
namespace Rh
open PySem PySem.Spec PyProof.Rows L2
variable [Tbs]
end Rh

set_option Elab.async false
set_option linter.all false
set_option maxRecDepth 100000
set_option maxHeartbeats 2000000
set_option autoImplicit false
/-! The cells again, with how long they are. -/
namespace Rh
open PySem PySem.Spec PyProof.Rows L2
variable [Tbs]
end Rh

set_option Elab.async false
set_option linter.all false
set_option maxRecDepth 100000
set_option maxHeartbeats 2000000
set_option autoImplicit false
/-! The end of a suite that no box reaches. -/
namespace Rh
open PySem PySem.Spec PyProof.Rows L2
variable [Tbs]
def flatO (o : Option D) : Option D := match o with
  | none => none
  | some .lm => none
  | some d => match flatD d with
    | true => some d
    | false => none
theorem flatO_some {o : Option D} {d : D} (h : flatO o = some d) : o = some d ∧ flatD d = true ∧ d ≠ .lm := by
  cases o with
  | none => cases h
  | some e =>
    cases e <;> first
      | (cases h; exact ⟨rfl, rfl, fun z => nomatch z⟩)
      | cases h
      | (rename_i ds
         unfold flatO at h
         dsimp only at h
         split at h
         · rename_i q; cases h; exact ⟨rfl, q, fun z => nomatch z⟩
         · cases h)
end Rh

set_option Elab.async false
set_option linter.all false
set_option maxRecDepth 100000
set_option maxHeartbeats 2000000
set_option autoImplicit false
/-! Set comprehensions of ints: the set is no box; it is told by its members in order. -/
namespace Rh
open PySem PySem.Spec PyProof.Rows L2 PpSet
variable [Tbs]
section
variable {X : Cx} {W : WX} {σ : L2.St} {H : Hp} {Q : VK}
end
end Rh

set_option Elab.async false
set_option linter.all false
set_option maxRecDepth 100000
set_option maxHeartbeats 2000000
set_option autoImplicit false
namespace Rh
open PySem PySem.Spec PyProof.Rows L2 PpSet
variable [Tbs]
section
variable {X : Cx} {W : WX}
end
end Rh

set_option Elab.async false
set_option linter.all false
set_option maxRecDepth 100000
set_option autoImplicit false
/-! set(xs) of a list of ints -/
namespace Rh
open PySem PySem.Spec PyProof.Rows L2 PpSet
section
variable {P : Program} {w : World} {A : Around} {E : Value → Shared → Prop} {s : Shared}
end
end Rh

set_option Elab.async false
set_option linter.all false
set_option maxRecDepth 100000
set_option maxHeartbeats 2000000
set_option autoImplicit false
/-! sorted(set(xs)) of ints -/
namespace Rh
open PySem PySem.Spec PyProof.Rows L2 PpSet
section
variable [Tbs]
end
section
variable [Tbs] {X : Cx} {W : WX}
end
end Rh

set_option Elab.async false
set_option linter.all false
set_option maxRecDepth 100000
set_option maxHeartbeats 2000000
set_option autoImplicit false
namespace Rh
open PySem PySem.Spec PyProof.Rows L2 PpSet
variable {prog : Program} {w : World} {A : Around} {E : Value → Shared → Prop} {s : Shared}
end Rh

set_option Elab.async false
set_option linter.all false
set_option maxRecDepth 100000
set_option maxHeartbeats 2000000
set_option autoImplicit false
/-! Set comprehensions of bools. -/
namespace Rh
open PySem PySem.Spec PyProof.Rows L2 PpSet
variable [Tbs]
section
variable {X : Cx} {W : WX} {σ : L2.St} {H : Hp} {Q : VK}
end
end Rh

set_option Elab.async false
set_option linter.all false
set_option maxRecDepth 100000
set_option maxHeartbeats 2000000
set_option autoImplicit false
namespace Rh
open PySem PySem.Spec PyProof.Rows L2 PpSet
section
variable [Tbs] {X : Cx} {W : WX}
end
end Rh

set_option Elab.async false
set_option linter.all false
set_option maxRecDepth 100000
set_option maxHeartbeats 2000000
set_option autoImplicit false
/-! sorted(xs) of data of any depth -/
namespace Rh
open PySem PySem.Spec PyProof.Rows L2
section
variable {α : Type} {le : α → α → Bool}
end
variable [Tbs]
section
variable {C : Ct} {μ : Mu} {H : Hp}
end
section
variable {X : Cx} {W : WX} {e : Expr} {es : List Expr} {ms : M (List D)} {pos p : Pos}
end
end Rh

set_option Elab.async false
set_option linter.all false
set_option maxRecDepth 100000
set_option maxHeartbeats 4000000
set_option autoImplicit false
/-! One run at most: what holds of a call for each of many readings holds for all of them at once. -/
namespace PySem
end PySem

set_option Elab.async false
set_option linter.all false
set_option maxRecDepth 100000
set_option maxHeartbeats 2000000
set_option autoImplicit false
/-! Words for a law's last steps, more of them. -/
namespace Rh
open PySem PySem.Spec PyProof.Rows L2
variable [Tbs]
section
variable {ρ : En} {h h1 : Hs}
end
end Rh

set_option Elab.async false
set_option linter.all false
set_option maxRecDepth 100000
set_option maxHeartbeats 2000000
set_option autoImplicit false
/-! min(xs), data of any depth: the first of the least -/
namespace Rh
open PySem PySem.Spec PyProof.Rows L2
variable [Tbs]
section
variable {X : Cx} {W : WX} {e : Expr} {es : List Expr} {ms : M (List D)} {pos p : Pos}
end
end Rh

set_option Elab.async false
set_option linter.all false
set_option maxRecDepth 100000
set_option maxHeartbeats 4000000
set_option autoImplicit false
/-! min(xs, key = f), f a def of the text that needs no box -/
namespace Rh
open PySem PySem.Spec PyProof.Rows L2
/-- what is tracked stays, tables aside -/
def KeepH (H H' : Hp) : Prop := ∀ b o, H b = some o → (∀ ps, o ≠ .tbl ps) → H' b = some o
theorem KeepH.refl {H : Hp} : KeepH H H := fun _ _ e _ => e
theorem KeepH.trans {H H1 H2 : Hp} (a : KeepH H H1) (b : KeepH H1 H2) : KeepH H H2 := fun c o e nt => b c o (a c o e nt) nt
theorem KeepH.sqL {K : PySem.W.Frag} {H H' : Hp} (k : KeepH H H') {a : Addr} {xs : List V} (h : SqL K H a xs) : SqL K H' a xs := by
  rcases h with (h | ⟨o, h⟩) | h
  · exact .inl (.inl (k _ _ h fun _ z => nomatch z))
  · exact .inl (.inr ⟨o, k _ _ h fun _ z => nomatch z⟩)
  · exact .inr h
variable [Tbs]
/-- how far the walk is: H1 the heap as it is now -/
structure GoodM (X : Cx) (pins : List (Addr × Obj)) (σ : L2.St) (H : Hp) (ch : List Addr) (H1 : Hp) (s1 : Shared) : Prop where
  inv : L2.Inv X pins σ H1 s1
  go : Go [] [] H [] H1
  tb : TbA H1
  fp : ∀ b ∈ ch, FpOk X pins H1 b
section
variable {X : Cx} {k : Nat} {f : Addr} {fd : FuncData} {pn : List Str} {fm : FM}
end
section
variable {X : Cx} {W : WX} {k : Nat} {f : Addr} {fd : FuncData} {pn : List Str} {fm : FM}
end
end Rh

set_option Elab.async false
set_option linter.all false
set_option maxRecDepth 100000
set_option maxHeartbeats 2000000
set_option autoImplicit false
/-! sorted(a dict), keys of any depth -/
namespace Rh
open PySem PySem.Spec PyProof.Rows L2
variable [Tbs]
section
variable {X : Cx}
end
section
variable {X : Cx} {W : WX} {e : Expr} {es : List Expr} {ms : M (List D)} {pos p : Pos}
end
end Rh

set_option Elab.async false
set_option linter.all false
set_option maxRecDepth 100000
set_option maxHeartbeats 4000000
set_option autoImplicit false
/-! Set comprehensions with two fors, whatever the members. -/
namespace Rh
open PySem PySem.Spec PyProof.Rows L2 PpSet
section
variable {P : Program} {w : World} {A : Around} {R : Result → Shared → Prop} {s : Shared} {el tA iA tB iB : Expr} {fA fB : List Expr} {sc : Scope} {ps : Pos} {itv D : Value} {en : Env}
end
end Rh

set_option Elab.async false
set_option linter.all false
set_option maxRecDepth 100000
set_option maxHeartbeats 4000000
set_option autoImplicit false
/-! The core of set comprehensions with two fors. -/
namespace Rh
open PySem PySem.Spec PyProof.Rows L2 PpSet
section
variable {X : Cx}
end
end Rh

set_option Elab.async false
set_option linter.all false
set_option maxRecDepth 100000
set_option maxHeartbeats 4000000
set_option autoImplicit false
/-! Sets of tuples of ints: the set is no box; it is told by its members, in any order. -/
namespace Rh
open PySem PySem.Spec PyProof.Rows L2 PpSet
variable [Tbs]
/-- what adding asks -/
def stpT (P : Program) (w : World) (K : PySem.W.Frag) (D : Addr) (y : V) (H : Hp) (Nx : Hp → Prop) : Prop := ∃ (b : Addr) (k : List Int) (L : List (Addr × List Int)), y = .ref b ∧ SqT K H b (k.map V.int) ∧ H D = some (SetTO P w D L) ∧ (∀ p ∈ L, SqT K H p.1 (p.2.map V.int)) ∧ L.length + 1 < 64 ∧
  ∀ L' : List (Addr × List Int), (k ∈ L.map (·.2) → L' = L) → (k ∉ L.map (·.2) → L'.Perm ((b, k) :: L)) → Nx (upd H D (SetTO P w D L'))
theorem sto_nt {P : Program} {w : World} {a : Addr} {L : List (Addr × List Int)} : ∀ ps, SetTO P w a L ≠ .tbl ps := fun _ z => nomatch z
theorem stay_sto {μ : Mu} {H : Hp} {l : Addr} {P : Program} {w : World} {L L' : List (Addr × List Int)} (e : H l = some (SetTO P w l L)) : Stay μ H μ (L2.upd H l (SetTO P w l L')) := by
  have ne : ∀ b o, H b = some o → (o ≠ SetTO P w l L) → L2.upd H l (SetTO P w l L') b = some o := fun b o eb hne => by
    have : b ≠ l := fun z => by subst z; rw [e] at eb; exact hne (Option.some.inj eb).symm
    rw [upd_ne this]; exact eb
  exact ⟨fun _ _ q => q, fun a xs q => ne a _ q (fun z => nomatch z), fun a o u q => ne a _ q (fun z => nomatch z)⟩
/-! the set as it is known -/
def InT (X : Cx) (l : Addr) (μ : Mu) (H : Hp) (ks : List (List Int)) : Prop := ∃ L : List (Addr × List Int), H l = some (SetTO X.prog X.w l L) ∧ (L.map (·.2)).Perm ks ∧ ∀ p ∈ L, RepV (ctX X) μ H (tupOf p.2) (.ref p.1)
theorem InT.go {X : Cx} {l : Addr} {μ μ' : Mu} {H H' : Hp} {ks : List (List Int)} {L0 : List Nat} {h : Hs} (q : InT X l μ H ks) (r : HR (ctX X) L0 μ H h) (nl : l ∉ μ) (g : Go L0 μ H μ' H') : InT X l μ' H' ks ∧ l ∉ μ' := by
  obtain ⟨L, e, p, rp⟩ := q
  exact ⟨⟨L, g.keep l _ e sto_nt nl, p, fun x hx => (rp x hx).go r g⟩, fun m => (g.new l m).elim nl fun z => z.not e sto_nt⟩
def insT (k : List Int) (ks : List (List Int)) : List (List Int) := if k ∈ ks then ks else k :: ks
theorem repT_sq {C : Ct} {μ : Mu} {H : Hp} {k : List Int} {b : Addr} (h : RepV C μ H (tupOf k) (.ref b)) : SqT C.K H b (k.map V.int) := by
  obtain ⟨a, e, q⟩ := repT h
  cases e; exact q
/-- one more -/
theorem InT.add {X : Cx} {l : Addr} {μ : Mu} {H : Hp} {ks : List (List Int)} {k : List Int} {y : V} {Nx : Hp → Prop} (q : InT X l μ H ks) (ry : RepV (ctX X) μ H (tupOf k) y) (room : ks.length + 1 < 64) (n : ∀ L L', H l = some (SetTO X.prog X.w l L) → InT X l μ (L2.upd H l (SetTO X.prog X.w l L')) (insT k ks) → Nx (L2.upd H l (SetTO X.prog X.w l L'))) :
    stpT X.prog X.w X.K l y H Nx := by
  obtain ⟨L, e, p, rp⟩ := q
  obtain ⟨b, vs, rfl, t, rl⟩ := id ry
  refine ⟨b, k, L, rfl, repT_sq ry, e, fun x hx => repT_sq (rp x hx), by have := p.length_eq; rw [List.length_map] at this; omega, fun L' c1 c2 => n L L' e ?_⟩
  have st : Stay μ H μ (L2.upd H l (SetTO X.prog X.w l L')) := stay_sto e
  unfold insT
  by_cases m : k ∈ L.map (·.2)
  · rw [if_pos (p.mem_iff.mp m)]
    have := c1 m
    subst this
    exact ⟨L', upd_same, p, fun x hx => (rp x hx).stay st⟩
  · rw [if_neg fun z => m (p.mem_iff.mpr z)]
    have c := c2 m
    refine ⟨L', upd_same, (show (L'.map (·.2)).Perm (k :: L.map (·.2)) from c.map (·.2)).trans (p.cons k), fun x hx => ?_⟩
    rcases List.mem_cons.mp (c.mem_iff.mp hx) with rfl | hx
    · exact RepV.stay st _ _ ry
    · exact (rp x hx).stay st
section
variable {X : Cx} {W : WX} {L0 lks1 : List Nat} {μ1 μ4 : Mu} {H1 H4 : Hp} {h1 h3 hf : Hs} {ρ1 : En} {σ2 : L2.St} {l : Addr} {ks0 ksf : List (List Int)} {ds1 : List D} {t1 : TM} {conds1 : M Bool} {elt : M D} {vs1 : List Nat} {J1 : It} {Nx : Hp → Prop}
end
end Rh

set_option Elab.async false
set_option linter.all false
set_option maxRecDepth 100000
set_option maxHeartbeats 4000000
set_option autoImplicit false
/-! Set comprehensions of tuples of ints, with one for and with two; sorted, len of them. -/
namespace Rh
open PySem PySem.Spec PyProof.Rows L2 PpSet
variable [Tbs]
section
variable {X : Cx} {W : WX} {σ : L2.St} {H : Hp} {Q : VK}
end
section
variable {X : Cx} {W : WX}
end
end Rh

set_option Elab.async false
set_option linter.all false
set_option maxRecDepth 100000
set_option maxHeartbeats 2000000
set_option autoImplicit false
/-! What a law draws from: cells, and the urn made of them. -/
namespace Rh
open PySem PySem.Spec PyProof.Rows L2
variable [Tbs]
theorem scr_nlm {sc : D} {ns : List Int} {h : Hs} (hs : sc = .scr (ns.map .int) ∨ ∃ b0, sc = .box b0 ∧ b0 < h.n ∧ h.get b0 = some (.lst (ns.map .int))) : sc ≠ .lm := by
  rcases hs with rfl | ⟨_, rfl, _⟩ <;> exact fun z => nomatch z
/-- from every script to the law's two forms of it -/
theorem law_both {f : FM} (k : ∀ (ns : List Int) (_ : ns.length ≤ 63) (_ : ∀ z ∈ ns, Builtin.Int.intBits z ≤ 1048576) (h : Hs) (_ : h.n < 900000) (_ : h.lk = []) (sc : D) (_ : sc = .scr (ns.map .int) ∨ ∃ b0, sc = .box b0 ∧ b0 < h.n ∧ h.get b0 = some (.lst (ns.map .int))), ∃ k, f [sc] h = some (.rt (.bl true) k))
    (ns : List Int) (hl : ns.length ≤ 63) (hb : ∀ z ∈ ns, Builtin.Int.intBits z ≤ 1048576) : (∃ h, f [.scr (ns.map D.int)] h0 = some (.rt (.bl true) h)) ∧ ∃ h, f [.box 0] (hL ns) = some (.rt (.bl true) h) :=
  ⟨k ns hl hb h0 (by decide) rfl _ (.inl rfl), k ns hl hb (hL ns) (by show 1 < 900000; decide) rfl _ (.inr ⟨0, rfl, Nat.zero_lt_one, rfl⟩)⟩
end Rh

set_option Elab.async false
set_option linter.all false
set_option maxRecDepth 100000
set_option maxHeartbeats 2000000
set_option autoImplicit false
/-! sorted(set(t)), t a tuple of ints -/
namespace Rh
open PySem PySem.Spec PyProof.Rows L2 PpSet
variable [Tbs] {X : Cx} {W : WX}
end Rh

set_option Elab.async false
set_option linter.all false
set_option maxRecDepth 100000
set_option maxHeartbeats 2000000
set_option autoImplicit false
/-! list(d.values()) -/
namespace Rh
open PySem PySem.Spec PyProof.Rows L2
variable [Tbs]
section
variable {X : Cx} {W : WX}
end
end Rh

set_option Elab.async false
set_option linter.all false
set_option maxRecDepth 100000
set_option maxHeartbeats 2000000
set_option autoImplicit false
/-! sorted(set(xs)), xs a list of tuples of ints -/
namespace Rh
open PySem PySem.Spec PyProof.Rows L2
variable [Tbs]
section
variable {X : Cx} {W : WX}
end
end Rh

set_option Elab.async false
set_option linter.all false
set_option maxRecDepth 100000
set_option maxHeartbeats 2000000
set_option autoImplicit false
/-! d.setdefault(k, v), keys of any kind; for x in d.values() -/
namespace Rh
open PySem PySem.Spec PyProof.Rows L2
variable [Tbs]
section
variable {X : Cx}
end
section
variable {X : Cx} {W : WX} {o e f : Expr} {es : List Expr} {m : M D} {ms : M (List D)} {apos cpos : Pos}
end
end Rh

set_option Elab.async false
set_option linter.all false
set_option maxRecDepth 100000
set_option maxHeartbeats 2000000
set_option autoImplicit false
/-! for x in d.values() -/
namespace Rh
open PySem PySem.Spec PyProof.Rows L2
variable [Tbs]
section
variable {X : Cx} {W : WX} {tg : Expr}
end
end Rh

set_option Elab.async false
set_option linter.all false
set_option maxRecDepth 100000
set_option maxHeartbeats 2000000
set_option autoImplicit false
namespace Rh
open PySem PySem.Spec PyProof.Rows L2
variable [Tbs]
section
variable {X : Cx} {W : WX} {o e : Expr} {es : List Expr} {m : M D} {ms : M (List D)} {apos cpos : Pos}
end
end Rh

set_option Elab.async false
set_option linter.all false
set_option maxRecDepth 100000
set_option maxHeartbeats 2000000
set_option autoImplicit false
namespace Rh
open PySem PySem.Spec PyProof.Rows L2
variable [Tbs]
/-! ### shorter words -/
theorem ev {X : Cx} {W : WX} {x : Str} {pos : Pos} (i : Nat) (hN : X.N[i]? = some x := by rfl) (hv : Vis X.env.scope x := by first | exact .inl rfl | exact .inr (.inl rfl) | exact .inr (.inr rfl)) (hd : (x == ("__debug__" : Str)) = false := by decide) (hcd : (x == ("__classdict__" : Str)) = false := by decide) : PE X (.Name x pos) (rd X W (mVar i)) := e_var (i := i) hN hv hd hcd
end Rh

set_option Elab.async false
set_option linter.all false
set_option maxRecDepth 100000
set_option maxHeartbeats 2000000
set_option autoImplicit false
namespace Rh
open PySem PySem.Spec PyProof.Rows L2
variable [Tbs]
/-! ### dicts of the module's top: texts to ints -/
structure DctK (K : PySem.W.Frag) (w : World) (mg : Str → Option Value) (x : Str) (kvs : List (Str × Int)) : Prop where
  ex : ∃ a es n, mg x = some (.ref a) ∧ L2.KDict K w a es n ∧ Paired (fun (p : Str × Int) (e : DictEntry) => (∃ t, e.key = .str p.1 t) ∧ ∃ t, e.val = .int p.2 t) kvs es.toList
section
variable {X : Cx} {x : Str} {kvs : List (Str × Int)}
end
end Rh

set_option Elab.async false
set_option linter.all false
set_option maxRecDepth 100000
set_option maxHeartbeats 2000000
set_option autoImplicit false
namespace Rh
open PySem PySem.Spec PyProof.Rows L2
variable [Tbs]
/-! ### [f, g, h][i]() -/
section
variable {X : Cx} {W : WX} {k : Nat}
end
end Rh

set_option Elab.async false
set_option linter.all false
set_option maxRecDepth 100000
set_option maxHeartbeats 2000000
set_option autoImplicit false
namespace Rh
open PySem PySem.Spec PyProof.Rows L2
variable [Tbs]
/-! ### x is None, x is True -/
def dIsB (neg : Bool) (h : Hs) (d e : D) : Option Nv := match d, e with
  | .bl a, .bl b => some (.v (.bl (match neg with | true => !decide (a = b) | false => decide (a = b))))
  | d, e => dIs neg h d e
section
variable {X : Cx}
theorem w_isB : CmpW X .Is (dIsB false) := by
  refine ⟨_, OpR.or' op_is_bl op_isN, fun H L μ h x y d e n Q hr r1 r2 hf want => ?_⟩
  unfold dIsB at hf
  split at hf
  · rename_i a b
    cases hf
    exact .inl ⟨a, b, r1, r2, want.old rfl⟩
  · exact .inr (cov_is H L μ h x y d e n Q hr r1 r2 hf want)
end
end Rh

set_option Elab.async false
set_option linter.all false
set_option maxRecDepth 100000
set_option maxHeartbeats 2000000
set_option autoImplicit false
namespace Rh
open PySem PySem.Spec PyProof.Rows L2
variable [Tbs]
open PySem.W PySem.Calls PySem.HandSPX
/-! ### exceptions made and not raised -/
theorem xoO_ok {P : Program} {w : World} {H : Hp} {h : Heap} {a : Addr} {cls : Value} {d : Option Addr} {oe : Obj} {vs : Array Value} (e : h.get? a = some oe) (c : oe.cls = cls) (cd : oe.dict = d) (da : oe.data = .fields vs) : ObjOk P w H h a (XoO cls d a) :=
  ⟨⟨oe, vs, e, c, cd, da⟩, ⟨oe, e⟩, fun _ _ ⟨o, v, q, r⟩ k => ⟨o, v, k o q, r⟩⟩
section
variable {X : Cx} {W : WX} {C : Addr} {fld : Str}
theorem pe_mkX0 {x : Str} {bmB : List Value} {B newId initId : String} {p pos : Pos} (F : ExcBaseFacts B newId initId bmB) (q : excIn X.K C bmB newId = true) (gC : X.mg x = some (.ref C)) (kC : keepIn X.K (.ref C) = true) (hg : Gl X x)
    (hdb : (x == ("__debug__" : Str)) = false := by decide) : PE X (.Call (.Name x p) [] [] pos) (fun _ H Q => ∀ a, H a = none → Q (.ref a) (upd H a (XoO (.ref C) none a))) := by
  refine ⟨fun pins s σ H Q J w => wpAny_Call_Name_kw (ld_glob J hg gC (PySem.W.callWith_K0 J.kIn kC ?_) hdb)⟩
  show wpAny _ _ (call (.ref C) []) _ _ _
  obtain ⟨bm, N, nm, qn, bs, hdct, sn, sub, ab, col, dd, k0, k1, k2, k3, k5, mN, hC, hN, hni, T⟩ := exc_obj J.kIn q
  refine wpAny_call_exc_subT F T hC hN hni (fun h' a hm => ?_) (by show 0 ≤ sizeLine; exact Nat.zero_le _)
  have hn : H a = none := J.hok.gone hm.new
  obtain ⟨t, ht, _, _⟩ := hm.there
  exact ⟨.ref a, _, J.laidN hm.keeps hm.new hn (xoO_ok ht rfl rfl rfl), rfl, w a hn⟩
theorem pe_mkX1 {cn : Str} {a : Expr} {ta : TA} {p pos : Pos} {k : Nat} (T : Mkr X.prog X.w X.K C fld) (gC : X.mg cn = some (.ref C)) (kC : keepIn X.K (.ref C) = true) (hr : Room k X.A) (ha : PA X [a] ta) (hg : Gl X cn)
    (hdb : (cn == ("__debug__" : Str)) = false := by decide) (he : starEach (a :: []) X.env = (false, eval a X.env) :: starEach [] X.env := by rfl) (hpl : (backTo pos (starEach [] X.env)).any (·.1) = false := by rfl) :
    PE X (.Call (.Name cn p) [a] [] pos) (fun σ H Q => ta σ H fun vs H1 => ∃ v, vs = [v] ∧ ∀ e d od, H1 e = none → H1 d = none → d ≠ e → Q (.ref e) (upd (upd H1 d (.frz od (.own e))) e (XoO (.ref C) (some d) e))) := by
  refine ⟨fun pins s σ H Q J w => wpAny_Call_Name_kw (ld_glob J hg gC (PySem.W.callWith_K (h₀ := X.base) J.ok.mod.kin kC (thn (ha.run pos pins s σ H _ J w) fun us s1 hh => ?_) he hpl) hdb)⟩
  obtain ⟨vs, H1, J1, r1, v, ev, q1⟩ := hh
  subst ev
  refine ⟨J1.kIn, ?_⟩
  obtain ⟨v', rfl, rv⟩ := vals1 r1
  show wpAny _ _ (call (.ref C) [v']) _ _ _
  have hlim := J1.nolimit
  obtain ⟨hp, g, dr, tk, os⟩ := s1
  refine wpAny_call (T.made _ _ _ v' J1.kIn hlim (by have := hr.dp; omega) fun h' tk' e d M => ?_)
  obtain ⟨oe, fv, hoe, c1, c2, c3, _⟩ := M.obj
  obtain ⟨od, hod, _⟩ := lookIn_ns M.ns
  obtain ⟨G', g1, g2⟩ := restrict h' fun b => decide (b ≠ e)
  have gk : ∀ b, b ≠ e → G'.get? b = h'.get? b := fun b hb => g1 b (decide_eq_true hb)
  have ge : G'.get? e = none := g2 e (by simp)
  have old : ∀ b o, hp.get? b = some o → G'.get? b = some o := fun b o q => (gk b (Nat.ne_of_lt (Nat.lt_of_lt_of_le (Heap.lt_size q) M.new))).trans (M.keep b o q)
  have gd : G'.get? d = some od := (gk d M.ne).trans hod
  have J2 : L2.Inv X pins σ (upd H1 d (.frz od (.own e))) ⟨G', g, dr, tk', os⟩ := J1.laid (t' := tk') (o := .frz od (.own e)) old M.big ⟨gd, od, gd⟩
  have ne : upd H1 d (.frz od (.own e)) e = none := by rw [upd_ne (Ne.symm M.ne)]; exact J1.hok.fresh M.new
  have back : ∀ b u, G'.get? b = some u → h'.get? b = some u := fun b u q => by
    by_cases hb : b = e
    · rw [hb, ge] at q; cases q
    · exact (gk b hb).symm.trans q
  exact ⟨.ref e, _, J2.laidN (h' := h') (t' := tk') back ge ne (xoO_ok hoe c1 c2 c3), rfl, q1 e d od (J1.hok.fresh M.new) (J1.hok.fresh M.big) M.ne⟩
def mNew (o : O) : M D := fun _ h => (Nv.n o).lift h
theorem e_mkX0 {x : Str} {bmB : List Value} {B newId initId : String} {p pos : Pos} (F : ExcBaseFacts B newId initId bmB) (q : excIn X.K C bmB newId = true) (gC : X.mg x = some (.ref C)) (kC : keepIn X.K (.ref C) = true) (hg : Gl X x)
    (hdb : (x == ("__debug__" : Str)) = false := by decide) : PE X (.Call (.Name x p) [] [] pos) (rd X W (mNew (.exo x []))) := by
  refine pe_imp (pe_mkX0 F q gC kC hg hdb) fun σ H Q ⟨ρ, L, μ, h, rel, k⟩ a hn => ?_
  obtain ⟨m, em, want⟩ := Sat.lift (n := some (.n (.exo x []))) rel.hr k
  cases em
  obtain ⟨s1, s2⟩ := same_new (o := XoO (.ref C) none a) hn
  exact want (.ref a) _ s1 s2 ⟨a, rfl, hn, fun r => ⟨C, none, gC, upd_same, fun _ z => nomatch z⟩⟩
def mNew1 (o : O) (m : M D) : M D := mBind m fun _ => mNew o
theorem e_mkX1 {cn : Str} {a : Expr} {m : M D} {p pos : Pos} {k : Nat} (T : Mkr X.prog X.w X.K C fld) (gC : X.mg cn = some (.ref C)) (kC : keepIn X.K (.ref C) = true) (hr : Room k X.A) (ha : PE X a (rd X W m)) (hg : Gl X cn)
    (hdb : (cn == ("__debug__" : Str)) = false := by decide) (he : starEach (a :: []) X.env = (false, eval a X.env) :: starEach [] X.env := by rfl) (hpl : (backTo pos (starEach [] X.env)).any (·.1) = false := by rfl) :
    PE X (.Call (.Name cn p) [a] [] pos) (rd X W (mNew1 (.exo cn []) m)) := by
  refine pe_imp (pe_mkX1 T gC kC hr (pa_cons ha pa_nil he) hg hdb he hpl) fun σ H Q q => rdG_imp (rdG_bind q) fun ρ L d0 h1 μ1 H1 ⟨rel1, q1⟩ v rv => ?_
  refine ⟨v, rfl, fun e d od he hd ne => ?_⟩
  obtain ⟨m, em, want⟩ := Sat.lift (n := some (.n (.exo cn []))) rel1.hr q1
  cases em
  obtain ⟨s1, s2⟩ := same_new (o := HO.frz od (.own e)) hd
  have he' : upd H1 d (.frz od (.own e)) e = none := by rw [upd_ne (Ne.symm ne)]; exact he
  obtain ⟨s3, s4⟩ := same_new (o := XoO (.ref C) (some d) e) he'
  refine want (.ref e) _ (fun b u q => s3 b u (s1 b u q)) (fun b q => s2 b (s4 b q)) ⟨e, rfl, he, fun r => ⟨C, some d, gC, upd_same, fun dx z => ?_⟩⟩
  cases z
  exact ⟨od, by rw [upd_ne ne]; exact upd_same⟩
/-! isinstance(x, T) -/
def IsTbl (X : Cx) (cv : Value) (tbl : List (Str × Bool)) : Prop := ∀ c b, tbl.lookup c = some b → ∃ D, X.mg c = some (.ref D) ∧ L2.ExcC X.K D ∧ kitOne X.K (.ref D) cv = some b
theorem it_nil {cv : Value} : IsTbl X cv [] := fun _ _ h => nomatch h
theorem it_cons {cv : Value} {c : Str} {b : Bool} {D : Addr} {tbl : List (Str × Bool)} (hm : X.mg c = some (.ref D)) (E : L2.ExcC X.K D) (kt : kitOne X.K (.ref D) cv = some b) (r : IsTbl X cv tbl) : IsTbl X cv ((c, b) :: tbl) := fun c' b' h => by
  rw [List.lookup_cons] at h
  split at h
  · rename_i e
    cases h
    rw [eq_of_beq e]
    exact ⟨D, hm, E, kt⟩
  · exact r c' b' h
def rIsX (K : Frag) : List V → Hp → VK → Prop := fun xs H Q => ∃ (a D : Addr) (d : Option Addr) (c : V) (cv : Value) (b : Bool), xs = [.ref a, c] ∧ H a = some (XoO (.ref D) d a) ∧ (∀ dx, d = some dx → ∃ od, H dx = some (.frz od (.own a))) ∧ (∀ u, RelV c u → u = cv) ∧ L2.ExcC K D ∧ kitOne K (.ref D) cv = some b ∧ Q (.bl b) H
theorem call_isV : CallR X (.builtin "isinstance") (rIsX X.K) := by
  intro pins s σ H xs us Q J r w
  obtain ⟨a, D, d, c, cv, b, rfl, ha, hd, hcv, E, kt, q⟩ := w
  obtain ⟨u1, u2, rfl, r1, r2⟩ := vals2 r
  cases r1
  have ec := hcv _ r2
  subst ec
  obtain ⟨⟨oe, vs, e1, e2, e3, e4⟩, _, _⟩ := J.hok a _ ha
  have hcl : (clsIn X.K D).isSome = true := by
    obtain ⟨cd, hc, _⟩ := PySem.W.any_some E.hd
    rw [hc]; rfl
  have nc : PySem.W.notCls oe = true := by unfold PySem.W.notCls; rw [e4] <;> rfl
  obtain ⟨od, I0⟩ : ∃ od, PySem.W.InstAt s.heap a oe D od := by
    cases d with
    | none => exact ⟨none, e1, e2, nc, by rw [e3] <;> trivial⟩
    | some dx =>
      obtain ⟨od, hx⟩ := hd dx rfl
      obtain ⟨h1, _⟩ := (show ObjOk X.prog X.w H s.heap dx (.frz od (.own a)) from J.hok dx _ hx)
      exact ⟨some od, e1, e2, nc, by rw [e3]; exact h1⟩
  exact PySem.W.kia_one (PySem.W.kitx_exc hcl E.hg E.hk E.hs E.ha E.hn E.ht E.hm) J.kIn I0 kt (fun z => nomatch z) fun tk => ⟨.bl b, H, J.kept (t' := tk) fun _ _ z => z, rfl, q⟩
def mIsX (tbl : List (Str × Bool)) (m : M D) : M D := mBind m fun d => fun _ h => match d with
  | .box n => (match h.get n with
    | some (.exo c _) => (match tbl.lookup c with
      | some b => some (.ok (.bl b) h)
      | none => none)
    | _ => none)
  | _ => none
theorem e_isX {a t : Expr} {m : M D} {tbl : List (Str × Bool)} {cv : Value} {c : V} {p pos : Pos} (hT : IsTbl X cv tbl) (ht : PE X t (tC c)) (hcv : ∀ u, RelV c u → u = cv) (hg : Gl X "isinstance") (hm : X.mg "isinstance" = none) (hvI : bootBuiltins "isinstance" = some (.builtin "isinstance")) (ha : PE X a (rd X W m))
    (he : starEach [a, t] X.env = (false, eval a X.env) :: starEach [t] X.env := by rfl) (he2 : starEach [t] X.env = (false, eval t X.env) :: starEach [] X.env := by rfl) (hpl : (backTo pos (starEach [t] X.env)).any (·.1) = false := by rfl) :
    PE X (.Call (.Name "isinstance" p) [a, t] [] pos) (rd X W (mIsX tbl m)) := by
  refine pe_imp (pe_callB call_isV hg hm hvI (pa_cons ha (pa_cons ht pa_nil he2) he) (by decide) (by decide) he hpl) fun σ H Q q => rdG_imp (rdG_bind q) fun ρ L d h1 μ1 H1 ⟨rel1, q1⟩ x rx => ?_
  cases d with
  | box n =>
    dsimp only at q1
    obtain ⟨ad, rfl, m1⟩ := rx
    obtain ⟨o, e3, q3⟩ := rel1.hr.ob n ad m1
    rw [e3] at q1
    cases o with
    | exo cn fs =>
      dsimp only at q1
      cases e2 : tbl.lookup cn with
      | none => rw [e2] at q1; exact q1.none
      | some b =>
        rw [e2] at q1
        obtain ⟨ac, dd, g1, g2, g3⟩ := q3
        obtain ⟨Da, k1, k2, k3⟩ := hT cn b e2
        have g1 : X.mg cn = some (.ref ac) := g1
        rw [k1] at g1; cases g1
        exact ⟨ad, ac, dd, c, cv, b, rfl, g2, g3, hcv, k2, k3, q1 μ1 H1 .refl rel1.hr (.bl b) rfl⟩
    | _ => exact q1.none
  | _ => exact q1.none
end
end Rh

set_option Elab.async false
set_option linter.all false
set_option maxRecDepth 100000
set_option maxHeartbeats 2000000
set_option autoImplicit false
namespace Rh
open PySem PySem.Spec PyProof.Rows L2
variable [Tbs]
open PySem.W PySem.Calls PySem.HandSPX
/-! ### X(field=v) -/
structure MkrK (P : Program) (w : World) (K : Frag) (C : Addr) (fld : Str) : Prop where
  made : ∀ (A : Around) (R : Result → Shared → Prop) (s : Shared) (v : Value), K.In s.heap → s.heap.NoLimit → A.depth + 1 < recursionLimit →
    (∀ h' tk e d, MadeX fld s.heap h' e C d v → R (.ok (.ret (.ref e))) { s with heap := h', toks := tk }) → codeAny (model P w) A (.call (.ref C) ⟨[], [(fld, v)]⟩) R s
namespace ExPlace
section
variable {prog : Program} {w : World} {A : Around} {R : Result → Shared → Prop} {s : Shared} {K : Frag} {C fI : Addr} {qn : Str}
theorem init_runsK (T : Txt K C fI qn) {x t0 : Addr} {v : Value} (X : K.In s.heap) (hlim : s.heap.NoLimit) (hx : s.heap.get? x = some (excO C t0)) (hroom : A.depth < recursionLimit)
    (hq : ∀ h' tk dx, Behind s.heap h' x C dx t0 v → R (.ok (.ret .none)) { s with heap := h', toks := tk }) :
    codeAny (model prog w) A (.call (.ref fI) ⟨[.ref x], [(("place" : Str), v)]⟩) R s := by
  obtain ⟨oc, od, doc, pm, an, cdv, ct, osl, p1, p2, q1, q2, q3, q4, ho, hcd⟩ := T.fn
  obtain ⟨nm, q, N, bs, sn, sub, ab, col, dd, k0, k1, k2, k3, k5, hC⟩ := T.cls
  have hcl : clsIn K C = some { name := nm, bases := bs, mro := .ref C :: bmB, ns := N, qualname := q, hasDict := true, slotNames := sn, subclasses := sub, abstract := ab, collection := col, hasDel := false } := by unfold clsIn; rw [hC] <;> rfl
  refine Att.call_fn (binds := [("self", .ref x), ("place", v)]) X hlim ho hcd hroom (BindsTo.of_eq (by first | rfl | with_unfolding_all rfl)) (by first | rfl | decide | with_unfolding_all rfl) (fun s₁ IC => ?_) rfl rfl rfl
  obtain ⟨h₁, tk₁, rfl⟩ := IC.toInCall.same
  have k : ∀ b o, s.heap.get? b = some o → h₁.get? b = some o := IC.toInCall.keep
  have hn := IC.toInCall.ns
  have X₁ : K.In h₁ := X.keeps k
  have hx₁ := k _ _ hx
  show wpAny _ _ (execs _ _) _ _ _
  refine wpAny_execs_cons (plainObj_wpAny_Assign_Attribute ?_)
  refine ld_loc (v := v) hn (by first | rfl | with_unfolding_all rfl | kernel_rfl) (ld_loc (v := .ref x) hn (by first | rfl | with_unfolding_all rfl | kernel_rfl) ?_)
  refine set_plain X₁ (ox := excO C t0) (od := none) ⟨hx₁, rfl, rfl, trivial⟩ T.sa ?_
  refine first_field F.store_LookupError X₁ hx₁ hcl T.over rfl T.no (fun h₃ tk₃ dx k₃ dn dne hx₃ hn₃ => ?_)
  show wpAny _ _ (execs _ _) _ _ _
  have z : s.heap.objs.size < h₁.objs.size := hn.lt
  exact wpAny_execs_nil (hq h₃ tk₃ dx ⟨fun b o hb e => k₃ b o hb (k b o e), hx₃, Nat.le_of_lt (Nat.lt_of_lt_of_le z dn), dne, hn₃⟩)
theorem mkrK (T : Txt K C fI qn) : MkrK prog w K C "place" := by
  refine ⟨fun A R s v X hlim hroom hq => ?_⟩
  obtain ⟨nm, q, N, bs, sn, sub, ab, col, dd, k0, k1, k2, k3, k5, hC⟩ := T.cls
  obtain ⟨hp, g, dr, tk, os⟩ := s
  have k : ∀ b o, hp.get? b = some o → ((hp.push (kdv_tup [])).push (excO C hp.objs.size)).get? b = some o := fun b o e => Heap.get?_push_of_some _ (Heap.get?_push_of_some _ e)
  have hget : ((hp.push (kdv_tup [])).push (excO C hp.objs.size)).get? (hp.objs.size + 1) = some (excO C hp.objs.size) := by heap_get
  refine call_ownK F.excBase_LookupError (fun _ => rfl) (X _ _ hC) (looks_findIn X T.ini) (fun self => bind_fn X self T.tI) ?_
  refine init_runsK (s := ⟨(hp.push (kdv_tup [])).push (excO C hp.objs.size), g, dr, tk, os⟩) T (X.keeps k) (hlim.keeps k) hget ?_ fun h' tk' dx ⟨k', hx, dn, dne, hns⟩ => ?_
  · show A.depth + 1 < recursionLimit
    exact hroom
  · have old : ∀ b o, hp.get? b = some o → h'.get? b = some o := fun b o e => k' b o (Nat.ne_of_lt (Nat.lt_succ_of_lt (Heap.lt_size e))) (k b o e)
    have z : hp.objs.size + 1 + 1 ≤ dx := by
      first
        | (simpa only [Heap.size_push] using dn)
        | exact dn
        | (have q := dn; rw [Heap.size_push, Heap.size_push] at q; exact q)
    exact ⟨rfl, hq h' tk' (hp.objs.size + 1) dx ⟨old, Nat.le_succ _, ⟨_, _, hx, rfl, rfl, rfl, rfl⟩, Nat.le_trans (Nat.le_trans (Nat.le_succ _) (Nat.le_succ _)) z, dne, hns⟩⟩
end
end ExPlace
namespace ExLine
section
variable {prog : Program} {w : World} {A : Around} {R : Result → Shared → Prop} {s : Shared} {K : Frag} {C fI : Addr} {qn : Str}
theorem init_runsK (T : Txt K C fI qn) {x t0 : Addr} {v : Value} (X : K.In s.heap) (hlim : s.heap.NoLimit) (hx : s.heap.get? x = some (excO C t0)) (hroom : A.depth < recursionLimit)
    (hq : ∀ h' tk dx, Behind s.heap h' x C dx t0 v → R (.ok (.ret .none)) { s with heap := h', toks := tk }) :
    codeAny (model prog w) A (.call (.ref fI) ⟨[.ref x], [(("line" : Str), v)]⟩) R s := by
  obtain ⟨oc, od, doc, pm, an, cdv, ct, osl, p1, p2, q1, q2, q3, q4, ho, hcd⟩ := T.fn
  obtain ⟨nm, q, N, bs, sn, sub, ab, col, dd, k0, k1, k2, k3, k5, hC⟩ := T.cls
  have hcl : clsIn K C = some { name := nm, bases := bs, mro := .ref C :: bmB, ns := N, qualname := q, hasDict := true, slotNames := sn, subclasses := sub, abstract := ab, collection := col, hasDel := false } := by unfold clsIn; rw [hC] <;> rfl
  refine Att.call_fn (binds := [("self", .ref x), ("line", v)]) X hlim ho hcd hroom (BindsTo.of_eq (by first | rfl | with_unfolding_all rfl)) (by first | rfl | decide | with_unfolding_all rfl) (fun s₁ IC => ?_) rfl rfl rfl
  obtain ⟨h₁, tk₁, rfl⟩ := IC.toInCall.same
  have k : ∀ b o, s.heap.get? b = some o → h₁.get? b = some o := IC.toInCall.keep
  have hn := IC.toInCall.ns
  have X₁ : K.In h₁ := X.keeps k
  have hx₁ := k _ _ hx
  show wpAny _ _ (execs _ _) _ _ _
  refine wpAny_execs_cons (plainObj_wpAny_Assign_Attribute ?_)
  refine ld_loc (v := v) hn (by first | rfl | with_unfolding_all rfl | kernel_rfl) (ld_loc (v := .ref x) hn (by first | rfl | with_unfolding_all rfl | kernel_rfl) ?_)
  refine set_plain X₁ (ox := excO C t0) (od := none) ⟨hx₁, rfl, rfl, trivial⟩ T.sa ?_
  refine first_field F.store_ValueError X₁ hx₁ hcl T.over rfl T.no (fun h₃ tk₃ dx k₃ dn dne hx₃ hn₃ => ?_)
  show wpAny _ _ (execs _ _) _ _ _
  have z : s.heap.objs.size < h₁.objs.size := hn.lt
  exact wpAny_execs_nil (hq h₃ tk₃ dx ⟨fun b o hb e => k₃ b o hb (k b o e), hx₃, Nat.le_of_lt (Nat.lt_of_lt_of_le z dn), dne, hn₃⟩)
theorem mkrK (T : Txt K C fI qn) : MkrK prog w K C "line" := by
  refine ⟨fun A R s v X hlim hroom hq => ?_⟩
  obtain ⟨nm, q, N, bs, sn, sub, ab, col, dd, k0, k1, k2, k3, k5, hC⟩ := T.cls
  obtain ⟨hp, g, dr, tk, os⟩ := s
  have k : ∀ b o, hp.get? b = some o → ((hp.push (kdv_tup [])).push (excO C hp.objs.size)).get? b = some o := fun b o e => Heap.get?_push_of_some _ (Heap.get?_push_of_some _ e)
  have hget : ((hp.push (kdv_tup [])).push (excO C hp.objs.size)).get? (hp.objs.size + 1) = some (excO C hp.objs.size) := by heap_get
  refine call_ownK F.excBase_ValueError (fun _ => rfl) (X _ _ hC) (looks_findIn X T.ini) (fun self => bind_fn X self T.tI) ?_
  refine init_runsK (s := ⟨(hp.push (kdv_tup [])).push (excO C hp.objs.size), g, dr, tk, os⟩) T (X.keeps k) (hlim.keeps k) hget ?_ fun h' tk' dx ⟨k', hx, dn, dne, hns⟩ => ?_
  · show A.depth + 1 < recursionLimit
    exact hroom
  · have old : ∀ b o, hp.get? b = some o → h'.get? b = some o := fun b o e => k' b o (Nat.ne_of_lt (Nat.lt_succ_of_lt (Heap.lt_size e))) (k b o e)
    have z : hp.objs.size + 1 + 1 ≤ dx := by
      first
        | (simpa only [Heap.size_push] using dn)
        | exact dn
        | (have q := dn; rw [Heap.size_push, Heap.size_push] at q; exact q)
    exact ⟨rfl, hq h' tk' (hp.objs.size + 1) dx ⟨old, Nat.le_succ _, ⟨_, _, hx, rfl, rfl, rfl, rfl⟩, Nat.le_trans (Nat.le_trans (Nat.le_succ _) (Nat.le_succ _)) z, dne, hns⟩⟩
end
end ExLine
end Rh

set_option Elab.async false
set_option linter.all false
set_option maxRecDepth 100000
set_option maxHeartbeats 2000000
set_option autoImplicit false
namespace Rh
open PySem PySem.Spec PyProof.Rows L2
variable [Tbs]
open PySem.W PySem.Calls PySem.HandSPX
/-! ### raise X(field=e) -/
section
variable {X : Cx} {W : WX} {C : Addr} {fld : Str}
theorem pmk_oneK {cn : Str} {kws : List Keyword} {tk0 : TA} {p pos : Pos} {k : Nat} (T : MkrK X.prog X.w X.K C fld) (gC : X.mg cn = some (.ref C)) (kC : keepIn X.K (.ref C) = true) (r : Raises X (.ref C)) (hr : Room k X.A) (hkw : PK X kws tk0) (hg : Gl X cn)
    (hall : (backToKw pos (keywordEach kws X.env)).all (·.1.isSome) = true := by rfl) (hks : (backToKw pos (keywordEach kws X.env)).filterMap (·.1) = [fld] := by rfl)
    (hdb : (cn == ("__debug__" : Str)) = false := by decide) (hpl : ((backTo pos (starEach [] X.env)).any (·.1) || (backToKw pos (keywordEach kws X.env)).any (·.1.isNone)) = false := by rfl) :
    PMk X (.Call (.Name cn p) [] kws pos) (tMk1 C fld tk0) := by
  intro pins s σ H Q I w
  refine wpAny_Call_Name_kw (ld_glob I hg gC (PySem.W.callWith_KW0 (h₀ := X.base) I.ok.mod.kin kC hall (thn (hkw.run pos pins s σ H _ I w) fun us s1 hh => ?_) hpl) hdb)
  obtain ⟨vs, H1, I1, r1, v, ev, q1⟩ := hh
  subst ev
  refine ⟨I1.kIn, ?_⟩
  obtain ⟨v', rfl, rv⟩ := vals1 r1
  rw [hks]
  show wpAny _ _ (call (.ref C) [] [(fld, v')]) _ _ _
  have hlim := I1.nolimit
  obtain ⟨hp, g, dr, tk, os⟩ := s1
  refine wpAny_call (T.made _ _ _ v' I1.kIn hlim (by have := hr.dp; omega) fun h' tk' e d M => ?_)
  show MkP X pins σ Q (.ref e) ⟨h', g, dr, tk', os⟩
  obtain ⟨oe, fv, hoe, hc, hd, hdat, h1⟩ := M.obj
  have hns := M.ns
  obtain ⟨G', g1, g2⟩ := restrict h' fun b => decide (b ≠ e)
  have gk : ∀ b, b ≠ e → G'.get? b = h'.get? b := fun b hb => g1 b (decide_eq_true hb)
  have ge : G'.get? e = none := g2 e (by simp)
  have old : ∀ b o, hp.get? b = some o → G'.get? b = some o := fun b o q => (gk b (Nat.ne_of_lt (Nat.lt_of_lt_of_le (Heap.lt_size q) M.new))).trans (M.keep b o q)
  have ob : ObjOk X.prog X.w (upd H1 d (.xd [(fld, v)])) G' d (.xd [(fld, v)]) :=
    ⟨_, hns.at (fun o q => (gk d M.ne).trans q), fun f => relO_one rv f⟩
  have J : L2.Inv X pins σ (upd H1 d (.xd [(fld, v)])) ⟨G', g, dr, tk', os⟩ := I1.laid (t' := tk') old M.big ob
  refine ⟨e, oe, fv, ⟨G', g, dr, tk', os⟩, _, .ref C, some d, rfl, J, fun b o q => ?_, ge, hoe, ⟨hc, hd⟩, hdat, h1, ?_, rfl, I1.bare, r, q1 d (I1.hok.fresh M.big)⟩
  · by_cases hb : b = e
    · have q' : G'.get? b = some o := q
      rw [hb, ge] at q'; cases q'
    · exact (gk b hb).symm.trans q
  · rw [upd_ne (Ne.symm M.ne)]
    exact I1.hok.fresh M.new
end
end Rh
namespace Rh
open PySem PySem.Spec PyProof.Rows L2
variable [Tbs]
open PySem.W PySem.Calls PySem.HandSPX
section
variable {X : Cx} {W : WX} {C : Addr} {fld : Str}
def mRaise1K (c fld : Str) (mk : M (List D)) : MS := mDo mk fun ds => fun ρ h => match ds with
  | [d] => some (.ex c [(fld, d)] ρ h)
  | _ => none
theorem s_raise1K {cn : Str} {kws : List Keyword} {mk : M (List D)} {p pos pos2 : Pos} {k : Nat} (hc : X.calm = true) (tk : Takes X W) (T : MkrK X.prog X.w X.K C fld) (gC : X.mg cn = some (.ref C)) (kC : keepIn X.K (.ref C) = true) (r : Raises X (.ref C)) (hr : Room k X.A) (hkw : PK X kws (rdA X W mk)) (hg : Gl X cn)
    (hall : (backToKw pos (keywordEach kws X.env)).all (·.1.isSome) = true := by rfl) (hks : (backToKw pos (keywordEach kws X.env)).filterMap (·.1) = [fld] := by rfl)
    (hdb : (cn == ("__debug__" : Str)) = false := by decide) (hpl : ((backTo pos (starEach [] X.env)).any (·.1) || (backToKw pos (keywordEach kws X.env)).any (·.1.isNone)) = false := by rfl) :
    PS X (.Raise (some (.Call (.Name cn p) [] kws pos)) none pos2) (rdS X W (mRaise1K cn fld mk)) := by
  refine ps_imp (ps_raise hc tk (pmk_oneK T gC kC r hr hkw hg hall hks hdb hpl)) fun D σ H q => rdG_imp (rdS_bind q) fun ρ L ds h1 μ1 H1 ⟨rel1, q1⟩ xs rs => ?_
  split at q1
  · rename_i d
    obtain ⟨x, rfl, rx⟩ := rs.one
    refine ⟨x, rfl, fun dx hdx => ?_⟩
    obtain ⟨s1, s2⟩ := same_new (o := HO.xd [(fld, x)]) hdx
    exact q1 (.ref C) (some dx) σ μ1 _ (.same rel1.hr s1 s2) (rel1.go (.same rel1.hr s1 s2) (rel1.hr.same s1)) ⟨⟨C, gC, rfl⟩, dx, [(fld, x)], rfl, upd_same, rfl, x, [], rfl, rx.stay (Same.stay s1), rfl⟩
  · exact q1.none
end
end Rh

set_option Elab.async false
set_option linter.all false
set_option maxRecDepth 100000
set_option maxHeartbeats 2000000
set_option autoImplicit false
namespace Rh
open PySem PySem.Spec PyProof.Rows L2
variable [Tbs]
/-! ### the end of a loop's body, told from the empty heap; what is in boxes is forgotten behind it -/
def clB (m : MS) : MS := fun ρ h => match m (ρ.map flatO) h0 with
  | some (.rt d _) => (match flatD d with
    | true => some (.rt d h)
    | false => none)
  | some (.nx ρ' _) => some (.nx (ρ'.map flatO) h)
  | _ => none
theorem clB_imp (hz : Tbs.base = []) {X : Cx} {W : WX} {m : MS} {D : Ends} {σ : L2.St} {H : Hp} (q : rdS X W (clB m) D σ H) : rdS X W m D σ H := by
  obtain ⟨ρ, L, μ, h, rel, q⟩ := q
  have r0 : Rel (ctX X) [] (ρ.map flatO) σ [] H h0 := by
    refine ⟨by rw [List.length_map]; exact rel.len, fun i d e => ?_, hr0 hz rel.hr.tb⟩
    rw [List.getElem?_map] at e
    cases e1 : ρ[i]? with
    | none => rw [e1] at e; cases e
    | some o =>
      rw [e1] at e
      have e2 : flatO o = some d := Option.some.inj e
      obtain ⟨rfl, f, nl⟩ := flatO_some e2
      obtain ⟨v, a, b⟩ := rel.val i d e1
      exact ⟨v, a, (RepV.flat d v f (b.v nl)).s⟩
  refine ⟨_, _, _, _, r0, ?_⟩
  unfold clB at q
  cases e : m (ρ.map flatO) h0 with
  | none => rw [e] at q; exact SatS.none q
  | some r =>
    rw [e] at q
    cases r with
    | rt d h' =>
      dsimp only at q
      cases f : flatD d with
      | false => rw [f] at q; exact SatS.none q
      | true =>
        rw [f] at q
        intro μ' H' x g r' rx
        obtain ⟨g', r2⟩ := cl_back rel.hr g r'
        exact q μ H' x g' r2 (RepV.flat d x f rx)
    | nx ρ' h' =>
      dsimp only at q
      intro σ' μ' H' g rel'
      obtain ⟨g', r2⟩ := cl_back rel.hr g rel'.hr
      refine q σ' μ H' g' ⟨by rw [List.length_map]; exact rel'.len, fun i d e => ?_, r2⟩
      rw [List.getElem?_map] at e
      cases e1 : ρ'[i]? with
      | none => rw [e1] at e; cases e
      | some o =>
        rw [e1] at e
        have e2 : flatO o = some d := Option.some.inj e
        obtain ⟨rfl, f, nl⟩ := flatO_some e2
        obtain ⟨v, a, b⟩ := rel'.val i d e1
        exact ⟨v, a, (RepV.flat d v f (b.v nl)).s⟩
    | bk _ _ => exact SatS.none q
    | ct _ _ => exact SatS.none q
    | ex _ _ _ _ => exact SatS.none q
theorem s_clB (hz : Tbs.base = []) {X : Cx} {W : WX} {ss : List Stmt} {m : MS} (p : PSs X ss (rdS X W m)) : PSs X ss (rdS X W (clB m)) := pss_imp p fun _ _ _ q => clB_imp hz q
/-- such an end goes on with the frame that it had, but for slot j -/
def nxT (p : En → Bool) : Option RS → Bool
  | some (.nx ρ _) => p (ρ.map flatO)
  | _ => false
theorem clB_nx {m : MS} {ρ : En} {h : Hs} {p : En → Bool} (t : nxT p (m (ρ.map flatO) h0) = true) : ∃ ρ', clB m ρ h = some (.nx ρ' h) ∧ p ρ' = true := by
  unfold clB
  cases e : m (ρ.map flatO) h0 with
  | none => rw [e] at t; cases t
  | some r =>
    rw [e] at t
    cases r with
    | nx ρ' h' => exact ⟨_, rfl, t⟩
    | _ => cases t
end Rh

set_option Elab.async false
set_option linter.all false
set_option maxRecDepth 100000
set_option maxHeartbeats 4000000
set_option autoImplicit false
namespace Gn
open PySem PySem.Spec PyProof.Rows L2 Rh
variable [Tbs]

theorem bt_IndexError : bootBuiltins (PySem.Str.ofString "IndexError") = some (.type "IndexError") := by first | rfl | decide +kernel | with_unfolding_all rfl
theorem bt_KeyError : bootBuiltins (PySem.Str.ofString "KeyError") = some (.type "KeyError") := by first | rfl | decide +kernel | with_unfolding_all rfl
theorem bt_LookupError : bootBuiltins (PySem.Str.ofString "LookupError") = some (.type "LookupError") := by first | rfl | decide +kernel | with_unfolding_all rfl
theorem bt_ValueError : bootBuiltins (PySem.Str.ofString "ValueError") = some (.type "ValueError") := by first | rfl | decide +kernel | with_unfolding_all rfl
theorem bt_list : bootBuiltins (PySem.Str.ofString "list") = some (.type "list") := by first | rfl | decide +kernel | with_unfolding_all rfl
theorem bt_tuple : bootBuiltins (PySem.Str.ofString "tuple") = some (.type "tuple") := by first | rfl | decide +kernel | with_unfolding_all rfl
theorem bt_int : bootBuiltins (PySem.Str.ofString "int") = some (.type "int") := by first | rfl | decide +kernel | with_unfolding_all rfl
theorem bt_bool : bootBuiltins (PySem.Str.ofString "bool") = some (.type "bool") := by first | rfl | decide +kernel | with_unfolding_all rfl
theorem bt_str : bootBuiltins (PySem.Str.ofString "str") = some (.type "str") := by first | rfl | decide +kernel | with_unfolding_all rfl
theorem bt_abs : bootBuiltins (PySem.Str.ofString "abs") = some (.builtin "abs") := by first | rfl | decide +kernel | with_unfolding_all rfl
theorem bt_all : bootBuiltins (PySem.Str.ofString "all") = some (.builtin "all") := by first | rfl | decide +kernel | with_unfolding_all rfl
theorem bt_isi : bootBuiltins (PySem.Str.ofString "isinstance") = some (.builtin "isinstance") := by first | rfl | decide +kernel | with_unfolding_all rfl
def top (i : Nat) : Stmt := PySem.Challenge.pw_bothroads_k00_errors.main.body.getD i (.Pass ⟨0, 0, 0, 0⟩)
/-- what the top has left -/
structure Txt (P : Program) (w : World) (K : PySem.W.Frag) (mg : Str → Option Value) (a__law_same : Addr) (a__law_caught : Addr) (a__law_plain : Addr) (a__law_kinds : Addr) (a__law_by_hand_right : Addr) (a_law : Addr) (a_BadLine : Addr) (a_CanNot : Addr) (a_NoPlace : Addr) (a_TooMuch : Addr) (a_Unfit : Addr) : Prop where
  g__law_same : mg (PySem.Str.ofString "_law_same") = some (.ref a__law_same)
  k__law_same : PySem.W.keepIn K (.ref a__law_same) = true
  g__law_caught : mg (PySem.Str.ofString "_law_caught") = some (.ref a__law_caught)
  k__law_caught : PySem.W.keepIn K (.ref a__law_caught) = true
  g__law_plain : mg (PySem.Str.ofString "_law_plain") = some (.ref a__law_plain)
  k__law_plain : PySem.W.keepIn K (.ref a__law_plain) = true
  g__law_kinds : mg (PySem.Str.ofString "_law_kinds") = some (.ref a__law_kinds)
  k__law_kinds : PySem.W.keepIn K (.ref a__law_kinds) = true
  g__law_by_hand_right : mg (PySem.Str.ofString "_law_by_hand_right") = some (.ref a__law_by_hand_right)
  k__law_by_hand_right : PySem.W.keepIn K (.ref a__law_by_hand_right) = true
  g_law : mg (PySem.Str.ofString "law") = some (.ref a_law)
  k_law : PySem.W.keepIn K (.ref a_law) = true
  n_IndexError : mg (PySem.Str.ofString "IndexError") = none
  n_KeyError : mg (PySem.Str.ofString "KeyError") = none
  n_LookupError : mg (PySem.Str.ofString "LookupError") = none
  n_ValueError : mg (PySem.Str.ofString "ValueError") = none
  n_abs : mg (PySem.Str.ofString "abs") = none
  n_all : mg (PySem.Str.ofString "all") = none
  n_bool : mg (PySem.Str.ofString "bool") = none
  n_int : mg (PySem.Str.ofString "int") = none
  n_isinstance : mg (PySem.Str.ofString "isinstance") = none
  n_len : mg (PySem.Str.ofString "len") = none
  n_list : mg (PySem.Str.ofString "list") = none
  n_range : mg (PySem.Str.ofString "range") = none
  n_str : mg (PySem.Str.ofString "str") = none
  n_tuple : mg (PySem.Str.ofString "tuple") = none
  n_zip : mg (PySem.Str.ofString "zip") = none
  g_BadLine : mg (PySem.Str.ofString "BadLine") = some (.ref a_BadLine)
  k_BadLine : PySem.W.keepIn K (.ref a_BadLine) = true
  b_BadLine : PySem.W.subIn K (.ref a_BadLine) (.type "BaseException") = some true
  t_BadLine : PySem.W.typeIn K (.ref a_BadLine) = some (.type "type")
  m_BadLine : Mkr P w K a_BadLine (PySem.Str.ofString "line")
  at_BadLine : AttrX K a_BadLine (PySem.Str.ofString "line")
  g_CanNot : mg (PySem.Str.ofString "CanNot") = some (.ref a_CanNot)
  k_CanNot : PySem.W.keepIn K (.ref a_CanNot) = true
  b_CanNot : PySem.W.subIn K (.ref a_CanNot) (.type "BaseException") = some true
  t_CanNot : PySem.W.typeIn K (.ref a_CanNot) = some (.type "type")
  x_CanNot : PySem.W.excIn K a_CanNot [.type "ValueError", .type "Exception", .type "BaseException", .type "object"] "ValueError.__new__" = true
  g_NoPlace : mg (PySem.Str.ofString "NoPlace") = some (.ref a_NoPlace)
  k_NoPlace : PySem.W.keepIn K (.ref a_NoPlace) = true
  b_NoPlace : PySem.W.subIn K (.ref a_NoPlace) (.type "BaseException") = some true
  t_NoPlace : PySem.W.typeIn K (.ref a_NoPlace) = some (.type "type")
  m_NoPlace : Mkr P w K a_NoPlace (PySem.Str.ofString "place")
  at_NoPlace : AttrX K a_NoPlace (PySem.Str.ofString "place")
  g_TooMuch : mg (PySem.Str.ofString "TooMuch") = some (.ref a_TooMuch)
  k_TooMuch : PySem.W.keepIn K (.ref a_TooMuch) = true
  b_TooMuch : PySem.W.subIn K (.ref a_TooMuch) (.type "BaseException") = some true
  t_TooMuch : PySem.W.typeIn K (.ref a_TooMuch) = some (.type "type")
  x_TooMuch : PySem.W.excIn K a_TooMuch [.type "ValueError", .type "Exception", .type "BaseException", .type "object"] "ValueError.__new__" = true
  g_Unfit : mg (PySem.Str.ofString "Unfit") = some (.ref a_Unfit)
  k_Unfit : PySem.W.keepIn K (.ref a_Unfit) = true
  b_Unfit : PySem.W.subIn K (.ref a_Unfit) (.type "BaseException") = some true
  t_Unfit : PySem.W.typeIn K (.ref a_Unfit) = some (.type "type")
  x_Unfit : PySem.W.excIn K a_Unfit [.type "ValueError", .type "Exception", .type "BaseException", .type "object"] "ValueError.__new__" = true
  mk_BadLine : MkrK P w K a_BadLine (PySem.Str.ofString "line")
  mk_NoPlace : MkrK P w K a_NoPlace (PySem.Str.ofString "place")
  ie_BadLine : L2.ExcC K a_BadLine
  ie_CanNot : L2.ExcC K a_CanNot
  ie_NoPlace : L2.ExcC K a_NoPlace
  ie_TooMuch : L2.ExcC K a_TooMuch
  ie_Unfit : L2.ExcC K a_Unfit
  iw_BadLine_BadLine : PySem.W.kitOne K (.ref a_BadLine) (.ref a_BadLine) = some true
  iw_BadLine_CanNot : PySem.W.kitOne K (.ref a_BadLine) (.ref a_CanNot) = some false
  iw_BadLine_NoPlace : PySem.W.kitOne K (.ref a_BadLine) (.ref a_NoPlace) = some false
  iw_BadLine_TooMuch : PySem.W.kitOne K (.ref a_BadLine) (.ref a_TooMuch) = some false
  iw_BadLine_Unfit : PySem.W.kitOne K (.ref a_BadLine) (.ref a_Unfit) = some false
  iw_CanNot_BadLine : PySem.W.kitOne K (.ref a_CanNot) (.ref a_BadLine) = some false
  iw_CanNot_CanNot : PySem.W.kitOne K (.ref a_CanNot) (.ref a_CanNot) = some true
  iw_CanNot_NoPlace : PySem.W.kitOne K (.ref a_CanNot) (.ref a_NoPlace) = some false
  iw_CanNot_TooMuch : PySem.W.kitOne K (.ref a_CanNot) (.ref a_TooMuch) = some false
  iw_CanNot_Unfit : PySem.W.kitOne K (.ref a_CanNot) (.ref a_Unfit) = some false
  iw_NoPlace_BadLine : PySem.W.kitOne K (.ref a_NoPlace) (.ref a_BadLine) = some false
  iw_NoPlace_CanNot : PySem.W.kitOne K (.ref a_NoPlace) (.ref a_CanNot) = some false
  iw_NoPlace_NoPlace : PySem.W.kitOne K (.ref a_NoPlace) (.ref a_NoPlace) = some true
  iw_NoPlace_TooMuch : PySem.W.kitOne K (.ref a_NoPlace) (.ref a_TooMuch) = some false
  iw_NoPlace_Unfit : PySem.W.kitOne K (.ref a_NoPlace) (.ref a_Unfit) = some false
  iw_TooMuch_BadLine : PySem.W.kitOne K (.ref a_TooMuch) (.ref a_BadLine) = some false
  iw_TooMuch_CanNot : PySem.W.kitOne K (.ref a_TooMuch) (.ref a_CanNot) = some false
  iw_TooMuch_NoPlace : PySem.W.kitOne K (.ref a_TooMuch) (.ref a_NoPlace) = some false
  iw_TooMuch_TooMuch : PySem.W.kitOne K (.ref a_TooMuch) (.ref a_TooMuch) = some true
  iw_TooMuch_Unfit : PySem.W.kitOne K (.ref a_TooMuch) (.ref a_Unfit) = some false
  iw_Unfit_BadLine : PySem.W.kitOne K (.ref a_Unfit) (.ref a_BadLine) = some false
  iw_Unfit_CanNot : PySem.W.kitOne K (.ref a_Unfit) (.ref a_CanNot) = some false
  iw_Unfit_NoPlace : PySem.W.kitOne K (.ref a_Unfit) (.ref a_NoPlace) = some false
  iw_Unfit_TooMuch : PySem.W.kitOne K (.ref a_Unfit) (.ref a_TooMuch) = some false
  iw_Unfit_Unfit : PySem.W.kitOne K (.ref a_Unfit) (.ref a_Unfit) = some true
  iv_BadLine_IndexError : PySem.W.kitOne K (.ref a_BadLine) (.type "IndexError") = some false
  iv_BadLine_KeyError : PySem.W.kitOne K (.ref a_BadLine) (.type "KeyError") = some false
  iv_BadLine_LookupError : PySem.W.kitOne K (.ref a_BadLine) (.type "LookupError") = some false
  iv_BadLine_ValueError : PySem.W.kitOne K (.ref a_BadLine) (.type "ValueError") = some true
  iv_CanNot_IndexError : PySem.W.kitOne K (.ref a_CanNot) (.type "IndexError") = some false
  iv_CanNot_KeyError : PySem.W.kitOne K (.ref a_CanNot) (.type "KeyError") = some false
  iv_CanNot_LookupError : PySem.W.kitOne K (.ref a_CanNot) (.type "LookupError") = some false
  iv_CanNot_ValueError : PySem.W.kitOne K (.ref a_CanNot) (.type "ValueError") = some true
  iv_NoPlace_IndexError : PySem.W.kitOne K (.ref a_NoPlace) (.type "IndexError") = some false
  iv_NoPlace_KeyError : PySem.W.kitOne K (.ref a_NoPlace) (.type "KeyError") = some false
  iv_NoPlace_LookupError : PySem.W.kitOne K (.ref a_NoPlace) (.type "LookupError") = some true
  iv_NoPlace_ValueError : PySem.W.kitOne K (.ref a_NoPlace) (.type "ValueError") = some false
  iv_TooMuch_IndexError : PySem.W.kitOne K (.ref a_TooMuch) (.type "IndexError") = some false
  iv_TooMuch_KeyError : PySem.W.kitOne K (.ref a_TooMuch) (.type "KeyError") = some false
  iv_TooMuch_LookupError : PySem.W.kitOne K (.ref a_TooMuch) (.type "LookupError") = some false
  iv_TooMuch_ValueError : PySem.W.kitOne K (.ref a_TooMuch) (.type "ValueError") = some true
  iv_Unfit_IndexError : PySem.W.kitOne K (.ref a_Unfit) (.type "IndexError") = some false
  iv_Unfit_KeyError : PySem.W.kitOne K (.ref a_Unfit) (.type "KeyError") = some false
  iv_Unfit_LookupError : PySem.W.kitOne K (.ref a_Unfit) (.type "LookupError") = some false
  iv_Unfit_ValueError : PySem.W.kitOne K (.ref a_Unfit) (.type "ValueError") = some true
  ek : ExK K mg [(PySem.Str.ofString "BadLine"), (PySem.Str.ofString "CanNot"), (PySem.Str.ofString "NoPlace"), (PySem.Str.ofString "TooMuch"), (PySem.Str.ofString "Unfit")]
abbrev st__law_same : Stmt := top 7
abbrev N__law_same : List Str := [(PySem.Str.ofString "got"), (PySem.Str.ofString "goal"), (PySem.Str.ofString "mine_so"), (PySem.Str.ofString "own")]
abbrev ps__law_same : List Str := [(PySem.Str.ofString "got"), (PySem.Str.ofString "goal")]
def m__law_same (fm : FM) : MS := (mSeq (mIfS (mTruth (mOpA dIsi (mCons (mVar 1) (mCons (mTup (mCons (mCon (.ty .list)) (mCons (mCon (.ty .tuple)) mNil))) mNil)))) (mSeq (mIfS (mOr (mB (mOp2 (dEqA true) (mOpA dIsi (mCons (mVar 0) (mCons (mCon (.ty .list)) mNil))) (mOpA dIsi (mCons (mVar 1) (mCons (mCon (.ty .list)) mNil))))) (mB (mOp2 (dEqA true) (mOpA dIsi (mCons (mVar 0) (mCons (mCon (.ty .tuple)) mNil))) (mOpA dIsi (mCons (mVar 1) (mCons (mCon (.ty .tuple)) mNil)))))) (mSeq (mRet (mCon (.bl false)))
    mNx) mNx)
    (mSeq (mRet (mAndV (mOp2 (dEqA false) (mOpA dLenA (mCons (mVar 0) mNil)) (mOpA dLenA (mCons (mVar 1) mNil))) (mOpA dAll (mCons (mLc (mZip (mCons (mVar 0) (mCons (mVar 1) mNil))) (tTup 2 (tsCons (tName 2) (tsCons (tName 3) tsNil))) (mPure true) (mCall fm (mCons (mVar 2) (mCons (mVar 3) mNil))) [2, 3]) mNil))))
    mNx)) mNx)
    (mSeq (mIfS (mOr (mB (mOp2 (dIsB false) (mVar 1) (mCon .non))) (mTruth (mOpA dIsi (mCons (mVar 1) (mCons (mTup (mCons (mCon (.ty .bool)) (mCons (mCon (.ty .str)) mNil))) mNil))))) (mSeq (mRet (mAndV (mOp2 (dEqA false) (mVar 0) (mVar 1)) (mAndV (mOp2 (dEqA false) (mOpA dIsi (mCons (mVar 0) (mCons (mCon (.ty .bool)) mNil))) (mOpA dIsi (mCons (mVar 1) (mCons (mCon (.ty .bool)) mNil)))) (mOp2 (dEqA false) (mOp2 (dIsB false) (mVar 0) (mCon .non)) (mOp2 (dIsB false) (mVar 1) (mCon .non))))))
    mNx) mNx)
    (mSeq (mRet (mAndV (mOpA dIsi (mCons (mVar 0) (mCons (mCon (.ty .int)) mNil))) (mAndV (mNotV (mOpA dIsi (mCons (mVar 0) (mCons (mCon (.ty .bool)) mNil)))) (mOp2 (dEqA false) (mVar 0) (mVar 1)))))
    mNx)))
def f__law_same : FM := fuelF N__law_same m__law_same 40
theorem sc__law_same : FnScope N__law_same ps__law_same (defScope st__law_same) := ⟨rfl, rfl, rfl, by decide +kernel, rfl, by decide +kernel, by decide +kernel⟩
abbrev st__law_caught : Stmt := top 8
abbrev N__law_caught : List Str := [(PySem.Str.ofString "way_so"), (PySem.Str.ofString "worth"), (PySem.Str.ofString "error")]
abbrev ps__law_caught : List Str := [(PySem.Str.ofString "way_so"), (PySem.Str.ofString "worth")]
def m__law_caught : MS := (mSeq (mTry ["BadLine", "CanNot", "NoPlace", "TooMuch", "Unfit"] (mSeq (mIfS (mB (mOp2 (dEqA false) (mVar 0) (mCon (.int 0)))) (mSeq (mRaise1 "NoPlace" "place" (mVar 1))
    mNx) mNx)
    (mSeq (mIfS (mB (mOp2 (dEqA false) (mVar 0) (mCon (.int 1)))) (mSeq (mRaise1 "BadLine" "line" (mVar 1))
    mNx) mNx)
    (mSeq (mIfS (mB (mOp2 (dEqA false) (mVar 0) (mCon (.int 2)))) (mSeq (mRaise1K "NoPlace" "place" (mCons (mVar 1) mNil))
    mNx) mNx)
    (mSeq (mRaise1K "BadLine" "line" (mCons (mVar 1) mNil))
    mNx)))) [⟨"NoPlace", (some 2), (fun c fs => mRet (mXL (xCons (xC (.str "place")) (xCons (xAt "NoPlace" "place") xNil)) c fs))⟩, ⟨"BadLine", (some 2), (fun c fs => mRet (mXL (xCons (xC (.str "line")) (xCons (xAt "BadLine" "line") xNil)) c fs))⟩])
    mNx)
def f__law_caught : FM := runDef N__law_caught.length m__law_caught
theorem sc__law_caught : FnScope N__law_caught ps__law_caught (defScope st__law_caught) := ⟨rfl, rfl, rfl, by decide +kernel, rfl, by decide +kernel, by decide +kernel⟩
abbrev st__law_plain : Stmt := top 9
abbrev N__law_plain : List Str := [(PySem.Str.ofString "error")]
abbrev ps__law_plain : List Str := [(PySem.Str.ofString "error")]
def m__law_plain : MS := (mSeq (mRet (mLst (mCons (mIsX [("BadLine", false), ("CanNot", false), ("NoPlace", true), ("TooMuch", false), ("Unfit", false)] (mVar 0)) (mCons (mIsX [("BadLine", true), ("CanNot", true), ("NoPlace", false), ("TooMuch", true), ("Unfit", true)] (mVar 0)) (mCons (mIsX [("BadLine", false), ("CanNot", false), ("NoPlace", false), ("TooMuch", false), ("Unfit", false)] (mVar 0)) (mCons (mIsX [("BadLine", false), ("CanNot", false), ("NoPlace", false), ("TooMuch", false), ("Unfit", false)] (mVar 0)) mNil))))))
    mNx)
def f__law_plain : FM := runDef N__law_plain.length m__law_plain
theorem sc__law_plain : FnScope N__law_plain ps__law_plain (defScope st__law_plain) := ⟨rfl, rfl, rfl, by decide +kernel, rfl, by decide +kernel, by decide +kernel⟩
abbrev st__law_kinds : Stmt := top 10
abbrev N__law_kinds : List Str := [(PySem.Str.ofString "error")]
abbrev ps__law_kinds : List Str := [(PySem.Str.ofString "error")]
def m__law_kinds : MS := (mSeq (mRet (mLst (mCons (mIsX [("BadLine", false), ("CanNot", false), ("NoPlace", true), ("TooMuch", false), ("Unfit", false)] (mVar 0)) (mCons (mIsX [("BadLine", true), ("CanNot", false), ("NoPlace", false), ("TooMuch", false), ("Unfit", false)] (mVar 0)) (mCons (mIsX [("BadLine", false), ("CanNot", true), ("NoPlace", false), ("TooMuch", false), ("Unfit", false)] (mVar 0)) (mCons (mIsX [("BadLine", false), ("CanNot", false), ("NoPlace", false), ("TooMuch", true), ("Unfit", false)] (mVar 0)) (mCons (mIsX [("BadLine", false), ("CanNot", false), ("NoPlace", false), ("TooMuch", false), ("Unfit", true)] (mVar 0)) mNil)))))))
    mNx)
def f__law_kinds : FM := runDef N__law_kinds.length m__law_kinds
theorem sc__law_kinds : FnScope N__law_kinds ps__law_kinds (defScope st__law_kinds) := ⟨rfl, rfl, rfl, by decide +kernel, rfl, by decide +kernel, by decide +kernel⟩
abbrev st__law_by_hand_right : Stmt := top 11
abbrev N__law_by_hand_right : List Str := [(PySem.Str.ofString "made_so"), (PySem.Str.ofString "told"), (PySem.Str.ofString "due"), (PySem.Str.ofString "own"), (PySem.Str.ofString "k"), (PySem.Str.ofString "far")]
abbrev ps__law_by_hand_right : List Str := []
def m__law_by_hand_right : MS := (mSeq (mSet 0 (mLst (mCons (mNew1 (.exo "NoPlace" []) (mCon (.int 7))) (mCons (mNew1 (.exo "BadLine" []) (mCon (.int 7))) (mCons (mNew (.exo "CanNot" [])) (mCons (mNew (.exo "TooMuch" [])) (mCons (mNew (.exo "Unfit" [])) mNil)))))))
    (mSeq (mSet 1 (mLc (mIter (mVar 0)) (tName 3) (mPure true) (mCall f__law_plain (mCons (mVar 3) mNil)) [3]))
    (mSeq (mSet 2 (mOp2 dAdd (mLst (mCons (mLst (mCons (mCon (.bl true)) (mCons (mCon (.bl false)) (mCons (mCon (.bl false)) (mCons (mCon (.bl false)) mNil))))) mNil)) (mOp2 dMulW (mLst (mCons (mLst (mCons (mCon (.bl false)) (mCons (mCon (.bl true)) (mCons (mCon (.bl false)) (mCons (mCon (.bl false)) mNil))))) mNil)) (mCon (.int 4)))))
    (mSeq (mSet 1 (mOp2 dAdd (mVar 1) (mLc (mIter (mVar 0)) (tName 3) (mPure true) (mCall f__law_kinds (mCons (mVar 3) mNil)) [3])))
    (mSeq (mSet 2 (mOp2 dAdd (mVar 2) (mLc (mRange1 (mCons (mCon (.int 5)) mNil)) (tName 4) (mPure true) (mLc (mRange1 (mCons (mCon (.int 5)) mNil)) (tName 5) (mPure true) (mOp2 (dEqA false) (mVar 4) (mVar 5)) [5]) [4])))
    (mSeq (mRet (mCall f__law_same (mCons (mVar 1) (mCons (mVar 2) mNil))))
    mNx))))))
def f__law_by_hand_right : FM := runDef N__law_by_hand_right.length m__law_by_hand_right
theorem sc__law_by_hand_right : FnScope N__law_by_hand_right ps__law_by_hand_right (defScope st__law_by_hand_right) := ⟨rfl, rfl, rfl, by decide +kernel, rfl, by decide +kernel, by decide +kernel⟩
abbrev st_law : Stmt := top 12
abbrev N_law : List Str := [(PySem.Str.ofString "script"), (PySem.Str.ofString "cell"), (PySem.Str.ofString "place_so"), (PySem.Str.ofString "line_so"), (PySem.Str.ofString "told")]
abbrev ps_law : List Str := [(PySem.Str.ofString "script")]
def m_law_b : MS := (mSeq (mSet 4 (mLst (mCons (mCall f__law_caught (mCons (mCon (.int 0)) (mCons (mVar 2) mNil))) (mCons (mCall f__law_caught (mCons (mCon (.int 1)) (mCons (mVar 3) mNil))) (mCons (mCall f__law_caught (mCons (mCon (.int 2)) (mCons (mVar 2) mNil))) (mCons (mCall f__law_caught (mCons (mCon (.int 3)) (mCons (mVar 3) mNil))) mNil))))))
    (mSeq (mIfS (mNot (mTruth (mCall f__law_same (mCons (mVar 4) (mCons (mOp2 dMulW (mLst (mCons (mLst (mCons (mCon (.str "place")) (mCons (mVar 2) mNil))) (mCons (mLst (mCons (mCon (.str "line")) (mCons (mVar 3) mNil))) mNil))) (mCon (.int 2))) mNil))))) (mSeq (mRet (mCon (.bl false)))
    mNx) mNx)
    mNx))
def m_law : MS := (mSeq (mIfS (mNot (mTruth (mCall (clF f__law_by_hand_right) mNil))) (mSeq (mRet (mCon (.bl false)))
    mNx) mNx)
    (mSeq (mFor (mIter (mOp2 dAdd (mOpA dListA (mCons (mSl (mVar 0) (mPure none) (mPart (mCon (.int 8)))) mNil)) (mLst (mCons (mCon (.int 0)) (mCons (mCon (.int 1)) (mCons (mCon (.int 999)) mNil)))))) (tName 1) (mSeq (mSet 2 (mOp2 dMod (mOpA dInt1 (mCons (mOpA dAbs (mCons (mVar 1) mNil)) mNil)) (mCon (.int 1000))))
    (mSeq (mSet 3 (mOp2 dAdd (mVar 2) (mCon (.int 1))))
    (clB m_law_b))))
    (mSeq (mRet (mCon (.bl true)))
    mNx)))
def f_law : FM := runDef N_law.length m_law
theorem sc_law : FnScope N_law ps_law (defScope st_law) := ⟨rfl, rfl, rfl, by decide +kernel, rfl, by decide +kernel, by decide +kernel⟩
section
variable {P : Program} {w : World} {K : PySem.W.Frag} {mg : Str → Option Value} {base : Heap} {a__law_same : Addr} {a__law_caught : Addr} {a__law_plain : Addr} {a__law_kinds : Addr} {a__law_by_hand_right : Addr} {a_law : Addr} {a_BadLine : Addr} {a_CanNot : Addr} {a_NoPlace : Addr} {a_TooMuch : Addr} {a_Unfit : Addr} {fd__law_same : FuncData} {fd__law_caught : FuncData} {fd__law_plain : FuncData} {fd__law_kinds : FuncData} {fd__law_by_hand_right : FuncData} {fd_law : FuncData}
section
variable (T : Txt P w K mg a__law_same a__law_caught a__law_plain a__law_kinds a__law_by_hand_right a_law a_BadLine a_CanNot a_NoPlace a_TooMuch a_Unfit)
include T
theorem ok__law_same (F : Fun K (PySem.Str.ofString "_law_same") (PySem.Str.ofString "_law_same") st__law_same a__law_same fd__law_same) (B__law_same : Binds K fd__law_same ps__law_same []) : FnOk P w K mg base (L2.CX P w) 41 a__law_same fd__law_same ps__law_same (spF ⟨w, K, mg⟩ 2 f__law_same) := by
  have sc := sc__law_same
  refine fn_recK (m := m__law_same) rfl 1 (fun j fm Fself => ?_) 40
  refine fn_ok F sc rfl (by decide) fun cdv A outer s H E hr => ?_
  exact (s_cons (s_if (t_val (f_isi bt_isi rfl T.n_isinstance (a_cons (ev 1) (a_cons (e_tup (a_cons (e_ty (n := .list) rfl T.n_list bt_list) (a_cons (e_ty (n := .tuple) rfl T.n_tuple bt_tuple) a_nil))) a_nil)))) (s_cons (s_if (t_pw (tw_or (t_cmpW (w_neA hr) (by with_unfolding_all rfl) (f_isi bt_isi rfl T.n_isinstance (a_cons (ev 0) (a_cons (e_ty (n := .list) rfl T.n_list bt_list) a_nil))) (f_isi bt_isi rfl T.n_isinstance (a_cons (ev 1) (a_cons (e_ty (n := .list) rfl T.n_list bt_list) a_nil)))) (tw_or1 (t_cmpW (w_neA hr) (by with_unfolding_all rfl) (f_isi bt_isi rfl T.n_isinstance (a_cons (ev 0) (a_cons (e_ty (n := .tuple) rfl T.n_tuple bt_tuple) a_nil))) (f_isi bt_isi rfl T.n_isinstance (a_cons (ev 1) (a_cons (e_ty (n := .tuple) rfl T.n_tuple bt_tuple) a_nil))))))) (s_cons (s_ret e_bl)
    s_nil) s_nil)
    (s_cons (s_ret (e_and (e_cmpW (w_eqA hr) (by with_unfolding_all rfl) (f_len rfl T.n_len (a_cons (ev 0) a_nil)) (f_len rfl T.n_len (a_cons (ev 1) a_nil))) (e_one (f_all rfl bt_all rfl T.n_all (a_cons (e_lc (own := [((PySem.Str.ofString "mine_so"), 2), ((PySem.Str.ofString "own"), 3)]) rfl sc.nd (blkOk_by (by first | rfl | kernel_rfl | with_unfolding_all rfl)) rfl (i_zip rfl T.n_zip (a_cons (ev 0) (a_cons (ev 1) a_nil))) (fun s H C cl fp => (g_tup rfl (gs_c (g_name (i := 2) sc.nd rfl (by first | exact .inl rfl | exact .inr rfl)) (gs_c (g_name (i := 3) sc.nd rfl (by first | exact .inl rfl | exact .inr rfl)) gs_nil)))) (fun s H C cl fp => ts_nil) (fun s H C cl fp => (e_call Fself hr T.g__law_same T.k__law_same B__law_same tkF (len_cons (len_cons len_nil)) rfl (a_cons (ev 2) (a_cons (ev 3) a_nil))))) a_nil)))))
    s_nil)) s_nil)
    (s_cons (s_if (t_pw (tw_or (t_cmpW w_isB (by with_unfolding_all rfl) (ev 1) e_non) (tw_or1 (t_val (f_isi bt_isi rfl T.n_isinstance (a_cons (ev 1) (a_cons (e_tup (a_cons (e_ty (n := .bool) rfl T.n_bool bt_bool) (a_cons (e_ty (n := .str) rfl T.n_str bt_str) a_nil))) a_nil))))))) (s_cons (s_ret (e_and (e_cmpW (w_eqA hr) (by with_unfolding_all rfl) (ev 0) (ev 1)) (e_and (e_cmpW (w_eqA hr) (by with_unfolding_all rfl) (f_isi bt_isi rfl T.n_isinstance (a_cons (ev 0) (a_cons (e_ty (n := .bool) rfl T.n_bool bt_bool) a_nil))) (f_isi bt_isi rfl T.n_isinstance (a_cons (ev 1) (a_cons (e_ty (n := .bool) rfl T.n_bool bt_bool) a_nil)))) (e_one (e_cmpW (w_eqA hr) (by with_unfolding_all rfl) (e_cmpW w_isB (by with_unfolding_all rfl) (ev 0) e_non) (e_cmpW w_isB (by with_unfolding_all rfl) (ev 1) e_non))))))
    s_nil) s_nil)
    (s_cons (s_ret (e_and (f_isi bt_isi rfl T.n_isinstance (a_cons (ev 0) (a_cons (e_ty (n := .int) rfl T.n_int bt_int) a_nil))) (e_and (e_not (f_isi bt_isi rfl T.n_isinstance (a_cons (ev 0) (a_cons (e_ty (n := .bool) rfl T.n_bool bt_bool) a_nil)))) (e_one (e_cmpW (w_eqA hr) (by with_unfolding_all rfl) (ev 0) (ev 1))))))
    s_nil)))
theorem ok__law_caught (F : Fun K (PySem.Str.ofString "_law_caught") (PySem.Str.ofString "_law_caught") st__law_caught a__law_caught fd__law_caught) : FnOk P w K mg base (L2.CX P w) 1 a__law_caught fd__law_caught ps__law_caught (spF ⟨w, K, mg⟩ 2 f__law_caught) := by
  have sc := sc__law_caught
  refine fn_ok F sc rfl (by decide) fun cdv A outer s H E hr => ?_
  exact (s_cons (s_try (cs := ["BadLine", "CanNot", "NoPlace", "TooMuch", "Unfit"]) (l := [⟨"NoPlace", (some 2), (fun c fs => mRet (mXL (xCons (xC (.str "place")) (xCons (xAt "NoPlace" "place") xNil)) c fs))⟩, ⟨"BadLine", (some 2), (fun c fs => mRet (mXL (xCons (xC (.str "line")) (xCons (xAt "BadLine" "line") xNil)) c fs))⟩]) T.ek rfl rfl sc.nd tkD (fun W1 pn xe tk1 po1 => (s_cons (s_if (t_cmpW (w_eqA hr) (by with_unfolding_all rfl) (ev 0) e_int) (s_cons (s_raise1 rfl tk1 T.m_NoPlace T.g_NoPlace T.k_NoPlace (raises_own T.b_NoPlace T.t_NoPlace) hr (ev 1) rfl)
    s_nil) s_nil)
    (s_cons (s_if (t_cmpW (w_eqA hr) (by with_unfolding_all rfl) (ev 0) e_int) (s_cons (s_raise1 rfl tk1 T.m_BadLine T.g_BadLine T.k_BadLine (raises_own T.b_BadLine T.t_BadLine) hr (ev 1) rfl)
    s_nil) s_nil)
    (s_cons (s_if (t_cmpW (w_eqA hr) (by with_unfolding_all rfl) (ev 0) e_int) (s_cons (s_raise1K rfl tk1 T.mk_NoPlace T.g_NoPlace T.k_NoPlace (raises_own T.b_NoPlace T.t_NoPlace) hr (kk_cons (ev 1) kk_nil) rfl)
    s_nil) s_nil)
    (s_cons (s_raise1K rfl tk1 T.mk_BadLine T.g_BadLine T.k_BadLine (raises_own T.b_BadLine T.t_BadLine) hr (kk_cons (ev 1) kk_nil) rfl)
    s_nil))))) (ClsOk.named (i := 2) (names_of rfl T.g_NoPlace) rfl rfl (fun a oe cls d pn hz hf => (xs_ret (xe_lst (xa_cons x_str (xa_cons (x_attr (j := 2) T.g_NoPlace T.at_NoPlace rfl (by first | exact .inl rfl | exact .inr (.inl rfl) | exact .inr (.inr rfl)) hz hf) xa_nil))))) (ClsOk.named (i := 2) (names_of rfl T.g_BadLine) rfl rfl (fun a oe cls d pn hz hf => (xs_ret (xe_lst (xa_cons x_str (xa_cons (x_attr (j := 2) T.g_BadLine T.at_BadLine rfl (by first | exact .inl rfl | exact .inr (.inl rfl) | exact .inr (.inr rfl)) hz hf) xa_nil))))) ClsOk.nil)))
    s_nil)
theorem ok__law_plain (F : Fun K (PySem.Str.ofString "_law_plain") (PySem.Str.ofString "_law_plain") st__law_plain a__law_plain fd__law_plain) : FnOk P w K mg base (L2.CX P w) 1 a__law_plain fd__law_plain ps__law_plain (spF ⟨w, K, mg⟩ 1 f__law_plain) := by
  have sc := sc__law_plain
  refine fn_ok F sc rfl (by decide) fun cdv A outer s H E hr => ?_
  exact (s_cons (s_ret (e_lst (a_cons (e_isX (cv := .type "LookupError") (c := .ty "LookupError") (it_cons T.g_BadLine T.ie_BadLine T.iv_BadLine_LookupError (it_cons T.g_CanNot T.ie_CanNot T.iv_CanNot_LookupError (it_cons T.g_NoPlace T.ie_NoPlace T.iv_NoPlace_LookupError (it_cons T.g_TooMuch T.ie_TooMuch T.iv_TooMuch_LookupError (it_cons T.g_Unfit T.ie_Unfit T.iv_Unfit_LookupError it_nil))))) (pe_bltn rfl T.n_LookupError bt_LookupError rfl) (fun _ r => r) rfl T.n_isinstance bt_isi (ev 0)) (a_cons (e_isX (cv := .type "ValueError") (c := .ty "ValueError") (it_cons T.g_BadLine T.ie_BadLine T.iv_BadLine_ValueError (it_cons T.g_CanNot T.ie_CanNot T.iv_CanNot_ValueError (it_cons T.g_NoPlace T.ie_NoPlace T.iv_NoPlace_ValueError (it_cons T.g_TooMuch T.ie_TooMuch T.iv_TooMuch_ValueError (it_cons T.g_Unfit T.ie_Unfit T.iv_Unfit_ValueError it_nil))))) (pe_bltn rfl T.n_ValueError bt_ValueError rfl) (fun _ r => r) rfl T.n_isinstance bt_isi (ev 0)) (a_cons (e_isX (cv := .type "KeyError") (c := .ty "KeyError") (it_cons T.g_BadLine T.ie_BadLine T.iv_BadLine_KeyError (it_cons T.g_CanNot T.ie_CanNot T.iv_CanNot_KeyError (it_cons T.g_NoPlace T.ie_NoPlace T.iv_NoPlace_KeyError (it_cons T.g_TooMuch T.ie_TooMuch T.iv_TooMuch_KeyError (it_cons T.g_Unfit T.ie_Unfit T.iv_Unfit_KeyError it_nil))))) (pe_bltn rfl T.n_KeyError bt_KeyError rfl) (fun _ r => r) rfl T.n_isinstance bt_isi (ev 0)) (a_cons (e_isX (cv := .type "IndexError") (c := .ty "IndexError") (it_cons T.g_BadLine T.ie_BadLine T.iv_BadLine_IndexError (it_cons T.g_CanNot T.ie_CanNot T.iv_CanNot_IndexError (it_cons T.g_NoPlace T.ie_NoPlace T.iv_NoPlace_IndexError (it_cons T.g_TooMuch T.ie_TooMuch T.iv_TooMuch_IndexError (it_cons T.g_Unfit T.ie_Unfit T.iv_Unfit_IndexError it_nil))))) (pe_bltn rfl T.n_IndexError bt_IndexError rfl) (fun _ r => r) rfl T.n_isinstance bt_isi (ev 0)) a_nil))))))
    s_nil)
theorem ok__law_kinds (F : Fun K (PySem.Str.ofString "_law_kinds") (PySem.Str.ofString "_law_kinds") st__law_kinds a__law_kinds fd__law_kinds) : FnOk P w K mg base (L2.CX P w) 1 a__law_kinds fd__law_kinds ps__law_kinds (spF ⟨w, K, mg⟩ 1 f__law_kinds) := by
  have sc := sc__law_kinds
  refine fn_ok F sc rfl (by decide) fun cdv A outer s H E hr => ?_
  exact (s_cons (s_ret (e_lst (a_cons (e_isX (cv := .ref a_NoPlace) (c := .ref a_NoPlace) (it_cons T.g_BadLine T.ie_BadLine T.iw_BadLine_NoPlace (it_cons T.g_CanNot T.ie_CanNot T.iw_CanNot_NoPlace (it_cons T.g_NoPlace T.ie_NoPlace T.iw_NoPlace_NoPlace (it_cons T.g_TooMuch T.ie_TooMuch T.iw_TooMuch_NoPlace (it_cons T.g_Unfit T.ie_Unfit T.iw_Unfit_NoPlace it_nil))))) (pe_glob rfl T.g_NoPlace rfl) (fun _ r => r) rfl T.n_isinstance bt_isi (ev 0)) (a_cons (e_isX (cv := .ref a_BadLine) (c := .ref a_BadLine) (it_cons T.g_BadLine T.ie_BadLine T.iw_BadLine_BadLine (it_cons T.g_CanNot T.ie_CanNot T.iw_CanNot_BadLine (it_cons T.g_NoPlace T.ie_NoPlace T.iw_NoPlace_BadLine (it_cons T.g_TooMuch T.ie_TooMuch T.iw_TooMuch_BadLine (it_cons T.g_Unfit T.ie_Unfit T.iw_Unfit_BadLine it_nil))))) (pe_glob rfl T.g_BadLine rfl) (fun _ r => r) rfl T.n_isinstance bt_isi (ev 0)) (a_cons (e_isX (cv := .ref a_CanNot) (c := .ref a_CanNot) (it_cons T.g_BadLine T.ie_BadLine T.iw_BadLine_CanNot (it_cons T.g_CanNot T.ie_CanNot T.iw_CanNot_CanNot (it_cons T.g_NoPlace T.ie_NoPlace T.iw_NoPlace_CanNot (it_cons T.g_TooMuch T.ie_TooMuch T.iw_TooMuch_CanNot (it_cons T.g_Unfit T.ie_Unfit T.iw_Unfit_CanNot it_nil))))) (pe_glob rfl T.g_CanNot rfl) (fun _ r => r) rfl T.n_isinstance bt_isi (ev 0)) (a_cons (e_isX (cv := .ref a_TooMuch) (c := .ref a_TooMuch) (it_cons T.g_BadLine T.ie_BadLine T.iw_BadLine_TooMuch (it_cons T.g_CanNot T.ie_CanNot T.iw_CanNot_TooMuch (it_cons T.g_NoPlace T.ie_NoPlace T.iw_NoPlace_TooMuch (it_cons T.g_TooMuch T.ie_TooMuch T.iw_TooMuch_TooMuch (it_cons T.g_Unfit T.ie_Unfit T.iw_Unfit_TooMuch it_nil))))) (pe_glob rfl T.g_TooMuch rfl) (fun _ r => r) rfl T.n_isinstance bt_isi (ev 0)) (a_cons (e_isX (cv := .ref a_Unfit) (c := .ref a_Unfit) (it_cons T.g_BadLine T.ie_BadLine T.iw_BadLine_Unfit (it_cons T.g_CanNot T.ie_CanNot T.iw_CanNot_Unfit (it_cons T.g_NoPlace T.ie_NoPlace T.iw_NoPlace_Unfit (it_cons T.g_TooMuch T.ie_TooMuch T.iw_TooMuch_Unfit (it_cons T.g_Unfit T.ie_Unfit T.iw_Unfit_Unfit it_nil))))) (pe_glob rfl T.g_Unfit rfl) (fun _ r => r) rfl T.n_isinstance bt_isi (ev 0)) a_nil)))))))
    s_nil)
theorem ok__law_by_hand_right (F : Fun K (PySem.Str.ofString "_law_by_hand_right") (PySem.Str.ofString "_law_by_hand_right") st__law_by_hand_right a__law_by_hand_right fd__law_by_hand_right) (F__law_plain : FnOk P w K mg base (L2.CX P w) 1 a__law_plain fd__law_plain ps__law_plain (spF ⟨w, K, mg⟩ 1 f__law_plain)) (B__law_plain : Binds K fd__law_plain ps__law_plain []) (F__law_kinds : FnOk P w K mg base (L2.CX P w) 1 a__law_kinds fd__law_kinds ps__law_kinds (spF ⟨w, K, mg⟩ 1 f__law_kinds)) (B__law_kinds : Binds K fd__law_kinds ps__law_kinds []) (F__law_same : FnOk P w K mg base (L2.CX P w) 41 a__law_same fd__law_same ps__law_same (spF ⟨w, K, mg⟩ 2 f__law_same)) (B__law_same : Binds K fd__law_same ps__law_same []) : FnOk P w K mg base (L2.CX P w) 42 a__law_by_hand_right fd__law_by_hand_right ps__law_by_hand_right (spF ⟨w, K, mg⟩ 0 f__law_by_hand_right) := by
  have sc := sc__law_by_hand_right
  refine fn_ok F sc rfl (by decide) fun cdv A outer s H E hr => ?_
  exact (s_cons (s_set (i := 0) sc.nd rfl (by first | exact .inl rfl | exact .inr rfl) (e_lst (a_cons (e_mkX1 T.m_NoPlace T.g_NoPlace T.k_NoPlace hr e_int rfl) (a_cons (e_mkX1 T.m_BadLine T.g_BadLine T.k_BadLine hr e_int rfl) (a_cons (e_mkX0 PySem.F.excBase_ValueError T.x_CanNot T.g_CanNot T.k_CanNot rfl) (a_cons (e_mkX0 PySem.F.excBase_ValueError T.x_TooMuch T.g_TooMuch T.k_TooMuch rfl) (a_cons (e_mkX0 PySem.F.excBase_ValueError T.x_Unfit T.g_Unfit T.k_Unfit rfl) a_nil)))))))
    (s_cons (s_setLc (i := 1) (own := [((PySem.Str.ofString "own"), 3)]) rfl sc.nd rfl rfl rfl (blkOk_by (by first | rfl | kernel_rfl | with_unfolding_all rfl)) rfl (i_any (ev 0)) (fun s H C cl fp => (g_name (i := 3) sc.nd rfl (by first | exact .inl rfl | exact .inr rfl))) (fun s H C cl fp => ts_nil) (fun s H C cl fp => (e_call F__law_plain (hr.mono (by first | decide | omega)) T.g__law_plain T.k__law_plain B__law_plain tkF (len_cons len_nil) rfl (a_cons (ev 3) a_nil))))
    (s_cons (s_set (i := 2) sc.nd rfl (by first | exact .inl rfl | exact .inr rfl) (b_add (e_lst (a_cons (e_lst (a_cons e_bl (a_cons e_bl (a_cons e_bl (a_cons e_bl a_nil))))) a_nil)) (b_mulW (e_lst (a_cons (e_lst (a_cons e_bl (a_cons e_bl (a_cons e_bl (a_cons e_bl a_nil))))) a_nil)) e_int)))
    (s_cons (s_set (i := 1) sc.nd rfl (by first | exact .inl rfl | exact .inr rfl) (b_add (ev 1) (e_lc (own := [((PySem.Str.ofString "own"), 3)]) rfl sc.nd (blkOk_by (by first | rfl | kernel_rfl | with_unfolding_all rfl)) rfl (i_any (ev 0)) (fun s H C cl fp => (g_name (i := 3) sc.nd rfl (by first | exact .inl rfl | exact .inr rfl))) (fun s H C cl fp => ts_nil) (fun s H C cl fp => (e_call F__law_kinds (hr.mono (by first | decide | omega)) T.g__law_kinds T.k__law_kinds B__law_kinds tkF (len_cons len_nil) rfl (a_cons (ev 3) a_nil))))))
    (s_cons (s_set (i := 2) sc.nd rfl (by first | exact .inl rfl | exact .inr rfl) (b_add (ev 2) (e_lc (own := [((PySem.Str.ofString "k"), 4)]) rfl sc.nd (blkOk_by (by first | rfl | kernel_rfl | with_unfolding_all rfl)) rfl (i_range1 rfl T.n_range (a_cons e_int a_nil)) (fun s H C cl fp => (g_name (i := 4) sc.nd rfl (by first | exact .inl rfl | exact .inr rfl))) (fun s H C cl fp => ts_nil) (fun s H C cl fp => (e_lc (own := [((PySem.Str.ofString "far"), 5)]) rfl sc.nd (blkOk_by (by first | rfl | kernel_rfl | with_unfolding_all rfl)) rfl (i_range1 rfl T.n_range (a_cons e_int a_nil)) (fun s H C cl fp => (g_name (i := 5) sc.nd rfl (by first | exact .inl rfl | exact .inr rfl))) (fun s H C cl fp => ts_nil) (fun s H C cl fp => (e_cmpW (w_eqA hr) (by with_unfolding_all rfl) (ev 4) (ev 5))))))))
    (s_cons (s_ret (e_call F__law_same (hr.mono (by first | decide | omega)) T.g__law_same T.k__law_same B__law_same tkD (len_cons (len_cons len_nil)) rfl (a_cons (ev 1) (a_cons (ev 2) a_nil))))
    s_nil))))))
theorem ok_law (F : Fun K (PySem.Str.ofString "law") (PySem.Str.ofString "law") st_law a_law fd_law) (F__law_by_hand_right : FnOk P w K mg base (L2.CX P w) 42 a__law_by_hand_right fd__law_by_hand_right ps__law_by_hand_right (spF ⟨w, K, mg⟩ 0 f__law_by_hand_right)) (B__law_by_hand_right : Binds K fd__law_by_hand_right ps__law_by_hand_right []) (F__law_caught : FnOk P w K mg base (L2.CX P w) 1 a__law_caught fd__law_caught ps__law_caught (spF ⟨w, K, mg⟩ 2 f__law_caught)) (B__law_caught : Binds K fd__law_caught ps__law_caught []) (F__law_same : FnOk P w K mg base (L2.CX P w) 41 a__law_same fd__law_same ps__law_same (spF ⟨w, K, mg⟩ 2 f__law_same)) (B__law_same : Binds K fd__law_same ps__law_same []) (hz : Tbs.base = []) : FnOk P w K mg base (L2.CX P w) 43 a_law fd_law ps_law (spF ⟨w, K, mg⟩ 1 f_law) := by
  have sc := sc_law
  refine fn_ok F sc rfl (by decide) fun cdv A outer s H E hr => ?_
  exact (s_cons (s_if (t_not (t_val (e_call0 (fn_cl hz F__law_by_hand_right) (hr.mono (by first | decide | omega)) T.g__law_by_hand_right T.k__law_by_hand_right B__law_by_hand_right tkD rfl))) (s_cons (s_ret e_bl)
    s_nil) s_nil)
    (s_cons (s_for poD rfl (i_any (b_add (f_list rfl bt_list rfl T.n_list (a_cons (e_slice (ev 0) o_none (o_some e_int)) a_nil)) (e_lst (a_cons e_int (a_cons e_int (a_cons e_int a_nil)))))) (g_name (i := 1) sc.nd rfl (by first | exact .inl rfl | exact .inr rfl)) (s_cons (s_set (i := 2) sc.nd rfl (by first | exact .inl rfl | exact .inr rfl) (b_mod (f_int bt_int rfl T.n_int (a_cons (f_abs bt_abs rfl T.n_abs (a_cons (ev 1) a_nil)) a_nil)) e_int))
    (s_cons (s_set (i := 3) sc.nd rfl (by first | exact .inl rfl | exact .inr rfl) (b_add (ev 2) e_int))
    (s_clB hz (s_cons (s_set (i := 4) sc.nd rfl (by first | exact .inl rfl | exact .inr rfl) (e_lst (a_cons (e_call F__law_caught (hr.mono (by first | decide | omega)) T.g__law_caught T.k__law_caught B__law_caught tkD (len_cons (len_cons len_nil)) rfl (a_cons e_int (a_cons (ev 2) a_nil))) (a_cons (e_call F__law_caught (hr.mono (by first | decide | omega)) T.g__law_caught T.k__law_caught B__law_caught tkD (len_cons (len_cons len_nil)) rfl (a_cons e_int (a_cons (ev 3) a_nil))) (a_cons (e_call F__law_caught (hr.mono (by first | decide | omega)) T.g__law_caught T.k__law_caught B__law_caught tkD (len_cons (len_cons len_nil)) rfl (a_cons e_int (a_cons (ev 2) a_nil))) (a_cons (e_call F__law_caught (hr.mono (by first | decide | omega)) T.g__law_caught T.k__law_caught B__law_caught tkD (len_cons (len_cons len_nil)) rfl (a_cons e_int (a_cons (ev 3) a_nil))) a_nil))))))
    (s_cons (s_if (t_not (t_val (e_call F__law_same (hr.mono (by first | decide | omega)) T.g__law_same T.k__law_same B__law_same tkD (len_cons (len_cons len_nil)) rfl (a_cons (ev 4) (a_cons (b_mulW (e_lst (a_cons (e_lst (a_cons e_str (a_cons (ev 2) a_nil))) (a_cons (e_lst (a_cons e_str (a_cons (ev 3) a_nil))) a_nil))) e_int) a_nil))))) (s_cons (s_ret e_bl)
    s_nil) s_nil)
    s_nil))))))
    (s_cons (s_ret e_bl)
    s_nil)))
end
open PySem.W in
theorem top_mk {P : Program} {w : World} {K : PySem.W.Frag} {h : Heap} {mg : Str → Option Value} {a__law_same : Addr} {a__law_caught : Addr} {a__law_plain : Addr} {a__law_kinds : Addr} {a__law_by_hand_right : Addr} {a_law : Addr} {a_BadLine : Addr} {a_CanNot : Addr} {a_NoPlace : Addr} {a_TooMuch : Addr} {a_Unfit : Addr} {od__law_same an__law_same : Option Addr} {sl__law_same : Array (Option Value)} {oc__law_same kV__law_same dc__law_same pm__law_same cd__law_same ct__law_same : Value} {od__law_caught an__law_caught : Option Addr} {sl__law_caught : Array (Option Value)} {oc__law_caught kV__law_caught dc__law_caught pm__law_caught cd__law_caught ct__law_caught : Value} {od__law_plain an__law_plain : Option Addr} {sl__law_plain : Array (Option Value)} {oc__law_plain kV__law_plain dc__law_plain pm__law_plain cd__law_plain ct__law_plain : Value} {od__law_kinds an__law_kinds : Option Addr} {sl__law_kinds : Array (Option Value)} {oc__law_kinds kV__law_kinds dc__law_kinds pm__law_kinds cd__law_kinds ct__law_kinds : Value} {od__law_by_hand_right an__law_by_hand_right : Option Addr} {sl__law_by_hand_right : Array (Option Value)} {oc__law_by_hand_right kV__law_by_hand_right dc__law_by_hand_right pm__law_by_hand_right cd__law_by_hand_right ct__law_by_hand_right : Value} {od_law an_law : Option Addr} {sl_law : Array (Option Value)} {oc_law kV_law dc_law pm_law cd_law ct_law : Value} {i_BadLine xN_BadLine : Addr} {xn_BadLine xq_BadLine : Str} {xb_BadLine xu_BadLine : List Value} {xs_BadLine : List Str} {xa_BadLine : Bool} {xc_BadLine : Option Bool} {xd_BadLine od_BadLine an_BadLine : Option Addr} {x0_BadLine x1_BadLine x2_BadLine x3_BadLine x5_BadLine : Option Value} {sl_BadLine : Array (Option Value)} {oc_BadLine dc_BadLine pm_BadLine cd_BadLine ct_BadLine : Value} {p1_BadLine p2_BadLine q1_BadLine q2_BadLine q3_BadLine q4_BadLine : Pos} {i_NoPlace xN_NoPlace : Addr} {xn_NoPlace xq_NoPlace : Str} {xb_NoPlace xu_NoPlace : List Value} {xs_NoPlace : List Str} {xa_NoPlace : Bool} {xc_NoPlace : Option Bool} {xd_NoPlace od_NoPlace an_NoPlace : Option Addr} {x0_NoPlace x1_NoPlace x2_NoPlace x3_NoPlace x5_NoPlace : Option Value} {sl_NoPlace : Array (Option Value)} {oc_NoPlace dc_NoPlace pm_NoPlace cd_NoPlace ct_NoPlace : Value} {p1_NoPlace p2_NoPlace q1_NoPlace q2_NoPlace q3_NoPlace q4_NoPlace : Pos} (X : K.In h) (G : h.Ns mainGlobals mg)
    (a1__law_same : PySem.W.nsIn K mainGlobals (PySem.Str.ofString "_law_same") = some (some (.ref a__law_same)))
    (l1__law_same : K.lookup a__law_same = some ⟨oc__law_same, od__law_same, .func (PySem.W.fnOf (PySem.Str.ofString "_law_same") (PySem.Str.ofString "_law_same") (defArgs st__law_same) (defBody st__law_same) (defScope st__law_same) .none kV__law_same dc__law_same pm__law_same an__law_same cd__law_same ct__law_same), sl__law_same⟩)
    (c1__law_same : PySem.W.codeIn K cd__law_same (PySem.Str.ofString "_law_same") = true)
    (k1__law_same : PySem.W.keepIn K (.ref a__law_same) = true)
    (a1__law_caught : PySem.W.nsIn K mainGlobals (PySem.Str.ofString "_law_caught") = some (some (.ref a__law_caught)))
    (l1__law_caught : K.lookup a__law_caught = some ⟨oc__law_caught, od__law_caught, .func (PySem.W.fnOf (PySem.Str.ofString "_law_caught") (PySem.Str.ofString "_law_caught") (defArgs st__law_caught) (defBody st__law_caught) (defScope st__law_caught) .none kV__law_caught dc__law_caught pm__law_caught an__law_caught cd__law_caught ct__law_caught), sl__law_caught⟩)
    (c1__law_caught : PySem.W.codeIn K cd__law_caught (PySem.Str.ofString "_law_caught") = true)
    (k1__law_caught : PySem.W.keepIn K (.ref a__law_caught) = true)
    (a1__law_plain : PySem.W.nsIn K mainGlobals (PySem.Str.ofString "_law_plain") = some (some (.ref a__law_plain)))
    (l1__law_plain : K.lookup a__law_plain = some ⟨oc__law_plain, od__law_plain, .func (PySem.W.fnOf (PySem.Str.ofString "_law_plain") (PySem.Str.ofString "_law_plain") (defArgs st__law_plain) (defBody st__law_plain) (defScope st__law_plain) .none kV__law_plain dc__law_plain pm__law_plain an__law_plain cd__law_plain ct__law_plain), sl__law_plain⟩)
    (c1__law_plain : PySem.W.codeIn K cd__law_plain (PySem.Str.ofString "_law_plain") = true)
    (k1__law_plain : PySem.W.keepIn K (.ref a__law_plain) = true)
    (a1__law_kinds : PySem.W.nsIn K mainGlobals (PySem.Str.ofString "_law_kinds") = some (some (.ref a__law_kinds)))
    (l1__law_kinds : K.lookup a__law_kinds = some ⟨oc__law_kinds, od__law_kinds, .func (PySem.W.fnOf (PySem.Str.ofString "_law_kinds") (PySem.Str.ofString "_law_kinds") (defArgs st__law_kinds) (defBody st__law_kinds) (defScope st__law_kinds) .none kV__law_kinds dc__law_kinds pm__law_kinds an__law_kinds cd__law_kinds ct__law_kinds), sl__law_kinds⟩)
    (c1__law_kinds : PySem.W.codeIn K cd__law_kinds (PySem.Str.ofString "_law_kinds") = true)
    (k1__law_kinds : PySem.W.keepIn K (.ref a__law_kinds) = true)
    (a1__law_by_hand_right : PySem.W.nsIn K mainGlobals (PySem.Str.ofString "_law_by_hand_right") = some (some (.ref a__law_by_hand_right)))
    (l1__law_by_hand_right : K.lookup a__law_by_hand_right = some ⟨oc__law_by_hand_right, od__law_by_hand_right, .func (PySem.W.fnOf (PySem.Str.ofString "_law_by_hand_right") (PySem.Str.ofString "_law_by_hand_right") (defArgs st__law_by_hand_right) (defBody st__law_by_hand_right) (defScope st__law_by_hand_right) .none kV__law_by_hand_right dc__law_by_hand_right pm__law_by_hand_right an__law_by_hand_right cd__law_by_hand_right ct__law_by_hand_right), sl__law_by_hand_right⟩)
    (c1__law_by_hand_right : PySem.W.codeIn K cd__law_by_hand_right (PySem.Str.ofString "_law_by_hand_right") = true)
    (k1__law_by_hand_right : PySem.W.keepIn K (.ref a__law_by_hand_right) = true)
    (a1_law : PySem.W.nsIn K mainGlobals (PySem.Str.ofString "law") = some (some (.ref a_law)))
    (l1_law : K.lookup a_law = some ⟨oc_law, od_law, .func (PySem.W.fnOf (PySem.Str.ofString "law") (PySem.Str.ofString "law") (defArgs st_law) (defBody st_law) (defScope st_law) .none kV_law dc_law pm_law an_law cd_law ct_law), sl_law⟩)
    (c1_law : PySem.W.codeIn K cd_law (PySem.Str.ofString "law") = true)
    (k1_law : PySem.W.keepIn K (.ref a_law) = true)
    (z1_IndexError : PySem.W.nsIn K mainGlobals (PySem.Str.ofString "IndexError") = some none)
    (z1_KeyError : PySem.W.nsIn K mainGlobals (PySem.Str.ofString "KeyError") = some none)
    (z1_LookupError : PySem.W.nsIn K mainGlobals (PySem.Str.ofString "LookupError") = some none)
    (z1_ValueError : PySem.W.nsIn K mainGlobals (PySem.Str.ofString "ValueError") = some none)
    (z1_abs : PySem.W.nsIn K mainGlobals (PySem.Str.ofString "abs") = some none)
    (z1_all : PySem.W.nsIn K mainGlobals (PySem.Str.ofString "all") = some none)
    (z1_bool : PySem.W.nsIn K mainGlobals (PySem.Str.ofString "bool") = some none)
    (z1_int : PySem.W.nsIn K mainGlobals (PySem.Str.ofString "int") = some none)
    (z1_isinstance : PySem.W.nsIn K mainGlobals (PySem.Str.ofString "isinstance") = some none)
    (z1_len : PySem.W.nsIn K mainGlobals (PySem.Str.ofString "len") = some none)
    (z1_list : PySem.W.nsIn K mainGlobals (PySem.Str.ofString "list") = some none)
    (z1_range : PySem.W.nsIn K mainGlobals (PySem.Str.ofString "range") = some none)
    (z1_str : PySem.W.nsIn K mainGlobals (PySem.Str.ofString "str") = some none)
    (z1_tuple : PySem.W.nsIn K mainGlobals (PySem.Str.ofString "tuple") = some none)
    (z1_zip : PySem.W.nsIn K mainGlobals (PySem.Str.ofString "zip") = some none)
    (a1_BadLine : PySem.W.nsIn K mainGlobals (PySem.Str.ofString "BadLine") = some (some (.ref a_BadLine)))
    (k1_BadLine : PySem.W.keepIn K (.ref a_BadLine) = true)
    (b1_BadLine : PySem.W.subIn K (.ref a_BadLine) (.type "BaseException") = some true)
    (t1_BadLine : PySem.W.typeIn K (.ref a_BadLine) = some (.type "type"))
    (d1_BadLine : PySem.W.hasDictIn K a_BadLine = true)
    (s1_BadLine_BadLine : PySem.W.subIn K (.ref a_BadLine) (.ref a_BadLine) = some true)
    (s1_BadLine_CanNot : PySem.W.subIn K (.ref a_BadLine) (.ref a_CanNot) = some false)
    (s1_BadLine_NoPlace : PySem.W.subIn K (.ref a_BadLine) (.ref a_NoPlace) = some false)
    (s1_BadLine_TooMuch : PySem.W.subIn K (.ref a_BadLine) (.ref a_TooMuch) = some false)
    (s1_BadLine_Unfit : PySem.W.subIn K (.ref a_BadLine) (.ref a_Unfit) = some false)
    (x1_BadLine : K.lookup a_BadLine = some (excClassObj xn_BadLine xq_BadLine a_BadLine xN_BadLine xb_BadLine [.type "ValueError", .type "Exception", .type "BaseException", .type "object"] true xs_BadLine xu_BadLine xa_BadLine xc_BadLine xd_BadLine x0_BadLine x1_BadLine x2_BadLine x3_BadLine x5_BadLine "ValueError.__new__"))
    (sa_BadLine : PySem.W.findIn K (.ref a_BadLine) "__setattr__" = some (some (.builtin "object.__setattr__")))
    (ga_BadLine : PySem.W.findIn K (.ref a_BadLine) "__getattribute__" = some (some (.builtin "BaseException.__getattribute__")))
    (gg_BadLine : PySem.W.findIn K (.ref a_BadLine) "__getattr__" = some none)
    (nb_BadLine : PySem.W.findIn K (.ref a_BadLine) "line" = some none)
    (in_BadLine : PySem.W.findIn K (.ref a_BadLine) "__init__" = some (some (.ref i_BadLine)))
    (ti_BadLine : PySem.W.typeIn K (.ref i_BadLine) = some (.type "function"))
    (li_BadLine : K.lookup i_BadLine = some ⟨oc_BadLine, od_BadLine, .func (PySem.W.fnOf "__init__" (PySem.Str.ofString "BadLine.__init__") (ExLine.iA p1_BadLine p2_BadLine) (ExLine.iB q1_BadLine q2_BadLine q3_BadLine q4_BadLine) ExLine.iS .none .none dc_BadLine pm_BadLine an_BadLine cd_BadLine ct_BadLine), sl_BadLine⟩)
    (ci_BadLine : PySem.W.codeIn K cd_BadLine (PySem.Str.ofString "BadLine.__init__") = true)
    (a1_CanNot : PySem.W.nsIn K mainGlobals (PySem.Str.ofString "CanNot") = some (some (.ref a_CanNot)))
    (k1_CanNot : PySem.W.keepIn K (.ref a_CanNot) = true)
    (b1_CanNot : PySem.W.subIn K (.ref a_CanNot) (.type "BaseException") = some true)
    (t1_CanNot : PySem.W.typeIn K (.ref a_CanNot) = some (.type "type"))
    (d1_CanNot : PySem.W.hasDictIn K a_CanNot = true)
    (s1_CanNot_BadLine : PySem.W.subIn K (.ref a_CanNot) (.ref a_BadLine) = some false)
    (s1_CanNot_CanNot : PySem.W.subIn K (.ref a_CanNot) (.ref a_CanNot) = some true)
    (s1_CanNot_NoPlace : PySem.W.subIn K (.ref a_CanNot) (.ref a_NoPlace) = some false)
    (s1_CanNot_TooMuch : PySem.W.subIn K (.ref a_CanNot) (.ref a_TooMuch) = some false)
    (s1_CanNot_Unfit : PySem.W.subIn K (.ref a_CanNot) (.ref a_Unfit) = some false)
    (x1_CanNot : PySem.W.excIn K a_CanNot [.type "ValueError", .type "Exception", .type "BaseException", .type "object"] "ValueError.__new__" = true)
    (a1_NoPlace : PySem.W.nsIn K mainGlobals (PySem.Str.ofString "NoPlace") = some (some (.ref a_NoPlace)))
    (k1_NoPlace : PySem.W.keepIn K (.ref a_NoPlace) = true)
    (b1_NoPlace : PySem.W.subIn K (.ref a_NoPlace) (.type "BaseException") = some true)
    (t1_NoPlace : PySem.W.typeIn K (.ref a_NoPlace) = some (.type "type"))
    (d1_NoPlace : PySem.W.hasDictIn K a_NoPlace = true)
    (s1_NoPlace_BadLine : PySem.W.subIn K (.ref a_NoPlace) (.ref a_BadLine) = some false)
    (s1_NoPlace_CanNot : PySem.W.subIn K (.ref a_NoPlace) (.ref a_CanNot) = some false)
    (s1_NoPlace_NoPlace : PySem.W.subIn K (.ref a_NoPlace) (.ref a_NoPlace) = some true)
    (s1_NoPlace_TooMuch : PySem.W.subIn K (.ref a_NoPlace) (.ref a_TooMuch) = some false)
    (s1_NoPlace_Unfit : PySem.W.subIn K (.ref a_NoPlace) (.ref a_Unfit) = some false)
    (x1_NoPlace : K.lookup a_NoPlace = some (excClassObj xn_NoPlace xq_NoPlace a_NoPlace xN_NoPlace xb_NoPlace [.type "LookupError", .type "Exception", .type "BaseException", .type "object"] true xs_NoPlace xu_NoPlace xa_NoPlace xc_NoPlace xd_NoPlace x0_NoPlace x1_NoPlace x2_NoPlace x3_NoPlace x5_NoPlace "LookupError.__new__"))
    (sa_NoPlace : PySem.W.findIn K (.ref a_NoPlace) "__setattr__" = some (some (.builtin "object.__setattr__")))
    (ga_NoPlace : PySem.W.findIn K (.ref a_NoPlace) "__getattribute__" = some (some (.builtin "BaseException.__getattribute__")))
    (gg_NoPlace : PySem.W.findIn K (.ref a_NoPlace) "__getattr__" = some none)
    (nb_NoPlace : PySem.W.findIn K (.ref a_NoPlace) "place" = some none)
    (in_NoPlace : PySem.W.findIn K (.ref a_NoPlace) "__init__" = some (some (.ref i_NoPlace)))
    (ti_NoPlace : PySem.W.typeIn K (.ref i_NoPlace) = some (.type "function"))
    (li_NoPlace : K.lookup i_NoPlace = some ⟨oc_NoPlace, od_NoPlace, .func (PySem.W.fnOf "__init__" (PySem.Str.ofString "NoPlace.__init__") (ExPlace.iA p1_NoPlace p2_NoPlace) (ExPlace.iB q1_NoPlace q2_NoPlace q3_NoPlace q4_NoPlace) ExPlace.iS .none .none dc_NoPlace pm_NoPlace an_NoPlace cd_NoPlace ct_NoPlace), sl_NoPlace⟩)
    (ci_NoPlace : PySem.W.codeIn K cd_NoPlace (PySem.Str.ofString "NoPlace.__init__") = true)
    (a1_TooMuch : PySem.W.nsIn K mainGlobals (PySem.Str.ofString "TooMuch") = some (some (.ref a_TooMuch)))
    (k1_TooMuch : PySem.W.keepIn K (.ref a_TooMuch) = true)
    (b1_TooMuch : PySem.W.subIn K (.ref a_TooMuch) (.type "BaseException") = some true)
    (t1_TooMuch : PySem.W.typeIn K (.ref a_TooMuch) = some (.type "type"))
    (d1_TooMuch : PySem.W.hasDictIn K a_TooMuch = true)
    (s1_TooMuch_BadLine : PySem.W.subIn K (.ref a_TooMuch) (.ref a_BadLine) = some false)
    (s1_TooMuch_CanNot : PySem.W.subIn K (.ref a_TooMuch) (.ref a_CanNot) = some false)
    (s1_TooMuch_NoPlace : PySem.W.subIn K (.ref a_TooMuch) (.ref a_NoPlace) = some false)
    (s1_TooMuch_TooMuch : PySem.W.subIn K (.ref a_TooMuch) (.ref a_TooMuch) = some true)
    (s1_TooMuch_Unfit : PySem.W.subIn K (.ref a_TooMuch) (.ref a_Unfit) = some false)
    (x1_TooMuch : PySem.W.excIn K a_TooMuch [.type "ValueError", .type "Exception", .type "BaseException", .type "object"] "ValueError.__new__" = true)
    (a1_Unfit : PySem.W.nsIn K mainGlobals (PySem.Str.ofString "Unfit") = some (some (.ref a_Unfit)))
    (k1_Unfit : PySem.W.keepIn K (.ref a_Unfit) = true)
    (b1_Unfit : PySem.W.subIn K (.ref a_Unfit) (.type "BaseException") = some true)
    (t1_Unfit : PySem.W.typeIn K (.ref a_Unfit) = some (.type "type"))
    (d1_Unfit : PySem.W.hasDictIn K a_Unfit = true)
    (s1_Unfit_BadLine : PySem.W.subIn K (.ref a_Unfit) (.ref a_BadLine) = some false)
    (s1_Unfit_CanNot : PySem.W.subIn K (.ref a_Unfit) (.ref a_CanNot) = some false)
    (s1_Unfit_NoPlace : PySem.W.subIn K (.ref a_Unfit) (.ref a_NoPlace) = some false)
    (s1_Unfit_TooMuch : PySem.W.subIn K (.ref a_Unfit) (.ref a_TooMuch) = some false)
    (s1_Unfit_Unfit : PySem.W.subIn K (.ref a_Unfit) (.ref a_Unfit) = some true)
    (x1_Unfit : PySem.W.excIn K a_Unfit [.type "ValueError", .type "Exception", .type "BaseException", .type "object"] "ValueError.__new__" = true)
    (ca_BadLine : PySem.W.findIn K (.ref a_BadLine) "__class__" = some (some (.builtin "object.__class__")))
    (mo_BadLine : PySem.W.mroIn K a_BadLine (.type "object") = some true)
    (ga_CanNot : PySem.W.findIn K (.ref a_CanNot) "__getattribute__" = some (some (.builtin "BaseException.__getattribute__")))
    (gg_CanNot : PySem.W.findIn K (.ref a_CanNot) "__getattr__" = some none)
    (ca_CanNot : PySem.W.findIn K (.ref a_CanNot) "__class__" = some (some (.builtin "object.__class__")))
    (mo_CanNot : PySem.W.mroIn K a_CanNot (.type "object") = some true)
    (ca_NoPlace : PySem.W.findIn K (.ref a_NoPlace) "__class__" = some (some (.builtin "object.__class__")))
    (mo_NoPlace : PySem.W.mroIn K a_NoPlace (.type "object") = some true)
    (ga_TooMuch : PySem.W.findIn K (.ref a_TooMuch) "__getattribute__" = some (some (.builtin "BaseException.__getattribute__")))
    (gg_TooMuch : PySem.W.findIn K (.ref a_TooMuch) "__getattr__" = some none)
    (ca_TooMuch : PySem.W.findIn K (.ref a_TooMuch) "__class__" = some (some (.builtin "object.__class__")))
    (mo_TooMuch : PySem.W.mroIn K a_TooMuch (.type "object") = some true)
    (ga_Unfit : PySem.W.findIn K (.ref a_Unfit) "__getattribute__" = some (some (.builtin "BaseException.__getattribute__")))
    (gg_Unfit : PySem.W.findIn K (.ref a_Unfit) "__getattr__" = some none)
    (ca_Unfit : PySem.W.findIn K (.ref a_Unfit) "__class__" = some (some (.builtin "object.__class__")))
    (mo_Unfit : PySem.W.mroIn K a_Unfit (.type "object") = some true)
    (iw_BadLine_BadLine : PySem.W.kitOne K (.ref a_BadLine) (.ref a_BadLine) = some true)
    (iw_BadLine_CanNot : PySem.W.kitOne K (.ref a_BadLine) (.ref a_CanNot) = some false)
    (iw_BadLine_NoPlace : PySem.W.kitOne K (.ref a_BadLine) (.ref a_NoPlace) = some false)
    (iw_BadLine_TooMuch : PySem.W.kitOne K (.ref a_BadLine) (.ref a_TooMuch) = some false)
    (iw_BadLine_Unfit : PySem.W.kitOne K (.ref a_BadLine) (.ref a_Unfit) = some false)
    (iw_CanNot_BadLine : PySem.W.kitOne K (.ref a_CanNot) (.ref a_BadLine) = some false)
    (iw_CanNot_CanNot : PySem.W.kitOne K (.ref a_CanNot) (.ref a_CanNot) = some true)
    (iw_CanNot_NoPlace : PySem.W.kitOne K (.ref a_CanNot) (.ref a_NoPlace) = some false)
    (iw_CanNot_TooMuch : PySem.W.kitOne K (.ref a_CanNot) (.ref a_TooMuch) = some false)
    (iw_CanNot_Unfit : PySem.W.kitOne K (.ref a_CanNot) (.ref a_Unfit) = some false)
    (iw_NoPlace_BadLine : PySem.W.kitOne K (.ref a_NoPlace) (.ref a_BadLine) = some false)
    (iw_NoPlace_CanNot : PySem.W.kitOne K (.ref a_NoPlace) (.ref a_CanNot) = some false)
    (iw_NoPlace_NoPlace : PySem.W.kitOne K (.ref a_NoPlace) (.ref a_NoPlace) = some true)
    (iw_NoPlace_TooMuch : PySem.W.kitOne K (.ref a_NoPlace) (.ref a_TooMuch) = some false)
    (iw_NoPlace_Unfit : PySem.W.kitOne K (.ref a_NoPlace) (.ref a_Unfit) = some false)
    (iw_TooMuch_BadLine : PySem.W.kitOne K (.ref a_TooMuch) (.ref a_BadLine) = some false)
    (iw_TooMuch_CanNot : PySem.W.kitOne K (.ref a_TooMuch) (.ref a_CanNot) = some false)
    (iw_TooMuch_NoPlace : PySem.W.kitOne K (.ref a_TooMuch) (.ref a_NoPlace) = some false)
    (iw_TooMuch_TooMuch : PySem.W.kitOne K (.ref a_TooMuch) (.ref a_TooMuch) = some true)
    (iw_TooMuch_Unfit : PySem.W.kitOne K (.ref a_TooMuch) (.ref a_Unfit) = some false)
    (iw_Unfit_BadLine : PySem.W.kitOne K (.ref a_Unfit) (.ref a_BadLine) = some false)
    (iw_Unfit_CanNot : PySem.W.kitOne K (.ref a_Unfit) (.ref a_CanNot) = some false)
    (iw_Unfit_NoPlace : PySem.W.kitOne K (.ref a_Unfit) (.ref a_NoPlace) = some false)
    (iw_Unfit_TooMuch : PySem.W.kitOne K (.ref a_Unfit) (.ref a_TooMuch) = some false)
    (iw_Unfit_Unfit : PySem.W.kitOne K (.ref a_Unfit) (.ref a_Unfit) = some true)
    (iv_BadLine_IndexError : PySem.W.kitOne K (.ref a_BadLine) (.type "IndexError") = some false)
    (iv_BadLine_KeyError : PySem.W.kitOne K (.ref a_BadLine) (.type "KeyError") = some false)
    (iv_BadLine_LookupError : PySem.W.kitOne K (.ref a_BadLine) (.type "LookupError") = some false)
    (iv_BadLine_ValueError : PySem.W.kitOne K (.ref a_BadLine) (.type "ValueError") = some true)
    (iv_CanNot_IndexError : PySem.W.kitOne K (.ref a_CanNot) (.type "IndexError") = some false)
    (iv_CanNot_KeyError : PySem.W.kitOne K (.ref a_CanNot) (.type "KeyError") = some false)
    (iv_CanNot_LookupError : PySem.W.kitOne K (.ref a_CanNot) (.type "LookupError") = some false)
    (iv_CanNot_ValueError : PySem.W.kitOne K (.ref a_CanNot) (.type "ValueError") = some true)
    (iv_NoPlace_IndexError : PySem.W.kitOne K (.ref a_NoPlace) (.type "IndexError") = some false)
    (iv_NoPlace_KeyError : PySem.W.kitOne K (.ref a_NoPlace) (.type "KeyError") = some false)
    (iv_NoPlace_LookupError : PySem.W.kitOne K (.ref a_NoPlace) (.type "LookupError") = some true)
    (iv_NoPlace_ValueError : PySem.W.kitOne K (.ref a_NoPlace) (.type "ValueError") = some false)
    (iv_TooMuch_IndexError : PySem.W.kitOne K (.ref a_TooMuch) (.type "IndexError") = some false)
    (iv_TooMuch_KeyError : PySem.W.kitOne K (.ref a_TooMuch) (.type "KeyError") = some false)
    (iv_TooMuch_LookupError : PySem.W.kitOne K (.ref a_TooMuch) (.type "LookupError") = some false)
    (iv_TooMuch_ValueError : PySem.W.kitOne K (.ref a_TooMuch) (.type "ValueError") = some true)
    (iv_Unfit_IndexError : PySem.W.kitOne K (.ref a_Unfit) (.type "IndexError") = some false)
    (iv_Unfit_KeyError : PySem.W.kitOne K (.ref a_Unfit) (.type "KeyError") = some false)
    (iv_Unfit_LookupError : PySem.W.kitOne K (.ref a_Unfit) (.type "LookupError") = some false)
    (iv_Unfit_ValueError : PySem.W.kitOne K (.ref a_Unfit) (.type "ValueError") = some true)
    (oc_get : PySem.W.specialIn K (.builtin "object.__class__") "__get__" = some (some (.builtin "getset_descriptor.__get__")))
    (oc_tk : PySem.W.takesIn K (.builtin "object.__class__") = some true)
    : Txt P w K mg a__law_same a__law_caught a__law_plain a__law_kinds a__law_by_hand_right a_law a_BadLine a_CanNot a_NoPlace a_TooMuch a_Unfit where
  g__law_same := PySem.W.mg_of X G a1__law_same
  k__law_same := k1__law_same
  g__law_caught := PySem.W.mg_of X G a1__law_caught
  k__law_caught := k1__law_caught
  g__law_plain := PySem.W.mg_of X G a1__law_plain
  k__law_plain := k1__law_plain
  g__law_kinds := PySem.W.mg_of X G a1__law_kinds
  k__law_kinds := k1__law_kinds
  g__law_by_hand_right := PySem.W.mg_of X G a1__law_by_hand_right
  k__law_by_hand_right := k1__law_by_hand_right
  g_law := PySem.W.mg_of X G a1_law
  k_law := k1_law
  n_IndexError := PySem.W.mg_none_of X G z1_IndexError
  n_KeyError := PySem.W.mg_none_of X G z1_KeyError
  n_LookupError := PySem.W.mg_none_of X G z1_LookupError
  n_ValueError := PySem.W.mg_none_of X G z1_ValueError
  n_abs := PySem.W.mg_none_of X G z1_abs
  n_all := PySem.W.mg_none_of X G z1_all
  n_bool := PySem.W.mg_none_of X G z1_bool
  n_int := PySem.W.mg_none_of X G z1_int
  n_isinstance := PySem.W.mg_none_of X G z1_isinstance
  n_len := PySem.W.mg_none_of X G z1_len
  n_list := PySem.W.mg_none_of X G z1_list
  n_range := PySem.W.mg_none_of X G z1_range
  n_str := PySem.W.mg_none_of X G z1_str
  n_tuple := PySem.W.mg_none_of X G z1_tuple
  n_zip := PySem.W.mg_none_of X G z1_zip
  g_BadLine := PySem.W.mg_of X G a1_BadLine
  k_BadLine := k1_BadLine
  b_BadLine := b1_BadLine
  t_BadLine := t1_BadLine
  m_BadLine := ExLine.mkr (fI := i_BadLine) (qn := (PySem.Str.ofString "BadLine.__init__")) ⟨⟨_, _, _, _, _, _, _, _, _, _, _, _, _, _, x1_BadLine⟩, by unfold PySem.W.excOver PySem.W.clsIn; rw [x1_BadLine]; simp [excClassObj, PySem.W.excTail], sa_BadLine, nb_BadLine, in_BadLine, ti_BadLine, ⟨_, _, _, _, _, _, _, _, _, _, _, _, _, _, li_BadLine, ci_BadLine⟩⟩
  mk_BadLine := ExLine.mkrK (fI := i_BadLine) (qn := (PySem.Str.ofString "BadLine.__init__")) ⟨⟨_, _, _, _, _, _, _, _, _, _, _, _, _, _, x1_BadLine⟩, by unfold PySem.W.excOver PySem.W.clsIn; rw [x1_BadLine]; simp [excClassObj, PySem.W.excTail], sa_BadLine, nb_BadLine, in_BadLine, ti_BadLine, ⟨_, _, _, _, _, _, _, _, _, _, _, _, _, _, li_BadLine, ci_BadLine⟩⟩
  at_BadLine := ⟨ga_BadLine, gg_BadLine, b1_BadLine, d1_BadLine, nb_BadLine⟩
  g_CanNot := PySem.W.mg_of X G a1_CanNot
  k_CanNot := k1_CanNot
  b_CanNot := b1_CanNot
  t_CanNot := t1_CanNot
  x_CanNot := x1_CanNot
  g_NoPlace := PySem.W.mg_of X G a1_NoPlace
  k_NoPlace := k1_NoPlace
  b_NoPlace := b1_NoPlace
  t_NoPlace := t1_NoPlace
  m_NoPlace := ExPlace.mkr (fI := i_NoPlace) (qn := (PySem.Str.ofString "NoPlace.__init__")) ⟨⟨_, _, _, _, _, _, _, _, _, _, _, _, _, _, x1_NoPlace⟩, by unfold PySem.W.excOver PySem.W.clsIn; rw [x1_NoPlace]; simp [excClassObj, PySem.W.excTail], sa_NoPlace, nb_NoPlace, in_NoPlace, ti_NoPlace, ⟨_, _, _, _, _, _, _, _, _, _, _, _, _, _, li_NoPlace, ci_NoPlace⟩⟩
  mk_NoPlace := ExPlace.mkrK (fI := i_NoPlace) (qn := (PySem.Str.ofString "NoPlace.__init__")) ⟨⟨_, _, _, _, _, _, _, _, _, _, _, _, _, _, x1_NoPlace⟩, by unfold PySem.W.excOver PySem.W.clsIn; rw [x1_NoPlace]; simp [excClassObj, PySem.W.excTail], sa_NoPlace, nb_NoPlace, in_NoPlace, ti_NoPlace, ⟨_, _, _, _, _, _, _, _, _, _, _, _, _, _, li_NoPlace, ci_NoPlace⟩⟩
  at_NoPlace := ⟨ga_NoPlace, gg_NoPlace, b1_NoPlace, d1_NoPlace, nb_NoPlace⟩
  g_TooMuch := PySem.W.mg_of X G a1_TooMuch
  k_TooMuch := k1_TooMuch
  b_TooMuch := b1_TooMuch
  t_TooMuch := t1_TooMuch
  x_TooMuch := x1_TooMuch
  g_Unfit := PySem.W.mg_of X G a1_Unfit
  k_Unfit := k1_Unfit
  b_Unfit := b1_Unfit
  t_Unfit := t1_Unfit
  x_Unfit := x1_Unfit
  ie_BadLine := ⟨ga_BadLine, gg_BadLine, b1_BadLine, d1_BadLine, ca_BadLine, oc_get, oc_tk, mo_BadLine⟩
  ie_CanNot := ⟨ga_CanNot, gg_CanNot, b1_CanNot, d1_CanNot, ca_CanNot, oc_get, oc_tk, mo_CanNot⟩
  ie_NoPlace := ⟨ga_NoPlace, gg_NoPlace, b1_NoPlace, d1_NoPlace, ca_NoPlace, oc_get, oc_tk, mo_NoPlace⟩
  ie_TooMuch := ⟨ga_TooMuch, gg_TooMuch, b1_TooMuch, d1_TooMuch, ca_TooMuch, oc_get, oc_tk, mo_TooMuch⟩
  ie_Unfit := ⟨ga_Unfit, gg_Unfit, b1_Unfit, d1_Unfit, ca_Unfit, oc_get, oc_tk, mo_Unfit⟩
  iw_BadLine_BadLine := iw_BadLine_BadLine
  iw_BadLine_CanNot := iw_BadLine_CanNot
  iw_BadLine_NoPlace := iw_BadLine_NoPlace
  iw_BadLine_TooMuch := iw_BadLine_TooMuch
  iw_BadLine_Unfit := iw_BadLine_Unfit
  iw_CanNot_BadLine := iw_CanNot_BadLine
  iw_CanNot_CanNot := iw_CanNot_CanNot
  iw_CanNot_NoPlace := iw_CanNot_NoPlace
  iw_CanNot_TooMuch := iw_CanNot_TooMuch
  iw_CanNot_Unfit := iw_CanNot_Unfit
  iw_NoPlace_BadLine := iw_NoPlace_BadLine
  iw_NoPlace_CanNot := iw_NoPlace_CanNot
  iw_NoPlace_NoPlace := iw_NoPlace_NoPlace
  iw_NoPlace_TooMuch := iw_NoPlace_TooMuch
  iw_NoPlace_Unfit := iw_NoPlace_Unfit
  iw_TooMuch_BadLine := iw_TooMuch_BadLine
  iw_TooMuch_CanNot := iw_TooMuch_CanNot
  iw_TooMuch_NoPlace := iw_TooMuch_NoPlace
  iw_TooMuch_TooMuch := iw_TooMuch_TooMuch
  iw_TooMuch_Unfit := iw_TooMuch_Unfit
  iw_Unfit_BadLine := iw_Unfit_BadLine
  iw_Unfit_CanNot := iw_Unfit_CanNot
  iw_Unfit_NoPlace := iw_Unfit_NoPlace
  iw_Unfit_TooMuch := iw_Unfit_TooMuch
  iw_Unfit_Unfit := iw_Unfit_Unfit
  iv_BadLine_IndexError := iv_BadLine_IndexError
  iv_BadLine_KeyError := iv_BadLine_KeyError
  iv_BadLine_LookupError := iv_BadLine_LookupError
  iv_BadLine_ValueError := iv_BadLine_ValueError
  iv_CanNot_IndexError := iv_CanNot_IndexError
  iv_CanNot_KeyError := iv_CanNot_KeyError
  iv_CanNot_LookupError := iv_CanNot_LookupError
  iv_CanNot_ValueError := iv_CanNot_ValueError
  iv_NoPlace_IndexError := iv_NoPlace_IndexError
  iv_NoPlace_KeyError := iv_NoPlace_KeyError
  iv_NoPlace_LookupError := iv_NoPlace_LookupError
  iv_NoPlace_ValueError := iv_NoPlace_ValueError
  iv_TooMuch_IndexError := iv_TooMuch_IndexError
  iv_TooMuch_KeyError := iv_TooMuch_KeyError
  iv_TooMuch_LookupError := iv_TooMuch_LookupError
  iv_TooMuch_ValueError := iv_TooMuch_ValueError
  iv_Unfit_IndexError := iv_Unfit_IndexError
  iv_Unfit_KeyError := iv_Unfit_KeyError
  iv_Unfit_LookupError := iv_Unfit_LookupError
  iv_Unfit_ValueError := iv_Unfit_ValueError
  ek := by
    intro c hc k hk C e
    have g_BadLine := PySem.W.mg_of X G a1_BadLine
    have g_CanNot := PySem.W.mg_of X G a1_CanNot
    have g_NoPlace := PySem.W.mg_of X G a1_NoPlace
    have g_TooMuch := PySem.W.mg_of X G a1_TooMuch
    have g_Unfit := PySem.W.mg_of X G a1_Unfit
    simp only [List.mem_cons, List.not_mem_nil, or_false] at hc hk
    rcases hc with rfl | rfl | rfl | rfl | rfl <;> rcases hk with rfl | rfl | rfl | rfl | rfl
    · rw [g_BadLine] at e; cases e; rw [g_BadLine]; exact PySem.W.exm_ref b1_BadLine d1_BadLine t1_BadLine s1_BadLine_BadLine
    · rw [g_BadLine] at e; cases e; rw [g_CanNot]; exact PySem.W.exm_ref b1_CanNot d1_CanNot t1_CanNot s1_BadLine_CanNot
    · rw [g_BadLine] at e; cases e; rw [g_NoPlace]; exact PySem.W.exm_ref b1_NoPlace d1_NoPlace t1_NoPlace s1_BadLine_NoPlace
    · rw [g_BadLine] at e; cases e; rw [g_TooMuch]; exact PySem.W.exm_ref b1_TooMuch d1_TooMuch t1_TooMuch s1_BadLine_TooMuch
    · rw [g_BadLine] at e; cases e; rw [g_Unfit]; exact PySem.W.exm_ref b1_Unfit d1_Unfit t1_Unfit s1_BadLine_Unfit
    · rw [g_CanNot] at e; cases e; rw [g_BadLine]; exact PySem.W.exm_ref b1_BadLine d1_BadLine t1_BadLine s1_CanNot_BadLine
    · rw [g_CanNot] at e; cases e; rw [g_CanNot]; exact PySem.W.exm_ref b1_CanNot d1_CanNot t1_CanNot s1_CanNot_CanNot
    · rw [g_CanNot] at e; cases e; rw [g_NoPlace]; exact PySem.W.exm_ref b1_NoPlace d1_NoPlace t1_NoPlace s1_CanNot_NoPlace
    · rw [g_CanNot] at e; cases e; rw [g_TooMuch]; exact PySem.W.exm_ref b1_TooMuch d1_TooMuch t1_TooMuch s1_CanNot_TooMuch
    · rw [g_CanNot] at e; cases e; rw [g_Unfit]; exact PySem.W.exm_ref b1_Unfit d1_Unfit t1_Unfit s1_CanNot_Unfit
    · rw [g_NoPlace] at e; cases e; rw [g_BadLine]; exact PySem.W.exm_ref b1_BadLine d1_BadLine t1_BadLine s1_NoPlace_BadLine
    · rw [g_NoPlace] at e; cases e; rw [g_CanNot]; exact PySem.W.exm_ref b1_CanNot d1_CanNot t1_CanNot s1_NoPlace_CanNot
    · rw [g_NoPlace] at e; cases e; rw [g_NoPlace]; exact PySem.W.exm_ref b1_NoPlace d1_NoPlace t1_NoPlace s1_NoPlace_NoPlace
    · rw [g_NoPlace] at e; cases e; rw [g_TooMuch]; exact PySem.W.exm_ref b1_TooMuch d1_TooMuch t1_TooMuch s1_NoPlace_TooMuch
    · rw [g_NoPlace] at e; cases e; rw [g_Unfit]; exact PySem.W.exm_ref b1_Unfit d1_Unfit t1_Unfit s1_NoPlace_Unfit
    · rw [g_TooMuch] at e; cases e; rw [g_BadLine]; exact PySem.W.exm_ref b1_BadLine d1_BadLine t1_BadLine s1_TooMuch_BadLine
    · rw [g_TooMuch] at e; cases e; rw [g_CanNot]; exact PySem.W.exm_ref b1_CanNot d1_CanNot t1_CanNot s1_TooMuch_CanNot
    · rw [g_TooMuch] at e; cases e; rw [g_NoPlace]; exact PySem.W.exm_ref b1_NoPlace d1_NoPlace t1_NoPlace s1_TooMuch_NoPlace
    · rw [g_TooMuch] at e; cases e; rw [g_TooMuch]; exact PySem.W.exm_ref b1_TooMuch d1_TooMuch t1_TooMuch s1_TooMuch_TooMuch
    · rw [g_TooMuch] at e; cases e; rw [g_Unfit]; exact PySem.W.exm_ref b1_Unfit d1_Unfit t1_Unfit s1_TooMuch_Unfit
    · rw [g_Unfit] at e; cases e; rw [g_BadLine]; exact PySem.W.exm_ref b1_BadLine d1_BadLine t1_BadLine s1_Unfit_BadLine
    · rw [g_Unfit] at e; cases e; rw [g_CanNot]; exact PySem.W.exm_ref b1_CanNot d1_CanNot t1_CanNot s1_Unfit_CanNot
    · rw [g_Unfit] at e; cases e; rw [g_NoPlace]; exact PySem.W.exm_ref b1_NoPlace d1_NoPlace t1_NoPlace s1_Unfit_NoPlace
    · rw [g_Unfit] at e; cases e; rw [g_TooMuch]; exact PySem.W.exm_ref b1_TooMuch d1_TooMuch t1_TooMuch s1_Unfit_TooMuch
    · rw [g_Unfit] at e; cases e; rw [g_Unfit]; exact PySem.W.exm_ref b1_Unfit d1_Unfit t1_Unfit s1_Unfit_Unfit
end
end Gn

set_option Elab.async false
set_option linter.all false
set_option maxRecDepth 100000
set_option maxHeartbeats 4000000
set_option autoImplicit false
namespace Gn
open PySem PySem.Spec PyProof.Rows L2 Rh
noncomputable def zm__law_same (fm : FM) : MS := (zSeq (zIfS (zTruth (zOpA dIsi (zCons (zVar 1) (zCons (zTup (zCons (zCon (.ty .list)) (zCons (zCon (.ty .tuple)) zNil))) zNil)))) (zSeq (zIfS (zOr (zB (zOp2 (zEqA true) (zOpA dIsi (zCons (zVar 0) (zCons (zCon (.ty .list)) zNil))) (zOpA dIsi (zCons (zVar 1) (zCons (zCon (.ty .list)) zNil))))) (zB (zOp2 (zEqA true) (zOpA dIsi (zCons (zVar 0) (zCons (zCon (.ty .tuple)) zNil))) (zOpA dIsi (zCons (zVar 1) (zCons (zCon (.ty .tuple)) zNil)))))) (zSeq (zRet (zCon (.bl false)))
    mNx) mNx)
    (zSeq (zRet (mAndV (zOp2 (zEqA false) (zOpA zLen (zCons (zVar 0) zNil)) (zOpA zLen (zCons (zVar 1) zNil))) (zOpA dAll (zCons (zLc (mZip (zCons (zVar 0) (zCons (zVar 1) zNil))) (zTupT 2 (zsCons (zName 2) (zsCons (zName 3) tsNil))) (mPure true) (zCall fm (zCons (zVar 2) (zCons (zVar 3) zNil))) [2, 3]) zNil))))
    mNx)) mNx)
    (zSeq (zIfS (zOr (zB (zOp2 (dIsB false) (zVar 1) (zCon .non))) (zTruth (zOpA dIsi (zCons (zVar 1) (zCons (zTup (zCons (zCon (.ty .bool)) (zCons (zCon (.ty .str)) zNil))) zNil))))) (zSeq (zRet (mAndV (zOp2 (zEqA false) (zVar 0) (zVar 1)) (mAndV (zOp2 (zEqA false) (zOpA dIsi (zCons (zVar 0) (zCons (zCon (.ty .bool)) zNil))) (zOpA dIsi (zCons (zVar 1) (zCons (zCon (.ty .bool)) zNil)))) (zOp2 (zEqA false) (zOp2 (dIsB false) (zVar 0) (zCon .non)) (zOp2 (dIsB false) (zVar 1) (zCon .non))))))
    mNx) mNx)
    (zSeq (zRet (mAndV (zOpA dIsi (zCons (zVar 0) (zCons (zCon (.ty .int)) zNil))) (mAndV (mNotV (zOpA dIsi (zCons (zVar 0) (zCons (zCon (.ty .bool)) zNil)))) (zOp2 (zEqA false) (zVar 0) (zVar 1)))))
    mNx)))
theorem qm__law_same : m__law_same = zm__law_same := by
  funext fm
  unfold m__law_same zm__law_same
  simp only [q_mSeq, q_mIfS, q_mTruth, q_mOpA, q_mCons, q_mVar, q_mTup, q_mCon, q_mNil, q_mOr, q_mB, q_mOp2, q_dEqA, q_mRet, q_dLenA, q_mLc, q_tTup, q_tsCons, q_tName, q_mCall]
noncomputable def zf__law_same : FM := zFuel N__law_same zm__law_same 40
theorem qf__law_same : f__law_same = zf__law_same := by
  unfold f__law_same zf__law_same
  simp only [q_fuelF, qm__law_same]
noncomputable def zm__law_caught : MS := (zSeq (mTry ["BadLine", "CanNot", "NoPlace", "TooMuch", "Unfit"] (zSeq (zIfS (zB (zOp2 (zEqA false) (zVar 0) (zCon (.int 0)))) (zSeq (mRaise1 "NoPlace" "place" (zVar 1))
    mNx) mNx)
    (zSeq (zIfS (zB (zOp2 (zEqA false) (zVar 0) (zCon (.int 1)))) (zSeq (mRaise1 "BadLine" "line" (zVar 1))
    mNx) mNx)
    (zSeq (zIfS (zB (zOp2 (zEqA false) (zVar 0) (zCon (.int 2)))) (zSeq (mRaise1K "NoPlace" "place" (zCons (zVar 1) zNil))
    mNx) mNx)
    (zSeq (mRaise1K "BadLine" "line" (zCons (zVar 1) zNil))
    mNx)))) [⟨"NoPlace", (some 2), (fun c fs => zRet (mXL (xCons (xC (.str "place")) (xCons (xAt "NoPlace" "place") xNil)) c fs))⟩, ⟨"BadLine", (some 2), (fun c fs => zRet (mXL (xCons (xC (.str "line")) (xCons (xAt "BadLine" "line") xNil)) c fs))⟩])
    mNx)
theorem qm__law_caught : m__law_caught = zm__law_caught := by
  unfold m__law_caught zm__law_caught
  simp only [q_mSeq, q_mIfS, q_mB, q_mOp2, q_dEqA, q_mVar, q_mCon, q_mCons, q_mNil, q_mRet]
noncomputable def zf__law_caught : FM := zRun N__law_caught.length zm__law_caught
theorem qf__law_caught : f__law_caught = zf__law_caught := by
  unfold f__law_caught zf__law_caught
  simp only [q_runDef, qm__law_caught]
noncomputable def zm__law_plain : MS := (zSeq (zRet (zLst (zCons (mIsX [("BadLine", false), ("CanNot", false), ("NoPlace", true), ("TooMuch", false), ("Unfit", false)] (zVar 0)) (zCons (mIsX [("BadLine", true), ("CanNot", true), ("NoPlace", false), ("TooMuch", true), ("Unfit", true)] (zVar 0)) (zCons (mIsX [("BadLine", false), ("CanNot", false), ("NoPlace", false), ("TooMuch", false), ("Unfit", false)] (zVar 0)) (zCons (mIsX [("BadLine", false), ("CanNot", false), ("NoPlace", false), ("TooMuch", false), ("Unfit", false)] (zVar 0)) zNil))))))
    mNx)
theorem qm__law_plain : m__law_plain = zm__law_plain := by
  unfold m__law_plain zm__law_plain
  simp only [q_mSeq, q_mRet, q_mLst, q_mCons, q_mVar, q_mNil]
noncomputable def zf__law_plain : FM := zRun N__law_plain.length zm__law_plain
theorem qf__law_plain : f__law_plain = zf__law_plain := by
  unfold f__law_plain zf__law_plain
  simp only [q_runDef, qm__law_plain]
noncomputable def zm__law_kinds : MS := (zSeq (zRet (zLst (zCons (mIsX [("BadLine", false), ("CanNot", false), ("NoPlace", true), ("TooMuch", false), ("Unfit", false)] (zVar 0)) (zCons (mIsX [("BadLine", true), ("CanNot", false), ("NoPlace", false), ("TooMuch", false), ("Unfit", false)] (zVar 0)) (zCons (mIsX [("BadLine", false), ("CanNot", true), ("NoPlace", false), ("TooMuch", false), ("Unfit", false)] (zVar 0)) (zCons (mIsX [("BadLine", false), ("CanNot", false), ("NoPlace", false), ("TooMuch", true), ("Unfit", false)] (zVar 0)) (zCons (mIsX [("BadLine", false), ("CanNot", false), ("NoPlace", false), ("TooMuch", false), ("Unfit", true)] (zVar 0)) zNil)))))))
    mNx)
theorem qm__law_kinds : m__law_kinds = zm__law_kinds := by
  unfold m__law_kinds zm__law_kinds
  simp only [q_mSeq, q_mRet, q_mLst, q_mCons, q_mVar, q_mNil]
noncomputable def zf__law_kinds : FM := zRun N__law_kinds.length zm__law_kinds
theorem qf__law_kinds : f__law_kinds = zf__law_kinds := by
  unfold f__law_kinds zf__law_kinds
  simp only [q_runDef, qm__law_kinds]
noncomputable def zm__law_by_hand_right : MS := (zSeq (zSet 0 (zLst (zCons (mNew1 (.exo "NoPlace" []) (zCon (.int 7))) (zCons (mNew1 (.exo "BadLine" []) (zCon (.int 7))) (zCons (mNew (.exo "CanNot" [])) (zCons (mNew (.exo "TooMuch" [])) (zCons (mNew (.exo "Unfit" [])) zNil)))))))
    (zSeq (zSet 1 (zLc (zIter (zVar 0)) (zName 3) (mPure true) (zCall zf__law_plain (zCons (zVar 3) zNil)) [3]))
    (zSeq (zSet 2 (zOp2 zAdd (zLst (zCons (zLst (zCons (zCon (.bl true)) (zCons (zCon (.bl false)) (zCons (zCon (.bl false)) (zCons (zCon (.bl false)) zNil))))) zNil)) (zOp2 dMulW (zLst (zCons (zLst (zCons (zCon (.bl false)) (zCons (zCon (.bl true)) (zCons (zCon (.bl false)) (zCons (zCon (.bl false)) zNil))))) zNil)) (zCon (.int 4)))))
    (zSeq (zSet 1 (zOp2 zAdd (zVar 1) (zLc (zIter (zVar 0)) (zName 3) (mPure true) (zCall zf__law_kinds (zCons (zVar 3) zNil)) [3])))
    (zSeq (zSet 2 (zOp2 zAdd (zVar 2) (zLc (zRange1 (zCons (zCon (.int 5)) zNil)) (zName 4) (mPure true) (zLc (zRange1 (zCons (zCon (.int 5)) zNil)) (zName 5) (mPure true) (zOp2 (zEqA false) (zVar 4) (zVar 5)) [5]) [4])))
    (zSeq (zRet (zCall zf__law_same (zCons (zVar 1) (zCons (zVar 2) zNil))))
    mNx))))))
theorem qm__law_by_hand_right : m__law_by_hand_right = zm__law_by_hand_right := by
  unfold m__law_by_hand_right zm__law_by_hand_right
  simp only [q_mSeq, q_mSet, q_mLst, q_mCons, q_mCon, q_mNil, q_mLc, q_mIter, q_mVar, q_tName, q_mCall, qf__law_plain, q_mOp2, q_dAdd, qf__law_kinds, q_mRange1, q_dEqA, q_mRet, qf__law_same]
noncomputable def zf__law_by_hand_right : FM := zRun N__law_by_hand_right.length zm__law_by_hand_right
theorem qf__law_by_hand_right : f__law_by_hand_right = zf__law_by_hand_right := by
  unfold f__law_by_hand_right zf__law_by_hand_right
  simp only [q_runDef, qm__law_by_hand_right]
noncomputable def zm_law_b : MS := (zSeq (zSet 4 (zLst (zCons (zCall zf__law_caught (zCons (zCon (.int 0)) (zCons (zVar 2) zNil))) (zCons (zCall zf__law_caught (zCons (zCon (.int 1)) (zCons (zVar 3) zNil))) (zCons (zCall zf__law_caught (zCons (zCon (.int 2)) (zCons (zVar 2) zNil))) (zCons (zCall zf__law_caught (zCons (zCon (.int 3)) (zCons (zVar 3) zNil))) zNil))))))
    (zSeq (zIfS (mNot (zTruth (zCall zf__law_same (zCons (zVar 4) (zCons (zOp2 dMulW (zLst (zCons (zLst (zCons (zCon (.str "place")) (zCons (zVar 2) zNil))) (zCons (zLst (zCons (zCon (.str "line")) (zCons (zVar 3) zNil))) zNil))) (zCon (.int 2))) zNil))))) (zSeq (zRet (zCon (.bl false)))
    mNx) mNx)
    mNx))
theorem qm_law_b : m_law_b = zm_law_b := by
  unfold m_law_b zm_law_b
  simp only [q_mSeq, q_mSet, q_mLst, q_mCons, q_mCall, qf__law_caught, q_mCon, q_mVar, q_mNil, q_mIfS, q_mTruth, qf__law_same, q_mOp2, q_mRet]
end Gn

set_option Elab.async false
set_option linter.all false
set_option maxRecDepth 100000
set_option maxHeartbeats 4000000
set_option autoImplicit false
namespace Gn
open PySem PySem.Spec PyProof.Rows L2 Rh
section
variable [Tbs]
theorem tru_h : isTrue (f__law_by_hand_right [] h0) = true := by rw [qf__law_by_hand_right]; kernel_rfl
def frP : En → Bool
  | [_, some (.int _), some (.int _), some (.int _), none] => true
  | _ => false
noncomputable def allN (f : Nat → Bool) (n : Nat) : Bool := Nat.rec (motive := fun _ => Bool) true (fun k b => Bool.rec (motive := fun _ => Bool) false b (f k)) n
theorem allN_at {f : Nat → Bool} : ∀ {n : Nat}, allN f n = true → ∀ k, k < n → f k = true
  | 0, _, k, h => absurd h (Nat.not_lt_zero k)
  | n + 1, h, k, hk => by
    have h : Bool.rec (motive := fun _ => Bool) false (allN f n) (f n) = true := h
    cases e : f n with
    | false => rw [e] at h; cases h
    | true =>
      rw [e] at h
      rcases Nat.lt_succ_iff_lt_or_eq.mp hk with q | q
      · exact allN_at h k q
      · rw [q]; exact e
/-- the end of a lap at the place lo + k -/
def lapB (x0 : Option D) (c : Int) (lo k : Nat) : Bool := nxT frP (m_law_b [x0, some (.int c), some (.int (Int.ofNat (Nat.add lo k))), some (.int (Int.ofNat (Nat.add (Nat.add lo k) 1))), none] h0)
theorem lap_0 (x0 : Option D) (c : Int) : allN (lapB x0 c 0) 200 = true := by unfold lapB; rw [qm_law_b]; kernel_rfl
theorem lap_1 (x0 : Option D) (c : Int) : allN (lapB x0 c 200) 200 = true := by unfold lapB; rw [qm_law_b]; kernel_rfl
theorem lap_2 (x0 : Option D) (c : Int) : allN (lapB x0 c 400) 200 = true := by unfold lapB; rw [qm_law_b]; kernel_rfl
theorem lap_3 (x0 : Option D) (c : Int) : allN (lapB x0 c 600) 200 = true := by unfold lapB; rw [qm_law_b]; kernel_rfl
theorem lap_4 (x0 : Option D) (c : Int) : allN (lapB x0 c 800) 200 = true := by unfold lapB; rw [qm_law_b]; kernel_rfl
theorem lap_ok (x0 : Option D) (c : Int) (p : Nat) (hp : p < 1000) : nxT frP (m_law_b [x0, some (.int c), some (.int (Int.ofNat p)), some (.int (Int.ofNat (Nat.add p 1))), none] h0) = true := by
  have key : ∀ lo k, k < 200 → allN (lapB x0 c lo) 200 = true → p = lo + k → nxT frP (m_law_b [x0, some (.int c), some (.int (Int.ofNat p)), some (.int (Int.ofNat (Nat.add p 1))), none] h0) = true := fun lo k hk h e => by
    subst e
    exact allN_at h k hk
  by_cases h1 : p < 200
  · exact key 0 p h1 (lap_0 x0 c) (Nat.zero_add p).symm
  by_cases h2 : p < 400
  · exact key 200 (p - 200) (by omega) (lap_1 x0 c) (by omega)
  by_cases h3 : p < 600
  · exact key 400 (p - 400) (by omega) (lap_2 x0 c) (by omega)
  by_cases h4 : p < 800
  · exact key 600 (p - 600) (by omega) (lap_3 x0 c) (by omega)
  · exact key 800 (p - 800) (by omega) (lap_4 x0 c) (by omega)
theorem frP_at {ρ : En} (e : frP ρ = true) : ∃ y a b c, ρ = [y, some (.int a), some (.int b), some (.int c), none] := by
  unfold frP at e
  split at e
  · exact ⟨_, _, _, _, rfl⟩
  · cases e
abbrev mLapF : MS := mSeq (mSet 2 (mOp2 dMod (mOpA dInt1 (mCons (mOpA dAbs (mCons (mVar 1) mNil)) mNil)) (mCon (.int 1000)))) (mSeq (mSet 3 (mOp2 dAdd (mVar 2) (mCon (.int 1)))) (clB m_law_b))
theorem lap_at (z : Int) (x0 x2 x3 : Option D) (h : Hs) : ∃ y a b c, mLapF [x0, some (.int z), x2, x3, none] h = some (.nx [y, some (.int a), some (.int b), some (.int c), none] h) := by
  have q0 : (0 : Int) ≤ (if z < 0 then -z else z) % 1000 := Int.emod_nonneg _ (by decide)
  have q1 : (if z < 0 then -z else z) % 1000 < 1000 := Int.emod_lt_of_pos _ (by decide)
  obtain ⟨p, hp⟩ := Int.eq_ofNat_of_zero_le q0
  have hp1 : p < 1000 := by omega
  have e1 : dMod h (.int (if z < 0 then -z else z)) (.int 1000) = some (.v (.int (Int.ofNat p))) := by rw [dMod_int (by decide), hp]; rfl
  have e2 : dAdd h (.int (Int.ofNat p)) (.int 1) = some (.v (.int (Int.ofNat (Nat.add p 1)))) := dAdd_int
  obtain ⟨ρ', e3, e4⟩ := clB_nx (ρ := [x0, some (.int z), some (.int (Int.ofNat p)), some (.int (Int.ofNat (Nat.add p 1))), none]) (h := h) (p := frP) (m := m_law_b) (by
    show nxT frP (m_law_b [flatO x0, some (.int z), some (.int (Int.ofNat p)), some (.int (Int.ofNat (Nat.add p 1))), none] h0) = true
    exact lap_ok (flatO x0) z p hp1)
  obtain ⟨y, a, b, c, rfl⟩ := frP_at e4
  refine ⟨y, a, b, c, ?_⟩
  have s1 : mSet 2 (mOp2 dMod (mOpA dInt1 (mCons (mOpA dAbs (mCons (mVar 1) mNil)) mNil)) (mCon (.int 1000))) [x0, some (.int z), x2, x3, none] h = some (.nx [x0, some (.int z), some (.int (Int.ofNat p)), x3, none] h) :=
    mSet_ok (mOp2_ok (mOpA1_ok (mOpA1_ok (mVar_ok (d := .int z) rfl) rfl) rfl) mCon_ok e1)
  have s2 : mSet 3 (mOp2 dAdd (mVar 2) (mCon (.int 1))) [x0, some (.int z), some (.int (Int.ofNat p)), x3, none] h = some (.nx [x0, some (.int z), some (.int (Int.ofNat p)), some (.int (Int.ofNat (Nat.add p 1))), none] h) :=
    mSet_ok (mOp2_ok (mVar_ok (d := .int (Int.ofNat p)) rfl) mCon_ok e2)
  exact (mSeq_nx s1).trans ((mSeq_nx s2).trans e3)
theorem walk : ∀ (cs : List Int) (x0 x1 x2 x3 : Option D) (h : Hs), ∃ y0 y1 y2 y3, loopF (tName 1) mLapF (cs.map .int) [x0, x1, x2, x3, none] h = some (.nx [y0, y1, y2, y3, none] h)
  | [], x0, x1, x2, x3, h => ⟨x0, x1, x2, x3, rfl⟩
  | z :: cs, x0, x1, x2, x3, h => by
    obtain ⟨y, a, b, c, e⟩ := lap_at z x0 x2 x3 h
    obtain ⟨y0, y1, y2, y3, e2⟩ := walk cs y (some (.int a)) (some (.int b)) (some (.int c)) h
    refine ⟨y0, y1, y2, y3, ?_⟩
    have et : tName 1 (.int z) [x0, x1, x2, x3, none] h = some ([x0, some (.int z), x2, x3, none], h) := rfl
    show loopF _ _ (.int z :: cs.map .int) _ h = _
    unfold loopF
    rw [et]
    dsimp only
    rw [e]
    exact e2
theorem law_at (ns : List Int) (hl : ns.length ≤ 63) (hb : ∀ z ∈ ns, Builtin.Int.intBits z ≤ 1048576) (h : Hs) (hh : h.n < 900000) (hk : h.lk = []) (sc : D) (hs : sc = .scr (ns.map .int) ∨ ∃ b0, sc = .box b0 ∧ b0 < h.n ∧ h.get b0 = some (.lst (ns.map .int))) : ∃ k, f_law [sc] h = some (.rt (.bl true) k) := by
  have nl : sc ≠ .lm := scr_nlm hs
  have hlen : (ns.map D.int).length = ns.length := List.length_map ..
  have ec : Rh.cutD (ns.map D.int) none (some 8) = (ns.take 8).map D.int := by
    unfold Rh.cutD
    rw [HT.sIx_none, show (8 : Int) = ((8 : Nat) : Int) from rfl, HT.sIx_nat, hlen, List.drop_zero, Nat.sub_zero, List.map_take]
    by_cases q : 8 ≤ ns.length
    · rw [Nat.min_eq_left q]
    · rw [Nat.min_eq_right (by omega), List.take_of_length_le (by simp), List.take_of_length_le (by simp; omega)]
  have d1 : dSl h sc none (some 8) = some (.n (.lst ((ns.take 8).map D.int))) := by
    rw [← ec]
    rcases hs with rfl | ⟨b0, rfl, hb0, hg0⟩
    · rfl
    · unfold dSl lstD
      simp only [hg0, Option.map_some]
  obtain ⟨h1, e1⟩ := Hs.new_some h (.lst ((ns.take 8).map D.int)) (by omega)
  have g1 : h1.get h.n = some (.lst ((ns.take 8).map D.int)) := by rw [Hs.new_get e1, if_pos rfl]
  have n1 := Hs.new_n e1
  have d2 : dListA h1 [.box h.n] = some (.n (.lst ((ns.take 8).map D.int))) := by
    unfold dListA dList seqD
    simp only [lstD, g1, Option.map_some]
  obtain ⟨h2, e2⟩ := Hs.new_some h1 (.lst ((ns.take 8).map D.int)) (by omega)
  have g2 : h2.get h1.n = some (.lst ((ns.take 8).map D.int)) := by rw [Hs.new_get e2, if_pos rfl]
  have n2 := Hs.new_n e2
  obtain ⟨h3, e3⟩ := Hs.new_some h2 (.lst [.int 0, .int 1, .int 999]) (by omega)
  have g3 : h3.get h2.n = some (.lst [.int 0, .int 1, .int 999]) := by rw [Hs.new_get e3, if_pos rfl]
  have g3b : h3.get h1.n = some (.lst ((ns.take 8).map D.int)) := by rw [Hs.new_get e3, if_neg (by omega)]; exact g2
  have n3 := Hs.new_n e3
  have ee : (ns.take 8).map D.int ++ [.int 0, .int 1, .int 999] = (ns.take 8 ++ [0, 1, 999]).map D.int := by rw [List.map_append]; rfl
  have d4 : dAdd h3 (.box h1.n) (.box h2.n) = some (.n (.lst ((ns.take 8 ++ [0, 1, 999]).map D.int))) := by
    rw [← ee]
    have z1 : dInt (fun i j => .int (i + j)) h3 (.box h1.n) (.box h2.n) = none := rfl
    have z2 : dCatT h3 (.box h1.n) (.box h2.n) = none := rfl
    have z3 : dCatL h3 (.box h1.n) (.box h2.n) = some (.n (.lst ((ns.take 8).map D.int ++ [.int 0, .int 1, .int 999]))) := by
      unfold dCatL
      simp only [g3, g3b]
      rw [if_pos (by rw [List.length_map, List.length_take]; simp only [List.length_cons, List.length_nil]; omega)]
    unfold dAdd
    simp only [z1, z2, z3]
  obtain ⟨h4, e4⟩ := Hs.new_some h3 (.lst ((ns.take 8 ++ [0, 1, 999]).map D.int)) (by omega)
  have g4 : h4.get h3.n = some (.lst ((ns.take 8 ++ [0, 1, 999]).map D.int)) := by rw [Hs.new_get e4, if_pos rfl]
  have it : iterD h4 (.box h3.n) = some ((ns.take 8 ++ [0, 1, 999]).map D.int, [h3.n]) := by
    unfold iterD itD; simp only [g4]
  obtain ⟨y0, y1, y2, y3, ew⟩ := walk (ns.take 8 ++ [0, 1, 999]) (some sc) none none none (relk ([h3.n] ++ h4.lk) h4)
  have en : (mIter (mOp2 dAdd (mOpA dListA (mCons (mSl (mVar 0) (mPure none) (mPart (mCon (.int 8)))) mNil)) (mLst (mCons (mCon (.int 0)) (mCons (mCon (.int 1)) (mCons (mCon (.int 999)) mNil)))))) [some sc, none, none, none, none] h = some (.ok ((ns.take 8 ++ [0, 1, 999]).map D.int, [h3.n]) h4) := by
    simp only [mIter, mOp2, mOpA, mCons, mNil, mSl, mPart, mBind, mVar, okS_ok nl, okS, mCon, mPure, mLst, mDisp, List.getElem?_cons_zero, lift, Nv.lift, d1, e1, d2, e2, e3, d4, e4, it]
    rw [if_pos (show [D.int 0, D.int 1, D.int 999].length ≤ 1000000 by simp only [List.length_cons, List.length_nil]; omega)]
    simp only [d4, e4, it]
  have ef : mFor (mIter (mOp2 dAdd (mOpA dListA (mCons (mSl (mVar 0) (mPure none) (mPart (mCon (.int 8)))) mNil)) (mLst (mCons (mCon (.int 0)) (mCons (mCon (.int 1)) (mCons (mCon (.int 999)) mNil)))))) (tName 1) mLapF [some sc, none, none, none, none] h = some (.nx [y0, y1, y2, y3, none] (relk h4.lk (relk ([h3.n] ++ h4.lk) h4))) := by
    unfold mFor mDo
    rw [en]
    dsimp only
    rw [ew]
    rfl
  refine ⟨_, runDef_rt (?_ : m_law [some sc, none, none, none, none] h = some (.rt (.bl true) (relk h4.lk (relk ([h3.n] ++ h4.lk) h4))))⟩
  unfold m_law
  exact (mSeq_nx (guard_ok tru_h)).trans ((mSeq_nx ef).trans (mSeq_rt (mRet_ok mCon_ok)))
theorem law_true (ns : List Int) (hl : ns.length ≤ 63) (hb : ∀ z ∈ ns, Builtin.Int.intBits z ≤ 1048576) : (∃ h, f_law [.scr (ns.map D.int)] h0 = some (.rt (.bl true) h)) ∧ ∃ h, f_law [.box 0] (hL ns) = some (.rt (.bl true) h) := law_both law_at ns hl hb
end
section
open PySem.W in
theorem all_mkT {l : PySem.W.OpenLaw} {w : World} {fa : Addr} {K : PySem.W.Frag} {h : Heap} {mg : Str → Option Value} {a__law_same : Addr} {a__law_caught : Addr} {a__law_plain : Addr} {a__law_kinds : Addr} {a__law_by_hand_right : Addr} {a_law : Addr} {a_BadLine : Addr} {a_CanNot : Addr} {a_NoPlace : Addr} {a_TooMuch : Addr} {a_Unfit : Addr} {od__law_same an__law_same : Option Addr} {sl__law_same : Array (Option Value)} {oc__law_same kV__law_same dc__law_same pm__law_same cd__law_same ct__law_same : Value} {od__law_caught an__law_caught : Option Addr} {sl__law_caught : Array (Option Value)} {oc__law_caught kV__law_caught dc__law_caught pm__law_caught cd__law_caught ct__law_caught : Value} {od__law_plain an__law_plain : Option Addr} {sl__law_plain : Array (Option Value)} {oc__law_plain kV__law_plain dc__law_plain pm__law_plain cd__law_plain ct__law_plain : Value} {od__law_kinds an__law_kinds : Option Addr} {sl__law_kinds : Array (Option Value)} {oc__law_kinds kV__law_kinds dc__law_kinds pm__law_kinds cd__law_kinds ct__law_kinds : Value} {od__law_by_hand_right an__law_by_hand_right : Option Addr} {sl__law_by_hand_right : Array (Option Value)} {oc__law_by_hand_right kV__law_by_hand_right dc__law_by_hand_right pm__law_by_hand_right cd__law_by_hand_right ct__law_by_hand_right : Value} {od_law an_law : Option Addr} {sl_law : Array (Option Value)} {oc_law kV_law dc_law pm_law cd_law ct_law : Value} {i_BadLine xN_BadLine : Addr} {xn_BadLine xq_BadLine : Str} {xb_BadLine xu_BadLine : List Value} {xs_BadLine : List Str} {xa_BadLine : Bool} {xc_BadLine : Option Bool} {xd_BadLine od_BadLine an_BadLine : Option Addr} {x0_BadLine x1_BadLine x2_BadLine x3_BadLine x5_BadLine : Option Value} {sl_BadLine : Array (Option Value)} {oc_BadLine dc_BadLine pm_BadLine cd_BadLine ct_BadLine : Value} {p1_BadLine p2_BadLine q1_BadLine q2_BadLine q3_BadLine q4_BadLine : Pos} {i_NoPlace xN_NoPlace : Addr} {xn_NoPlace xq_NoPlace : Str} {xb_NoPlace xu_NoPlace : List Value} {xs_NoPlace : List Str} {xa_NoPlace : Bool} {xc_NoPlace : Option Bool} {xd_NoPlace od_NoPlace an_NoPlace : Option Addr} {x0_NoPlace x1_NoPlace x2_NoPlace x3_NoPlace x5_NoPlace : Option Value} {sl_NoPlace : Array (Option Value)} {oc_NoPlace dc_NoPlace pm_NoPlace cd_NoPlace ct_NoPlace : Value} {p1_NoPlace p2_NoPlace q1_NoPlace q2_NoPlace q3_NoPlace q4_NoPlace : Pos} (X : K.In h) (G : h.Ns mainGlobals mg) (hfa : mg (PySem.Str.ofString "law") = some (.ref fa))
    (a1__law_same : PySem.W.nsIn K mainGlobals (PySem.Str.ofString "_law_same") = some (some (.ref a__law_same)))
    (l1__law_same : K.lookup a__law_same = some ⟨oc__law_same, od__law_same, .func (PySem.W.fnOf (PySem.Str.ofString "_law_same") (PySem.Str.ofString "_law_same") (defArgs st__law_same) (defBody st__law_same) (defScope st__law_same) .none kV__law_same dc__law_same pm__law_same an__law_same cd__law_same ct__law_same), sl__law_same⟩)
    (c1__law_same : PySem.W.codeIn K cd__law_same (PySem.Str.ofString "_law_same") = true)
    (k1__law_same : PySem.W.keepIn K (.ref a__law_same) = true)
    (a1__law_caught : PySem.W.nsIn K mainGlobals (PySem.Str.ofString "_law_caught") = some (some (.ref a__law_caught)))
    (l1__law_caught : K.lookup a__law_caught = some ⟨oc__law_caught, od__law_caught, .func (PySem.W.fnOf (PySem.Str.ofString "_law_caught") (PySem.Str.ofString "_law_caught") (defArgs st__law_caught) (defBody st__law_caught) (defScope st__law_caught) .none kV__law_caught dc__law_caught pm__law_caught an__law_caught cd__law_caught ct__law_caught), sl__law_caught⟩)
    (c1__law_caught : PySem.W.codeIn K cd__law_caught (PySem.Str.ofString "_law_caught") = true)
    (k1__law_caught : PySem.W.keepIn K (.ref a__law_caught) = true)
    (a1__law_plain : PySem.W.nsIn K mainGlobals (PySem.Str.ofString "_law_plain") = some (some (.ref a__law_plain)))
    (l1__law_plain : K.lookup a__law_plain = some ⟨oc__law_plain, od__law_plain, .func (PySem.W.fnOf (PySem.Str.ofString "_law_plain") (PySem.Str.ofString "_law_plain") (defArgs st__law_plain) (defBody st__law_plain) (defScope st__law_plain) .none kV__law_plain dc__law_plain pm__law_plain an__law_plain cd__law_plain ct__law_plain), sl__law_plain⟩)
    (c1__law_plain : PySem.W.codeIn K cd__law_plain (PySem.Str.ofString "_law_plain") = true)
    (k1__law_plain : PySem.W.keepIn K (.ref a__law_plain) = true)
    (a1__law_kinds : PySem.W.nsIn K mainGlobals (PySem.Str.ofString "_law_kinds") = some (some (.ref a__law_kinds)))
    (l1__law_kinds : K.lookup a__law_kinds = some ⟨oc__law_kinds, od__law_kinds, .func (PySem.W.fnOf (PySem.Str.ofString "_law_kinds") (PySem.Str.ofString "_law_kinds") (defArgs st__law_kinds) (defBody st__law_kinds) (defScope st__law_kinds) .none kV__law_kinds dc__law_kinds pm__law_kinds an__law_kinds cd__law_kinds ct__law_kinds), sl__law_kinds⟩)
    (c1__law_kinds : PySem.W.codeIn K cd__law_kinds (PySem.Str.ofString "_law_kinds") = true)
    (k1__law_kinds : PySem.W.keepIn K (.ref a__law_kinds) = true)
    (a1__law_by_hand_right : PySem.W.nsIn K mainGlobals (PySem.Str.ofString "_law_by_hand_right") = some (some (.ref a__law_by_hand_right)))
    (l1__law_by_hand_right : K.lookup a__law_by_hand_right = some ⟨oc__law_by_hand_right, od__law_by_hand_right, .func (PySem.W.fnOf (PySem.Str.ofString "_law_by_hand_right") (PySem.Str.ofString "_law_by_hand_right") (defArgs st__law_by_hand_right) (defBody st__law_by_hand_right) (defScope st__law_by_hand_right) .none kV__law_by_hand_right dc__law_by_hand_right pm__law_by_hand_right an__law_by_hand_right cd__law_by_hand_right ct__law_by_hand_right), sl__law_by_hand_right⟩)
    (c1__law_by_hand_right : PySem.W.codeIn K cd__law_by_hand_right (PySem.Str.ofString "_law_by_hand_right") = true)
    (k1__law_by_hand_right : PySem.W.keepIn K (.ref a__law_by_hand_right) = true)
    (a1_law : PySem.W.nsIn K mainGlobals (PySem.Str.ofString "law") = some (some (.ref a_law)))
    (l1_law : K.lookup a_law = some ⟨oc_law, od_law, .func (PySem.W.fnOf (PySem.Str.ofString "law") (PySem.Str.ofString "law") (defArgs st_law) (defBody st_law) (defScope st_law) .none kV_law dc_law pm_law an_law cd_law ct_law), sl_law⟩)
    (c1_law : PySem.W.codeIn K cd_law (PySem.Str.ofString "law") = true)
    (k1_law : PySem.W.keepIn K (.ref a_law) = true)
    (z1_IndexError : PySem.W.nsIn K mainGlobals (PySem.Str.ofString "IndexError") = some none)
    (z1_KeyError : PySem.W.nsIn K mainGlobals (PySem.Str.ofString "KeyError") = some none)
    (z1_LookupError : PySem.W.nsIn K mainGlobals (PySem.Str.ofString "LookupError") = some none)
    (z1_ValueError : PySem.W.nsIn K mainGlobals (PySem.Str.ofString "ValueError") = some none)
    (z1_abs : PySem.W.nsIn K mainGlobals (PySem.Str.ofString "abs") = some none)
    (z1_all : PySem.W.nsIn K mainGlobals (PySem.Str.ofString "all") = some none)
    (z1_bool : PySem.W.nsIn K mainGlobals (PySem.Str.ofString "bool") = some none)
    (z1_int : PySem.W.nsIn K mainGlobals (PySem.Str.ofString "int") = some none)
    (z1_isinstance : PySem.W.nsIn K mainGlobals (PySem.Str.ofString "isinstance") = some none)
    (z1_len : PySem.W.nsIn K mainGlobals (PySem.Str.ofString "len") = some none)
    (z1_list : PySem.W.nsIn K mainGlobals (PySem.Str.ofString "list") = some none)
    (z1_range : PySem.W.nsIn K mainGlobals (PySem.Str.ofString "range") = some none)
    (z1_str : PySem.W.nsIn K mainGlobals (PySem.Str.ofString "str") = some none)
    (z1_tuple : PySem.W.nsIn K mainGlobals (PySem.Str.ofString "tuple") = some none)
    (z1_zip : PySem.W.nsIn K mainGlobals (PySem.Str.ofString "zip") = some none)
    (a1_BadLine : PySem.W.nsIn K mainGlobals (PySem.Str.ofString "BadLine") = some (some (.ref a_BadLine)))
    (k1_BadLine : PySem.W.keepIn K (.ref a_BadLine) = true)
    (b1_BadLine : PySem.W.subIn K (.ref a_BadLine) (.type "BaseException") = some true)
    (t1_BadLine : PySem.W.typeIn K (.ref a_BadLine) = some (.type "type"))
    (d1_BadLine : PySem.W.hasDictIn K a_BadLine = true)
    (s1_BadLine_BadLine : PySem.W.subIn K (.ref a_BadLine) (.ref a_BadLine) = some true)
    (s1_BadLine_CanNot : PySem.W.subIn K (.ref a_BadLine) (.ref a_CanNot) = some false)
    (s1_BadLine_NoPlace : PySem.W.subIn K (.ref a_BadLine) (.ref a_NoPlace) = some false)
    (s1_BadLine_TooMuch : PySem.W.subIn K (.ref a_BadLine) (.ref a_TooMuch) = some false)
    (s1_BadLine_Unfit : PySem.W.subIn K (.ref a_BadLine) (.ref a_Unfit) = some false)
    (x1_BadLine : K.lookup a_BadLine = some (excClassObj xn_BadLine xq_BadLine a_BadLine xN_BadLine xb_BadLine [.type "ValueError", .type "Exception", .type "BaseException", .type "object"] true xs_BadLine xu_BadLine xa_BadLine xc_BadLine xd_BadLine x0_BadLine x1_BadLine x2_BadLine x3_BadLine x5_BadLine "ValueError.__new__"))
    (sa_BadLine : PySem.W.findIn K (.ref a_BadLine) "__setattr__" = some (some (.builtin "object.__setattr__")))
    (ga_BadLine : PySem.W.findIn K (.ref a_BadLine) "__getattribute__" = some (some (.builtin "BaseException.__getattribute__")))
    (gg_BadLine : PySem.W.findIn K (.ref a_BadLine) "__getattr__" = some none)
    (nb_BadLine : PySem.W.findIn K (.ref a_BadLine) "line" = some none)
    (in_BadLine : PySem.W.findIn K (.ref a_BadLine) "__init__" = some (some (.ref i_BadLine)))
    (ti_BadLine : PySem.W.typeIn K (.ref i_BadLine) = some (.type "function"))
    (li_BadLine : K.lookup i_BadLine = some ⟨oc_BadLine, od_BadLine, .func (PySem.W.fnOf "__init__" (PySem.Str.ofString "BadLine.__init__") (ExLine.iA p1_BadLine p2_BadLine) (ExLine.iB q1_BadLine q2_BadLine q3_BadLine q4_BadLine) ExLine.iS .none .none dc_BadLine pm_BadLine an_BadLine cd_BadLine ct_BadLine), sl_BadLine⟩)
    (ci_BadLine : PySem.W.codeIn K cd_BadLine (PySem.Str.ofString "BadLine.__init__") = true)
    (a1_CanNot : PySem.W.nsIn K mainGlobals (PySem.Str.ofString "CanNot") = some (some (.ref a_CanNot)))
    (k1_CanNot : PySem.W.keepIn K (.ref a_CanNot) = true)
    (b1_CanNot : PySem.W.subIn K (.ref a_CanNot) (.type "BaseException") = some true)
    (t1_CanNot : PySem.W.typeIn K (.ref a_CanNot) = some (.type "type"))
    (d1_CanNot : PySem.W.hasDictIn K a_CanNot = true)
    (s1_CanNot_BadLine : PySem.W.subIn K (.ref a_CanNot) (.ref a_BadLine) = some false)
    (s1_CanNot_CanNot : PySem.W.subIn K (.ref a_CanNot) (.ref a_CanNot) = some true)
    (s1_CanNot_NoPlace : PySem.W.subIn K (.ref a_CanNot) (.ref a_NoPlace) = some false)
    (s1_CanNot_TooMuch : PySem.W.subIn K (.ref a_CanNot) (.ref a_TooMuch) = some false)
    (s1_CanNot_Unfit : PySem.W.subIn K (.ref a_CanNot) (.ref a_Unfit) = some false)
    (x1_CanNot : PySem.W.excIn K a_CanNot [.type "ValueError", .type "Exception", .type "BaseException", .type "object"] "ValueError.__new__" = true)
    (a1_NoPlace : PySem.W.nsIn K mainGlobals (PySem.Str.ofString "NoPlace") = some (some (.ref a_NoPlace)))
    (k1_NoPlace : PySem.W.keepIn K (.ref a_NoPlace) = true)
    (b1_NoPlace : PySem.W.subIn K (.ref a_NoPlace) (.type "BaseException") = some true)
    (t1_NoPlace : PySem.W.typeIn K (.ref a_NoPlace) = some (.type "type"))
    (d1_NoPlace : PySem.W.hasDictIn K a_NoPlace = true)
    (s1_NoPlace_BadLine : PySem.W.subIn K (.ref a_NoPlace) (.ref a_BadLine) = some false)
    (s1_NoPlace_CanNot : PySem.W.subIn K (.ref a_NoPlace) (.ref a_CanNot) = some false)
    (s1_NoPlace_NoPlace : PySem.W.subIn K (.ref a_NoPlace) (.ref a_NoPlace) = some true)
    (s1_NoPlace_TooMuch : PySem.W.subIn K (.ref a_NoPlace) (.ref a_TooMuch) = some false)
    (s1_NoPlace_Unfit : PySem.W.subIn K (.ref a_NoPlace) (.ref a_Unfit) = some false)
    (x1_NoPlace : K.lookup a_NoPlace = some (excClassObj xn_NoPlace xq_NoPlace a_NoPlace xN_NoPlace xb_NoPlace [.type "LookupError", .type "Exception", .type "BaseException", .type "object"] true xs_NoPlace xu_NoPlace xa_NoPlace xc_NoPlace xd_NoPlace x0_NoPlace x1_NoPlace x2_NoPlace x3_NoPlace x5_NoPlace "LookupError.__new__"))
    (sa_NoPlace : PySem.W.findIn K (.ref a_NoPlace) "__setattr__" = some (some (.builtin "object.__setattr__")))
    (ga_NoPlace : PySem.W.findIn K (.ref a_NoPlace) "__getattribute__" = some (some (.builtin "BaseException.__getattribute__")))
    (gg_NoPlace : PySem.W.findIn K (.ref a_NoPlace) "__getattr__" = some none)
    (nb_NoPlace : PySem.W.findIn K (.ref a_NoPlace) "place" = some none)
    (in_NoPlace : PySem.W.findIn K (.ref a_NoPlace) "__init__" = some (some (.ref i_NoPlace)))
    (ti_NoPlace : PySem.W.typeIn K (.ref i_NoPlace) = some (.type "function"))
    (li_NoPlace : K.lookup i_NoPlace = some ⟨oc_NoPlace, od_NoPlace, .func (PySem.W.fnOf "__init__" (PySem.Str.ofString "NoPlace.__init__") (ExPlace.iA p1_NoPlace p2_NoPlace) (ExPlace.iB q1_NoPlace q2_NoPlace q3_NoPlace q4_NoPlace) ExPlace.iS .none .none dc_NoPlace pm_NoPlace an_NoPlace cd_NoPlace ct_NoPlace), sl_NoPlace⟩)
    (ci_NoPlace : PySem.W.codeIn K cd_NoPlace (PySem.Str.ofString "NoPlace.__init__") = true)
    (a1_TooMuch : PySem.W.nsIn K mainGlobals (PySem.Str.ofString "TooMuch") = some (some (.ref a_TooMuch)))
    (k1_TooMuch : PySem.W.keepIn K (.ref a_TooMuch) = true)
    (b1_TooMuch : PySem.W.subIn K (.ref a_TooMuch) (.type "BaseException") = some true)
    (t1_TooMuch : PySem.W.typeIn K (.ref a_TooMuch) = some (.type "type"))
    (d1_TooMuch : PySem.W.hasDictIn K a_TooMuch = true)
    (s1_TooMuch_BadLine : PySem.W.subIn K (.ref a_TooMuch) (.ref a_BadLine) = some false)
    (s1_TooMuch_CanNot : PySem.W.subIn K (.ref a_TooMuch) (.ref a_CanNot) = some false)
    (s1_TooMuch_NoPlace : PySem.W.subIn K (.ref a_TooMuch) (.ref a_NoPlace) = some false)
    (s1_TooMuch_TooMuch : PySem.W.subIn K (.ref a_TooMuch) (.ref a_TooMuch) = some true)
    (s1_TooMuch_Unfit : PySem.W.subIn K (.ref a_TooMuch) (.ref a_Unfit) = some false)
    (x1_TooMuch : PySem.W.excIn K a_TooMuch [.type "ValueError", .type "Exception", .type "BaseException", .type "object"] "ValueError.__new__" = true)
    (a1_Unfit : PySem.W.nsIn K mainGlobals (PySem.Str.ofString "Unfit") = some (some (.ref a_Unfit)))
    (k1_Unfit : PySem.W.keepIn K (.ref a_Unfit) = true)
    (b1_Unfit : PySem.W.subIn K (.ref a_Unfit) (.type "BaseException") = some true)
    (t1_Unfit : PySem.W.typeIn K (.ref a_Unfit) = some (.type "type"))
    (d1_Unfit : PySem.W.hasDictIn K a_Unfit = true)
    (s1_Unfit_BadLine : PySem.W.subIn K (.ref a_Unfit) (.ref a_BadLine) = some false)
    (s1_Unfit_CanNot : PySem.W.subIn K (.ref a_Unfit) (.ref a_CanNot) = some false)
    (s1_Unfit_NoPlace : PySem.W.subIn K (.ref a_Unfit) (.ref a_NoPlace) = some false)
    (s1_Unfit_TooMuch : PySem.W.subIn K (.ref a_Unfit) (.ref a_TooMuch) = some false)
    (s1_Unfit_Unfit : PySem.W.subIn K (.ref a_Unfit) (.ref a_Unfit) = some true)
    (x1_Unfit : PySem.W.excIn K a_Unfit [.type "ValueError", .type "Exception", .type "BaseException", .type "object"] "ValueError.__new__" = true)
    (ca_BadLine : PySem.W.findIn K (.ref a_BadLine) "__class__" = some (some (.builtin "object.__class__")))
    (mo_BadLine : PySem.W.mroIn K a_BadLine (.type "object") = some true)
    (ga_CanNot : PySem.W.findIn K (.ref a_CanNot) "__getattribute__" = some (some (.builtin "BaseException.__getattribute__")))
    (gg_CanNot : PySem.W.findIn K (.ref a_CanNot) "__getattr__" = some none)
    (ca_CanNot : PySem.W.findIn K (.ref a_CanNot) "__class__" = some (some (.builtin "object.__class__")))
    (mo_CanNot : PySem.W.mroIn K a_CanNot (.type "object") = some true)
    (ca_NoPlace : PySem.W.findIn K (.ref a_NoPlace) "__class__" = some (some (.builtin "object.__class__")))
    (mo_NoPlace : PySem.W.mroIn K a_NoPlace (.type "object") = some true)
    (ga_TooMuch : PySem.W.findIn K (.ref a_TooMuch) "__getattribute__" = some (some (.builtin "BaseException.__getattribute__")))
    (gg_TooMuch : PySem.W.findIn K (.ref a_TooMuch) "__getattr__" = some none)
    (ca_TooMuch : PySem.W.findIn K (.ref a_TooMuch) "__class__" = some (some (.builtin "object.__class__")))
    (mo_TooMuch : PySem.W.mroIn K a_TooMuch (.type "object") = some true)
    (ga_Unfit : PySem.W.findIn K (.ref a_Unfit) "__getattribute__" = some (some (.builtin "BaseException.__getattribute__")))
    (gg_Unfit : PySem.W.findIn K (.ref a_Unfit) "__getattr__" = some none)
    (ca_Unfit : PySem.W.findIn K (.ref a_Unfit) "__class__" = some (some (.builtin "object.__class__")))
    (mo_Unfit : PySem.W.mroIn K a_Unfit (.type "object") = some true)
    (iw_BadLine_BadLine : PySem.W.kitOne K (.ref a_BadLine) (.ref a_BadLine) = some true)
    (iw_BadLine_CanNot : PySem.W.kitOne K (.ref a_BadLine) (.ref a_CanNot) = some false)
    (iw_BadLine_NoPlace : PySem.W.kitOne K (.ref a_BadLine) (.ref a_NoPlace) = some false)
    (iw_BadLine_TooMuch : PySem.W.kitOne K (.ref a_BadLine) (.ref a_TooMuch) = some false)
    (iw_BadLine_Unfit : PySem.W.kitOne K (.ref a_BadLine) (.ref a_Unfit) = some false)
    (iw_CanNot_BadLine : PySem.W.kitOne K (.ref a_CanNot) (.ref a_BadLine) = some false)
    (iw_CanNot_CanNot : PySem.W.kitOne K (.ref a_CanNot) (.ref a_CanNot) = some true)
    (iw_CanNot_NoPlace : PySem.W.kitOne K (.ref a_CanNot) (.ref a_NoPlace) = some false)
    (iw_CanNot_TooMuch : PySem.W.kitOne K (.ref a_CanNot) (.ref a_TooMuch) = some false)
    (iw_CanNot_Unfit : PySem.W.kitOne K (.ref a_CanNot) (.ref a_Unfit) = some false)
    (iw_NoPlace_BadLine : PySem.W.kitOne K (.ref a_NoPlace) (.ref a_BadLine) = some false)
    (iw_NoPlace_CanNot : PySem.W.kitOne K (.ref a_NoPlace) (.ref a_CanNot) = some false)
    (iw_NoPlace_NoPlace : PySem.W.kitOne K (.ref a_NoPlace) (.ref a_NoPlace) = some true)
    (iw_NoPlace_TooMuch : PySem.W.kitOne K (.ref a_NoPlace) (.ref a_TooMuch) = some false)
    (iw_NoPlace_Unfit : PySem.W.kitOne K (.ref a_NoPlace) (.ref a_Unfit) = some false)
    (iw_TooMuch_BadLine : PySem.W.kitOne K (.ref a_TooMuch) (.ref a_BadLine) = some false)
    (iw_TooMuch_CanNot : PySem.W.kitOne K (.ref a_TooMuch) (.ref a_CanNot) = some false)
    (iw_TooMuch_NoPlace : PySem.W.kitOne K (.ref a_TooMuch) (.ref a_NoPlace) = some false)
    (iw_TooMuch_TooMuch : PySem.W.kitOne K (.ref a_TooMuch) (.ref a_TooMuch) = some true)
    (iw_TooMuch_Unfit : PySem.W.kitOne K (.ref a_TooMuch) (.ref a_Unfit) = some false)
    (iw_Unfit_BadLine : PySem.W.kitOne K (.ref a_Unfit) (.ref a_BadLine) = some false)
    (iw_Unfit_CanNot : PySem.W.kitOne K (.ref a_Unfit) (.ref a_CanNot) = some false)
    (iw_Unfit_NoPlace : PySem.W.kitOne K (.ref a_Unfit) (.ref a_NoPlace) = some false)
    (iw_Unfit_TooMuch : PySem.W.kitOne K (.ref a_Unfit) (.ref a_TooMuch) = some false)
    (iw_Unfit_Unfit : PySem.W.kitOne K (.ref a_Unfit) (.ref a_Unfit) = some true)
    (iv_BadLine_IndexError : PySem.W.kitOne K (.ref a_BadLine) (.type "IndexError") = some false)
    (iv_BadLine_KeyError : PySem.W.kitOne K (.ref a_BadLine) (.type "KeyError") = some false)
    (iv_BadLine_LookupError : PySem.W.kitOne K (.ref a_BadLine) (.type "LookupError") = some false)
    (iv_BadLine_ValueError : PySem.W.kitOne K (.ref a_BadLine) (.type "ValueError") = some true)
    (iv_CanNot_IndexError : PySem.W.kitOne K (.ref a_CanNot) (.type "IndexError") = some false)
    (iv_CanNot_KeyError : PySem.W.kitOne K (.ref a_CanNot) (.type "KeyError") = some false)
    (iv_CanNot_LookupError : PySem.W.kitOne K (.ref a_CanNot) (.type "LookupError") = some false)
    (iv_CanNot_ValueError : PySem.W.kitOne K (.ref a_CanNot) (.type "ValueError") = some true)
    (iv_NoPlace_IndexError : PySem.W.kitOne K (.ref a_NoPlace) (.type "IndexError") = some false)
    (iv_NoPlace_KeyError : PySem.W.kitOne K (.ref a_NoPlace) (.type "KeyError") = some false)
    (iv_NoPlace_LookupError : PySem.W.kitOne K (.ref a_NoPlace) (.type "LookupError") = some true)
    (iv_NoPlace_ValueError : PySem.W.kitOne K (.ref a_NoPlace) (.type "ValueError") = some false)
    (iv_TooMuch_IndexError : PySem.W.kitOne K (.ref a_TooMuch) (.type "IndexError") = some false)
    (iv_TooMuch_KeyError : PySem.W.kitOne K (.ref a_TooMuch) (.type "KeyError") = some false)
    (iv_TooMuch_LookupError : PySem.W.kitOne K (.ref a_TooMuch) (.type "LookupError") = some false)
    (iv_TooMuch_ValueError : PySem.W.kitOne K (.ref a_TooMuch) (.type "ValueError") = some true)
    (iv_Unfit_IndexError : PySem.W.kitOne K (.ref a_Unfit) (.type "IndexError") = some false)
    (iv_Unfit_KeyError : PySem.W.kitOne K (.ref a_Unfit) (.type "KeyError") = some false)
    (iv_Unfit_LookupError : PySem.W.kitOne K (.ref a_Unfit) (.type "LookupError") = some false)
    (iv_Unfit_ValueError : PySem.W.kitOne K (.ref a_Unfit) (.type "ValueError") = some true)
    (oc_get : PySem.W.specialIn K (.builtin "object.__class__") "__get__" = some (some (.builtin "getset_descriptor.__get__")))
    (oc_tk : PySem.W.takesIn K (.builtin "object.__class__") = some true)
    : LamX.LawAtS l w K (L2.CX l.prog w) 43 63 "script" mg fa h := by
  letI : Tbs := ⟨[], none, [], []⟩
  have hz : Tbs.base = [] := rfl
  have T := top_mk (P := l.prog) (w := w) X G a1__law_same l1__law_same c1__law_same k1__law_same a1__law_caught l1__law_caught c1__law_caught k1__law_caught a1__law_plain l1__law_plain c1__law_plain k1__law_plain a1__law_kinds l1__law_kinds c1__law_kinds k1__law_kinds a1__law_by_hand_right l1__law_by_hand_right c1__law_by_hand_right k1__law_by_hand_right a1_law l1_law c1_law k1_law z1_IndexError z1_KeyError z1_LookupError z1_ValueError z1_abs z1_all z1_bool z1_int z1_isinstance z1_len z1_list z1_range z1_str z1_tuple z1_zip a1_BadLine k1_BadLine b1_BadLine t1_BadLine d1_BadLine s1_BadLine_BadLine s1_BadLine_CanNot s1_BadLine_NoPlace s1_BadLine_TooMuch s1_BadLine_Unfit x1_BadLine sa_BadLine ga_BadLine gg_BadLine nb_BadLine in_BadLine ti_BadLine li_BadLine ci_BadLine a1_CanNot k1_CanNot b1_CanNot t1_CanNot d1_CanNot s1_CanNot_BadLine s1_CanNot_CanNot s1_CanNot_NoPlace s1_CanNot_TooMuch s1_CanNot_Unfit x1_CanNot a1_NoPlace k1_NoPlace b1_NoPlace t1_NoPlace d1_NoPlace s1_NoPlace_BadLine s1_NoPlace_CanNot s1_NoPlace_NoPlace s1_NoPlace_TooMuch s1_NoPlace_Unfit x1_NoPlace sa_NoPlace ga_NoPlace gg_NoPlace nb_NoPlace in_NoPlace ti_NoPlace li_NoPlace ci_NoPlace a1_TooMuch k1_TooMuch b1_TooMuch t1_TooMuch d1_TooMuch s1_TooMuch_BadLine s1_TooMuch_CanNot s1_TooMuch_NoPlace s1_TooMuch_TooMuch s1_TooMuch_Unfit x1_TooMuch a1_Unfit k1_Unfit b1_Unfit t1_Unfit d1_Unfit s1_Unfit_BadLine s1_Unfit_CanNot s1_Unfit_NoPlace s1_Unfit_TooMuch s1_Unfit_Unfit x1_Unfit ca_BadLine mo_BadLine ga_CanNot gg_CanNot ca_CanNot mo_CanNot ca_NoPlace mo_NoPlace ga_TooMuch gg_TooMuch ca_TooMuch mo_TooMuch ga_Unfit gg_Unfit ca_Unfit mo_Unfit iw_BadLine_BadLine iw_BadLine_CanNot iw_BadLine_NoPlace iw_BadLine_TooMuch iw_BadLine_Unfit iw_CanNot_BadLine iw_CanNot_CanNot iw_CanNot_NoPlace iw_CanNot_TooMuch iw_CanNot_Unfit iw_NoPlace_BadLine iw_NoPlace_CanNot iw_NoPlace_NoPlace iw_NoPlace_TooMuch iw_NoPlace_Unfit iw_TooMuch_BadLine iw_TooMuch_CanNot iw_TooMuch_NoPlace iw_TooMuch_TooMuch iw_TooMuch_Unfit iw_Unfit_BadLine iw_Unfit_CanNot iw_Unfit_NoPlace iw_Unfit_TooMuch iw_Unfit_Unfit iv_BadLine_IndexError iv_BadLine_KeyError iv_BadLine_LookupError iv_BadLine_ValueError iv_CanNot_IndexError iv_CanNot_KeyError iv_CanNot_LookupError iv_CanNot_ValueError iv_NoPlace_IndexError iv_NoPlace_KeyError iv_NoPlace_LookupError iv_NoPlace_ValueError iv_TooMuch_IndexError iv_TooMuch_KeyError iv_TooMuch_LookupError iv_TooMuch_ValueError iv_Unfit_IndexError iv_Unfit_KeyError iv_Unfit_LookupError iv_Unfit_ValueError oc_get oc_tk
  have ef := T.g_law
  rw [hfa] at ef
  cases ef
  refine ⟨PySem.W.fnOf (PySem.Str.ofString "law") (PySem.Str.ofString "law") (defArgs st_law) (defBody st_law) (defScope st_law) .none kV_law dc_law pm_law an_law cd_law ct_law, [], spLaw K,
    (fun p hp => nomatch hp),
    (fun p hp => nomatch hp),
    (fun p hp => nomatch hp),
    fun s v => .of_eq ?_, fun H a ns hl hb hO hS => ⟨a, ns, rfl, hl, hb, ⟨(fun p hp => nomatch hp), fun p hp => nomatch hp⟩, hS, fun _ => rfl⟩, fun base hK hG TB => ?_⟩
  rotate_left
  have F__law_same := fun_mk (K := K) (st := st__law_same) l1__law_same c1__law_same k1__law_same
  have F__law_caught := fun_mk (K := K) (st := st__law_caught) l1__law_caught c1__law_caught k1__law_caught
  have F__law_plain := fun_mk (K := K) (st := st__law_plain) l1__law_plain c1__law_plain k1__law_plain
  have F__law_kinds := fun_mk (K := K) (st := st__law_kinds) l1__law_kinds c1__law_kinds k1__law_kinds
  have F__law_by_hand_right := fun_mk (K := K) (st := st__law_by_hand_right) l1__law_by_hand_right c1__law_by_hand_right k1__law_by_hand_right
  have F_law := fun_mk (K := K) (st := st_law) l1_law c1_law k1_law
  have B__law_same := F__law_same.binds (ps := ps__law_same) fun _ _ _ _ _ _ us hl => match us, hl with | [_, _], _ => by first | rfl | with_unfolding_all rfl
  have B__law_caught := F__law_caught.binds (ps := ps__law_caught) fun _ _ _ _ _ _ us hl => match us, hl with | [_, _], _ => by first | rfl | with_unfolding_all rfl
  have B__law_plain := F__law_plain.binds (ps := ps__law_plain) fun _ _ _ _ _ _ us hl => match us, hl with | [_], _ => by first | rfl | with_unfolding_all rfl
  have B__law_kinds := F__law_kinds.binds (ps := ps__law_kinds) fun _ _ _ _ _ _ us hl => match us, hl with | [_], _ => by first | rfl | with_unfolding_all rfl
  have B__law_by_hand_right := F__law_by_hand_right.binds (ps := ps__law_by_hand_right) fun _ _ _ _ _ _ us hl => match us, hl with | [], _ => by first | rfl | with_unfolding_all rfl
  have B_law := F_law.binds (ps := ps_law) fun _ _ _ _ _ _ us hl => match us, hl with | [_], _ => by first | rfl | with_unfolding_all rfl
  have G__law_same := ok__law_same (P := l.prog) (w := w) (base := base) T F__law_same B__law_same
  have G__law_caught := ok__law_caught (P := l.prog) (w := w) (base := base) T F__law_caught
  have G__law_plain := ok__law_plain (P := l.prog) (w := w) (base := base) T F__law_plain
  have G__law_kinds := ok__law_kinds (P := l.prog) (w := w) (base := base) T F__law_kinds
  have G__law_by_hand_right := ok__law_by_hand_right (P := l.prog) (w := w) (base := base) T F__law_by_hand_right G__law_plain B__law_plain G__law_kinds B__law_kinds G__law_same B__law_same
  have G_law := ok_law (P := l.prog) (w := w) (base := base) T F_law G__law_by_hand_right B__law_by_hand_right G__law_caught B__law_caught G__law_same B__law_same hz
  exact law_ok hz G_law law_true
  first | rfl | with_unfolding_all rfl
end
end Gn
open PySem PySem.W PyProof.Rows
set_option maxRecDepth 100000 in
set_option maxHeartbeats 0 in
theorem PySem.Challenge.cw_bothroads_k00_errors_holds : PySem.Challenge.rw_bothroads_k00_errors.Holds := by
  w_on; o_law; k_head; (case hw => w_witness2)
  k_fill
  refine LamX.walk_ofTs (l := PySem.Challenge.rw_bothroads_k00_errors) (n := 63) (k := 43) (x := "script") (CX := fun w => L2.CX PySem.Challenge.pw_bothroads_k00_errors w) rfl (by decide) rfl ⟨rfl, by decide, by decide⟩ (fun w h Y => by first | exact PySem.W.kIn_of Y | exact PySem.W.km_in_of Y) ?F (fun _ _ _ _ _ h => @Rh.cx_false ⟨[], none, [], []⟩ _ _ _ _ _ _ _ h)
  case F =>
    intro w mg fa h Y KX G hmg
    refine' Gn.all_mkT (l := PySem.Challenge.rw_bothroads_k00_errors) (fa := fa) KX G hmg ?a1__law_same ?l1__law_same ?c1__law_same ?k1__law_same ?a1__law_caught ?l1__law_caught ?c1__law_caught ?k1__law_caught ?a1__law_plain ?l1__law_plain ?c1__law_plain ?k1__law_plain ?a1__law_kinds ?l1__law_kinds ?c1__law_kinds ?k1__law_kinds ?a1__law_by_hand_right ?l1__law_by_hand_right ?c1__law_by_hand_right ?k1__law_by_hand_right ?a1_law ?l1_law ?c1_law ?k1_law ?z1_IndexError ?z1_KeyError ?z1_LookupError ?z1_ValueError ?z1_abs ?z1_all ?z1_bool ?z1_int ?z1_isinstance ?z1_len ?z1_list ?z1_range ?z1_str ?z1_tuple ?z1_zip ?a1_BadLine ?k1_BadLine ?b1_BadLine ?t1_BadLine ?d1_BadLine ?s1_BadLine_BadLine ?s1_BadLine_CanNot ?s1_BadLine_NoPlace ?s1_BadLine_TooMuch ?s1_BadLine_Unfit ?x1_BadLine ?sa_BadLine ?ga_BadLine ?gg_BadLine ?nb_BadLine ?in_BadLine ?ti_BadLine ?li_BadLine ?ci_BadLine ?a1_CanNot ?k1_CanNot ?b1_CanNot ?t1_CanNot ?d1_CanNot ?s1_CanNot_BadLine ?s1_CanNot_CanNot ?s1_CanNot_NoPlace ?s1_CanNot_TooMuch ?s1_CanNot_Unfit ?x1_CanNot ?a1_NoPlace ?k1_NoPlace ?b1_NoPlace ?t1_NoPlace ?d1_NoPlace ?s1_NoPlace_BadLine ?s1_NoPlace_CanNot ?s1_NoPlace_NoPlace ?s1_NoPlace_TooMuch ?s1_NoPlace_Unfit ?x1_NoPlace ?sa_NoPlace ?ga_NoPlace ?gg_NoPlace ?nb_NoPlace ?in_NoPlace ?ti_NoPlace ?li_NoPlace ?ci_NoPlace ?a1_TooMuch ?k1_TooMuch ?b1_TooMuch ?t1_TooMuch ?d1_TooMuch ?s1_TooMuch_BadLine ?s1_TooMuch_CanNot ?s1_TooMuch_NoPlace ?s1_TooMuch_TooMuch ?s1_TooMuch_Unfit ?x1_TooMuch ?a1_Unfit ?k1_Unfit ?b1_Unfit ?t1_Unfit ?d1_Unfit ?s1_Unfit_BadLine ?s1_Unfit_CanNot ?s1_Unfit_NoPlace ?s1_Unfit_TooMuch ?s1_Unfit_Unfit ?x1_Unfit ?ca_BadLine ?mo_BadLine ?ga_CanNot ?gg_CanNot ?ca_CanNot ?mo_CanNot ?ca_NoPlace ?mo_NoPlace ?ga_TooMuch ?gg_TooMuch ?ca_TooMuch ?mo_TooMuch ?ga_Unfit ?gg_Unfit ?ca_Unfit ?mo_Unfit ?iw_BadLine_BadLine ?iw_BadLine_CanNot ?iw_BadLine_NoPlace ?iw_BadLine_TooMuch ?iw_BadLine_Unfit ?iw_CanNot_BadLine ?iw_CanNot_CanNot ?iw_CanNot_NoPlace ?iw_CanNot_TooMuch ?iw_CanNot_Unfit ?iw_NoPlace_BadLine ?iw_NoPlace_CanNot ?iw_NoPlace_NoPlace ?iw_NoPlace_TooMuch ?iw_NoPlace_Unfit ?iw_TooMuch_BadLine ?iw_TooMuch_CanNot ?iw_TooMuch_NoPlace ?iw_TooMuch_TooMuch ?iw_TooMuch_Unfit ?iw_Unfit_BadLine ?iw_Unfit_CanNot ?iw_Unfit_NoPlace ?iw_Unfit_TooMuch ?iw_Unfit_Unfit ?iv_BadLine_IndexError ?iv_BadLine_KeyError ?iv_BadLine_LookupError ?iv_BadLine_ValueError ?iv_CanNot_IndexError ?iv_CanNot_KeyError ?iv_CanNot_LookupError ?iv_CanNot_ValueError ?iv_NoPlace_IndexError ?iv_NoPlace_KeyError ?iv_NoPlace_LookupError ?iv_NoPlace_ValueError ?iv_TooMuch_IndexError ?iv_TooMuch_KeyError ?iv_TooMuch_LookupError ?iv_TooMuch_ValueError ?iv_Unfit_IndexError ?iv_Unfit_KeyError ?iv_Unfit_LookupError ?iv_Unfit_ValueError ?oc_get ?oc_tk
    (case a1__law_same => k_is)
    (case a1__law_caught => k_is)
    (case a1__law_plain => k_is)
    (case a1__law_kinds => k_is)
    (case a1__law_by_hand_right => k_is)
    (case a1_law => k_is)
    (case a1_BadLine => k_is)
    (case a1_CanNot => k_is)
    (case a1_NoPlace => k_is)
    (case a1_TooMuch => k_is)
    (case a1_Unfit => k_is)
    (case l1__law_same => k_is)
    (case l1__law_caught => k_is)
    (case l1__law_plain => k_is)
    (case l1__law_kinds => k_is)
    (case l1__law_by_hand_right => k_is)
    (case l1_law => k_is)
    (case in_BadLine => k_is)
    (case in_NoPlace => k_is)
    (case c1__law_same => k_is)
    (case k1__law_same => k_is)
    (case c1__law_caught => k_is)
    (case k1__law_caught => k_is)
    (case c1__law_plain => k_is)
    (case k1__law_plain => k_is)
    (case c1__law_kinds => k_is)
    (case k1__law_kinds => k_is)
    (case c1__law_by_hand_right => k_is)
    (case k1__law_by_hand_right => k_is)
    (case c1_law => k_is)
    (case k1_law => k_is)
    (case z1_IndexError => k_is)
    (case z1_KeyError => k_is)
    (case z1_LookupError => k_is)
    (case z1_ValueError => k_is)
    (case z1_abs => k_is)
    (case z1_all => k_is)
    (case z1_bool => k_is)
    (case z1_int => k_is)
    (case z1_isinstance => k_is)
    (case z1_len => k_is)
    (case z1_list => k_is)
    (case z1_range => k_is)
    (case z1_str => k_is)
    (case z1_tuple => k_is)
    (case z1_zip => k_is)
    (case k1_BadLine => k_is)
    (case b1_BadLine => k_is)
    (case t1_BadLine => k_is)
    (case d1_BadLine => k_is)
    (case s1_BadLine_BadLine => k_is)
    (case s1_BadLine_CanNot => k_is)
    (case s1_BadLine_NoPlace => k_is)
    (case s1_BadLine_TooMuch => k_is)
    (case s1_BadLine_Unfit => k_is)
    (case x1_BadLine => k_is)
    (case sa_BadLine => k_is)
    (case ga_BadLine => k_is)
    (case gg_BadLine => k_is)
    (case nb_BadLine => k_is)
    (case ti_BadLine => k_is)
    (case li_BadLine => k_is)
    (case ci_BadLine => k_is)
    (case k1_CanNot => k_is)
    (case b1_CanNot => k_is)
    (case t1_CanNot => k_is)
    (case d1_CanNot => k_is)
    (case s1_CanNot_BadLine => k_is)
    (case s1_CanNot_CanNot => k_is)
    (case s1_CanNot_NoPlace => k_is)
    (case s1_CanNot_TooMuch => k_is)
    (case s1_CanNot_Unfit => k_is)
    (case x1_CanNot => k_exc)
    (case k1_NoPlace => k_is)
    (case b1_NoPlace => k_is)
    (case t1_NoPlace => k_is)
    (case d1_NoPlace => k_is)
    (case s1_NoPlace_BadLine => k_is)
    (case s1_NoPlace_CanNot => k_is)
    (case s1_NoPlace_NoPlace => k_is)
    (case s1_NoPlace_TooMuch => k_is)
    (case s1_NoPlace_Unfit => k_is)
    (case x1_NoPlace => k_is)
    (case sa_NoPlace => k_is)
    (case ga_NoPlace => k_is)
    (case gg_NoPlace => k_is)
    (case nb_NoPlace => k_is)
    (case ti_NoPlace => k_is)
    (case li_NoPlace => k_is)
    (case ci_NoPlace => k_is)
    (case k1_TooMuch => k_is)
    (case b1_TooMuch => k_is)
    (case t1_TooMuch => k_is)
    (case d1_TooMuch => k_is)
    (case s1_TooMuch_BadLine => k_is)
    (case s1_TooMuch_CanNot => k_is)
    (case s1_TooMuch_NoPlace => k_is)
    (case s1_TooMuch_TooMuch => k_is)
    (case s1_TooMuch_Unfit => k_is)
    (case x1_TooMuch => k_exc)
    (case k1_Unfit => k_is)
    (case b1_Unfit => k_is)
    (case t1_Unfit => k_is)
    (case d1_Unfit => k_is)
    (case s1_Unfit_BadLine => k_is)
    (case s1_Unfit_CanNot => k_is)
    (case s1_Unfit_NoPlace => k_is)
    (case s1_Unfit_TooMuch => k_is)
    (case s1_Unfit_Unfit => k_is)
    (case x1_Unfit => k_exc)
    (case ca_BadLine => k_is)
    (case mo_BadLine => k_is)
    (case ga_CanNot => k_is)
    (case gg_CanNot => k_is)
    (case ca_CanNot => k_is)
    (case mo_CanNot => k_is)
    (case ca_NoPlace => k_is)
    (case mo_NoPlace => k_is)
    (case ga_TooMuch => k_is)
    (case gg_TooMuch => k_is)
    (case ca_TooMuch => k_is)
    (case mo_TooMuch => k_is)
    (case ga_Unfit => k_is)
    (case gg_Unfit => k_is)
    (case ca_Unfit => k_is)
    (case mo_Unfit => k_is)
    (case iw_BadLine_BadLine => kit_is)
    (case iw_BadLine_CanNot => kit_is)
    (case iw_BadLine_NoPlace => kit_is)
    (case iw_BadLine_TooMuch => kit_is)
    (case iw_BadLine_Unfit => kit_is)
    (case iw_CanNot_BadLine => kit_is)
    (case iw_CanNot_CanNot => kit_is)
    (case iw_CanNot_NoPlace => kit_is)
    (case iw_CanNot_TooMuch => kit_is)
    (case iw_CanNot_Unfit => kit_is)
    (case iw_NoPlace_BadLine => kit_is)
    (case iw_NoPlace_CanNot => kit_is)
    (case iw_NoPlace_NoPlace => kit_is)
    (case iw_NoPlace_TooMuch => kit_is)
    (case iw_NoPlace_Unfit => kit_is)
    (case iw_TooMuch_BadLine => kit_is)
    (case iw_TooMuch_CanNot => kit_is)
    (case iw_TooMuch_NoPlace => kit_is)
    (case iw_TooMuch_TooMuch => kit_is)
    (case iw_TooMuch_Unfit => kit_is)
    (case iw_Unfit_BadLine => kit_is)
    (case iw_Unfit_CanNot => kit_is)
    (case iw_Unfit_NoPlace => kit_is)
    (case iw_Unfit_TooMuch => kit_is)
    (case iw_Unfit_Unfit => kit_is)
    (case iv_BadLine_IndexError => kit_is)
    (case iv_BadLine_KeyError => kit_is)
    (case iv_BadLine_LookupError => kit_is)
    (case iv_BadLine_ValueError => kit_is)
    (case iv_CanNot_IndexError => kit_is)
    (case iv_CanNot_KeyError => kit_is)
    (case iv_CanNot_LookupError => kit_is)
    (case iv_CanNot_ValueError => kit_is)
    (case iv_NoPlace_IndexError => kit_is)
    (case iv_NoPlace_KeyError => kit_is)
    (case iv_NoPlace_LookupError => kit_is)
    (case iv_NoPlace_ValueError => kit_is)
    (case iv_TooMuch_IndexError => kit_is)
    (case iv_TooMuch_KeyError => kit_is)
    (case iv_TooMuch_LookupError => kit_is)
    (case iv_TooMuch_ValueError => kit_is)
    (case iv_Unfit_IndexError => kit_is)
    (case iv_Unfit_KeyError => kit_is)
    (case iv_Unfit_LookupError => kit_is)
    (case iv_Unfit_ValueError => kit_is)
    (case oc_get => k_is)
    (case oc_tk => k_is)
end
